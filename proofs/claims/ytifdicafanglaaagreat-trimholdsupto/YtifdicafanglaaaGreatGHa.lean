import Derived.Test.YtifdicafanglaaaGreatGSa
import Derived.Test.YtifdicafanglaaaGreatJXd
import Derived.Test.YtifdicafanglaaaGreatNCc
import Derived.Test.YtifdicafanglaaaGreatJZx
import Derived.Deep.Slices
import Derived.OpenShut
import Derived.Lib.SmallJoins
import Derived.ChangeSame
namespace Go.Proofs.YtifdicafanglaaaGreat
open Go.RowKit Go.Shelf
set_option linter.unusedVariables false
set_option linter.unusedSimpArgs false

/-- A word's number; what is none counts as nought. -/
def fz (u : Nat) : Nat := if Fin u then u else 0
theorem fz_fin (u : Nat) : Fin (fz u) := by
  unfold fz
  split
  · assumption
  · exact fin_zeroJ
theorem fz_is {u : Nat} (h : Fin u) : fz u = u := if_pos h
theorem ofH_any (u : Nat) (hu : u < 18446744073709551616) (w : World) (E : Nat) (hE : E = 1074) :
    Calls Tryz.prog 25 #[.int .u64 u] w fun e' w' => ∃ v b, e' = .returned (.tuple #[v, .bool b]) ∧ NumC w' v E 1024 (fval (fz u)) ∧ Below w.heap.size w w' := by
  by_cases hf : Fin u
  · refine (ofC_any u hu w E hE).mono ?_
    rintro e' w' ⟨v, rfl, ⟨z, hz, hv⟩, hB⟩
    exact ⟨v, _, rfl, by rw [fz_is hf, ← hv hf]; exact hz, hB⟩
  · refine (ofE_any u hu w).mono ?_
    rintro e' w' ⟨v, rfl, ⟨neg, e, hN, hne, h1, h2, h3⟩, hB⟩
    rw [if_neg hf] at hN h3
    have h4 := h3 rfl
    subst h4
    refine ⟨v, _, rfl, ⟨neg, 0, 0, hN, by omega, by rw [bl_zero]; omega, ?_, fun _ => rfl⟩, hB⟩
    unfold fz
    rw [if_neg hf, zv_zero, fval_zeroJ]
set_option maxRecDepth 100000 in
set_option maxHeartbeats 3000000 in
/-- The law's nums. -/
theorem numsT_any (ao : Option Addr) (len cap : Nat) (us : List Nat) (E : Nat) (hE : E = 1074) (w : World) (h : RdF w ao len cap us) (hf : ∀ j : Nat, Fin (us[j]?.getD 0)) (hl : len ≤ 1050000) :
    Calls Tryz.prog 29 #[.slice ao len cap] w fun e w' => ∃ v, e = .returned v ∧ RowN w' w.heap.size v E us ∧ Below w.heap.size w w' := by
  have HR : Hid _ := h
  have HLN : Hid (us.length = len) := h.length
  have HLT : Hid _ := h.lt
  have HF : Hid (∀ j : Nat, Fin (us[j]?.getD 0)) := hf
  clear h hf
  go_enter Tryz.func29, Tryz.ntmps29
  go_wp2_with fail
  go_loopg [3, 4] len (fun g v iv wx => ∃ k : Nat, iv = .int .i64 k ∧ k + g = len ∧ Hid (RowN wx w.heap.size v E (us.take k)) ∧ Hid (Below w.heap.size w wx))
  case atStart => exact ⟨0, rfl, by omega, RowN.nil _ _ _, Below.refl _ _⟩
  case round =>
    obtain ⟨k, rfl, hk, HO, HB⟩ := hrel
    have hsr := HB.out.size
    by_cases hlt : k < len
    · have hd : decide ((k : Int) < (len : Int)) = true := decide_eq_true (by omega)
      obtain ⟨g, rfl⟩ : ∃ g, gk = g + 1 := ⟨gk - 1, by omega⟩
      have HIG : Hid _ := hk
      rcases (HR.out.later HB.out).cells with h0 | ⟨ab, aoff, rfl, hca⟩
      · omega
      have ga := hca k hlt
      have hkl : k < us.length := by rw [HLN.out]; exact hlt
      have hux := HLT.out _ (getD_mem (us := us) (j := k) hkl)
      have HTS : Hid _ := take_snocJ (us := us) (k := k) hkl
      have hfx := HF.out k
      obtain ⟨x, hx⟩ : ∃ x, us[k]?.getD 0 = x := ⟨_, rfl⟩
      rw [hx] at ga hux HTS hfx
      have HOF : Hid _ := ofH_any x hux wr E hE
      rw [fz_is hfx] at HOF
      clear hca hx hk hkl hfx
      go_upto_region 6 with (first
        | (go_at_call 34; refine Calls.mono (apiBits_any x _) ?_; rintro e w0 ⟨rfl, hw0⟩; rw [hw0]; clear hw0 w0)
        | (go_at_call 25; refine Calls.mono HOF.out ?_; rintro e w1 ⟨v1, b0, rfl, hz1, b1⟩; obtain ⟨n1, m1, e1, ⟨o1, l1, c1, xs1, rfl, hr1⟩, hr2⟩ := id hz1; clear hr1 hr2))
      have N1 : Hid (NumC w1 (.agg #[.bool n1, .slice o1 l1 c1, .int .i64 e1]) E 1024 (fval x)) := hz1
      clear hz1 HOF
      have B1 : Hid (Below wr.heap.size wr w1) := b1
      have s1 := b1.size
      clear b1
      obtain ⟨xs, hxo, hxj⟩ := (HO.out.later B1.out).own
      have HXJ : Hid _ := hxj
      have hxl : (us.take k).length = k := by rw [List.length_take, HLN.out]; omega
      rw [hxl] at hxo
      have HX2 : Hid _ := hxo
      clear hxo hxj
      have HC2 : Hid (∀ g, u3.ownBlock = some g → Cl noU ((w1.alloc (.cells #[.bool n1, .slice o1 l1 c1, .int .i64 e1] 42)).alloc (.cells #[.bool n1, .slice o1 l1 c1, .int .i64 e1] 42)) g) := fun g hg => ((HO.out.cl g hg).later B1.out).later (((Below.refl _ w1).alloc (Nat.le_refl _) _).alloc (by simp only [alloc_size]; omega) _)
      go_wp2_with (first
        | (at_builtin; refine append_clJ noU Tryz.underlying37 Tryz.infoNumJ rfl (by decide) (by decide) zero_noU _ (by rfl) _ _ (by rfl) w.heap.size _ k xs (by rfl) (World.ownsRow.alloc (World.ownsRow.alloc HX2.out _) _) HC2.out ⟨w1.heap.size + 1, 0, none⟩ 1 1 [.bool n1, .slice o1 l1 c1, .int .i64 e1] (by rfl) (by decide) rfl (news_threeJ (heap_at _ _ (w1.heap.size + 1) (by simp only [alloc_size]))) (three_one n1 o1 l1 c1 e1) (three_noU n1 o1 l1 c1 e1) (by omega) (by simp only [alloc_size]; omega) ?_; intro v5 w5 o5 g5 cl5))
      have A1 : Below w1.heap.size w1 ((w1.alloc (.cells #[.bool n1, .slice o1 l1 c1, .int .i64 e1] 42)).alloc (.cells #[.bool n1, .slice o1 l1 c1, .int .i64 e1] 42)) := ((Below.refl _ w1).alloc (Nat.le_refl _) _).alloc (by simp only [alloc_size]; omega) _
      have R5 : Hid (RowN w5 w.heap.size v5 E (us.take k ++ [x])) := by
        refine RowN.push (xs := xs) (by rw [hxl]; exact World.ownsRow.alloc (World.ownsRow.alloc HX2.out _) _) (fun j hj => ?_) HC2.out (NumC.later N1.out A1) (by rw [hxl]; exact o5) g5 cl5
        obtain ⟨n2, o2, l2, c2, e2, a1, a2, a3, a4⟩ := HXJ.out j hj
        exact ⟨n2, o2, l2, c2, e2, a1, a2, a3, a4.later A1⟩
      have B5 : Hid (Below w.heap.size w w5) := (to_call (to_call HB.out B1.out) A1).trans (g5.below (fun k hk => (World.ownsRow.lt HX2.out k hk).1) (by simp only [alloc_size]; omega))
      clear o5 g5 cl5 A1 HC2 HX2 HXJ
      go_roundg g
      case measure => omega
      case rel => exact ⟨k + 1, by go_num, by have := HIG.out; omega, by unfold Hid; rw [HTS.out]; exact R5.out, B5⟩
    · have hd : decide ((k : Int) < (len : Int)) = false := decide_eq_false (by omega)
      have HO2 : Hid (RowN wr w.heap.size u3 E us) := by
        have := HO.out
        rw [List.take_of_length_le (by rw [HLN.out]; omega)] at this
        exact this
      go_wp2_with fail
      go_ret
      exact ⟨_, rfl, HO2.out, HB.out⟩
set_option maxRecDepth 100000 in
set_option maxHeartbeats 4000000 in
/-- The law's along. -/
theorem along_any (va vb : Value) (xs ys : List Nat) (m B1 B2 E : Nat) (hE : E = 1074) (w : World) (ha : RowN w B1 va E xs) (hb : RowN w B2 vb E ys) (hlx : xs.length = m) (hly : ys.length = m) (hn : m ≤ 256) :
    Calls Tryz.prog 28 #[va, vb] w fun e w' => ∃ v, e = .returned v ∧ NumC w' v (E + E) (2048 + m) (dotV xs ys m) ∧ Below w.heap.size w w' := by
  obtain ⟨aa, ac, hva⟩ := ha.form
  obtain ⟨ba, bc, hvb⟩ := hb.form
  rw [hlx] at hva
  rw [hly] at hvb
  subst hva hvb
  have HR : Hid (∀ W', Below w.heap.size w W' → RowN W' B1 (.slice aa m ac) E xs ∧ RowN W' B2 (.slice ba m bc) E ys) := fun W' h => ⟨ha.later h, hb.later h⟩
  have HS : Hid (E ≤ 3000 ∧ m ≤ 256) := ⟨by omega, hn⟩
  have HL : Hid (xs.length = m ∧ ys.length = m) := ⟨hlx, hly⟩
  clear ha hb hlx hly hE
  have X0 : Below w.heap.size w ((w.alloc (.cells #[.bool false, .slice none 0 0, .int .i64 0] 42)).alloc (.cells #[.bool false, .slice none 0 0, .int .i64 0] 42)) := ((Below.refl _ w).alloc (Nat.le_refl _) _).alloc (by simp only [alloc_size]; omega) _
  have Y0 : ((w.alloc (.cells #[.bool false, .slice none 0 0, .int .i64 0] 42)).alloc (.cells #[.bool false, .slice none 0 0, .int .i64 0] 42)).heap[w.heap.size]? = some (.cells #[.bool false, .slice none 0 0, .int .i64 0] 42) := alloc_kept (heap_alloc_new w _) _
  have Y1 : ((w.alloc (.cells #[.bool false, .slice none 0 0, .int .i64 0] 42)).alloc (.cells #[.bool false, .slice none 0 0, .int .i64 0] 42)).heap[w.heap.size + 1]? = some (.cells #[.bool false, .slice none 0 0, .int .i64 0] 42) := heap_at _ _ (w.heap.size + 1) (by simp only [alloc_size])
  go_enter Tryz.func28, Tryz.ntmps28
  go_upto_region 2 with fail
  obtain ⟨X, hX⟩ : ∃ X, ((w.alloc (.cells #[.bool false, .slice none 0 0, .int .i64 0] 42)).alloc (.cells #[.bool false, .slice none 0 0, .int .i64 0] 42)) = X := ⟨_, rfl⟩
  rw [hX] at X0 Y0 Y1 ⊢
  have P0 : Hid (BxN X (w.heap.size + 1) (E + E) (2048 + (((0 : Nat) : Int) : Int)) (dotV xs ys 0) false none 0 0 0 ∧ Below w.heap.size w X ∧ X.heap[w.heap.size]? = some (.cells #[.bool false, .slice none 0 0, .int .i64 0] 42)) := ⟨⟨Y1, NumC.zeroJ _ _ _ (by omega)⟩, X0, Y0⟩
  clear hX X0 Y0 Y1
  go_wp2_with fail
  go_loopg [6] m (fun q v6 wx => ∃ (k : Nat), v6 = .int .i64 k ∧ k + q = m ∧ ∃ (n : Bool) (o : Option Addr) (l c : Nat) (e : Int), Hid (BxN wx (w.heap.size + 1) (E + E) (2048 + (k : Int)) (dotV xs ys k) n o l c e ∧ Below w.heap.size w wx ∧ wx.heap[w.heap.size]? = some (.cells #[.bool false, .slice none 0 0, .int .i64 0] 42)))
  case atStart => exact ⟨0, rfl, by omega, false, none, 0, 0, 0, P0⟩
  case round =>
    obtain ⟨k, rfl, hk, n, o, l, c, e, HI⟩ := hrel
    clear P0
    by_cases h1 : k < m
    · have hd1 : decide ((k : Int) < (m : Int)) = true := decide_eq_true (by omega)
      obtain ⟨q, rfl⟩ : ∃ q, gk = q + 1 := ⟨gk - 1, by omega⟩
      have HIG : Hid _ := hk
      clear hk
      go_upto_region 5 with fail
      obtain ⟨hRa, hRb⟩ := HR.out wr HI.out.2.1
      obtain ⟨ga, qa, an, ao, al, ac', ae, va', ra, za⟩ := RowN.range hRa (k := k) (by rw [HL.out.1]; exact h1)
      obtain ⟨gb, qb, bn, bo, bl0, bc', be, vb', rb, zb⟩ := RowN.range hRb (k := k) (by rw [HL.out.2]; exact h1)
      rw [HL.out.1] at va'
      rw [HL.out.2] at vb'
      have R1 : Hid (wr.rangeAt ga (k * 3) [.bool an, .slice ao al ac', .int .i64 ae]) := ra
      have R2 : Hid (wr.rangeAt gb (k * 3) [.bool bn, .slice bo bl0 bc', .int .i64 be]) := rb
      have Z1 : Hid (NumC wr (.agg #[.bool an, .slice ao al ac', .int .i64 ae]) E 1024 (fval (xs[k]?.getD 0))) := za
      have Z2 : Hid (NumC wr (.agg #[.bool bn, .slice bo bl0 bc', .int .i64 be]) E 1024 (fval (ys[k]?.getD 0))) := zb
      have haa : aa = some ⟨ga, 0, none⟩ := by injection va'
      have hba : ba = some ⟨gb, 0, none⟩ := by injection vb'
      have hk0 : (k : Int) < (m : Int) := by omega
      subst haa hba
      clear ra rb za zb va' vb' hRa hRb hd1
      have SX : Below wr.heap.size wr wr.drew := (Below.refl _ _).drew
      refine wp_region_noPanic ?_
      refine wp_region_P (S := (fun V => Below wr.heap.size wr V)) (s := 11) (by kernel_rfl) ?_
      refine takeP 13 (i := 0) (v := .agg #[.bool n, .slice o l c, .int .i64 e]) rfl rfl (by kernel_rfl) (by kernel_rfl) (by kernel_rfl) (by kernel_rfl) rfl (by kernel_rfl) (fun _ _ _ h => h) (Or.inl ⟨by kernel_rfl, fun w' hSw => ex_loadRN _ 42 _ rfl (w.heap.size + 1) (by kernel_rfl) w' _ (kept hSw HI.out.1.row) _ Tryz.underlying42 rfl 3 Tryz.infoN3 rfl⟩) SX ?_
      try simp only [Act.put, List.setIfInBounds_toArray, List.set_cons_zero, List.set_cons_succ]
      refine takeP 14 (i := 1) (v := ?_) rfl rfl (by kernel_rfl) (by kernel_rfl) (by kernel_rfl) (by kernel_rfl) rfl (by kernel_rfl) (fun _ _ _ h => h) (Or.inl ⟨by kernel_rfl, ?_⟩) SX ?_
      rotate_left
      · intro w' hSw; go_simp; try with_reducible rfl
      try simp only [Act.put, List.setIfInBounds_toArray, List.set_cons_zero, List.set_cons_succ]
      refine takeP 15 (i := 2) (v := ?_) rfl rfl (by kernel_rfl) (by kernel_rfl) (by kernel_rfl) (by kernel_rfl) rfl (by kernel_rfl) (fun _ _ _ h => h) (Or.inl ⟨by kernel_rfl, ?_⟩) SX ?_
      rotate_left
      · intro w' hSw; go_simp; try with_reducible rfl
      try simp only [Act.put, List.setIfInBounds_toArray, List.set_cons_zero, List.set_cons_succ]
      refine takeP 16 (i := 3) (v := ?_) rfl rfl (by kernel_rfl) (by kernel_rfl) (by kernel_rfl) (by kernel_rfl) rfl (by kernel_rfl) (fun _ _ _ h => h) (Or.inl ⟨by kernel_rfl, ?_⟩) SX ?_
      rotate_left
      · intro w' hSw; go_simp; try with_reducible rfl
      try simp only [Act.put, List.setIfInBounds_toArray, List.set_cons_zero, List.set_cons_succ]
      refine takeP 17 (i := 4) (v := .agg #[.bool an, .slice ao al ac', .int .i64 ae]) rfl rfl (by kernel_rfl) (by kernel_rfl) (by kernel_rfl) (by kernel_rfl) rfl (by kernel_rfl) (fun _ _ _ h => h) (yieldsIf_load_mid (by kernel_rfl) 42 _ rfl ga (k * 3) (by kernel_rfl) #[.bool an, .slice ao al ac', .int .i64 ae].toList _ (fun V' hS => (range_later R1.out hS : V'.rangeAt ga (k * 3) [.bool an, .slice ao al ac', .int .i64 ae])) Tryz.underlying42 rfl (by kernel_rfl)) SX ?_
      try simp only [Act.put, List.setIfInBounds_toArray, List.set_cons_zero, List.set_cons_succ]
      refine takeP 18 (i := 5) (v := ?_) rfl rfl (by kernel_rfl) (by kernel_rfl) (by kernel_rfl) (by kernel_rfl) rfl (by kernel_rfl) (fun _ _ _ h => h) (Or.inl ⟨by kernel_rfl, ?_⟩) SX ?_
      rotate_left
      · intro w' hSw; go_simp; try with_reducible rfl
      try simp only [Act.put, List.setIfInBounds_toArray, List.set_cons_zero, List.set_cons_succ]
      refine takeP 19 (i := 6) (v := ?_) rfl rfl (by kernel_rfl) (by kernel_rfl) (by kernel_rfl) (by kernel_rfl) rfl (by kernel_rfl) (fun _ _ _ h => h) (Or.inl ⟨by kernel_rfl, ?_⟩) SX ?_
      rotate_left
      · intro w' hSw; go_simp; try with_reducible rfl
      try simp only [Act.put, List.setIfInBounds_toArray, List.set_cons_zero, List.set_cons_succ]
      refine takeP 20 (i := 7) (v := ?_) rfl rfl (by kernel_rfl) (by kernel_rfl) (by kernel_rfl) (by kernel_rfl) rfl (by kernel_rfl) (fun _ _ _ h => h) (Or.inl ⟨by kernel_rfl, ?_⟩) SX ?_
      rotate_left
      · intro w' hSw; go_simp; try with_reducible rfl
      try simp only [Act.put, List.setIfInBounds_toArray, List.set_cons_zero, List.set_cons_succ]
      refine takeP 21 (i := 8) (v := .agg #[.bool bn, .slice bo bl0 bc', .int .i64 be]) rfl rfl (by kernel_rfl) (by kernel_rfl) (by kernel_rfl) (by kernel_rfl) rfl (by kernel_rfl) (fun _ _ _ h => h) (yieldsIf_load_mid (by kernel_rfl) 42 _ rfl gb (k * 3) (by kernel_rfl) #[.bool bn, .slice bo bl0 bc', .int .i64 be].toList _ (fun V' hS => (range_later R2.out hS : V'.rangeAt gb (k * 3) [.bool bn, .slice bo bl0 bc', .int .i64 be])) Tryz.underlying42 rfl (by kernel_rfl)) SX ?_
      try simp only [Act.put, List.setIfInBounds_toArray, List.set_cons_zero, List.set_cons_succ]
      refine wpAnyP_ready (rs := [9]) (by kernel_rfl) (by simp) ?_
      refine consP _ rfl (hopCd 22 rfl (by kernel_rfl) rfl (by kernel_rfl) (Calls.mono (timesC_any _ _ E 1024 1024 _ _ _ (NumC.later Z1.out SX).toZ (NumC.later Z2.out SX).toZ (by have := HS.out; omega) (by omega) (by omega)) ?_)) AllReadyP.nil
      rintro e V1 ⟨v1, rfl, hz1, b1⟩
      obtain ⟨n1, o1, t1, p1, x1, hv1⟩ := hz1.form
      subst hv1
      have SX : Below wr.heap.size wr V1 := to_call SX b1
      clear b1
      refine ⟨_, rfl, SX, ?_⟩
      try simp only [Act.put, List.setIfInBounds_toArray, List.set_cons_zero, List.set_cons_succ]
      refine wpAnyP_ready (rs := [10]) (by kernel_rfl) (by simp) ?_
      refine consP _ rfl (hopCd 23 rfl (by kernel_rfl) rfl (by kernel_rfl) (Calls.mono (plusC_any _ _ (E + E) (2048 + k) _ _ _ (NumC.later HI.out.1.num SX) (hz1.mono (by omega)) (by have := HS.out; omega) (by have := HS.out; omega)) ?_)) AllReadyP.nil
      rintro e V2 ⟨v2, rfl, hz2, b2⟩
      obtain ⟨n2, o2, t2, p2, x2, hv2⟩ := hz2.form
      subst hv2
      have SX : Below wr.heap.size wr V2 := to_call SX b2
      clear b2 hz1
      refine ⟨_, rfl, SX, ?_⟩
      try simp only [Act.put, List.setIfInBounds_toArray, List.set_cons_zero, List.set_cons_succ]
      refine wpAnyP_ready (rs := [11]) (by kernel_rfl) (by simp) ?_
      refine consPs _ rfl (by kernel_rfl) (hopL rfl (wpList_store_row (by rfl) 42 _ _ (by rfl) w w.heap.size (w.heap.size + 1) #[.bool n2, .slice o2 t2 p2, .int .i64 x2] _ (by kernel_rfl) (by kernel_rfl) (kept SX HI.out.1.row) (to_call HI.out.2.1 SX) (by omega) 3 Tryz.infoN3 rfl rfl (oneN _ _ _ _ _) fun V3 e3 b3 s3 k3 => ?_)) AllReadyP.nil
      refine ⟨trivial, ?_⟩
      try simp only [Act.put, List.setIfInBounds_toArray, List.set_cons_zero, List.set_cons_succ]
      refine wpAnyP_done (by kernel_rfl) ?_ _
      refine NoPanic.normal ?_
      try simp only [Act.put, List.setIfInBounds_toArray, List.set_cons_zero, List.set_cons_succ]
      have HZ : Hid (BxN V3 (w.heap.size + 1) (E + E) (2048 + (((k + 1 : Nat) : Int) : Int)) (dotV xs ys (k + 1)) n2 o2 t2 p2 x2 ∧ Below w.heap.size w V3 ∧ V3.heap[w.heap.size]? = some (.cells #[.bool false, .slice none 0 0, .int .i64 0] 42)) := by
        have hz3 := hz2.cl (num_cl (kept SX HI.out.1.row)) (fun b hb _ => k3 b hb)
        exact ⟨⟨e3, hz3.mono (by rw [Int.natCast_add]; omega)⟩, b3, by rw [k3 _ (by omega)]; exact kept SX HI.out.2.2⟩
      clear hz2 SX k3 b3 e3 s3 R1 R2 Z1 Z2 HI
      go_wp2_with fail
      go_roundg q
      case measure => omega
      case rel => exact ⟨k + 1, by go_num, by have := HIG.out; omega, n2, o2, t2, p2, x2, HZ⟩
    · have hd1 : decide ((k : Int) < (m : Int)) = false := decide_eq_false (by omega)
      have hka : k = m := by omega
      have HZ : Hid (NumC wr (.agg #[.bool n, .slice o l c, .int .i64 e]) (E + E) (2048 + m) (dotV xs ys m)) := by
        have h := HI.out.1.num
        rw [hka] at h
        exact h
      have hd2 : decide (k < m) = false := decide_eq_false h1
      clear hka hk
      go_wp2_with (first
        | (refine wpList_load_row (by rfl) 42 _ (by rfl) (w.heap.size + 1) _ (by rfl) HI.out.1.row _ Tryz.underlying42 rfl 3 Tryz.infoN3 (by rfl) ?_)
        | (refine wpList_store_row (by rfl) 42 _ _ (by rfl) w w.heap.size w.heap.size #[.bool n, .slice o l c, .int .i64 e] _ (by rfl) (by rfl) HI.out.2.2 HI.out.2.1 (Nat.le_refl _) 3 Tryz.infoN3 (by rfl) (by rfl) (oneN _ _ _ _ _) ?_; intro W9 e9 b9 s9 o9))
      refine bodyPost_ret (v := .agg #[.bool n, .slice o l c, .int .i64 e]) (res_num _ 4 (by kernel_rfl) _ _ w.heap.size _ _ _ (by rfl) e9) rfl ⟨_, rfl, ?_, b9⟩
      exact (show NumC _ _ _ _ _ from HZ.out).cl (num_cl HI.out.2.2) (fun b hb _ => o9 b hb)
end Go.Proofs.YtifdicafanglaaaGreat

namespace Go.Proofs.YtifdicafanglaaaGreat
open Go.RowKit Go.Shelf
set_option linter.unusedVariables false
set_option linter.unusedSimpArgs false

theorem RowN.stored {w w' : World} {base E B : Nat} {v : Value} {us : List Nat} (h : RowN w base v E us) (hc : Cl noU w B) (ho : ∀ b, b ≠ B → w'.heap[b]? = w.heap[b]?) (hB : ∀ g, v.ownBlock = some g → g ≠ B) : RowN w' base v E us := by
  obtain ⟨xs, h1, h2⟩ := h.own
  refine ⟨⟨xs, owns_keep h1 fun k hk => ho k (hB k hk), fun j hj => ?_⟩, fun g hg => ?_⟩
  · obtain ⟨n, o, l, c, e, a1, a2, a3, a4⟩ := h2 j hj
    exact ⟨n, o, l, c, e, a1, a2, a3, a4.cl hc (fun b hb _ => ho b hb)⟩
  · obtain ⟨cur, t, h3, h4⟩ := h.cl g hg
    exact ⟨cur, t, (ho g (hB g hg)).trans h3, h4⟩
/-- The direction's numbers. -/
def dirL (ds : List Nat) (n : Nat) : List Nat := (List.range n).map fun i => fz (ds[i]?.getD 0)
theorem dirL_len (ds : List Nat) (n : Nat) : (dirL ds n).length = n := by unfold dirL; rw [List.length_map, List.length_range]
theorem dirL_fin (ds : List Nat) (n j : Nat) : Fin ((dirL ds n)[j]?.getD 0) := by
  unfold dirL
  rw [List.getElem?_map]
  cases (List.range n)[j]? with
  | none => exact fin_zeroJ
  | some x => exact fz_fin _
theorem dirL_take (ds : List Nat) (n : Nat) : dirL ds (n + 1) = dirL ds n ++ [fz (ds[n]?.getD 0)] := by
  unfold dirL
  rw [List.range_succ, List.map_append]
  rfl
set_option maxRecDepth 100000 in
set_option maxHeartbeats 3000000 in
/-- The law's Direction. -/
theorem directionT_any (z : ZD) (n : Nat) (hzn : z.N = (n : Int)) (hn : n ≤ 256) (ao : Option Addr) (len cap : Nat) (ds : List Nat) (E : Nat) (hE : E = 1074) (w : World) (h : RdUs w ao len cap ds) (hlt : ∀ u ∈ ds, u < 18446744073709551616) :
    Calls Tryz.prog 10 #[.agg #[.int .i64 z.N, .slice z.co z.cn z.cc, .slice z.io z.dn z.dc, .slice z.go z.gn z.gc, .slice z.ro z.rn z.rc, .bool z.bad], .slice ao len cap] w fun e w' => ∃ v B, e = .returned v ∧ RowN w' B v E (dirL ds n) ∧ Below w.heap.size w w' := by
  have HR : Hid (∀ W', Below w.heap.size w W' → RdUs W' ao len cap ds) := fun W' hb => h.later hb
  have HLN : Hid (ds.length = len) := h.length
  have HLT : Hid (∀ u ∈ ds, u < 18446744073709551616) := hlt
  have hmx := Nat.le_trans h.max maxLen_le
  clear h hlt
  rw [hzn]
  have X0 : Below w.heap.size w (w.alloc (.cells #[.int .i64 (n : Int), .slice z.co z.cn z.cc, .slice z.io z.dn z.dc, .slice z.go z.gn z.gc, .slice z.ro z.rn z.rc, .bool z.bad] 26)) := (Below.refl _ w).alloc (Nat.le_refl _) _
  have Y0 : (w.alloc (.cells #[.int .i64 (n : Int), .slice z.co z.cn z.cc, .slice z.io z.dn z.dc, .slice z.go z.gn z.gc, .slice z.ro z.rn z.rc, .bool z.bad] 26)).heap[w.heap.size]? = some (.cells #[.int .i64 (n : Int), .slice z.co z.cn z.cc, .slice z.io z.dn z.dc, .slice z.go z.gn z.gc, .slice z.ro z.rn z.rc, .bool z.bad] 26) := heap_alloc_new w _
  go_enter Tryz.func10, Tryz.ntmps10
  go_upto_region 1 with fail
  obtain ⟨X, hX⟩ : ∃ X, (w.alloc (.cells #[.int .i64 (n : Int), .slice z.co z.cn z.cc, .slice z.io z.dn z.dc, .slice z.go z.gn z.gc, .slice z.ro z.rn z.rc, .bool z.bad] 26)) = X := ⟨_, rfl⟩
  rw [hX] at X0 Y0 ⊢
  have HX0 : Hid (Below w.heap.size w X) := X0
  have HC0 : Hid (X.cell? ⟨w.heap.size, 0, none⟩ = some (.int .i64 (n : Int))) := cellAtJ Y0 0 _ rfl
  clear hX X0 Y0 hzn
  go_wp2_with fail
  go_loopg [5, 6] n (fun g v iv wx => ∃ k : Nat, iv = .int .i64 k ∧ k + g = n ∧ Hid (RowN wx X.heap.size v E (dirL ds k)) ∧ Hid (Below X.heap.size X wx))
  case atStart => exact ⟨0, rfl, by omega, RowN.nil _ _ _, Below.refl _ _⟩
  case round =>
    obtain ⟨k, rfl, hk, HO, HB⟩ := hrel
    have c0 := cellT HC0.out HB.out
    have hsr := HB.out.size
    by_cases hlt : k < n
    · have hd : decide ((k : Int) < (n : Int)) = true := decide_eq_true (by omega)
      obtain ⟨g, rfl⟩ : ∃ g, gk = g + 1 := ⟨gk - 1, by omega⟩
      have HIG : Hid (k + (g + 1) = n) := hk
      clear hk
      have A0 : Below wr.heap.size wr (wr.alloc (.cells #[.bool false, .slice none 0 0, .int .i64 0] 42)) := (Below.refl _ wr).alloc (Nat.le_refl _) _
      have e0 : (wr.alloc (.cells #[.bool false, .slice none 0 0, .int .i64 0] 42)).heap[wr.heap.size]? = some (.cells #[.bool false, .slice none 0 0, .int .i64 0] 42) := heap_alloc_new wr _
      go_upto_region 6 with fail
      obtain ⟨W0, hW0⟩ : ∃ W0, (wr.alloc (.cells #[.bool false, .slice none 0 0, .int .i64 0] 42)) = W0 := ⟨_, rfl⟩
      rw [hW0] at A0 e0 ⊢
      have P0 : Hid (Below wr.heap.size wr W0 ∧ W0.heap[wr.heap.size]? = some (.cells #[.bool false, .slice none 0 0, .int .i64 0] 42)) := ⟨A0, e0⟩
      clear hW0 A0 e0 c0
      by_cases hkl : k < len
      · have hd2 : decide ((k : Int) < (len : Int)) = true := decide_eq_true (by omega)
        have hkl' : (k : Int) < (len : Int) := by omega
        rcases (HR.out W0 (to_call (to_call HX0.out HB.out) P0.out.1)).cells with h0 | ⟨ab, aoff, rfl, hca⟩
        · omega
        have ga := hca k hkl
        have hux := HLT.out _ (getD_mem (us := ds) (j := k) (by rw [HLN.out]; exact hkl))
        obtain ⟨x, hx⟩ : ∃ x, ds[k]?.getD 0 = x := ⟨_, rfl⟩
        rw [hx] at ga hux
        have HOF : Hid _ := ofH_any x hux W0 E hE
        have HXX : Hid (ds[k]?.getD 0 = x) := hx
        clear hca hx
        go_upto_region 8 with (first
          | (go_at_call 25; refine Calls.mono HOF.out ?_; rintro e w1 ⟨v1, b0, rfl, hz1, b1⟩; obtain ⟨n1, o1, l1, c1, e1, rfl⟩ := hz1.form; have HZ1 : Hid (NumC w1 (.agg #[.bool n1, .slice o1 l1 c1, .int .i64 e1]) E 1024 (fval (fz x))) := hz1; have HB1 : Hid (Below W0.heap.size W0 w1) := b1; clear hz1 b1 ga)
          | (refine wpList_store_row (by rfl) 42 _ _ (by rfl) X X.heap.size wr.heap.size #[.bool n1, .slice o1 l1 c1, .int .i64 e1] _ (by rfl) (by rfl) (kept HB1.out P0.out.2) (to_call (to_call HB.out P0.out.1) HB1.out) hsr 3 Tryz.infoN3 (by rfl) (by rfl) (oneN _ _ _ _ _) ?_; intro W4 e4 b4 s4 o4))
        have HBV : Hid (Below X.heap.size X W4) := b4
        have HEV : Hid (W4.heap[wr.heap.size]? = some (.cells #[.bool n1, .slice o1 l1 c1, .int .i64 e1] 42)) := e4
        have hcl := num_cl (kept HB1.out P0.out.2)
        have HNV : Hid (NumC W4 (.agg #[.bool n1, .slice o1 l1 c1, .int .i64 e1]) E 1024 (fval (fz (ds[k]?.getD 0)))) := by unfold Hid; rw [HXX.out]; exact (show NumC _ _ _ _ _ from HZ1.out).cl hcl (fun b hb _ => o4 b hb)
        have HRO : Hid (RowN W4 X.heap.size u5 E (dirL ds k)) := by
          obtain ⟨xs, h1, _⟩ := HO.out.own
          exact RowN.stored ((HO.out.later P0.out.1).later HB1.out) hcl (fun b hb => o4 b hb) (fun g hg => by have := (World.ownsRow.lt h1 g hg).2; omega)
        clear e4 b4 s4 o4 hcl HOF HZ1 HB1
        obtain ⟨xs, hxo, hxj⟩ := HRO.out.own
        have HXJ : Hid _ := hxj
        rw [dirL_len] at hxo
        have HX2 : Hid _ := hxo
        clear hxo hxj
        have HC2 : Hid (∀ g, u5.ownBlock = some g → Cl noU (W4.alloc (.cells #[.bool n1, .slice o1 l1 c1, .int .i64 e1] 42)) g) := fun g hg => (HRO.out.cl g hg).later ((Below.refl _ W4).alloc (Nat.le_refl _) _)
        have HSZ : Hid (X.heap.size ≤ W4.heap.size) := HBV.out.size
        have hsz := HBV.out.size
        go_wp2_with (first
          | (refine wpList_load_row (by rfl) 42 _ (by rfl) wr.heap.size _ (by rfl) HEV.out _ Tryz.underlying42 rfl 3 Tryz.infoN3 (by rfl) ?_)
          | (at_builtin; refine append_clJ noU Tryz.underlying37 Tryz.infoNumJ rfl (by decide) (by decide) zero_noU _ (by rfl) _ _ (by rfl) X.heap.size _ k xs (by rfl) (World.ownsRow.alloc HX2.out _) HC2.out ⟨W4.heap.size, 0, none⟩ 1 1 [.bool n1, .slice o1 l1 c1, .int .i64 e1] (by rfl) (by decide) rfl (news_threeJ (heap_alloc_new W4 _)) (three_one n1 o1 l1 c1 e1) (three_noU n1 o1 l1 c1 e1) (by omega) (by simp only [alloc_size]; omega) ?_; intro v5 w5 o5 g5 cl5))
        have A1 : Below W4.heap.size W4 (W4.alloc (.cells #[.bool n1, .slice o1 l1 c1, .int .i64 e1] 42)) := (Below.refl _ W4).alloc (Nat.le_refl _) _
        have R5 : Hid (RowN w5 X.heap.size v5 E (dirL ds k ++ [fz (ds[k]?.getD 0)])) := by
          refine RowN.push (xs := xs) (by rw [dirL_len]; exact World.ownsRow.alloc HX2.out _) (fun j hj => ?_) HC2.out (NumC.later HNV.out A1) (by rw [dirL_len]; exact o5) g5 cl5
          obtain ⟨n2, o2, l2, c2, e2, a1, a2, a3, a4⟩ := HXJ.out j hj
          exact ⟨n2, o2, l2, c2, e2, a1, a2, a3, a4.later A1⟩
        have B5 : Hid (Below X.heap.size X w5) := (to_call HBV.out A1).trans (g5.below (fun k hk => (World.ownsRow.lt HX2.out k hk).1) (by simp only [alloc_size]; omega))
        clear o5 g5 cl5 A1 HC2 HX2 HXJ
        go_roundg g
        case measure => omega
        case rel => exact ⟨k + 1, by go_num, by have := HIG.out; omega, by unfold Hid; rw [dirL_take]; exact R5.out, B5⟩
      · have hd2 : decide ((k : Int) < (len : Int)) = false := decide_eq_false (by omega)
        have HBV : Hid (Below X.heap.size X W0) := to_call HB.out P0.out.1
        have HEV : Hid (W0.heap[wr.heap.size]? = some (.cells #[.bool false, .slice none 0 0, .int .i64 0] 42)) := P0.out.2
        have HNV : Hid (NumC W0 (.agg #[.bool false, .slice none 0 0, .int .i64 0]) E 1024 (fval (fz (ds[k]?.getD 0)))) := by
          have e1 : ds[k]?.getD 0 = 0 := by rw [List.getElem?_eq_none (by rw [HLN.out]; omega)]; rfl
          unfold Hid
          rw [e1, fz_is fin_zeroJ, fval_zeroJ]
          exact NumC.zeroJ _ _ _ (by omega)
        have HRO : Hid (RowN W0 X.heap.size u5 E (dirL ds k)) := HO.out.later P0.out.1
        obtain ⟨xs, hxo, hxj⟩ := HRO.out.own
        have HXJ : Hid _ := hxj
        rw [dirL_len] at hxo
        have HX2 : Hid _ := hxo
        clear hxo hxj
        have HC2 : Hid (∀ g, u5.ownBlock = some g → Cl noU (W0.alloc (.cells #[.bool false, .slice none 0 0, .int .i64 0] 42)) g) := fun g hg => (HRO.out.cl g hg).later ((Below.refl _ W0).alloc (Nat.le_refl _) _)
        have HSZ : Hid (X.heap.size ≤ W0.heap.size) := HBV.out.size
        have hsz := HBV.out.size
        go_wp2_with (first
          | (refine wpList_load_row (by rfl) 42 _ (by rfl) wr.heap.size _ (by rfl) HEV.out _ Tryz.underlying42 rfl 3 Tryz.infoN3 (by rfl) ?_)
          | (at_builtin; refine append_clJ noU Tryz.underlying37 Tryz.infoNumJ rfl (by decide) (by decide) zero_noU _ (by rfl) _ _ (by rfl) X.heap.size _ k xs (by rfl) (World.ownsRow.alloc HX2.out _) HC2.out ⟨W0.heap.size, 0, none⟩ 1 1 [.bool false, .slice none 0 0, .int .i64 0] (by rfl) (by decide) rfl (news_threeJ (heap_alloc_new W0 _)) (three_one false none 0 0 0) (three_noU false none 0 0 0) (by omega) (by simp only [alloc_size]; omega) ?_; intro v5 w5 o5 g5 cl5))
        have A1 : Below W0.heap.size W0 (W0.alloc (.cells #[.bool false, .slice none 0 0, .int .i64 0] 42)) := (Below.refl _ W0).alloc (Nat.le_refl _) _
        have R5 : Hid (RowN w5 X.heap.size v5 E (dirL ds k ++ [fz (ds[k]?.getD 0)])) := by
          refine RowN.push (xs := xs) (by rw [dirL_len]; exact World.ownsRow.alloc HX2.out _) (fun j hj => ?_) HC2.out (NumC.later HNV.out A1) (by rw [dirL_len]; exact o5) g5 cl5
          obtain ⟨n2, o2, l2, c2, e2, a1, a2, a3, a4⟩ := HXJ.out j hj
          exact ⟨n2, o2, l2, c2, e2, a1, a2, a3, a4.later A1⟩
        have B5 : Hid (Below X.heap.size X w5) := (to_call HBV.out A1).trans (g5.below (fun k hk => (World.ownsRow.lt HX2.out k hk).1) (by simp only [alloc_size]; omega))
        clear o5 g5 cl5 A1 HC2 HX2 HXJ
        go_roundg g
        case measure => omega
        case rel => exact ⟨k + 1, by go_num, by have := HIG.out; omega, by unfold Hid; rw [dirL_take]; exact R5.out, B5⟩
    · have hd : decide ((k : Int) < (n : Int)) = false := decide_eq_false (by omega)
      have ek : k = n := by omega
      subst ek
      clear hk
      go_wp2_with fail
      go_ret
      exact ⟨_, _, rfl, HO.out, to_call HX0.out HB.out⟩
end Go.Proofs.YtifdicafanglaaaGreat

namespace Go.Proofs.YtifdicafanglaaaGreat
open Go.RowKit Go.Shelf
set_option linter.unusedVariables false
set_option linter.unusedSimpArgs false

theorem sumG_twoH {B C D : List Nat → Nat} {c : Nat} : ∀ (gs : List (List Nat)), (∀ g, B g ≤ C g + c * D g) → sumG B gs ≤ sumG C gs + c * sumG D gs
  | [], _ => by simp [sumG]
  | g :: gs, h => by
    have h1 := sumG_twoH gs h
    have h2 := h g
    have e1 : sumG B (g :: gs) = B g + sumG B gs := rfl
    have e2 : sumG C (g :: gs) = C g + sumG C gs := rfl
    have e3 : sumG D (g :: gs) = D g + sumG D gs := rfl
    rw [e1, e2, e3, Nat.mul_add]
    omega
theorem sumG_noughtH {B : List Nat → Nat} (h : ∀ g, B g = 0) : ∀ gs : List (List Nat), sumG B gs = 0
  | [] => rfl
  | g :: gs => by
    have e1 : sumG B (g :: gs) = B g + sumG B gs := rfl
    rw [e1, h g, sumG_noughtH h gs]
theorem sumG_permH {B : List Nat → Nat} {l m : List (List Nat)} (h : l.Perm m) : sumG B l = sumG B m := (h.map B).sum_nat
/-- A box that is wider by what columns go goes no less far than they. -/
theorem box_moreH {ds rs ys : List Nat} {gs : List (List Nat)} {n : Nat} (h : ∀ j, j < n → fval (rs[j]?.getD 0) + (sumG (fun g => rmag (frung (g[j]?.getD 0))) gs : Nat) ≤ fval (ys[j]?.getD 0)) : ∀ k, k ≤ n → (sumG (fun g => (dotV ds g k).natAbs) gs : Nat) + boxV ds rs k ≤ boxV ds ys k
  | 0, _ => by
    rw [sumG_noughtH (B := fun g => (dotV ds g 0).natAbs) (fun g => rfl)]
    simp [boxV]
  | k + 1, hk => by
    have ih := box_moreH (ds := ds) h k (by omega)
    have h1 := h k (by omega)
    have h2 := sumG_twoH (B := fun g => (dotV ds g (k + 1)).natAbs) (C := fun g => (dotV ds g k).natAbs) (D := fun g => rmag (frung (g[k]?.getD 0))) (c := rmag (frung (ds[k]?.getD 0))) gs fun g => by
      have e1 : dotV ds g (k + 1) = dotV ds g k + fval (ds[k]?.getD 0) * fval (g[k]?.getD 0) := rfl
      have e2 : (fval (ds[k]?.getD 0) * fval (g[k]?.getD 0)).natAbs = rmag (frung (ds[k]?.getD 0)) * rmag (frung (g[k]?.getD 0)) := by rw [Int.natAbs_mul, fval_absJ, fval_absJ]
      rw [e1, ← e2]
      exact Int.natAbs_add_le _ _
    have e3 : boxV ds rs (k + 1) = boxV ds rs k + fval (frung (ds[k]?.getD 0)) * fval (rs[k]?.getD 0) := rfl
    have e4 : boxV ds ys (k + 1) = boxV ds ys k + fval (frung (ds[k]?.getD 0)) * fval (ys[k]?.getD 0) := rfl
    rw [e3, e4, fval_frung]
    have h3 := Int.mul_le_mul_of_nonneg_left h1 (Int.natCast_nonneg (rmag (frung (ds[k]?.getD 0))))
    rw [Int.mul_add, ← Int.natCast_mul] at h3
    omega
/-- What is left goes no less far than what was. -/
theorem StR.more {z y : ZD} {low : Nat} (h : StR z y low) (hcs : y.cs = z.cs.map plainM) (hg : z.gs.length = z.gn) (hy : y.gs.length = low) (ds : List Nat) : supV ds z.cs z.rs z.gs z.rn ≤ supV ds y.cs y.rs y.gs z.rn := by
  obtain ⟨P, hP⟩ : ∃ P, plN (lsZ z) z.gn = P := ⟨_, rfl⟩
  obtain ⟨F, hF⟩ : ∃ F : Nat → List Nat, F = fun j => z.gs[j]?.getD [] := ⟨_, rfl⟩
  obtain ⟨B, hB⟩ : ∃ B : List Nat → Nat, B = fun g => (dotV ds g z.rn).natAbs := ⟨_, rfl⟩
  have hBp : ∀ g, B (g.map plainM) = B g := fun g => by rw [hB]; simp only [dotV_plain]
  have e1 : sumG B z.gs = sumG B ((P.take (z.gn - low)).map F) + sumG B ((keptL (lsZ z) z.gn low).map F) := by
    have h1 : z.gs = (List.range z.gn).map F := by rw [hF]; exact (range_map z.gs [] z.gn hg).symm
    have h2 : ((List.range z.gn).map F).Perm (P.map F) := by rw [← hP]; exact ((plN_perm _ _).symm).map F
    rw [h1, sumG_permH h2]
    conv => lhs; rw [← List.take_append_drop (z.gn - low) P, List.map_append, sumG_append]
    congr 1
    refine sumG_permH (List.Perm.map F ?_)
    rw [← hP]
    exact (keptL_perm _ _ _).symm
  have e2 : sumG B y.gs = sumG B ((keptL (lsZ z) z.gn low).map F) := by
    have h1 : y.gs = (List.range low).map (fun i => y.gs[i]?.getD []) := (range_map y.gs [] low hy).symm
    have h2 : keptL (lsZ z) z.gn low = (List.range low).map (fun i => (keptL (lsZ z) z.gn low)[i]?.getD 0) := (range_map _ 0 low (keptL_len h.le)).symm
    have h4 : sumG B ((keptL (lsZ z) z.gn low).map F) = sumG B (((List.range low).map (fun i => (keptL (lsZ z) z.gn low)[i]?.getD 0)).map F) := by rw [← h2]
    rw [h4]
    conv => lhs; rw [h1]
    unfold sumG
    rw [List.map_map, List.map_map, List.map_map]
    congr 1
    refine List.map_congr_left fun i hi => ?_
    have hi' := List.mem_range.1 hi
    have h3 := h.gs i hi'
    show B (y.gs[i]?.getD []) = B (F ((keptL (lsZ z) z.gn low)[i]?.getD 0))
    rw [← hBp (y.gs[i]?.getD []), h3, hBp, hF]
  have e3 := box_moreH (ds := ds) (rs := z.rs) (ys := y.rs) (gs := (P.take (z.gn - low)).map F) (n := z.rn) (fun j hj => by
    have h4 := h.rs j hj
    have e4 : sumG (fun g => rmag (frung (g[j]?.getD 0))) ((P.take (z.gn - low)).map F) = magS z.gs j (P.take (z.gn - low)) := by
      unfold sumG magS
      rw [List.map_map, hF]
      rfl
    rw [e4, ← hP]
    exact h4) z.rn (Nat.le_refl _)
  have e5 : sumG (fun g => (dotV ds g z.rn).natAbs) ((P.take (z.gn - low)).map F) = sumG B ((P.take (z.gn - low)).map F) := by rw [hB]
  have e6 : sumG (fun g => (dotV ds g z.rn).natAbs) z.gs = sumG B z.gs := by rw [hB]
  have e7 : sumG (fun g => (dotV ds g z.rn).natAbs) y.gs = sumG B y.gs := by rw [hB]
  rw [e5] at e3
  unfold supV
  rw [e6, e7, e1, e2, hcs, dotV_plain]
  omega
/-- What Reduce tells of a good zonotope. -/
theorem RdC.good {z y : ZD} {s : Int} {W V : World} (hb : z.bad = false) (hw : wholeB z = true) (hf : WhF z) (hz : ZR V z) (hy : ZR W y) (hr : RdC z s y) : (y = badN z.N ∧ max s 0 < (z.dn : Int)) ∨ (StR z y (min z.gn (max s 0).toNat) ∧ y.cs = z.cs.map plainM ∧ ∀ i, i < min z.gn (max s 0).toNat → y.gs[i]?.getD [] = (z.gs[(keptL (lsZ z) z.gn (min z.gn (max s 0).toNat))[i]?.getD 0]?.getD []).map plainM) := by
  have h0 := StR.start hb hw hf.dg (by rw [hz.i.length]; exact hf.dg)
  have h1 := h0.step hf hz hy hr
  have hck : checkB z = true := by unfold checkB; rw [hb]; simpa using hw
  rcases hr.is with ⟨k1, _⟩ | ⟨_, k1, _⟩ | ⟨_, _, ⟨j, u, hj, k1⟩, k2⟩ | ⟨_, _, y3, y4, y5, y6, y7, y8, y9⟩
  · rw [hck] at k1; cases k1
  · rw [hb] at k1; cases k1
  · refine .inl ⟨k2, ?_⟩
    rcases Int.lt_or_le (max s 0) (z.dn : Int) with c | c
    · exact c
    · exfalso
      have hgo : goesF z ((z.dn : Int) - max s 0) = fun _ => false := by
        funext i
        unfold goesF
        rw [show ((z.dn : Int) - max s 0).toNat = 0 by omega]
        simp
      rw [hgo, pick_none] at k1
      obtain ⟨a, ha⟩ : ∃ a : Nat, a = 1166 := ⟨_, rfl⟩
      have k3 := rnd_far (z := pkZ z none 0 none 0 []) (pk_fin hf.fin (Nat.zero_le _) none 0 none 0) hj k1 ha
      rw [reA_pk, show magS z.gs j [] = 0 from rfl] at k3
      rw [show fval (z.rs[j]?.getD 0) + ((0 : Nat) : Int) = fval (z.rs[j]?.getD 0) by omega] at k3
      have hlt : z.rs[j]?.getD 0 < 18446744073709551616 := by
        have hjl : j < z.rs.length := by rw [hz.r.length]; exact hj
        rw [List.getElem?_eq_getElem hjl]
        exact hz.r.lt _ (List.getElem_mem hjl)
      have k4 := RndZ.uniq k3 (exact_up hlt (hf.fin.r j))
      have := congrArg Prod.snd k4
      cases this
  · rcases h1 with h1 | ⟨h1, _⟩
    · rw [h1] at y4; cases y4
    · refine .inr ⟨h1, y5, fun i hi => ?_⟩
      obtain ⟨a, ha⟩ : ∃ a, ((z.dn : Int) - max s 0).toNat = a := ⟨_, rfl⟩
      have hdg := hf.dg
      have hal : z.gn - a = min z.gn (max s 0).toNat := by omega
      have hgo : pickL (fun j => !goesF z ((z.dn : Int) - max s 0) j) z.gn = keptL (lsZ z) z.gn (z.gn - a) := by
        have e := goes_kept (v := lsZ z) (n := z.gn) (low := z.gn - a) (by omega)
        rw [← e, show z.gn - (z.gn - a) = a by omega]
        congr 1
        funext j
        unfold goesF
        rw [ha]
      rw [hgo, hal] at y7
      have hl : i < (keptL (lsZ z) z.gn (min z.gn (max s 0).toNat)).length := by rw [keptL_len (by omega)]; exact hi
      rw [y7, List.getElem?_map, List.getElem?_eq_getElem hl]
      rfl
theorem keptL_up {v : Nat → Int} {n low i j : Nat} (h : low ≤ n) (hij : i + 1 ≤ j) (hj : j < low) : (keptL v n low)[i]?.getD 0 < (keptL v n low)[j]?.getD 0 := by
  have hl := keptL_len (v := v) h
  rw [List.getElem?_eq_getElem (by omega), List.getElem?_eq_getElem (by omega)]
  exact List.pairwise_iff_getElem.1 (pick_rise _ _) i j (by unfold keptL at hl; omega) (by unfold keptL at hl; omega) (by omega)
/-- The names of a whole zonotope rise. -/
theorem ids_riseH {z : ZD} (h : wholeB z = true) : ∀ {a b : Nat}, a < b → b < z.dn → z.ids[a]?.getD 0 < z.ids[b]?.getD 0 := by
  have hw := ((wholeB_iff z).1 h).2.2.2.2.2.2
  intro a b hab
  induction b with
  | zero => omega
  | succ b ih =>
    intro hb
    have h1 := (hw (b + 1) hb).1
    rw [if_neg (by omega), Nat.add_sub_cancel] at h1
    by_cases e : a = b
    · rw [e]; exact h1
    · have := ih (by omega) (by omega)
      omega
theorem ids_ne {z : ZD} (h : wholeB z = true) {a b : Nat} (hab : a ≠ b) (ha : a < z.dn) (hb : b < z.dn) : z.ids[a]?.getD 0 ≠ z.ids[b]?.getD 0 := by
  rcases Nat.lt_or_gt_of_ne hab with c | c
  · exact Int.ne_of_lt (ids_riseH h c hb)
  · exact Int.ne_of_gt (ids_riseH h c ha)
end Go.Proofs.YtifdicafanglaaaGreat

namespace Go.Proofs.YtifdicafanglaaaGreat
open Go.RowKit Go.Shelf
set_option linter.unusedVariables false
set_option linter.unusedSimpArgs false

set_option maxRecDepth 100000 in
set_option maxHeartbeats 8000000 in
/-- The law's Support. -/
theorem supportT_any (z : ZD) (w : World) (hz : ZR w z) (hf : WhF z) (few : z.gn ≤ 1050000) (ds : List Nat) (dv : Value) (Bd E : Nat) (hE : E = 1074) (hd : RowN w Bd dv E ds) (hdl : ds.length = z.rn) (hdf : ∀ j : Nat, Fin (ds[j]?.getD 0)) :
    Calls Tryz.prog 12 #[.agg #[.int .i64 z.N, .slice z.co z.cn z.cc, .slice z.io z.dn z.dc, .slice z.go z.gn z.gc, .slice z.ro z.rn z.rc, .bool z.bad], dv] w fun e w' => ∃ v, e = .returned v ∧ NumC w' v (E + E) 2100 (supV ds z.cs z.rs z.gs z.rn) ∧ Below w.heap.size w w' := by
  obtain ⟨da, dc, hdv⟩ := hd.form
  rw [hdl] at hdv
  subst hdv
  obtain ⟨X9, hX9⟩ : ∃ X : Nat, X = 4248 := ⟨_, rfl⟩
  have HX9 : Hid ((X9 : Int) = ((E + E : Nat) : Int) + 2100) := by unfold Hid; omega
  have HBD : Hid (∀ j m : Nat, j ≤ z.rn → (dotV ds z.cs z.rn + boxV ds z.rs j + (sumG (fun g => (dotV ds g z.rn).natAbs) (z.gs.take m) : Nat)).natAbs < 2 ^ X9) := fun j m hj => reach_bound hX9 hdf hf.fin.c hf.fin.r hf.fin.g (by rw [hz.g.length]; exact few) hf.n2 hf.n2 (by have := hf.n2; omega)
  have HE5 : Hid (E = 1074) := hE
  have HRN : Hid (z.rn ≤ 256 ∧ 1 ≤ z.rn) := ⟨hf.n2, hf.n1⟩
  have HDL : Hid (ds.length = z.rn) := hdl
  have HFF : Hid (WhF z) := hf
  have HGL : Hid (z.gs.length = z.gn) := hz.g.length
  have X0 : Below w.heap.size w ((w.alloc (.cells #[.int .i64 z.N, .slice z.co z.cn z.cc, .slice z.io z.dn z.dc, .slice z.go z.gn z.gc, .slice z.ro z.rn z.rc, .bool z.bad] 26)).alloc (.cells #[.bool false, .slice none 0 0, .int .i64 0] 42)) := ((Below.refl _ w).alloc (Nat.le_refl _) _).alloc (by simp only [alloc_size]; omega) _
  have Y0 : ((w.alloc (.cells #[.int .i64 z.N, .slice z.co z.cn z.cc, .slice z.io z.dn z.dc, .slice z.go z.gn z.gc, .slice z.ro z.rn z.rc, .bool z.bad] 26)).alloc (.cells #[.bool false, .slice none 0 0, .int .i64 0] 42)).heap[w.heap.size]? = some (.cells #[.int .i64 z.N, .slice z.co z.cn z.cc, .slice z.io z.dn z.dc, .slice z.go z.gn z.gc, .slice z.ro z.rn z.rc, .bool z.bad] 26) := alloc_kept (heap_alloc_new w _) _
  have Y1 : ((w.alloc (.cells #[.int .i64 z.N, .slice z.co z.cn z.cc, .slice z.io z.dn z.dc, .slice z.go z.gn z.gc, .slice z.ro z.rn z.rc, .bool z.bad] 26)).alloc (.cells #[.bool false, .slice none 0 0, .int .i64 0] 42)).heap[w.heap.size + 1]? = some (.cells #[.bool false, .slice none 0 0, .int .i64 0] 42) := heap_at _ _ (w.heap.size + 1) (by simp only [alloc_size])
  go_enter Tryz.func12, Tryz.ntmps12
  go_upto_region 1 with fail
  obtain ⟨X, hX⟩ : ∃ X, ((w.alloc (.cells #[.int .i64 z.N, .slice z.co z.cn z.cc, .slice z.io z.dn z.dc, .slice z.go z.gn z.gc, .slice z.ro z.rn z.rc, .bool z.bad] 26)).alloc (.cells #[.bool false, .slice none 0 0, .int .i64 0] 42)) = X := ⟨_, rfl⟩
  rw [hX] at X0 Y0 Y1 ⊢
  have HX0 : Hid (Below w.heap.size w X ∧ X.heap[w.heap.size]? = some (.cells #[.int .i64 z.N, .slice z.co z.cn z.cc, .slice z.io z.dn z.dc, .slice z.go z.gn z.gc, .slice z.ro z.rn z.rc, .bool z.bad] 26) ∧ X.heap[w.heap.size + 1]? = some (.cells #[.bool false, .slice none 0 0, .int .i64 0] 42)) := ⟨X0, Y0, Y1⟩
  have HZR : Hid (∀ W', Below X.heap.size X W' → ZR W' z) := fun W' hb => (hz.later X0).later hb
  have HDR : Hid (∀ W', Below X.heap.size X W' → RowN W' Bd (.slice da z.rn dc) E ds) := fun W' hb => (hd.later X0).later hb
  have c1 : X.cell? ⟨w.heap.size, 1, none⟩ = some (.slice z.co z.cn z.cc) := cellAtJ Y0 1 _ rfl
  clear hX X0 Y0 Y1 hz hd hf hdf hdl
  have HN1 : Hid _ := numsT_any z.co z.cn z.cc z.cs E hE X (HZR.out X (Below.refl _ _)).c HFF.out.fin.c (by rw [HFF.out.cn]; have := HRN.out; omega)
  go_upto_region 2 with (first
    | (go_at_call 29; refine Calls.mono HN1.out ?_; rintro e w1 ⟨v1, rfl, hr1, b1⟩; have HR1 : Hid (RowN w1 _ v1 E z.cs) := hr1; have HB1 : Hid (Below X.heap.size X w1) := b1; clear hr1 b1 c1)
    | (go_at_call 28; refine Calls.mono (along_any _ _ ds _ z.rn Bd _ E HE5.out _ (HDR.out _ HB1.out) HR1.out HDL.out HFF.out.cl (by have := HRN.out; omega)) ?_; rintro e w2 ⟨v2, rfl, hz2, b2⟩; obtain ⟨n2, o2, t2, p2, x2, rfl⟩ := hz2.form; have HZ2 : Hid (NumC w2 (.agg #[.bool n2, .slice o2 t2 p2, .int .i64 x2]) (E + E) (2048 + z.rn) (dotV ds z.cs z.rn)) := hz2; have HB2 : Hid (Below X.heap.size X w2) := to_call HB1.out b2; clear hz2 b2)
    | (refine wpList_store_row (by rfl) 42 _ _ (by rfl) X X.heap.size w2.heap.size #[.bool n2, .slice o2 t2 p2, .int .i64 x2] _ (by rfl) (by rfl) (heap_alloc_new w2 _) (HB2.out.alloc HB2.out.size _) HB2.out.size 3 Tryz.infoN3 (by rfl) (by rfl) (oneN _ _ _ _ _) ?_; intro W4 e4 b4 s4 o4))
  obtain ⟨Bs, hBs⟩ : ∃ Bs, w2.heap.size = Bs := ⟨_, rfl⟩
  have HBs : Hid (X.heap.size ≤ Bs) := by unfold Hid; rw [← hBs]; exact HB2.out.size
  have HNA : Hid (NumC W4 (.agg #[.bool n2, .slice o2 t2 p2, .int .i64 x2]) (E + E) 2100 (dotV ds z.cs z.rn + (sumG (fun g => (dotV ds g z.rn).natAbs) (z.gs.take 0) : Nat))) := by
    have h1 := (NumC.later (show NumC _ _ _ _ _ from HZ2.out) ((Below.refl _ w2).alloc (Nat.le_refl _) (.cells #[.bool false, .slice none 0 0, .int .i64 0] 42))).cl (num_cl (heap_alloc_new w2 _)) (fun b hb _ => o4 b hb)
    have h2 := HBD.out 0 0 (Nat.zero_le _)
    rw [List.take_zero] at h2 ⊢
    rw [show boxV ds z.rs 0 = 0 from rfl, Int.add_zero] at h2
    rw [show sumG (fun g => (dotV ds g z.rn).natAbs) [] = 0 from rfl] at h2 ⊢
    rw [show dotV ds z.cs z.rn + ((0 : Nat) : Int) = dotV ds z.cs z.rn by omega] at h2 ⊢
    exact h1.tight (by omega) HX9.out h2
  rw [hBs] at e4 ⊢
  have P0 : Hid (BxN W4 Bs (E + E) 2100 (dotV ds z.cs z.rn + (sumG (fun g => (dotV ds g z.rn).natAbs) (z.gs.take 0) : Nat)) n2 o2 t2 p2 x2 ∧ Below X.heap.size X W4) := ⟨⟨e4, HNA.out⟩, b4⟩
  clear e4 b4 s4 o4 hBs HZ2 HB2 HNA HN1 HR1 HB1
  go_wp2_with fail
  go_loopg [6] z.gn (fun q v6 wx => ∃ (k : Nat), v6 = .int .i64 k ∧ k + q = z.gn ∧ ∃ (n : Bool) (o : Option Addr) (l c : Nat) (e : Int), Hid (BxN wx Bs (E + E) 2100 (dotV ds z.cs z.rn + (sumG (fun g => (dotV ds g z.rn).natAbs) (z.gs.take k) : Nat)) n o l c e ∧ Below X.heap.size X wx))
  case atStart => exact ⟨0, rfl, by omega, n2, o2, t2, p2, x2, P0⟩
  case round =>
    clear P0
    obtain ⟨k, rfl, hk, n, o, l, c, e, HI⟩ := hrel
    have C3 : Hid (wr.cell? ⟨w.heap.size, 3, none⟩ = some (.slice z.go z.gn z.gc)) := cellT (cellAtJ HX0.out.2.1 3 _ rfl) HI.out.2
    have c3 := C3.out
    by_cases h1 : k < z.gn
    · have hd1 : decide ((k : Int) < (z.gn : Int)) = true := decide_eq_true (by omega)
      obtain ⟨q, rfl⟩ : ∃ q, gk = q + 1 := ⟨gk - 1, by omega⟩
      have HIG : Hid (k + (q + 1) = z.gn) := hk
      have hk0 : (k : Int) < (z.gn : Int) := by omega
      clear hk
      have zx := HZR.out _ HI.out.2
      rcases zx.g.cells with h0 | ⟨xgb, xgo, exg, hxg⟩
      · omega
      have gxg := hxg k h1
      have rx := zx.g.each k h1
      have lx : (z.gv k).2.1 = z.rn := by rw [← rx.length]; exact HFF.out.gl k (by rw [HFF.out.dg]; exact h1)
      obtain ⟨x1, ex1⟩ : ∃ t, (z.gv k).1 = t := ⟨_, rfl⟩
      obtain ⟨x3, ex3⟩ : ∃ t, (z.gv k).2.2 = t := ⟨_, rfl⟩
      rw [ex1, ex3, lx] at rx gxg
      have RK : Hid (RdF wr x1 z.rn x3 (z.gs[k]?.getD []) ∧ ∀ j : Nat, Fin ((z.gs[k]?.getD [])[j]?.getD 0)) := ⟨rx, HFF.out.fin.g k⟩
      have CK : Hid (wr.cell? ⟨xgb, xgo + k, none⟩ = some (.slice x1 z.rn x3)) := gxg
      rw [exg] at C3 c3
      clear hxg rx gxg zx exg lx ex1 ex3
      go_upto_region 5 with fail
      clear c3 hd1
      have SX : Below wr.heap.size wr wr.drew := (Below.refl _ _).drew
      refine wp_region_noPanic ?_
      refine wp_region_P (S := (fun V => Below wr.heap.size wr V)) (s := 11) (by kernel_rfl) ?_
      refine takeP 21 (i := 0) (v := .agg #[.bool n, .slice o l c, .int .i64 e]) rfl rfl (by kernel_rfl) (by kernel_rfl) (by kernel_rfl) (by kernel_rfl) rfl (by kernel_rfl) (fun _ _ _ h => h) (Or.inl ⟨by kernel_rfl, fun w' hSw => ex_loadRN _ 42 _ rfl Bs (by kernel_rfl) w' _ (kept hSw HI.out.1.row) _ Tryz.underlying42 rfl 3 Tryz.infoN3 rfl⟩) SX ?_
      try simp only [Act.put, List.setIfInBounds_toArray, List.set_cons_zero, List.set_cons_succ]
      refine takeP 22 (i := 1) (v := ?_) rfl rfl (by kernel_rfl) (by kernel_rfl) (by kernel_rfl) (by kernel_rfl) rfl (by kernel_rfl) (fun _ _ _ h => h) (Or.inl ⟨by kernel_rfl, ?_⟩) SX ?_
      rotate_left
      · intro w' hSw; go_simp; try with_reducible rfl
      try simp only [Act.put, List.setIfInBounds_toArray, List.set_cons_zero, List.set_cons_succ]
      refine takeP 23 (i := 2) (v := ?_) rfl rfl (by kernel_rfl) (by kernel_rfl) (by kernel_rfl) (by kernel_rfl) rfl (by kernel_rfl) (fun _ _ _ h => h) (Or.inl ⟨by kernel_rfl, ?_⟩) SX ?_
      rotate_left
      · intro w' hSw; go_simp; try with_reducible rfl
      try simp only [Act.put, List.setIfInBounds_toArray, List.set_cons_zero, List.set_cons_succ]
      refine takeP 24 (i := 3) (v := ?_) rfl rfl (by kernel_rfl) (by kernel_rfl) (by kernel_rfl) (by kernel_rfl) rfl (by kernel_rfl) (fun _ _ _ h => h) (Or.inl ⟨by kernel_rfl, ?_⟩) SX ?_
      rotate_left
      · intro w' hSw; have s0 := cellT C3.out hSw; go_simp; try with_reducible rfl
      try simp only [Act.put, List.setIfInBounds_toArray, List.set_cons_zero, List.set_cons_succ]
      refine takeP 25 (i := 4) (v := ?_) rfl rfl (by kernel_rfl) (by kernel_rfl) (by kernel_rfl) (by kernel_rfl) rfl (by kernel_rfl) (fun _ _ _ h => h) (Or.inl ⟨by kernel_rfl, ?_⟩) SX ?_
      rotate_left
      · intro w' hSw; go_simp; try with_reducible rfl
      try simp only [Act.put, List.setIfInBounds_toArray, List.set_cons_zero, List.set_cons_succ]
      refine takeP 26 (i := 5) (v := ?_) rfl rfl (by kernel_rfl) (by kernel_rfl) (by kernel_rfl) (by kernel_rfl) rfl (by kernel_rfl) (fun _ _ _ h => h) (Or.inl ⟨by kernel_rfl, ?_⟩) SX ?_
      rotate_left
      · intro w' hSw; go_simp; try with_reducible rfl
      try simp only [Act.put, List.setIfInBounds_toArray, List.set_cons_zero, List.set_cons_succ]
      refine takeP 27 (i := 6) (v := ?_) rfl rfl (by kernel_rfl) (by kernel_rfl) (by kernel_rfl) (by kernel_rfl) rfl (by kernel_rfl) (fun _ _ _ h => h) (Or.inl ⟨by kernel_rfl, ?_⟩) SX ?_
      rotate_left
      · intro w' hSw; have s0 := cellT CK.out hSw; go_simp; try with_reducible rfl
      try simp only [Act.put, List.setIfInBounds_toArray, List.set_cons_zero, List.set_cons_succ]
      refine wpAnyP_ready (rs := [7]) (by kernel_rfl) (by simp) ?_
      refine consP _ rfl (hopCd 28 rfl (by kernel_rfl) rfl (by kernel_rfl) (Calls.mono (numsT_any _ _ _ _ E hE _ (RK.out.1.later SX) RK.out.2 (by have := HRN.out; omega)) ?_)) AllReadyP.nil
      rintro e V1 ⟨v1, rfl, hr1, b1⟩
      have SX : Below wr.heap.size wr V1 := to_call SX b1
      clear b1
      refine ⟨_, rfl, SX, ?_⟩
      try simp only [Act.put, List.setIfInBounds_toArray, List.set_cons_zero, List.set_cons_succ]
      refine wpAnyP_ready (rs := [8]) (by kernel_rfl) (by simp) ?_
      refine consP _ rfl (hopCd 29 rfl (by kernel_rfl) rfl (by kernel_rfl) (Calls.mono (along_any _ _ ds _ z.rn Bd _ E hE _ ((HDR.out _ HI.out.2).later SX) hr1 HDL.out (RdF.length RK.out.1) (by have := HRN.out; omega)) ?_)) AllReadyP.nil
      rintro e V2 ⟨v2, rfl, hz2, b2⟩
      obtain ⟨n2, o2, t2, p2, x2, hv2⟩ := hz2.form
      subst hv2
      have SX : Below wr.heap.size wr V2 := to_call SX b2
      clear b2
      refine ⟨_, rfl, SX, ?_⟩
      try simp only [Act.put, List.setIfInBounds_toArray, List.set_cons_zero, List.set_cons_succ]
      refine wpAnyP_ready (rs := [9]) (by kernel_rfl) (by simp) ?_
      refine consP _ rfl (hopCd 30 rfl (by kernel_rfl) rfl (by kernel_rfl) (Calls.mono (sizeC_any _ (E + E) (2048 + z.rn) _ _ hz2) ?_)) AllReadyP.nil
      rintro e V3 ⟨v3, rfl, hz3, b3⟩
      obtain ⟨n3, o3, t3, p3, x3, hv3⟩ := hz3.form
      subst hv3
      have SX : Below wr.heap.size wr V3 := to_call SX b3
      clear b3
      refine ⟨_, rfl, SX, ?_⟩
      try simp only [Act.put, List.setIfInBounds_toArray, List.set_cons_zero, List.set_cons_succ]
      refine wpAnyP_ready (rs := [10]) (by kernel_rfl) (by simp) ?_
      refine consP _ rfl (hopCd 31 rfl (by kernel_rfl) rfl (by kernel_rfl) (Calls.mono (plusC_any _ _ (E + E) 2400 _ _ _ ((NumC.later HI.out.1.num SX).mono (by omega)) (hz3.mono (by have := HRN.out; omega)) (by have := HE5.out; omega) (by omega)) ?_)) AllReadyP.nil
      rintro e V4 ⟨v4, rfl, hz4, b4⟩
      obtain ⟨n4, o4, t4, p4, x4, hv4⟩ := hz4.form
      subst hv4
      have SX : Below wr.heap.size wr V4 := to_call SX b4
      clear b4
      refine ⟨_, rfl, SX, ?_⟩
      try simp only [Act.put, List.setIfInBounds_toArray, List.set_cons_zero, List.set_cons_succ]
      refine wpAnyP_ready (rs := [11]) (by kernel_rfl) (by simp) ?_
      refine consPs _ rfl (by kernel_rfl) (hopL rfl (wpList_store_row (by rfl) 42 _ _ (by rfl) X X.heap.size Bs #[.bool n4, .slice o4 t4 p4, .int .i64 x4] _ (by kernel_rfl) (by kernel_rfl) (kept SX HI.out.1.row) (to_call HI.out.2 SX) HBs.out 3 Tryz.infoN3 rfl rfl (oneN _ _ _ _ _) fun V5 e5 b5 s5 k5 => ?_)) AllReadyP.nil
      refine ⟨trivial, ?_⟩
      try simp only [Act.put, List.setIfInBounds_toArray, List.set_cons_zero, List.set_cons_succ]
      refine wpAnyP_done (by kernel_rfl) ?_ _
      refine NoPanic.normal ?_
      try simp only [Act.put, List.setIfInBounds_toArray, List.set_cons_zero, List.set_cons_succ]
      have HZ : Hid (BxN V5 Bs (E + E) 2100 (dotV ds z.cs z.rn + (sumG (fun g => (dotV ds g z.rn).natAbs) (z.gs.take (k + 1)) : Nat)) n4 o4 t4 p4 x4 ∧ Below X.heap.size X V5) := by
        have hz5 := hz4.cl (num_cl (kept SX HI.out.1.row)) (fun b hb _ => k5 b hb)
        have h2 := HBD.out 0 (k + 1) (Nat.zero_le _)
        rw [show boxV ds z.rs 0 = 0 from rfl, Int.add_zero] at h2
        have e9 : (dotV ds z.cs z.rn + (sumG (fun g => (dotV ds g z.rn).natAbs) (z.gs.take k) : Nat)) + ((dotV ds (z.gs[k]?.getD []) z.rn).natAbs : Int) = (dotV ds z.cs z.rn + (sumG (fun g => (dotV ds g z.rn).natAbs) (z.gs.take (k + 1)) : Nat)) := by
          rw [sumG_take (by rw [HGL.out]; exact h1), Int.natCast_add]; omega
        rw [e9] at hz5
        exact ⟨⟨e5, hz5.tight (by omega) HX9.out h2⟩, b5⟩
      clear hz4 hz3 hz2 hr1 SX k5 b5 e5 s5 HI RK CK C3
      go_wp2_with fail
      go_roundg q
      case measure => omega
      case rel => exact ⟨k + 1, by go_num, by have := HIG.out; omega, n4, o4, t4, p4, x4, HZ⟩
    · have hd1 : decide ((k : Int) < (z.gn : Int)) = false := decide_eq_false (by omega)
      have ek : k = z.gn := by omega
      have c4 : wr.cell? ⟨w.heap.size, 4, none⟩ = some (.slice z.ro z.rn z.rc) := cellT (cellAtJ HX0.out.2.1 4 _ rfl) HI.out.2
      have HNR : Hid _ := numsT_any z.ro z.rn z.rc z.rs E HE5.out wr (HZR.out _ HI.out.2).r HFF.out.fin.r (by have := HRN.out; omega)
      go_upto_region 7 with (first
        | (go_at_call 29; refine Calls.mono HNR.out ?_; rintro e6 w6 ⟨v6, rfl, hr6, b6⟩)
        | fail)
      obtain ⟨ra, rc', hrv⟩ := hr6.form
      rw [HFF.out.rl] at hrv
      subst hrv
      have hBl := blk_lt HI.out.1.row
      have HR6 : Hid (RowN w6 wr.heap.size (.slice ra z.rn rc') E z.rs) := hr6
      have HBW : Hid (Bs < wr.heap.size) := hBl
      have HI6 : Hid (BxN w6 Bs (E + E) 2100 (dotV ds z.cs z.rn + (sumG (fun g => (dotV ds g z.rn).natAbs) z.gs : Nat) + boxV ds z.rs 0) n o l c e ∧ Below X.heap.size X w6) := by
        have h1 := HI.out.1.num.later b6
        rw [ek, List.take_of_length_le (by rw [HGL.out]; exact Nat.le_refl _)] at h1
        refine ⟨⟨kept b6 HI.out.1.row, ?_⟩, to_call HI.out.2 b6⟩
        rw [show boxV ds z.rs 0 = 0 from rfl, Int.add_zero]
        exact h1
      clear hr6 b6 c4 c3 C3 HI HNR hd1 ek hk
      obtain ⟨H6, hH6⟩ : ∃ H6, wr.heap.size = H6 := ⟨_, rfl⟩
      rw [hH6] at HR6 HBW
      clear hH6 hBl
      go_wp2_with fail
      go_loopg [8] z.rn (fun q v8 wx => ∃ (k : Nat), v8 = .int .i64 k ∧ k + q = z.rn ∧ Hid (RowN wx H6 (.slice ra z.rn rc') E z.rs) ∧ ∃ (n : Bool) (o : Option Addr) (l c : Nat) (e : Int), Hid (BxN wx Bs (E + E) 2100 (dotV ds z.cs z.rn + (sumG (fun g => (dotV ds g z.rn).natAbs) z.gs : Nat) + boxV ds z.rs k) n o l c e ∧ Below X.heap.size X wx))
      case atStart => exact ⟨0, rfl, by omega, HR6, n, o, l, c, e, HI6⟩
      case round =>
        clear HI6 HR6
        obtain ⟨k, rfl, hk, HRR, n, o, l, c, e, HI⟩ := hrel
        by_cases h1 : k < z.rn
        · have hd1 : decide ((k : Int) < (z.rn : Int)) = true := decide_eq_true (by omega)
          obtain ⟨q, rfl⟩ : ∃ q, gk = q + 1 := ⟨gk - 1, by omega⟩
          have HIG : Hid (k + (q + 1) = z.rn) := hk
          have hk0 : (k : Int) < (z.rn : Int) := by omega
          have hrn : z.rn ≤ 256 := HRN.out.1
          clear hk
          go_upto_region 10 with fail
          obtain ⟨ga, qa, an, ao, al, ac', ae, va', ra', za⟩ := RowN.range (HDR.out _ HI.out.2) (k := k) (by rw [HDL.out]; exact h1)
          obtain ⟨gb, qb, bn, bo, bl0, bc', be, vb', rb', zb⟩ := RowN.range HRR.out (k := k) (by rw [HFF.out.rl]; exact h1)
          rw [HDL.out] at va'
          rw [HFF.out.rl] at vb'
          have R1 : Hid (wr.rangeAt ga (k * 3) [.bool an, .slice ao al ac', .int .i64 ae]) := ra'
          have R2 : Hid (wr.rangeAt gb (k * 3) [.bool bn, .slice bo bl0 bc', .int .i64 be]) := rb'
          have Z1 : Hid (NumC wr (.agg #[.bool an, .slice ao al ac', .int .i64 ae]) E 1024 (fval (ds[k]?.getD 0))) := za
          have Z2 : Hid (NumC wr (.agg #[.bool bn, .slice bo bl0 bc', .int .i64 be]) E 1024 (fval (z.rs[k]?.getD 0))) := zb
          have haa : da = some ⟨ga, 0, none⟩ := by injection va'
          have hba : ra = some ⟨gb, 0, none⟩ := by injection vb'
          subst haa hba
          clear ra' rb' za zb va' vb' hd1
          have SX : Below wr.heap.size wr wr.drew := (Below.refl _ _).drew
          refine wp_region_noPanic ?_
          refine wp_region_P (S := (fun V => Below wr.heap.size wr V)) (s := 12) (by kernel_rfl) ?_
          refine takeP 41 (i := 0) (v := .agg #[.bool n, .slice o l c, .int .i64 e]) rfl rfl (by kernel_rfl) (by kernel_rfl) (by kernel_rfl) (by kernel_rfl) rfl (by kernel_rfl) (fun _ _ _ h => h) (Or.inl ⟨by kernel_rfl, fun w' hSw => ex_loadRN _ 42 _ rfl Bs (by kernel_rfl) w' _ (kept hSw HI.out.1.row) _ Tryz.underlying42 rfl 3 Tryz.infoN3 rfl⟩) SX ?_
          try simp only [Act.put, List.setIfInBounds_toArray, List.set_cons_zero, List.set_cons_succ]
          refine takeP 42 (i := 1) (v := ?_) rfl rfl (by kernel_rfl) (by kernel_rfl) (by kernel_rfl) (by kernel_rfl) rfl (by kernel_rfl) (fun _ _ _ h => h) (Or.inl ⟨by kernel_rfl, ?_⟩) SX ?_
          rotate_left
          · intro w' hSw; go_simp; try with_reducible rfl
          try simp only [Act.put, List.setIfInBounds_toArray, List.set_cons_zero, List.set_cons_succ]
          refine takeP 43 (i := 2) (v := ?_) rfl rfl (by kernel_rfl) (by kernel_rfl) (by kernel_rfl) (by kernel_rfl) rfl (by kernel_rfl) (fun _ _ _ h => h) (Or.inl ⟨by kernel_rfl, ?_⟩) SX ?_
          rotate_left
          · intro w' hSw; go_simp; try with_reducible rfl
          try simp only [Act.put, List.setIfInBounds_toArray, List.set_cons_zero, List.set_cons_succ]
          refine takeP 44 (i := 3) (v := ?_) rfl rfl (by kernel_rfl) (by kernel_rfl) (by kernel_rfl) (by kernel_rfl) rfl (by kernel_rfl) (fun _ _ _ h => h) (Or.inl ⟨by kernel_rfl, ?_⟩) SX ?_
          rotate_left
          · intro w' hSw; go_simp; try with_reducible rfl
          try simp only [Act.put, List.setIfInBounds_toArray, List.set_cons_zero, List.set_cons_succ]
          refine takeP 45 (i := 4) (v := .agg #[.bool an, .slice ao al ac', .int .i64 ae]) rfl rfl (by kernel_rfl) (by kernel_rfl) (by kernel_rfl) (by kernel_rfl) rfl (by kernel_rfl) (fun _ _ _ h => h) (yieldsIf_load_mid (by kernel_rfl) 42 _ rfl ga (k * 3) (by kernel_rfl) #[.bool an, .slice ao al ac', .int .i64 ae].toList _ (fun V' hS => (range_later R1.out hS : V'.rangeAt ga (k * 3) [.bool an, .slice ao al ac', .int .i64 ae])) Tryz.underlying42 rfl (by kernel_rfl)) SX ?_
          try simp only [Act.put, List.setIfInBounds_toArray, List.set_cons_zero, List.set_cons_succ]
          refine takeP 47 (i := 6) (v := ?_) rfl rfl (by kernel_rfl) (by kernel_rfl) (by kernel_rfl) (by kernel_rfl) rfl (by kernel_rfl) (fun _ _ _ h => h) (Or.inl ⟨by kernel_rfl, ?_⟩) SX ?_
          rotate_left
          · intro w' hSw; go_simp; try with_reducible rfl
          try simp only [Act.put, List.setIfInBounds_toArray, List.set_cons_zero, List.set_cons_succ]
          refine takeP 48 (i := 7) (v := ?_) rfl rfl (by kernel_rfl) (by kernel_rfl) (by kernel_rfl) (by kernel_rfl) rfl (by kernel_rfl) (fun _ _ _ h => h) (Or.inl ⟨by kernel_rfl, ?_⟩) SX ?_
          rotate_left
          · intro w' hSw; go_simp; try with_reducible rfl
          try simp only [Act.put, List.setIfInBounds_toArray, List.set_cons_zero, List.set_cons_succ]
          refine takeP 49 (i := 8) (v := ?_) rfl rfl (by kernel_rfl) (by kernel_rfl) (by kernel_rfl) (by kernel_rfl) rfl (by kernel_rfl) (fun _ _ _ h => h) (Or.inl ⟨by kernel_rfl, ?_⟩) SX ?_
          rotate_left
          · intro w' hSw; go_simp; try with_reducible rfl
          try simp only [Act.put, List.setIfInBounds_toArray, List.set_cons_zero, List.set_cons_succ]
          refine takeP 50 (i := 9) (v := .agg #[.bool bn, .slice bo bl0 bc', .int .i64 be]) rfl rfl (by kernel_rfl) (by kernel_rfl) (by kernel_rfl) (by kernel_rfl) rfl (by kernel_rfl) (fun _ _ _ h => h) (yieldsIf_load_mid (by kernel_rfl) 42 _ rfl gb (k * 3) (by kernel_rfl) #[.bool bn, .slice bo bl0 bc', .int .i64 be].toList _ (fun V' hS => (range_later R2.out hS : V'.rangeAt gb (k * 3) [.bool bn, .slice bo bl0 bc', .int .i64 be])) Tryz.underlying42 rfl (by kernel_rfl)) SX ?_
          try simp only [Act.put, List.setIfInBounds_toArray, List.set_cons_zero, List.set_cons_succ]
          refine wpAnyP_ready (rs := [5]) (by kernel_rfl) (by simp) ?_
          refine consP _ rfl (hopCd 46 rfl (by kernel_rfl) rfl (by kernel_rfl) (Calls.mono (sizeC_any _ E 1024 _ _ (NumC.later Z1.out SX)) ?_)) AllReadyP.nil
          rintro e V1 ⟨v1, rfl, hz1, b1⟩
          obtain ⟨n1, o1, t1, p1, x1, hv1⟩ := hz1.form
          subst hv1
          have SX : Below wr.heap.size wr V1 := to_call SX b1
          clear b1
          refine ⟨_, rfl, SX, ?_⟩
          try simp only [Act.put, List.setIfInBounds_toArray, List.set_cons_zero, List.set_cons_succ]
          refine wpAnyP_ready (rs := [10]) (by kernel_rfl) (by simp) ?_
          refine consP _ rfl (hopCd 51 rfl (by kernel_rfl) rfl (by kernel_rfl) (Calls.mono (timesC_any _ _ E 1024 1024 _ _ _ hz1.toZ (NumC.later Z2.out SX).toZ (by have := HE5.out; omega) (by omega) (by omega)) ?_)) AllReadyP.nil
          rintro e V3 ⟨v3, rfl, hz3, b3⟩
          obtain ⟨n3, o3, t3, p3, x3, hv3⟩ := hz3.form
          subst hv3
          have SX : Below wr.heap.size wr V3 := to_call SX b3
          clear b3
          refine ⟨_, rfl, SX, ?_⟩
          try simp only [Act.put, List.setIfInBounds_toArray, List.set_cons_zero, List.set_cons_succ]
          refine wpAnyP_ready (rs := [11]) (by kernel_rfl) (by simp) ?_
          refine consP _ rfl (hopCd 52 rfl (by kernel_rfl) rfl (by kernel_rfl) (Calls.mono (plusC_any _ _ (E + E) 2400 _ _ _ ((NumC.later HI.out.1.num SX).mono (by omega)) (hz3.mono (by omega)) (by have := HE5.out; omega) (by omega)) ?_)) AllReadyP.nil
          rintro e V4 ⟨v4, rfl, hz4, b4⟩
          obtain ⟨n4, o4, t4, p4, x4, hv4⟩ := hz4.form
          subst hv4
          have SX : Below wr.heap.size wr V4 := to_call SX b4
          clear b4
          refine ⟨_, rfl, SX, ?_⟩
          try simp only [Act.put, List.setIfInBounds_toArray, List.set_cons_zero, List.set_cons_succ]
          refine wpAnyP_ready (rs := [12]) (by kernel_rfl) (by simp) ?_
          refine consPs _ rfl (by kernel_rfl) (hopL rfl (wpList_store_row (by rfl) 42 _ _ (by rfl) X X.heap.size Bs #[.bool n4, .slice o4 t4 p4, .int .i64 x4] _ (by kernel_rfl) (by kernel_rfl) (kept SX HI.out.1.row) (to_call HI.out.2 SX) HBs.out 3 Tryz.infoN3 rfl rfl (oneN _ _ _ _ _) fun V5 e5 b5 s5 k5 => ?_)) AllReadyP.nil
          refine ⟨trivial, ?_⟩
          try simp only [Act.put, List.setIfInBounds_toArray, List.set_cons_zero, List.set_cons_succ]
          refine wpAnyP_done (by kernel_rfl) ?_ _
          refine NoPanic.normal ?_
          try simp only [Act.put, List.setIfInBounds_toArray, List.set_cons_zero, List.set_cons_succ]
          have HZ : Hid (RowN V5 H6 (.slice (some ⟨gb, 0, none⟩) z.rn rc') E z.rs ∧ (BxN V5 Bs (E + E) 2100 (dotV ds z.cs z.rn + (sumG (fun g => (dotV ds g z.rn).natAbs) z.gs : Nat) + boxV ds z.rs (k + 1)) n4 o4 t4 p4 x4 ∧ Below X.heap.size X V5)) := by
            have hcl := num_cl (kept SX HI.out.1.row)
            have hz5 := hz4.cl hcl (fun b hb _ => k5 b hb)
            have h2 := HBD.out (k + 1) z.gs.length h1
            rw [List.take_of_length_le (Nat.le_refl _)] at h2
            have e9 : (dotV ds z.cs z.rn + (sumG (fun g => (dotV ds g z.rn).natAbs) z.gs : Nat) + boxV ds z.rs k) + ((fval (ds[k]?.getD 0)).natAbs : Int) * fval (z.rs[k]?.getD 0) = (dotV ds z.cs z.rn + (sumG (fun g => (dotV ds g z.rn).natAbs) z.gs : Nat) + boxV ds z.rs (k + 1)) := by
              have e3 : boxV ds z.rs (k + 1) = boxV ds z.rs k + fval (frung (ds[k]?.getD 0)) * fval (z.rs[k]?.getD 0) := rfl
              rw [e3, fval_frung, fval_absJ]; omega
            rw [e9] at hz5
            have e10 : dotV ds z.cs z.rn + boxV ds z.rs (k + 1) + (sumG (fun g => (dotV ds g z.rn).natAbs) z.gs : Nat) = (dotV ds z.cs z.rn + (sumG (fun g => (dotV ds g z.rn).natAbs) z.gs : Nat) + boxV ds z.rs (k + 1)) := by omega
            rw [e10] at h2
            obtain ⟨xs, hx1, _⟩ := HRR.out.own
            exact ⟨RowN.stored (HRR.out.later SX) hcl (fun b hb => k5 b hb) (fun g hg => by have := (World.ownsRow.lt hx1 g hg).1; have := HBW.out; omega), ⟨e5, hz5.tight (by omega) HX9.out h2⟩, b5⟩
          clear hz4 hz3 hz1 SX k5 b5 e5 s5 HI R1 R2 Z1 Z2
          go_wp2_with fail
          go_roundg q
          case measure => omega
          case rel => exact ⟨k + 1, by go_num, by have := HIG.out; omega, HZ.out.1, n4, o4, t4, p4, x4, HZ.out.2⟩
        · have hd1 : decide ((k : Int) < (z.rn : Int)) = false := decide_eq_false (by omega)
          have ek : k = z.rn := by omega
          have HZ : Hid (NumC wr (.agg #[.bool n, .slice o l c, .int .i64 e]) (E + E) 2100 (supV ds z.cs z.rs z.gs z.rn)) := by
            have h := HI.out.1.num
            rw [ek] at h
            exact h
          have hd2 : decide (k < z.rn) = false := decide_eq_false h1
          have Y1 := kept HI.out.2 HX0.out.2.2
          have XB := to_call HX0.out.1 HI.out.2
          clear ek hk
          go_wp2_with (first
            | (refine wpList_load_row (by rfl) 42 _ (by rfl) Bs _ (by rfl) HI.out.1.row _ Tryz.underlying42 rfl 3 Tryz.infoN3 (by rfl) ?_)
            | (refine wpList_store_row (by rfl) 42 _ _ (by rfl) w w.heap.size (w.heap.size + 1) #[.bool n, .slice o l c, .int .i64 e] _ (by rfl) (by rfl) Y1 XB (by omega) 3 Tryz.infoN3 (by rfl) (by rfl) (oneN _ _ _ _ _) ?_; intro W9 e9 b9 s9 o9))
          refine bodyPost_ret (v := .agg #[.bool n, .slice o l c, .int .i64 e]) (res_num _ 4 (by kernel_rfl) _ _ (w.heap.size + 1) _ _ _ (by rfl) e9) rfl ⟨_, rfl, ?_, b9⟩
          exact (show NumC _ _ _ _ _ from HZ.out).cl (num_cl Y1) (fun b hb _ => o9 b hb)
end Go.Proofs.YtifdicafanglaaaGreat

namespace Go.Proofs.YtifdicafanglaaaGreat
open Go.ChangeShapes Go.WideShapes Go.ChangeAt Go.RowKit Go.Joins Go.Deep
set_option linter.unusedVariables false

theorem u64_boundsH {n : Int} (h : (Lit.int .u64 n).wf = true) : 0 ≤ n ∧ n < 18446744073709551616 := by
  have h2 : (decide ((0 : Int) ≤ n) && decide (n ≤ 18446744073709551615)) = true := h
  simp at h2
  omega
def numOfH : Value → Nat
  | .int _ n => n.toNat
  | _ => 0
/-- A list of words that came in. -/
theorem uintsB_open {P : Program} {H : Type} {enc : TypeId × Value → H} {W : World} {T E : TypeId} {fuel : Nat} {cs : List Value} {x : DataW H × List MemPlace}
    (hT : P.underlying T = some (.slice E)) (hE : P.underlying E = some (.int .u64)) (hc : P.cellsOf E = 1) (h : DataW.trod enc P W 0 (fun _ => true) true fuel T cs = some x) :
    ∃ ao len cap us, cs = [.slice ao len cap] ∧ RdUs W ao len cap us ∧ (ao = none → len = 0 ∧ cap = 0) ∧ len ≤ Rows.uptoBulk x.1 ∧ (∀ u ∈ us, u < 18446744073709551616) := by
  rcases open_slice1 hT hc h with ⟨hcs, _⟩ | ⟨a, len, cap, m, n, V, D, Pl, hcs, _, hl, hm, hmm, hxx, hx⟩
  · exact ⟨none, 0, 0, [], hcs, ⟨rfl, Nat.zero_le _, .inl rfl⟩, fun _ => ⟨rfl, rfl⟩, Nat.zero_le _, fun i hi => (by cases hi)⟩
  · simp only [if_true] at hmm
    subst hmm
    have key : ∀ j, j < m → W.cell? (a.add j) = some (.int .u64 ((numOfH (V j) : Nat) : Int)) ∧ numOfH (V j) < 18446744073709551616 := by
      intro j hj
      obtain ⟨h1, h2⟩ := hx j hj
      obtain ⟨k, e, _, hw⟩ := DataW.trod_int hE h2
      simp only [List.cons.injEq, and_true] at e
      have hbd := u64_boundsH hw
      rw [h1, e]
      show some (Value.int .u64 k) = some (.int .u64 ((k.toNat : Nat) : Int)) ∧ k.toNat < _
      exact ⟨by rw [show ((k.toNat : Nat) : Int) = k by omega], by omega⟩
    have hbk : len ≤ Rows.uptoBulk x.1 := by
      rw [hxx]
      have := (bulkJ_slice ((List.range len).map D) ((List.range (m - len)).map fun j => D (len + j))).1
      rw [List.length_map, List.length_range] at this
      exact this
    refine ⟨some a, len, m, (List.range len).map fun i => numOfH (V i), hcs, ⟨by simp, Nat.le_trans hl hm, ?_⟩, (fun h => by cases h), hbk, ?_⟩
    · by_cases h0 : len = 0
      · exact .inl h0
      · right
        obtain ⟨b, off, spot⟩ := a
        have hspot : spot = none := by simpa [Addr.add] using World.cell?_spot (hx 0 (by omega)).1
        subst hspot
        refine ⟨b, off, rfl, fun j hj => ?_⟩
        have g := (key j (by omega)).1
        rw [Addr.add_lit] at g
        rw [g]
        simp [hj]
    · intro u hu
      obtain ⟨j, hj, rfl⟩ := List.mem_map.1 hu
      exact (key j (by have := List.mem_range.1 hj; omega)).2
end Go.Proofs.YtifdicafanglaaaGreat
