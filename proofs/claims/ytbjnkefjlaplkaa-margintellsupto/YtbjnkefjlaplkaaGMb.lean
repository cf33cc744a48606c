import Derived.Test.YtbjnkefjlaplkaaGMa
import Derived.Test.YtbjnkefjlaplkaaGJk
import Derived.Test.YtbjnkefjlaplkaaJXd
import Derived.Test.YtbjnkefjlaplkaaNCc
import Derived.Test.YtbjnkefjlaplkaaJXs
import Derived.Test.YtbjnkefjlaplkaaGXb
import Derived.Test.YtbjnkefjlaplkaaJXu
namespace Go.Proofs.Ytbjnkefjlaplkaa
open Go.RowKit Go.Shelf
set_option linter.unusedVariables false
set_option linter.unusedSimpArgs false

set_option maxRecDepth 100000 in
set_option maxHeartbeats 3000000 in
/-- The document's Exact. -/
theorem exact_any (ao : Option Addr) (len cap : Nat) (us : List Nat) (E : Nat) (hE : E = 1074) (w : World) (h : RdUs w ao len cap us) (hlt : ∀ u ∈ us, u < 18446744073709551616) (hl : len ≤ 1050000) :
    Calls Try.prog 19 #[.slice ao len cap] w fun e w' => (∃ v, e = .returned (.tuple #[v, .bool (numsB us)]) ∧ (numsB us = true → RowN w' w.heap.size v E us)) ∧ Below w.heap.size w w' := by
  have HR : Hid _ := h
  have hln := h.length
  have HLT : Hid _ := hlt
  clear h hlt
  obtain ⟨nn, hnn⟩ : ∃ nn, numsB us = nn := ⟨_, rfl⟩
  have HE : Hid (nn = numsB us) := hnn.symm
  rw [hnn]
  have HLN : Hid (us.length = len) := hln
  clear hln hnn
  go_enter Try.func19, Try.ntmps19
  go_wp2_with fail
  go_loopg [4, 5] len (fun g v iv wx => ∃ k : Nat, iv = .int .i64 k ∧ k + g = len ∧ Hid (RowN wx w.heap.size v E (us.take k)) ∧ Hid (Below w.heap.size w wx) ∧ Hid (nn = numsB (us.drop k)))
  case atStart => exact ⟨0, rfl, by omega, RowN.nil _ _ _, Below.refl _ _, HE.out⟩
  case round =>
    obtain ⟨k, rfl, hk, HO, HB, HD⟩ := hrel
    clear HE
    have hsr := HB.out.size
    by_cases hlt : k < len
    · have hd : decide ((k : Int) < (len : Int)) = true := decide_eq_true (by omega)
      obtain ⟨g, rfl⟩ : ∃ g, gk = g + 1 := ⟨gk - 1, by omega⟩
      have HIG : Hid _ := hk
      rcases (HR.out.later HB.out).cells with h0 | ⟨ab, aoff, rfl, hca⟩
      · omega
      have ga := hca k hlt
      have hkl : k < us.length := by rw [HLN.out]; exact hlt
      have hux := HLT.out _ (getD_mem (us := us) (j := k) hkl)
      have HTS : Hid _ := take_snocJ (us := us) (k := k) hkl
      have HDS : Hid _ := numsB_drop us hkl
      obtain ⟨x, hx⟩ : ∃ x, us[k]?.getD 0 = x := ⟨_, rfl⟩
      rw [hx] at ga hux HTS HDS
      have HOF : Hid _ := ofC_any x hux wr E hE
      clear hca hx hk hkl
      go_upto_region 6 with (first
        | (go_at_call 23; refine Calls.mono HOF.out ?_; rintro e w1 ⟨v1, rfl, ⟨z1, hz1, hv1⟩, b1⟩; obtain ⟨n1, m1, e1, ⟨o1, l1, c1, xs1, rfl, hr1⟩, hr2⟩ := id hz1; clear hr1 hr2))
      have N1 : Hid (NumC w1 (.agg #[.bool n1, .slice o1 l1 c1, .int .i64 e1]) E 1024 z1 ∧ (Fin x → z1 = fval x)) := ⟨hz1, hv1⟩
      clear hz1 hv1 HOF
      have B1 : Hid (Below wr.heap.size wr w1) := b1
      have s1 := b1.size
      clear b1
      by_cases hf : Fin x
      · have hfd : decide (Fin x) = true := decide_eq_true hf
        rw [hfd] at HDS ⊢
        have HF : Hid _ := hf
        clear hf hfd
        obtain ⟨xs, hxo, hxj⟩ := (HO.out.later B1.out).own
        have HXO : Hid _ := hxo
        have HXJ : Hid _ := hxj
        have hxl : (us.take k).length = k := by rw [List.length_take, HLN.out]; omega
        rw [hxl] at hxo
        have HX2 : Hid _ := hxo
        clear hxo hxj
        have HC2 : Hid (∀ g, u4.ownBlock = some g → Cl noU ((w1.alloc (.cells #[.bool n1, .slice o1 l1 c1, .int .i64 e1] 60)).alloc (.cells #[.bool n1, .slice o1 l1 c1, .int .i64 e1] 60)) g) := fun g hg => ((HO.out.cl g hg).later B1.out).later (((Below.refl _ w1).alloc (Nat.le_refl _) _).alloc (by simp only [alloc_size]; omega) _)
        go_wp2_with (first
          | (at_builtin; refine append_clJ noU Try.underlying50 Try.infoNumJ rfl (by decide) (by decide) zero_noU _ (by rfl) _ _ (by rfl) w.heap.size _ k xs (by rfl) (World.ownsRow.alloc (World.ownsRow.alloc HX2.out _) _) HC2.out ⟨w1.heap.size + 1, 0, none⟩ 1 1 [.bool n1, .slice o1 l1 c1, .int .i64 e1] (by rfl) (by decide) rfl (news_threeJ (heap_at _ _ (w1.heap.size + 1) (by simp only [alloc_size]))) (three_one n1 o1 l1 c1 e1) (three_noU n1 o1 l1 c1 e1) (by omega) (by simp only [alloc_size]; omega) ?_; intro v5 w5 o5 g5 cl5))
        have A1 : Below w1.heap.size w1 ((w1.alloc (.cells #[.bool n1, .slice o1 l1 c1, .int .i64 e1] 60)).alloc (.cells #[.bool n1, .slice o1 l1 c1, .int .i64 e1] 60)) := ((Below.refl _ w1).alloc (Nat.le_refl _) _).alloc (by simp only [alloc_size]; omega) _
        have R5 : Hid (RowN w5 w.heap.size v5 E (us.take k ++ [x])) := by
          have hz := N1.out.2 HF.out
          have h3 := (HO.out.later B1.out).later A1
          obtain ⟨xs', hx', hj'⟩ := h3.own
          refine RowN.push (xs := xs) (by rw [hxl]; exact World.ownsRow.alloc (World.ownsRow.alloc HX2.out _) _) (fun j hj => ?_) HC2.out (hz ▸ N1.out.1.later A1) (by rw [hxl]; exact o5) g5 cl5
          obtain ⟨n2, o2, l2, c2, e2, a1, a2, a3, a4⟩ := HXJ.out j hj
          exact ⟨n2, o2, l2, c2, e2, a1, a2, a3, a4.later A1⟩
        have B5 : Hid (Below w.heap.size w w5) := (to_call (to_call HB.out B1.out) A1).trans (g5.below (fun k hk => (World.ownsRow.lt HX2.out k hk).1) (by simp only [alloc_size]; omega))
        clear o5 g5 cl5 A1 HC2 HX2 HXO HXJ
        go_roundg g
        case measure => omega
        case rel => exact ⟨k + 1, by go_num, by have := HIG.out; omega, by unfold Hid; rw [HTS.out]; exact R5.out, B5, by unfold Hid; rw [HD.out, HDS.out, Bool.true_and]⟩
      · have hfd : decide (Fin x) = false := decide_eq_false hf
        rw [hfd] at HDS ⊢
        have HN0 : Hid (nn = false) := by unfold Hid; rw [HD.out, HDS.out, Bool.false_and]
        have HB9 : Hid (Below w.heap.size w (w1.alloc (.cells #[.bool n1, .slice o1 l1 c1, .int .i64 e1] 60))) := (to_call HB.out B1.out).alloc (to_call HB.out B1.out).size _
        clear hf hfd
        go_wp2_with fail
        refine bodyPost_ret (results_tmp2 rfl _ _ _) rfl ?_
        exact ⟨⟨_, by rw [HN0.out]; rfl, fun h => by rw [HN0.out] at h; cases h⟩, HB9.out⟩
    · have hd : decide ((k : Int) < (len : Int)) = false := decide_eq_false (by omega)
      have HO2 : Hid (RowN wr w.heap.size u4 E us) := by
        have := HO.out
        rw [List.take_of_length_le (by rw [HLN.out]; omega)] at this
        exact this
      have HN1 : Hid (nn = true) := by unfold Hid; rw [HD.out, List.drop_eq_nil_of_le (by rw [HLN.out]; omega)]; rfl
      go_wp2_with fail
      refine bodyPost_ret (results_tmp2 rfl _ _ _) rfl ?_
      exact ⟨⟨_, by rw [HN1.out]; rfl, fun _ => HO2.out⟩, HB.out⟩
set_option maxRecDepth 100000 in
set_option maxHeartbeats 4000000 in
/-- The document's Weighs. -/
theorem weighs_any (va vb : Value) (xs ys : List Nat) (m B1 B2 E : Nat) (hE : E = 1074) (w : World) (ha : RowN w B1 va E xs) (hb : RowN w B2 vb E ys) (hlx : m ≤ xs.length) (hlm : xs.length ≤ 1000) (hly : ys.length = m) (hn : m ≤ 256) :
    Calls Try.prog 28 #[va, vb] w fun e w' => ∃ v, e = .returned v ∧ NumC w' v (E + E) (2048 + m) (dotV xs ys m) ∧ Below w.heap.size w w' := by
  obtain ⟨aa, ac, hva⟩ := ha.form
  obtain ⟨ba, bc, hvb⟩ := hb.form
  obtain ⟨la, hla⟩ : ∃ la, xs.length = la := ⟨_, rfl⟩
  rw [hla] at hva hlx hlm
  rw [hly] at hvb
  subst hva hvb
  have HR : Hid (∀ W', Below w.heap.size w W' → RowN W' B1 (.slice aa la ac) E xs ∧ RowN W' B2 (.slice ba m bc) E ys) := fun W' h => ⟨ha.later h, hb.later h⟩
  have HS : Hid (E ≤ 3000 ∧ m ≤ 256) := ⟨by omega, hn⟩
  have HL : Hid (xs.length = la ∧ ys.length = m) := ⟨hla, hly⟩
  clear ha hb hly hE hla
  have X0 : Below w.heap.size w ((w.alloc (.cells #[.bool false, .slice none 0 0, .int .i64 0] 60)).alloc (.cells #[.bool false, .slice none 0 0, .int .i64 0] 60)) := ((Below.refl _ w).alloc (Nat.le_refl _) _).alloc (by simp only [alloc_size]; omega) _
  have Y0 : ((w.alloc (.cells #[.bool false, .slice none 0 0, .int .i64 0] 60)).alloc (.cells #[.bool false, .slice none 0 0, .int .i64 0] 60)).heap[w.heap.size]? = some (.cells #[.bool false, .slice none 0 0, .int .i64 0] 60) := alloc_kept (heap_alloc_new w _) _
  have Y1 : ((w.alloc (.cells #[.bool false, .slice none 0 0, .int .i64 0] 60)).alloc (.cells #[.bool false, .slice none 0 0, .int .i64 0] 60)).heap[w.heap.size + 1]? = some (.cells #[.bool false, .slice none 0 0, .int .i64 0] 60) := heap_at _ _ (w.heap.size + 1) (by simp only [alloc_size])
  go_enter Try.func28, Try.ntmps28
  go_upto_region 2 with fail
  obtain ⟨X, hX⟩ : ∃ X, ((w.alloc (.cells #[.bool false, .slice none 0 0, .int .i64 0] 60)).alloc (.cells #[.bool false, .slice none 0 0, .int .i64 0] 60)) = X := ⟨_, rfl⟩
  rw [hX] at X0 Y0 Y1 ⊢
  have P0 : Hid (BxN X (w.heap.size + 1) (E + E) (2048 + (((0 : Nat) : Int) : Int)) (dotV xs ys 0) false none 0 0 0 ∧ Below w.heap.size w X ∧ X.heap[w.heap.size]? = some (.cells #[.bool false, .slice none 0 0, .int .i64 0] 60)) := ⟨⟨Y1, NumC.zeroJ _ _ _ (by omega)⟩, X0, Y0⟩
  clear hX X0 Y0 Y1
  go_wp2_with fail
  go_loopg [6] m (fun q v6 wx => ∃ (k : Nat), v6 = .int .i64 k ∧ k + q = m ∧ ∃ (n : Bool) (o : Option Addr) (l c : Nat) (e : Int), Hid (BxN wx (w.heap.size + 1) (E + E) (2048 + (k : Int)) (dotV xs ys k) n o l c e ∧ Below w.heap.size w wx ∧ wx.heap[w.heap.size]? = some (.cells #[.bool false, .slice none 0 0, .int .i64 0] 60)))
  case atStart => exact ⟨0, rfl, by omega, false, none, 0, 0, 0, P0⟩
  case round =>
    obtain ⟨k, rfl, hk, n, o, l, c, e, HI⟩ := hrel
    clear P0
    by_cases h1 : k < m
    · have hd1 : decide ((k : Int) < (m : Int)) = true := decide_eq_true (by omega)
      obtain ⟨q, rfl⟩ : ∃ q, gk = q + 1 := ⟨gk - 1, by omega⟩
      have HIG : Hid _ := hk
      clear hk
      go_upto_region 5 with fail
      obtain ⟨hRa, hRb⟩ := HR.out wr HI.out.2.1
      obtain ⟨ga, qa, an, ao, al, ac', ae, va', ra, za⟩ := RowN.range hRa (k := k) (by rw [HL.out.1]; omega)
      obtain ⟨gb, qb, bn, bo, bl0, bc', be, vb', rb, zb⟩ := RowN.range hRb (k := k) (by rw [HL.out.2]; exact h1)
      rw [HL.out.1] at va'
      rw [HL.out.2] at vb'
      have R1 : Hid (wr.rangeAt ga (k * 3) [.bool an, .slice ao al ac', .int .i64 ae]) := ra
      have R2 : Hid (wr.rangeAt gb (k * 3) [.bool bn, .slice bo bl0 bc', .int .i64 be]) := rb
      have Z1 : Hid (NumC wr (.agg #[.bool an, .slice ao al ac', .int .i64 ae]) E 1024 (fval (xs[k]?.getD 0))) := za
      have Z2 : Hid (NumC wr (.agg #[.bool bn, .slice bo bl0 bc', .int .i64 be]) E 1024 (fval (ys[k]?.getD 0))) := zb
      have haa : aa = some ⟨ga, 0, none⟩ := by injection va'
      have hba : ba = some ⟨gb, 0, none⟩ := by injection vb'
      have hk0 : (k : Int) < (m : Int) := by omega
      have hk9 : (k : Int) < (la : Int) := by omega
      subst haa hba
      clear ra rb za zb va' vb' hRa hRb hd1
      have SX : Below wr.heap.size wr wr.drew := (Below.refl _ _).drew
      refine wp_region_noPanic ?_
      refine wp_region_P (S := (fun V => Below wr.heap.size wr V)) (s := 11) (by kernel_rfl) ?_
      refine takeP 14 (i := 0) (v := .agg #[.bool n, .slice o l c, .int .i64 e]) rfl rfl (by kernel_rfl) (by kernel_rfl) (by kernel_rfl) (by kernel_rfl) rfl (by kernel_rfl) (fun _ _ _ h => h) (Or.inl ⟨by kernel_rfl, fun w' hSw => ex_loadRN _ 60 _ rfl (w.heap.size + 1) (by kernel_rfl) w' _ (kept hSw HI.out.1.row) _ Try.underlying60 rfl 3 Try.infoN3 rfl⟩) SX ?_
      try simp only [Act.put, List.setIfInBounds_toArray, List.set_cons_zero, List.set_cons_succ]
      refine takeP 15 (i := 1) (v := ?_) rfl rfl (by kernel_rfl) (by kernel_rfl) (by kernel_rfl) (by kernel_rfl) rfl (by kernel_rfl) (fun _ _ _ h => h) (Or.inl ⟨by kernel_rfl, ?_⟩) SX ?_
      rotate_left
      · intro w' hSw; go_simp; try with_reducible rfl
      try simp only [Act.put, List.setIfInBounds_toArray, List.set_cons_zero, List.set_cons_succ]
      refine takeP 16 (i := 2) (v := ?_) rfl rfl (by kernel_rfl) (by kernel_rfl) (by kernel_rfl) (by kernel_rfl) rfl (by kernel_rfl) (fun _ _ _ h => h) (Or.inl ⟨by kernel_rfl, ?_⟩) SX ?_
      rotate_left
      · intro w' hSw; go_simp; try with_reducible rfl
      try simp only [Act.put, List.setIfInBounds_toArray, List.set_cons_zero, List.set_cons_succ]
      refine takeP 17 (i := 3) (v := ?_) rfl rfl (by kernel_rfl) (by kernel_rfl) (by kernel_rfl) (by kernel_rfl) rfl (by kernel_rfl) (fun _ _ _ h => h) (Or.inl ⟨by kernel_rfl, ?_⟩) SX ?_
      rotate_left
      · intro w' hSw; go_simp; try with_reducible rfl
      try simp only [Act.put, List.setIfInBounds_toArray, List.set_cons_zero, List.set_cons_succ]
      refine takeP 18 (i := 4) (v := .agg #[.bool an, .slice ao al ac', .int .i64 ae]) rfl rfl (by kernel_rfl) (by kernel_rfl) (by kernel_rfl) (by kernel_rfl) rfl (by kernel_rfl) (fun _ _ _ h => h) (yieldsIf_load_mid (by kernel_rfl) 60 _ rfl ga (k * 3) (by kernel_rfl) #[.bool an, .slice ao al ac', .int .i64 ae].toList _ (fun V' hS => (range_later R1.out hS : V'.rangeAt ga (k * 3) [.bool an, .slice ao al ac', .int .i64 ae])) Try.underlying60 rfl (by kernel_rfl)) SX ?_
      try simp only [Act.put, List.setIfInBounds_toArray, List.set_cons_zero, List.set_cons_succ]
      refine takeP 19 (i := 5) (v := ?_) rfl rfl (by kernel_rfl) (by kernel_rfl) (by kernel_rfl) (by kernel_rfl) rfl (by kernel_rfl) (fun _ _ _ h => h) (Or.inl ⟨by kernel_rfl, ?_⟩) SX ?_
      rotate_left
      · intro w' hSw; go_simp; try with_reducible rfl
      try simp only [Act.put, List.setIfInBounds_toArray, List.set_cons_zero, List.set_cons_succ]
      refine takeP 20 (i := 6) (v := ?_) rfl rfl (by kernel_rfl) (by kernel_rfl) (by kernel_rfl) (by kernel_rfl) rfl (by kernel_rfl) (fun _ _ _ h => h) (Or.inl ⟨by kernel_rfl, ?_⟩) SX ?_
      rotate_left
      · intro w' hSw; go_simp; try with_reducible rfl
      try simp only [Act.put, List.setIfInBounds_toArray, List.set_cons_zero, List.set_cons_succ]
      refine takeP 21 (i := 7) (v := ?_) rfl rfl (by kernel_rfl) (by kernel_rfl) (by kernel_rfl) (by kernel_rfl) rfl (by kernel_rfl) (fun _ _ _ h => h) (Or.inl ⟨by kernel_rfl, ?_⟩) SX ?_
      rotate_left
      · intro w' hSw; go_simp; try with_reducible rfl
      try simp only [Act.put, List.setIfInBounds_toArray, List.set_cons_zero, List.set_cons_succ]
      refine takeP 22 (i := 8) (v := .agg #[.bool bn, .slice bo bl0 bc', .int .i64 be]) rfl rfl (by kernel_rfl) (by kernel_rfl) (by kernel_rfl) (by kernel_rfl) rfl (by kernel_rfl) (fun _ _ _ h => h) (yieldsIf_load_mid (by kernel_rfl) 60 _ rfl gb (k * 3) (by kernel_rfl) #[.bool bn, .slice bo bl0 bc', .int .i64 be].toList _ (fun V' hS => (range_later R2.out hS : V'.rangeAt gb (k * 3) [.bool bn, .slice bo bl0 bc', .int .i64 be])) Try.underlying60 rfl (by kernel_rfl)) SX ?_
      try simp only [Act.put, List.setIfInBounds_toArray, List.set_cons_zero, List.set_cons_succ]
      refine wpAnyP_ready (rs := [9]) (by kernel_rfl) (by simp) ?_
      refine consP _ rfl (hopCd 23 rfl (by kernel_rfl) rfl (by kernel_rfl) (Calls.mono (timesC_any _ _ E 1024 1024 _ _ _ (NumC.later Z1.out SX).toZ (NumC.later Z2.out SX).toZ (by have := HS.out; omega) (by omega) (by omega)) ?_)) AllReadyP.nil
      rintro e V1 ⟨v1, rfl, hz1, b1⟩
      obtain ⟨n1, o1, t1, p1, x1, hv1⟩ := hz1.form
      subst hv1
      have SX : Below wr.heap.size wr V1 := to_call SX b1
      clear b1
      refine ⟨_, rfl, SX, ?_⟩
      try simp only [Act.put, List.setIfInBounds_toArray, List.set_cons_zero, List.set_cons_succ]
      refine wpAnyP_ready (rs := [10]) (by kernel_rfl) (by simp) ?_
      refine consP _ rfl (hopCd 24 rfl (by kernel_rfl) rfl (by kernel_rfl) (Calls.mono (plusC_any _ _ (E + E) (2048 + k) _ _ _ (NumC.later HI.out.1.num SX) (hz1.mono (by omega)) (by have := HS.out; omega) (by have := HS.out; omega)) ?_)) AllReadyP.nil
      rintro e V2 ⟨v2, rfl, hz2, b2⟩
      obtain ⟨n2, o2, t2, p2, x2, hv2⟩ := hz2.form
      subst hv2
      have SX : Below wr.heap.size wr V2 := to_call SX b2
      clear b2 hz1
      refine ⟨_, rfl, SX, ?_⟩
      try simp only [Act.put, List.setIfInBounds_toArray, List.set_cons_zero, List.set_cons_succ]
      refine wpAnyP_ready (rs := [11]) (by kernel_rfl) (by simp) ?_
      refine consPs _ rfl (by kernel_rfl) (hopL rfl (wpList_store_row (by rfl) 60 _ _ (by rfl) w w.heap.size (w.heap.size + 1) #[.bool n2, .slice o2 t2 p2, .int .i64 x2] _ (by kernel_rfl) (by kernel_rfl) (kept SX HI.out.1.row) (to_call HI.out.2.1 SX) (by omega) 3 Try.infoN3 rfl rfl (oneN _ _ _ _ _) fun V3 e3 b3 s3 k3 => ?_)) AllReadyP.nil
      refine ⟨trivial, ?_⟩
      try simp only [Act.put, List.setIfInBounds_toArray, List.set_cons_zero, List.set_cons_succ]
      refine wpAnyP_done (by kernel_rfl) ?_ _
      refine NoPanic.normal ?_
      try simp only [Act.put, List.setIfInBounds_toArray, List.set_cons_zero, List.set_cons_succ]
      have HZ : Hid (BxN V3 (w.heap.size + 1) (E + E) (2048 + (((k + 1 : Nat) : Int) : Int)) (dotV xs ys (k + 1)) n2 o2 t2 p2 x2 ∧ Below w.heap.size w V3 ∧ V3.heap[w.heap.size]? = some (.cells #[.bool false, .slice none 0 0, .int .i64 0] 60)) := by
        have hz3 := hz2.cl (num_cl (kept SX HI.out.1.row)) (fun b hb _ => k3 b hb)
        exact ⟨⟨e3, hz3.mono (by rw [Int.natCast_add]; omega)⟩, b3, by rw [k3 _ (by omega)]; exact kept SX HI.out.2.2⟩
      clear hz2 SX k3 b3 e3 s3 R1 R2 Z1 Z2 HI
      go_wp2_with fail
      go_roundg q
      case measure => omega
      case rel => exact ⟨k + 1, by go_num, by have := HIG.out; omega, n2, o2, t2, p2, x2, HZ⟩
    · have hd1 : decide ((k : Int) < (m : Int)) = false := decide_eq_false (by omega)
      have hka : k = m := by omega
      have HZ : Hid (NumC wr (.agg #[.bool n, .slice o l c, .int .i64 e]) (E + E) (2048 + m) (dotV xs ys m)) := by
        have h := HI.out.1.num
        rw [hka] at h
        exact h
      have hd2 : decide (k < m) = false := decide_eq_false h1
      clear hka hk
      go_wp2_with (first
        | (refine wpList_load_row (by rfl) 60 _ (by rfl) (w.heap.size + 1) _ (by rfl) HI.out.1.row _ Try.underlying60 rfl 3 Try.infoN3 (by rfl) ?_)
        | (refine wpList_store_row (by rfl) 60 _ _ (by rfl) w w.heap.size w.heap.size #[.bool n, .slice o l c, .int .i64 e] _ (by rfl) (by rfl) HI.out.2.2 HI.out.2.1 (Nat.le_refl _) 3 Try.infoN3 (by rfl) (by rfl) (oneN _ _ _ _ _) ?_; intro W9 e9 b9 s9 o9))
      refine bodyPost_ret (v := .agg #[.bool n, .slice o l c, .int .i64 e]) (res_num _ 4 (by kernel_rfl) _ _ w.heap.size _ _ _ (by rfl) e9) rfl ⟨_, rfl, ?_, b9⟩
      exact (show NumC _ _ _ _ _ from HZ.out).cl (num_cl HI.out.2.2) (fun b hb _ => o9 b hb)
end Go.Proofs.Ytbjnkefjlaplkaa

namespace Go.Proofs.Ytbjnkefjlaplkaa
open Go.RowKit Go.Shelf
set_option linter.unusedVariables false
set_option linter.unusedSimpArgs false

set_option maxRecDepth 100000 in
set_option maxHeartbeats 2000000 in
/-- The law's signed. -/
theorem signed_any (v u : Value) (s : Nat) (T x y : Int) (w : World) (hx : NumC w v s T x) (hy : NumC w u s T y) (hs : s ≤ 20000) (hT : 0 ≤ T ∧ T ≤ 20000) :
    Calls Try.prog 26 #[v, u] w fun e' w' => ∃ v', e' = .returned v' ∧ NumC w' v' s T (if x < 0 then -y else y) ∧ Below w.heap.size w w' := by
  obtain ⟨r, hr⟩ : ∃ r, (if x < 0 then -y else y) = r := ⟨_, rfl⟩
  have HRR : Hid ((if x < 0 then -y else y) = r) := hr
  rw [hr]
  clear hr
  have HX : Hid (NumC w v s T x) := hx
  have HY : Hid (NumC w u s T y) := hy
  obtain ⟨nx, ax, lx, cx, ex, rfl⟩ := hx.form
  obtain ⟨ny, ay, ly, cy, ey, rfl⟩ := hy.form
  have hb : Below w.heap.size w (((w.alloc (.cells #[.bool nx, .slice ax lx cx, .int .i64 ex] 60)).alloc (.cells #[.bool ny, .slice ay ly cy, .int .i64 ey] 60)).alloc (.cells #[.bool false, .slice none 0 0, .int .i64 0] 60)) := (((Below.refl _ w).alloc (Nat.le_refl _) _).alloc (by simp only [alloc_size]; omega) _).alloc (by simp only [alloc_size]; omega) _
  have h0 : (((w.alloc (.cells #[.bool nx, .slice ax lx cx, .int .i64 ex] 60)).alloc (.cells #[.bool ny, .slice ay ly cy, .int .i64 ey] 60)).alloc (.cells #[.bool false, .slice none 0 0, .int .i64 0] 60)).heap[w.heap.size]? = some (.cells #[.bool nx, .slice ax lx cx, .int .i64 ex] 60) := alloc_kept (alloc_kept (heap_alloc_new w _) _) _
  have h1 : (((w.alloc (.cells #[.bool nx, .slice ax lx cx, .int .i64 ex] 60)).alloc (.cells #[.bool ny, .slice ay ly cy, .int .i64 ey] 60)).alloc (.cells #[.bool false, .slice none 0 0, .int .i64 0] 60)).heap[w.heap.size + 1]? = some (.cells #[.bool ny, .slice ay ly cy, .int .i64 ey] 60) := alloc_kept (heap_at _ _ (w.heap.size + 1) (by simp only [alloc_size])) _
  have h2 : (((w.alloc (.cells #[.bool nx, .slice ax lx cx, .int .i64 ex] 60)).alloc (.cells #[.bool ny, .slice ay ly cy, .int .i64 ey] 60)).alloc (.cells #[.bool false, .slice none 0 0, .int .i64 0] 60)).heap[w.heap.size + 1 + 1]? = some (.cells #[.bool false, .slice none 0 0, .int .i64 0] 60) := heap_at _ _ (w.heap.size + 1 + 1) (by simp only [alloc_size])
  clear hx hy
  go_enter Try.func26, Try.ntmps26
  go_upto_region 1 with fail
  obtain ⟨X, hX⟩ : ∃ X, (((w.alloc (.cells #[.bool nx, .slice ax lx cx, .int .i64 ex] 60)).alloc (.cells #[.bool ny, .slice ay ly cy, .int .i64 ey] 60)).alloc (.cells #[.bool false, .slice none 0 0, .int .i64 0] 60)) = X := ⟨_, rfl⟩
  rw [hX] at hb h0 h1 h2 ⊢
  have P0 : Hid (Below w.heap.size w X ∧ X.heap[w.heap.size]? = some (.cells #[.bool nx, .slice ax lx cx, .int .i64 ex] 60) ∧ X.heap[w.heap.size + 1]? = some (.cells #[.bool ny, .slice ay ly cy, .int .i64 ey] 60) ∧ X.heap[w.heap.size + 1 + 1]? = some (.cells #[.bool false, .slice none 0 0, .int .i64 0] 60)) := ⟨hb, h0, h1, h2⟩
  clear hX hb h0 h1 h2
  obtain ⟨sg, hsg⟩ : ∃ sg, sgi x = sg := ⟨_, rfl⟩
  have HSG : Hid (∀ W, Below w.heap.size w W → Calls Try.prog 37 #[.agg #[.bool nx, .slice ax lx cx, .int .i64 ex]] W fun e' w' => e' = .returned (.int .i64 sg) ∧ Below W.heap.size W w') := fun W hb => hsg ▸ signZ_any _ s T x W (NumC.later HX.out hb).toZ
  have hsx : sg < 0 ↔ x < 0 := by
    rw [← hsg]; unfold sgi; split
    · omega
    · split <;> omega
  have HSX : Hid (sg < 0 ↔ x < 0) := hsx
  clear hsg hsx
  go_wp2_with (first | (refine wpList_load_row (by rfl) 60 _ (by rfl) w.heap.size _ (by rfl) P0.out.2.1 _ Try.underlying60 rfl 3 Try.infoN3 (by rfl) ?_))
  refine Calls.mono (HSG.out _ P0.out.1) ?_
  rintro e w1 ⟨rfl, b1⟩
  have P1 : Hid (Below w.heap.size w w1 ∧ w1.heap[w.heap.size + 1]? = some (.cells #[.bool ny, .slice ay ly cy, .int .i64 ey] 60) ∧ w1.heap[w.heap.size + 1 + 1]? = some (.cells #[.bool false, .slice none 0 0, .int .i64 0] 60)) := ⟨to_call P0.out.1 b1, kept b1 P0.out.2.2.1, kept b1 P0.out.2.2.2⟩
  clear b1 P0 HSG
  by_cases hc : x < 0
  · have hd : sg < 0 := HSX.out.2 hc
    have hd2 : decide (sg < 0) = true := decide_eq_true hd
    have HV : Hid (r = -y) := HRR.out.symm.trans (if_pos hc)
    clear hc
    go_wp2_with (first | (refine wpList_load_row (by rfl) 60 _ (by rfl) (w.heap.size + 1) _ (by rfl) P1.out.2.1 _ Try.underlying60 rfl 3 Try.infoN3 (by rfl) ?_))
    refine Calls.mono (turnedC_any _ s T y _ (NumC.later HY.out P1.out.1)) ?_
    rintro e w2 ⟨v2, rfl, hz2, b2⟩
    obtain ⟨n2, o2, l2, c2, e2, rfl⟩ := hz2.form
    have HZ2 : Hid (NumC w2 (.agg #[.bool n2, .slice o2 l2 c2, .int .i64 e2]) s T (-y)) := hz2
    have P2 : Hid (Below w.heap.size w w2 ∧ w2.heap[w.heap.size + 1 + 1]? = some (.cells #[.bool false, .slice none 0 0, .int .i64 0] 60)) := ⟨to_call P1.out.1 b2, kept b2 P1.out.2.2⟩
    clear hz2 b2 P1
    go_wp2_with (first | (refine wpList_store_row (by rfl) 60 _ _ (by rfl) w w.heap.size (w.heap.size + 1 + 1) #[.bool n2, .slice o2 l2 c2, .int .i64 e2] _ (by rfl) (by rfl) P2.out.2 P2.out.1 (by omega) 3 Try.infoN3 (by rfl) (by rfl) (oneN _ _ _ _ _) ?_; intro W9 e9 b9 s9 o9))
    refine bodyPost_ret (v := .agg #[.bool n2, .slice o2 l2 c2, .int .i64 e2]) (res_num _ 4 (by kernel_rfl) _ _ (w.heap.size + 1 + 1) _ _ _ (by rfl) e9) rfl ⟨_, rfl, ?_, b9⟩
    rw [HV.out]
    exact (show NumC _ _ _ _ _ from HZ2.out).cl (num_cl P2.out.2) (fun b hb _ => o9 b hb)
  · have hd : ¬ sg < 0 := fun h => hc (HSX.out.1 h)
    have hd2 : decide (sg < 0) = false := decide_eq_false hd
    have HV : Hid (r = y) := HRR.out.symm.trans (if_neg hc)
    clear hc
    go_wp2_with (first | (refine wpList_load_row (by rfl) 60 _ (by rfl) (w.heap.size + 1) _ (by rfl) P1.out.2.1 _ Try.underlying60 rfl 3 Try.infoN3 (by rfl) ?_) | (refine wpList_store_row (by rfl) 60 _ _ (by rfl) w w.heap.size (w.heap.size + 1 + 1) #[.bool ny, .slice ay ly cy, .int .i64 ey] _ (by rfl) (by rfl) P1.out.2.2 P1.out.1 (by omega) 3 Try.infoN3 (by rfl) (by rfl) (oneN _ _ _ _ _) ?_; intro W9 e9 b9 s9 o9))
    refine bodyPost_ret (v := .agg #[.bool ny, .slice ay ly cy, .int .i64 ey]) (res_num _ 4 (by kernel_rfl) _ _ (w.heap.size + 1 + 1) _ _ _ (by rfl) e9) rfl ⟨_, rfl, ?_, b9⟩
    rw [HV.out]
    exact (show NumC _ _ _ _ _ from NumC.later HY.out P1.out.1).cl (num_cl P1.out.2.2) (fun b hb _ => o9 b hb)
end Go.Proofs.Ytbjnkefjlaplkaa

namespace Go.Proofs.Ytbjnkefjlaplkaa
open Go.RowKit Go.Shelf
set_option linter.unusedVariables false
set_option linter.unusedSimpArgs false

theorem rdU_own {W : World} {base : Nat} {v : Value} {us : List Nat} (h : W.ownsRow base 36 1 v us.length (uJ us)) : ∃ ao c, v = .slice ao us.length c ∧ RdUs W ao us.length c us := by
  obtain ⟨ao, cap, h1, h2, h3⟩ := owns_slice h
  refine ⟨ao, cap, h1, rfl, h2, ?_⟩
  rcases h3 with h0 | ⟨g, rfl, hc⟩
  · exact .inl h0
  · refine .inr ⟨g, 0, rfl, fun j hj => ?_⟩
    rw [Nat.zero_add, hc j hj]
    unfold uJ
    rw [List.getElem?_map, List.getElem?_eq_getElem hj]
    rfl
theorem finsB {us : List Nat} (h : ∀ u ∈ us, Fin u) (j : Nat) : Fin (us[j]?.getD 0) := by
  by_cases hj : j < us.length
  · exact h _ (getD_mem hj)
  · rw [List.getElem?_eq_none (by omega)]; decide
theorem ltsB {us : List Nat} (h : ∀ u ∈ us, u < 18446744073709551616) (j : Nat) : us[j]?.getD 0 < 18446744073709551616 := by
  by_cases hj : j < us.length
  · exact h _ (getD_mem hj)
  · rw [List.getElem?_eq_none (by omega)]; decide
theorem fval_oneM {E : Nat} (hE : E = 1074) : fval 4607182418800017408 = ((2 ^ E : Nat) : Int) := by
  subst hE
  exact of_decide_eq_true (by kernel_rfl)
/-- A weight times r with its sign is its size times r. -/
theorem sign_mul (u : Nat) (r : Int) : fval u * (if fval u < 0 then -r else r) = fval (frung u) * r := by
  rw [fval_frung]
  have h := fval_absJ u
  by_cases hc : fval u < 0
  · rw [if_pos hc]
    have e : (rmag (frung u) : Int) = -fval u := by omega
    rw [e, Int.mul_neg, Int.neg_mul]
  · rw [if_neg hc]
    have e : (rmag (frung u) : Int) = fval u := by omega
    rw [e]
/-- The sum behind i coordinates and k columns. -/
def leI (us cs rs : List Nat) (gs : List (List Nat)) (n E i k : Nat) : Int := fval (us[n]?.getD 0) * ((2 ^ E : Nat) : Int) + dotV us cs i - boxV us rs i - (sgK us gs n k : Nat)
theorem leI_step {us cs rs : List Nat} {gs : List (List Nat)} {n E i k : Nat} : leI us cs rs gs n E i k + fval (us[i]?.getD 0) * (fval (cs[i]?.getD 0) - (if fval (us[i]?.getD 0) < 0 then -(fval (rs[i]?.getD 0)) else fval (rs[i]?.getD 0))) = leI us cs rs gs n E (i + 1) k := by
  rw [Int.mul_sub, sign_mul]
  unfold leI
  rw [show dotV us cs (i + 1) = dotV us cs i + fval (us[i]?.getD 0) * fval (cs[i]?.getD 0) from rfl, show boxV us rs (i + 1) = boxV us rs i + fval (frung (us[i]?.getD 0)) * fval (rs[i]?.getD 0) from rfl]
  omega
theorem leI_col {us cs rs : List Nat} {gs : List (List Nat)} {n E i k : Nat} : leI us cs rs gs n E i k - ((dotV us (gs[k]?.getD []) n).natAbs : Int) = leI us cs rs gs n E i (k + 1) := by
  unfold leI
  rw [show sgK us gs n (k + 1) = sgK us gs n k + (dotV us (gs[k]?.getD []) n).natAbs from rfl, Int.natCast_add]
  omega
theorem leI_bound {us cs rs : List Nat} {gs : List (List Nat)} {n E X i k : Nat} (hE : E = 1074) (hX : X = 4248) (hd : ∀ j : Nat, Fin (us[j]?.getD 0)) (hc : ∀ j : Nat, Fin (cs[j]?.getD 0)) (hr : ∀ j : Nat, Fin (rs[j]?.getD 0)) (hg : ∀ k j : Nat, Fin ((gs[k]?.getD [])[j]?.getD 0)) (hk : k ≤ 1050000) (hn : n ≤ 256) (hi : i ≤ 256) : (leI us cs rs gs n E i k).natAbs < 2 ^ X := by
  obtain ⟨F, hF⟩ : ∃ F : Nat, F = 4196 := ⟨_, rfl⟩
  have h1 := dotV_bound hF hd hc i
  have h2 := boxV_bound hF hd hr i
  have h3 := sgK_le hF hd hg hn k
  have h4 := mul_bound hF (hd n) (show Fin 4607182418800017408 by decide)
  rw [fval_oneM hE] at h4
  have h5 : i * 2 ^ F ≤ 256 * 2 ^ F := Nat.mul_le_mul_right _ hi
  have h6 : k * (256 * 2 ^ F) ≤ 268800000 * 2 ^ F := by rw [← Nat.mul_assoc]; exact Nat.mul_le_mul_right _ (by omega)
  have h7 : 1073741824 * 2 ^ F < 2 ^ X := by
    rw [show (1073741824 : Nat) = 2 ^ 30 by decide, ← Nat.pow_add]
    exact Nat.pow_lt_pow_right (by omega) (by omega)
  unfold leI
  generalize fval (us[n]?.getD 0) * ((2 ^ E : Nat) : Int) = A at *
  generalize 2 ^ F = P at *
  generalize 2 ^ X = Q at *
  omega
theorem leI_is {z : ZD} {us : List Nat} {E : Nat} (hE : E = 1074) : leI us z.cs z.rs z.gs z.rn E z.rn z.gn = leV z us := by
  unfold leI leV
  rw [fval_oneM hE]
  omega
/-- The program's rounding and the document's. -/
theorem RndO.docM {x : Int} {a E u v : Nat} {b d : Bool} (ha : a = 92) (hE : E = 1074) (h : RndO 2 (some (x * ((2 ^ a : Nat) : Int))) u b) (k : RndZ 2 x (2 ^ E) (v, d)) : u = v ∧ b = d := by
  have h1 := h (E + a) (by omega)
  have h2 := k.rescale (2 ^ a) (Nat.two_pow_pos a)
  rw [← Nat.pow_add] at h2
  have h3 := RndZ.uniq h1 h2
  exact ⟨congrArg Prod.fst h3, congrArg Prod.snd h3⟩
theorem clB_eq (z : ZD) (us : List Nat) : clB z us = ((!z.bad && wholeB z) && decide ((us.length : Int) = z.N + 1) && numsB us) := by
  unfold clB checkB
  cases z.bad with
  | true => simp
  | false => simp
end Go.Proofs.Ytbjnkefjlaplkaa

namespace Go.Proofs.Ytbjnkefjlaplkaa
open Go.RowKit Go.Shelf
set_option linter.unusedVariables false
set_option linter.unusedSimpArgs false

set_option maxRecDepth 100000 in
set_option maxHeartbeats 2000000 in
/-- The document's Whole. -/
theorem wholeM_any (i : Int) (hi : i.natAbs ≤ 1073741824) (w : World) :
    Calls Try.prog 47 #[.int .i64 i] w fun e' w' => ∃ v, e' = .returned v ∧ NumV w' v (decide (i < 0)) i.natAbs 0 ∧ Below w.heap.size w w' := by
  obtain ⟨k, hk⟩ : ∃ k : Nat, i.natAbs = k := ⟨_, rfl⟩
  rw [hk] at hi ⊢
  have v2 : IntKind.u32.wrap (k : Int) = (k : Int) := by rw [IntKind.wrap_u32]; omega
  have v3 : (k : Int) / 4294967296 = 0 := by omega
  by_cases h0 : i = 0
  · subst h0
    obtain rfl : k = 0 := by omega
    go_enter Try.func47, Try.ntmps47
    go_wp2_with fail
    refine bodyPost_ret (v := .agg #[.bool false, .slice none 0 0, .int .i64 0]) (res_num _ 2 (by kernel_rfl) _ _ w.heap.size _ _ _ (by rfl) (heap_alloc_new w _)) rfl ⟨_, rfl, ⟨none, 0, 0, [], rfl, rd4_none _, by exact Or.inl rfl, rfl⟩, (Below.refl _ w).alloc (Nat.le_refl _) _⟩
  · have n3 : (i == 0) = false := by simpa using h0
    have hrd : Rd4 ((w.alloc (Obj.cells #[Value.bool false, Value.slice none 0 0, Value.int IntKind.i64 0] 60)).alloc (Obj.cells #[Value.int IntKind.u32 (k : Int), Value.int IntKind.u32 0] 94)) (some ⟨w.heap.size + 1, 0, none⟩) 2 2 [k, 0] := by
      have h := rd4_fresh2 (w.alloc (Obj.cells #[Value.bool false, Value.slice none 0 0, Value.int IntKind.i64 0] 60)) k 0 (by intro x hx; simp only [List.mem_cons, List.mem_nil_iff, or_false] at hx; omega)
      rw [show (w.alloc (Obj.cells #[Value.bool false, Value.slice none 0 0, Value.int IntKind.i64 0] 60)).heap.size = w.heap.size + 1 by simp] at h
      exact h
    have HRD : Hid _ := hrd
    have hb0 : ∀ o1 o2, Below w.heap.size w ((w.alloc o1).alloc o2) := fun o1 o2 => ((Below.refl _ _).alloc (Nat.le_refl _) _).alloc (by simp) _
    have HB0 : Hid _ := hb0
    clear hrd hb0
    obtain ⟨U, hU⟩ : ∃ U, IntKind.u64.wrap i = U := ⟨_, rfl⟩
    by_cases hneg : i < 0
    · have hd : decide (i < 0) = true := decide_eq_true hneg
      have v1 : IntKind.u64.wrap (-U) = (k : Int) := by rw [← hU, IntKind.wrap_u64, IntKind.wrap_u64]; omega
      rw [hd]
      clear h0 hk
      go_enter Try.func47, Try.ntmps47
      go_wp2_with fail
      refine Calls.mono (trim_any _ 2 2 [k, 0] _ HRD.out) ?_
      rintro ee ww ⟨ao', n, rfl, hw, hr', hn', hnm, hdg⟩
      rw [hw]; clear hw
      have HR' : Hid _ := hr'
      clear hr'
      go_wp2_with fail
      refine bodyPost_ret (v := .agg #[.bool true, .slice ao' n 2, .int .i64 0]) (res_num _ 2 (by kernel_rfl) _ _ w.heap.size _ _ _ (by rfl) (alloc2_first w _ _)) rfl ⟨_, rfl, ⟨ao', n, 2, _, rfl, rd4_other ⟨_, _, _, _, _, alloc2_first w _ _⟩ (fun b hb => alloc2_other w _ _ _ b hb) HR'.out, hnm, by rw [hdg]; rfl⟩, HB0.out _ _⟩
    · have hd : decide (i < 0) = false := decide_eq_false hneg
      have v1 : IntKind.u64.wrap i = (k : Int) := by rw [IntKind.wrap_u64]; omega
      rw [hd]
      clear h0 hk hU
      go_enter Try.func47, Try.ntmps47
      go_wp2_with fail
      refine Calls.mono (trim_any _ 2 2 [k, 0] _ HRD.out) ?_
      rintro ee ww ⟨ao', n, rfl, hw, hr', hn', hnm, hdg⟩
      rw [hw]; clear hw
      have HR' : Hid _ := hr'
      clear hr'
      go_wp2_with fail
      refine bodyPost_ret (v := .agg #[.bool false, .slice ao' n 2, .int .i64 0]) (res_num _ 2 (by kernel_rfl) _ _ w.heap.size _ _ _ (by rfl) (alloc2_first w _ _)) rfl ⟨_, rfl, ⟨ao', n, 2, _, rfl, rd4_other ⟨_, _, _, _, _, alloc2_first w _ _⟩ (fun b hb => alloc2_other w _ _ _ b hb) HR'.out, hnm, by rw [hdg]; rfl⟩, HB0.out _ _⟩
/-- The part at k, in units of 2^-E. -/
def pI (is : List Int) (D k : Nat) : Int := if k < is.length then max (min (is[k]?.getD 0) ((2 ^ D : Nat) : Int)) (-((2 ^ D : Nat) : Int)) else 0
def pV (is : List Int) (D E k : Nat) : Int := pI is D k * ((2 ^ (E - D) : Nat) : Int)
theorem pI_abs (is : List Int) (D k : Nat) : (pI is D k).natAbs ≤ 2 ^ D := by
  unfold pI
  split
  · have := Nat.two_pow_pos D
    omega
  · simp
theorem pV_abs (is : List Int) {D E : Nat} (k : Nat) (h : D ≤ E) : (pV is D E k).natAbs ≤ 2 ^ E := by
  unfold pV
  rw [Int.natAbs_mul, Int.natAbs_natCast]
  have := Nat.mul_le_mul_right (2 ^ (E - D)) (pI_abs is D k)
  rw [← Nat.pow_add, show D + (E - D) = E by omega] at this
  exact this
theorem pC {w : World} {v : Value} {i : Int} {D E : Nat} (hE : E = 1074) (hD : D ≤ 30) (hi : i.natAbs ≤ 2 ^ D) (h : NumV w v (decide (i < 0)) i.natAbs (if i.natAbs = 0 then 0 else 0 + -(D : Int))) : NumC w v E 1024 (i * ((2 ^ (E - D) : Nat) : Int)) := by
  have h17 : 2 ^ D ≤ 1073741824 := Nat.pow_le_pow_right (by omega : 0 < 2) hD
  refine ⟨_, _, _, h, by split <;> omega, ?_, ?_, fun c => by rw [if_pos c]⟩
  · have := bl_le_of_lt (m := i.natAbs) (k := 31) (by omega)
    split <;> omega
  · by_cases h0 : i.natAbs = 0
    · have e0 : i = 0 := by omega
      rw [h0, zv_zero, e0, Int.zero_mul]
    · rw [if_neg h0]
      unfold zv
      rw [show ((0 : Int) + -(D : Int) + (E : Int)).toNat = E - D by omega]
      congr 1
      unfold sv
      by_cases hn : i < 0
      · simp [hn]; omega
      · simp [hn]; omega
set_option maxRecDepth 100000 in
set_option maxHeartbeats 2000000 in
theorem partM_any (lo : Option Addr) (ll lc : Nat) (is : List Int) (k D E : Nat) (hE : E = 1074) (w : World) (h : RdIs w lo ll lc is) (hll : ll ≤ 1050000) (hk : k ≤ 4000000) (hD : D ≤ 30) :
    Calls Try.prog 22 #[.slice lo ll lc, .int .i64 (k : Int), .int .i64 (D : Int)] w fun e w' => ∃ v, e = .returned v ∧ NumC w' v E 1024 (pV is D E k) ∧ Below w.heap.size w w' := by
  have HE : Hid (E = 1074) := hE
  have HLN : Hid (is.length = ll) := h.length
  have A0 : Below w.heap.size w (w.alloc (.cells #[.bool false, .slice none 0 0, .int .i64 0] 60)) := (Below.refl _ w).alloc (Nat.le_refl _) _
  have Y0 : (w.alloc (.cells #[.bool false, .slice none 0 0, .int .i64 0] 60)).heap[w.heap.size]? = some (.cells #[.bool false, .slice none 0 0, .int .i64 0] 60) := heap_alloc_new w _
  have HRI : Hid (RdIs (w.alloc (.cells #[.bool false, .slice none 0 0, .int .i64 0] 60)) lo ll lc is) := h.later A0
  obtain ⟨P, hP⟩ : ∃ P : Nat, 2 ^ D = P := ⟨_, rfl⟩
  have hPb : 1 ≤ P ∧ P ≤ 1073741824 := by
    rw [← hP]; exact ⟨Nat.two_pow_pos D, Nat.pow_le_pow_right (show 0 < 2 by decide) hD⟩
  have HPP : Hid (2 ^ D = P) := hP
  obtain ⟨pv, hpv⟩ : ∃ pv, pI is D k = pv := ⟨_, rfl⟩
  have HPV : Hid (pI is D k = pv) := hpv
  have HPW : Hid (pV is D E k = pv * ((2 ^ (E - D) : Nat) : Int)) := by unfold Hid pV; rw [hpv]
  clear h hE hP hpv
  go_enter Try.func22, Try.ntmps22
  go_upto_region 1 with fail
  obtain ⟨X, hX⟩ : ∃ X, (w.alloc (.cells #[.bool false, .slice none 0 0, .int .i64 0] 60)) = X := ⟨_, rfl⟩
  rw [hX] at A0 Y0 HRI ⊢
  have HX : Hid (Below w.heap.size w X ∧ X.heap[w.heap.size]? = some (.cells #[.bool false, .slice none 0 0, .int .i64 0] 60)) := ⟨A0, Y0⟩
  clear hX A0 Y0
  by_cases hkl : k < ll
  · have dk : decide ((ll : Int) ≤ (k : Int)) = false := decide_eq_false (by omega)
    have hki : (k : Int) < (ll : Int) := by omega
    have hle : ¬ ll ≤ k := by omega
    obtain ⟨ab, aoff, hlo, hc⟩ : ∃ ab aoff, lo = some ⟨ab, aoff, none⟩ ∧ X.cell? ⟨ab, aoff + k, none⟩ = some (.int .i64 (is[k]?.getD 0)) := by
      rcases HRI.out.cells with h0 | ⟨b, off, e, hc⟩
      · omega
      · exact ⟨b, off, e, hc k hkl⟩
    subst hlo
    obtain ⟨x, hx⟩ : ∃ x, is[k]?.getD 0 = x := ⟨_, rfl⟩
    rw [hx] at hc
    have hpx : pv = max (min x (P : Int)) (-(P : Int)) := by
      rw [← HPV.out, ← HPP.out]
      unfold pI
      rw [if_pos (by rw [HLN.out]; exact hkl), hx]
    have HPX : Hid (pv = max (min x (P : Int)) (-(P : Int))) := hpx
    clear hx HRI hpx
    have hp2 : (2 : Int) ^ D = (P : Int) := by rw [← HPP.out]; simp
    have hD64 : D < 64 := by omega
    have nn : ¬ ((D : Int) < 0) := by omega
    have um7 : IntKind.i64.wrap (P : Int) = (P : Int) := by rw [IntKind.wrap_i64]; omega
    have um8 : IntKind.i64.wrap (-(P : Int)) = -(P : Int) := by rw [IntKind.wrap_i64]; omega
    go_upto_region 3 with fail
    have hS : (fun V => V.cell? ⟨ab, aoff + k, none⟩ = some (.int .i64 x)) X.drew := hc
    refine wp_region_noPanic ?_
    refine wp_region_held_drew (S := (fun V => V.cell? ⟨ab, aoff + k, none⟩ = some (.int .i64 x))) (by kernel_rfl) hS (fun _ => ?_)
    refine takeH 13 (i := 0) (v := ?_) rfl rfl (by kernel_rfl) (by kernel_rfl) (by kernel_rfl) (fun _ _ _ h => h) (Or.inl ⟨by kernel_rfl, ?_⟩) hS ?_
    rotate_left
    · intro w' hSw; (try dsimp only at hSw); go_simp; try with_reducible rfl
    try simp only [Act.put, List.setIfInBounds_toArray, List.set_cons_zero, List.set_cons_succ]
    refine takeH 14 (i := 1) (v := ?_) rfl rfl (by kernel_rfl) (by kernel_rfl) (by kernel_rfl) (fun _ _ _ h => h) (Or.inl ⟨by kernel_rfl, ?_⟩) hS ?_
    rotate_left
    · intro w' hSw; (try dsimp only at hSw); go_simp; try with_reducible rfl
    try simp only [Act.put, List.setIfInBounds_toArray, List.set_cons_zero, List.set_cons_succ]
    refine takeH 15 (i := 2) (v := ?_) rfl rfl (by kernel_rfl) (by kernel_rfl) (by kernel_rfl) (fun _ _ _ h => h) (Or.inl ⟨by kernel_rfl, ?_⟩) hS ?_
    rotate_left
    · intro w' hSw; (try dsimp only at hSw); go_simp; try with_reducible rfl
    try simp only [Act.put, List.setIfInBounds_toArray, List.set_cons_zero, List.set_cons_succ]
    refine takeH 16 (i := 3) (v := ?_) rfl rfl (by kernel_rfl) (by kernel_rfl) (by kernel_rfl) (fun _ _ _ h => h) (Or.inl ⟨by kernel_rfl, ?_⟩) hS ?_
    rotate_left
    · intro w' hSw; (try dsimp only at hSw); go_simp; try with_reducible rfl
    try simp only [Act.put, List.setIfInBounds_toArray, List.set_cons_zero, List.set_cons_succ]
    refine takeH 17 (i := 4) (v := ?_) rfl rfl (by kernel_rfl) (by kernel_rfl) (by kernel_rfl) (fun _ _ _ h => h) (Or.inl ⟨by kernel_rfl, ?_⟩) hS ?_
    rotate_left
    · intro w' hSw; (try dsimp only at hSw); go_simp; try with_reducible rfl
    try simp only [Act.put, List.setIfInBounds_toArray, List.set_cons_zero, List.set_cons_succ]
    refine takeH 18 (i := 5) (v := ?_) rfl rfl (by kernel_rfl) (by kernel_rfl) (by kernel_rfl) (fun _ _ _ h => h) (Or.inl ⟨by kernel_rfl, ?_⟩) hS ?_
    rotate_left
    · intro w' hSw; (try dsimp only at hSw); go_simp; try with_reducible rfl
    try simp only [Act.put, List.setIfInBounds_toArray, List.set_cons_zero, List.set_cons_succ]
    refine takeH 19 (i := 6) (v := ?_) rfl rfl (by kernel_rfl) (by kernel_rfl) (by kernel_rfl) (fun _ _ _ h => h) (Or.inl ⟨by kernel_rfl, ?_⟩) hS ?_
    rotate_left
    · intro w' hSw; (try dsimp only at hSw); go_simp; try with_reducible rfl
    try simp only [Act.put, List.setIfInBounds_toArray, List.set_cons_zero, List.set_cons_succ]
    refine takeH 20 (i := 7) (v := ?_) rfl rfl (by kernel_rfl) (by kernel_rfl) (by kernel_rfl) (fun _ _ _ h => h) (Or.inl ⟨by kernel_rfl, ?_⟩) hS ?_
    rotate_left
    · intro w' hSw; (try dsimp only at hSw); go_simp; try with_reducible rfl
    try simp only [Act.put, List.setIfInBounds_toArray, List.set_cons_zero, List.set_cons_succ]
    refine takeH 21 (i := 8) (v := ?_) rfl rfl (by kernel_rfl) (by kernel_rfl) (by kernel_rfl) (fun _ _ _ h => h) (Or.inl ⟨by kernel_rfl, ?_⟩) hS ?_
    rotate_left
    · intro w' hSw; (try dsimp only at hSw); go_simp; try with_reducible rfl
    try simp only [Act.put, List.setIfInBounds_toArray, List.set_cons_zero, List.set_cons_succ]
    refine takeH 22 (i := 9) (v := ?_) rfl rfl (by kernel_rfl) (by kernel_rfl) (by kernel_rfl) (fun _ _ _ h => h) (Or.inl ⟨by kernel_rfl, ?_⟩) hS ?_
    rotate_left
    · intro w' hSw; (try dsimp only at hSw); go_simp; try with_reducible rfl
    try simp only [Act.put, List.setIfInBounds_toArray, List.set_cons_zero, List.set_cons_succ]
    refine takeH 7 (i := 10) (v := ?_) rfl rfl (by kernel_rfl) (by kernel_rfl) (by kernel_rfl) (fun _ _ _ h => h) (Or.inl ⟨by kernel_rfl, ?_⟩) hS ?_
    rotate_left
    · intro w' hSw; (try dsimp only at hSw); go_simp; try with_reducible rfl
    try simp only [Act.put, List.setIfInBounds_toArray, List.set_cons_zero, List.set_cons_succ]
    refine wpAnyH_done (by kernel_rfl) ?_ _
    refine NoPanic.normal ?_
    try simp only [Act.put, List.setIfInBounds_toArray, List.set_cons_zero, List.set_cons_succ]
    rw [← HPX.out]
    have hpb : pv.natAbs ≤ 1073741824 := by
      have h9 := pI_abs is D k
      rw [HPV.out, HPP.out] at h9
      omega
    have HPB : Hid (pv.natAbs ≤ 2 ^ D) := by have h9 := pI_abs is D k; rw [HPV.out] at h9; exact h9
    have um9 : IntKind.i64.wrap (-(D : Int)) = -(D : Int) := by rw [IntKind.wrap_i64]; omega
    have HW1 : Hid (∀ W', _) := fun W' => wholeM_any pv hpb W'
    have HDD : Hid (D ≤ 30) := hD
    clear um7 um8 hp2 hc hS hle dk hki hpb nn HPX
    go_wp2_with (first
      | (go_at_call 47; refine Calls.mono (HW1.out _) ?_; rintro e V1 ⟨v1, rfl, hz1, b1⟩; obtain ⟨o1, l1, c1, xs1, hv1, -⟩ := id hz1; subst hv1; have Q1 := to_call (show Below w.heap.size w X.drew from HX.out.1.drew) b1; have HB1 := kept b1 (show X.drew.heap[w.heap.size]? = _ from HX.out.2); have HZ1 : Hid (NumV V1 _ (decide (pv < 0)) pv.natAbs 0) := hz1; clear b1 hz1)
      | (go_at_call 46; refine Calls.mono (moved_any _ _ _ 0 (-(D : Int)) (by omega) (by have := HDD.out; omega) _ HZ1.out) ?_; rintro e V2 ⟨v2, rfl, hz2, b2⟩; have Q2 := to_call Q1 b2; have HB2 := kept b2 HB1; have hz3 := pC HE.out HDD.out HPB.out hz2; obtain ⟨n2, o2, l2, c2, x2, hv2⟩ := hz3.form; subst hv2; have HZ2 : Hid (NumC V2 _ E 1024 (pv * ((2 ^ (E - D) : Nat) : Int))) := hz3; clear b2 hz2 hz3)
      | (refine wpList_store_row (by rfl) 60 _ _ (by rfl) w w.heap.size w.heap.size _ _ (by rfl) (by rfl) HB2 Q2 (Nat.le_refl _) 3 Try.infoN3 (by rfl) (by rfl) (oneN _ _ _ _ _) ?_; intro W9 e9 b9 s9 o9))
    refine bodyPost_ret (v := .agg #[.bool n2, .slice o2 l2 c2, .int .i64 x2]) (res_num _ 6 (by kernel_rfl) _ _ w.heap.size _ _ _ (by rfl) e9) rfl ⟨_, rfl, ?_, b9⟩
    rw [HPW.out]
    exact (show NumC _ _ _ _ _ from HZ2.out).cl (num_cl HB2) (fun b hb _ => o9 b hb)
  · have dk : decide ((ll : Int) ≤ (k : Int)) = true := decide_eq_true (by omega)
    have hle : ll ≤ k := by omega
    have HV0 : Hid (pV is D E k = 0) := by
      unfold Hid
      rw [HPW.out, ← HPV.out]
      unfold pI
      rw [if_neg (by rw [HLN.out]; omega), Int.zero_mul]
    clear hkl
    go_wp2_with (first
      | (refine wpList_store_row (by rfl) 60 _ _ (by rfl) w w.heap.size w.heap.size _ _ (by rfl) (by rfl) HX.out.2 HX.out.1 (Nat.le_refl _) 3 Try.infoN3 (by rfl) (by rfl) (oneN _ _ _ _ _) ?_; intro W9 e9 b9 s9 o9))
    refine bodyPost_ret (v := .agg #[.bool false, .slice none 0 0, .int .i64 0]) (res_num _ 6 (by kernel_rfl) _ _ w.heap.size _ _ _ (by rfl) e9) rfl ⟨_, rfl, ?_, b9⟩
    rw [HV0.out]
    exact NumC.zeroJ _ _ _ (by omega)
/-- n parts. -/
def pL (is : List Int) (D E n : Nat) : List Int := (List.range n).map (pV is D E)
theorem pL_at {is : List Int} {D E n k : Nat} (h : k < n) : (pL is D E n)[k]?.getD 0 = pV is D E k := by unfold pL; simp [h]
theorem pL_abs {is : List Int} {D E n : Nat} (h : D ≤ E) (k : Nat) : ((pL is D E n)[k]?.getD 0).natAbs ≤ 2 ^ E := by
  by_cases hk : k < n
  · rw [pL_at hk]; exact pV_abs is k h
  · unfold pL; rw [List.getElem?_eq_none (by simp; omega)]; exact Nat.zero_le _
theorem mul_abs_ge {x y : Int} {A : Nat} (h : x.natAbs ≤ A) : -((A : Int) * (y.natAbs : Int)) ≤ x * y := by
  have h1 : (x * y).natAbs ≤ A * y.natAbs := by rw [Int.natAbs_mul]; exact Nat.mul_le_mul_right _ h
  rw [← Int.natCast_mul]
  omega
theorem colD_ge {us : List Nat} {gs : List (List Nat)} {es : List Int} {A n : Nat} (he : ∀ k : Nat, (es[k]?.getD 0).natAbs ≤ A) : ∀ k, -((A : Int) * (sgK us gs n k : Nat)) ≤ colD us gs es n k
  | 0 => by simp [colD, sgK]
  | k + 1 => by
    have ih := colD_ge (us := us) (gs := gs) (n := n) he k
    have h1 := mul_abs_ge (y := dotV us (gs[k]?.getD []) n) (he k)
    rw [colD, sgK, Int.natCast_add, Int.mul_add]
    omega
theorem boxD_ge {us rs : List Nat} {bs : List Int} {A : Nat} (hb : ∀ k : Nat, (bs[k]?.getD 0).natAbs ≤ A) (hp : ∀ k : Nat, 0 ≤ fval (rs[k]?.getD 0)) : ∀ n, -((A : Int) * boxV us rs n) ≤ sumP us (fun i => (bs[i]?.getD 0) * fval (rs[i]?.getD 0)) n
  | 0 => by simp [sumP, boxV]
  | n + 1 => by
    have ih := boxD_ge (us := us) hb hp n
    have h1 := mul_abs_ge (y := fval (us[n]?.getD 0) * fval (rs[n]?.getD 0)) (hb n)
    have e1 : ((fval (us[n]?.getD 0) * fval (rs[n]?.getD 0)).natAbs : Int) = fval (frung (us[n]?.getD 0)) * fval (rs[n]?.getD 0) := by
      rw [Int.natAbs_mul, Int.natCast_mul, fval_frung, ← fval_absJ (us[n]?.getD 0)]
      congr 1
      have := hp n
      omega
    rw [e1] at h1
    have e2 : fval (us[n]?.getD 0) * ((bs[n]?.getD 0) * fval (rs[n]?.getD 0)) = (bs[n]?.getD 0) * (fval (us[n]?.getD 0) * fval (rs[n]?.getD 0)) := Int.mul_left_comm _ _ _
    rw [sumP, boxV, Int.mul_add, e2]
    omega
/-- A claim's sum at a point, i coordinates of it. -/
def puV (A : Nat) (us cs rs : List Nat) (gs : List (List Nat)) (es bs : List Int) (n i : Nat) : Int := fval (us[n]?.getD 0) * (A : Int) * (A : Int) + sumP us (fun j => ptK A cs rs gs es bs j gs.length) i
theorem puV_step {A : Nat} {us cs rs : List Nat} {gs : List (List Nat)} {es bs : List Int} {n i : Nat} : puV A us cs rs gs es bs n i + fval (us[i]?.getD 0) * ptK A cs rs gs es bs i gs.length = puV A us cs rs gs es bs n (i + 1) := by
  unfold puV
  rw [show sumP us (fun j => ptK A cs rs gs es bs j gs.length) (i + 1) = sumP us (fun j => ptK A cs rs gs es bs j gs.length) i + fval (us[i]?.getD 0) * ptK A cs rs gs es bs i gs.length from rfl]
  omega
/-- The sum at a point is at least the least one. -/
theorem puV_ge {A E : Nat} {z : ZD} {us : List Nat} {es bs : List Int} (hE : E = 1074) (hA : A = 2 ^ E) (hg : z.gs.length = z.gn) (he : ∀ k : Nat, (es[k]?.getD 0).natAbs ≤ A) (hb : ∀ k : Nat, (bs[k]?.getD 0).natAbs ≤ A) (hp : ∀ k : Nat, 0 ≤ fval (z.rs[k]?.getD 0)) : (A : Int) * leV z us ≤ puV A us z.cs z.rs z.gs es bs z.rn z.rn := by
  have h1 := colD_ge (us := us) (gs := z.gs) (n := z.rn) he z.gn
  have h2 := boxD_ge (us := us) hb hp z.rn
  have e1 : sumP us (fun j => ptK A z.cs z.rs z.gs es bs j z.gs.length) z.rn = (A : Int) * dotV us z.cs z.rn + sumP us (fun i => (bs[i]?.getD 0) * fval (z.rs[i]?.getD 0)) z.rn + colD us z.gs es z.rn z.gn := by
    have e2 : (fun j => ptK A z.cs z.rs z.gs es bs j z.gs.length) = fun j => ((fun i => (A : Int) * fval (z.cs[i]?.getD 0)) j + (fun i => (bs[i]?.getD 0) * fval (z.rs[i]?.getD 0)) j) + (fun i => colV z.gs es i z.gn) j := by
      funext j
      unfold ptK
      rw [hg, Int.mul_comm (fval (z.cs[j]?.getD 0))]
    rw [e2, sumP_add, sumP_add, sumP_dot, sumP_col]
  have e3 : fval 4607182418800017408 = (A : Int) := by rw [hA]; exact fval_oneM hE
  unfold puV leV
  rw [e1, e3, Int.mul_sub, Int.mul_sub, Int.mul_add, ← Int.mul_assoc, Int.mul_comm (A : Int) (fval (us[z.rn]?.getD 0))]
  omega
theorem sumP_bound {us : List Nat} {P : Nat → Int} {G : Nat} {F M : Nat} (hF : F = 2098) (hu : ∀ j : Nat, Fin (us[j]?.getD 0)) : ∀ n, (∀ i, i < n → (P i).natAbs ≤ M) → (sumP us P n).natAbs ≤ n * (2 ^ F * M)
  | 0, _ => by simp [sumP]
  | n + 1, h => by
    have ih := sumP_bound (G := G) hF hu n (fun i hi => h i (by omega))
    have h1 : (fval (us[n]?.getD 0) * P n).natAbs ≤ 2 ^ F * M := by
      rw [Int.natAbs_mul, fval_absJ]
      exact Nat.mul_le_mul (Nat.le_of_lt (fval_ltJ (hu n) hF)) (h n (by omega))
    rw [sumP, Nat.succ_mul]
    omega
theorem puV_bound {A E X i : Nat} {us cs rs : List Nat} {gs : List (List Nat)} {es bs : List Int} {n : Nat} (hE : E = 1074) (hA : A = 2 ^ E) (hX : X = 5322) (hu : ∀ j : Nat, Fin (us[j]?.getD 0)) (hc : ∀ j : Nat, Fin (cs[j]?.getD 0)) (hr : ∀ j : Nat, Fin (rs[j]?.getD 0)) (hg : ∀ k j : Nat, Fin ((gs[k]?.getD [])[j]?.getD 0)) (few : gs.length ≤ 1050000) (he : ∀ k : Nat, (es[k]?.getD 0).natAbs ≤ A) (hb : ∀ k : Nat, (bs[k]?.getD 0).natAbs ≤ A) (hi : i ≤ 256) : (puV A us cs rs gs es bs n i).natAbs < 2 ^ X := by
  obtain ⟨F, hF⟩ : ∃ F : Nat, F = 2098 := ⟨_, rfl⟩
  obtain ⟨Y, hY⟩ : ∃ Y : Nat, Y = 3208 := ⟨_, rfl⟩
  have h1 := sumP_bound (us := us) (G := 0) (P := fun j => ptK A cs rs gs es bs j gs.length) (M := 2 ^ Y) hF hu i (fun j _ => Nat.le_of_lt (pt_bound hA hE hY (hc j) (hr j) (fun k => hg k j) few he (hb j) _ (Nat.le_refl _)))
  have h2 : (fval (us[n]?.getD 0) * (A : Int) * (A : Int)).natAbs ≤ 2 ^ F * 2 ^ Y := by
    rw [Int.natAbs_mul, Int.natAbs_mul, fval_absJ, Int.natAbs_natCast, Nat.mul_assoc]
    refine Nat.mul_le_mul (Nat.le_of_lt (fval_ltJ (hu n) hF)) ?_
    rw [hA, ← Nat.pow_add]
    exact Nat.pow_le_pow_right (by omega) (by omega)
  have h3 : i * (2 ^ F * 2 ^ Y) ≤ 256 * (2 ^ F * 2 ^ Y) := Nat.mul_le_mul_right _ hi
  have h4 : 1024 * (2 ^ F * 2 ^ Y) ≤ 2 ^ X := by
    rw [show (1024 : Nat) = 2 ^ 10 by decide, ← Nat.pow_add, ← Nat.pow_add]
    exact Nat.pow_le_pow_right (by omega) (by omega)
  have h5 : 0 < 2 ^ F * 2 ^ Y := Nat.mul_pos (Nat.two_pow_pos _) (Nat.two_pow_pos _)
  unfold puV
  generalize fval (us[n]?.getD 0) * (A : Int) * (A : Int) = a at *
  generalize 2 ^ F * 2 ^ Y = P at *
  generalize 2 ^ X = Q at *
  omega
/-- What Margin tells is not above the least sum. -/
theorem RndO.leM {x : Int} {a E u : Nat} (ha : a = 92) (hE : E = 1074) (h : RndO 2 (some (x * ((2 ^ a : Nat) : Int))) u true) : fval u * ((2 ^ E : Nat) : Int) ≤ x := by
  have h1 := h (E + a) (by omega)
  have h2 := down_leK (Nat.two_pow_pos _) h1
  rw [Nat.pow_add, Int.natCast_mul, ← Int.mul_assoc] at h2
  have h3 : (0 : Int) < ((2 ^ a : Nat) : Int) := by have := Nat.two_pow_pos a; omega
  exact Int.le_of_mul_le_mul_right h2 h3
end Go.Proofs.Ytbjnkefjlaplkaa
