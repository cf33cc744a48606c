import Derived.Test.YtogdfdhdmfkmaaaGreatGHa
import Derived.Test.YtogdfdhdmfkmaaaGreatNCc
import Derived.Test.YtogdfdhdmfkmaaaGreatJZx
import Derived.Test.YtogdfdhdmfkmaaaGreatJZw
import Derived.Test.YtogdfdhdmfkmaaaGreatRows
import Derived.ChangeSame
import Derived.JoinedOf
import Derived.JoinedAt
import Derived.JoinedStill
import Derived.RowKit
import Derived.ProofKit
import Derived.Seven
import Derived.Laws.Cover2
import Derived.WalkKit
import Derived.OpenShut
import Derived.ChangeOld
import Derived.Below
import Derived.Deep.DeepHandedRow
import Derived.Lib.LaidTab
namespace Go.Proofs.YtogdfdhdmfkmaaaGreat
open Go.RowKit Go.Shelf
set_option linter.unusedVariables false
set_option linter.unusedSimpArgs false

theorem sum_permI {l m : List Int} (h : l.Perm m) : l.sum = m.sum := by
  induction h with
  | nil => rfl
  | cons x _ ih => rw [List.sum_cons, List.sum_cons, ih]
  | swap x y l => simp only [List.sum_cons]; omega
  | trans _ _ ih1 ih2 => exact ih1.trans ih2
/-- The first of a list that rises have no greater sum than any others, as many of them. -/
theorem least_gen {v : Nat → Int} : ∀ (L p : List Nat), L.Pairwise (fun i j => v i ≤ v j) → p.Nodup → (∀ a ∈ p, a ∈ L) → ((L.take p.length).map v).sum ≤ (p.map v).sum
  | [], p, _, _, h => by
    cases p with
    | nil => simp
    | cons b p => have := h b List.mem_cons_self; cases this
  | a :: L, p, hs, hn, h => by
    obtain ⟨hs1, hs2⟩ := List.pairwise_cons.1 hs
    by_cases ha : a ∈ p
    · have hperm := List.perm_cons_erase ha
      have hl : p.length = (p.erase a).length + 1 := by have := hperm.length_eq; simpa using this
      have ih := least_gen L (p.erase a) hs2 (hn.erase a) (fun b hb => by
        rcases List.mem_cons.1 (h b (List.mem_of_mem_erase hb)) with e | e
        · exfalso; subst e; exact hn.not_mem_erase hb
        · exact e)
      rw [sum_permI (hperm.map v), List.map_cons, List.sum_cons, hl, List.take_succ_cons, List.map_cons, List.sum_cons]
      omega
    · cases p with
      | nil => simp
      | cons b p =>
        have hsub : ∀ c ∈ b :: p, c ∈ L := fun c hc => by
          rcases List.mem_cons.1 (h c hc) with e | e
          · exfalso; subst e; exact ha hc
          · exact e
        have ih := least_gen L p hs2 (List.nodup_cons.1 hn).2 (fun c hc => hsub c (List.mem_cons_of_mem _ hc))
        have h1 := hs1 b (hsub b List.mem_cons_self)
        rw [List.length_cons, List.take_succ_cons, List.map_cons, List.sum_cons, List.map_cons, List.sum_cons]
        omega
/-- The places that go first have no greater sum than any others. -/
theorem plN_least {v : Nat → Int} {n : Nat} (p : List Nat) (hp : p.Nodup) (hm : ∀ a ∈ p, a < n) : (((plN v n).take p.length).map v).sum ≤ (p.map v).sum :=
  least_gen (plN v n) p ((plN_sorted v n).imp fun h => by unfold ltL at h; omega) hp fun a ha => (plN_mem v n a).2 (hm a ha)
/-- What goes, in the order of the list. -/
def goneL (v : Nat → Int) (n low i : Nat) : List Nat := pickL (fun j => !decide (j ∈ keptL v n low)) i
theorem pick_succ (f : Nat → Bool) (i : Nat) : pickL f (i + 1) = pickL f i ++ (if f i then [i] else []) := by
  unfold pickL
  rw [List.range_succ, List.filter_append]
  congr 1
  simp only [List.filter_cons, List.filter_nil]
theorem goneL_sum {v : Nat → Int} {n low : Nat} (h : low ≤ n) : ((goneL v n low n).map v).sum = (((plN v n).take (n - low)).map v).sum := by
  refine sum_permI (List.Perm.map v ?_)
  refine (List.perm_ext_iff_of_nodup ((pick_rise _ _).imp fun h => Nat.ne_of_lt h) ((plN_nodup v n).sublist (List.take_sublist _ _))).2 fun a => ?_
  have hn := plN_nodup v n
  rw [← List.take_append_drop (n - low) (plN v n), List.nodup_append] at hn
  rw [pick_mem]
  constructor
  · rintro ⟨h1, h2⟩
    have h3 := (plN_mem v n a).2 h1
    rw [← List.take_append_drop (n - low) (plN v n), List.mem_append] at h3
    rcases h3 with h3 | h3
    · exact h3
    · have := (keptL_mem v n low a).2 h3
      simp [this] at h2
  · intro h1
    refine ⟨(plN_mem v n a).1 (List.mem_of_mem_take h1), ?_⟩
    have : a ∉ keptL v n low := fun h2 => hn.2.2 a h1 a ((keptL_mem v n low a).1 h2) rfl
    simp [this]
/-- The place of the first that stays, among those from i on. -/
theorem kept_at {v : Nat → Int} {n low k i : Nat} (h : low ≤ n) (hk : ∀ j, j < low → (j < k ↔ (keptL v n low)[j]?.getD 0 < i)) (hkl : k ≤ low) : i ∈ keptL v n low ↔ (k < low ∧ (keptL v n low)[k]?.getD 0 = i) := by
  have hl := keptL_len (v := v) h
  constructor
  · intro hi
    obtain ⟨j, hj, e⟩ := List.getElem_of_mem hi
    have hjl : j < low := by omega
    have ej : (keptL v n low)[j]?.getD 0 = i := by rw [List.getElem?_eq_getElem hj]; exact e
    have h1 := hk j hjl
    rw [ej] at h1
    have hkj : k ≤ j := by omega
    have hkl2 : k < low := by omega
    refine ⟨hkl2, ?_⟩
    rcases Nat.lt_or_eq_of_le hkj with c | c
    · have h2 := keptL_up (v := v) h (i := k) (j := j) (by omega) hjl
      have h3 := hk k hkl2
      omega
    · rw [c]; exact ej
  · rintro ⟨h1, h2⟩
    rw [← h2, List.getElem?_eq_getElem (by omega)]
    exact List.getElem_mem _
end Go.Proofs.YtogdfdhdmfkmaaaGreat

namespace Go.Proofs.YtogdfdhdmfkmaaaGreat
open Go.RowKit Go.Shelf
set_option linter.unusedVariables false
set_option linter.unusedSimpArgs false

set_option maxRecDepth 100000 in
set_option maxHeartbeats 2000000 in
theorem mostT_any (v u : Value) (s : Nat) (T x y : Int) (w : World) (hx : NumC w v s T x) (hy : NumC w u s T y) (hs : s ≤ 20000) (hT : 0 ≤ T ∧ T ≤ 20000) :
    Calls Tryz.prog 28 #[v, u] w fun e' w' => ∃ v', e' = .returned v' ∧ NumC w' v' s T (max x y) ∧ Below w.heap.size w w' := by
  have HX : Hid (NumC w v s T x) := hx
  have HY : Hid (NumC w u s T y) := hy
  obtain ⟨nx, mx, ex, ⟨ao, len, cap, xs, rfl, -⟩, -⟩ := hx
  obtain ⟨ny, my, ey, ⟨bo, blen, bcap, ys, rfl, -⟩, -⟩ := hy
  obtain ⟨g0, g1, g2, gz, gb⟩ := alloc3_facts w (Obj.cells #[Value.bool nx, Value.slice ao len cap, Value.int IntKind.i64 ex] 37) (Obj.cells #[Value.bool ny, Value.slice bo blen bcap, Value.int IntKind.i64 ey] 37) (Obj.cells #[Value.bool false, Value.slice none 0 0, Value.int IntKind.i64 0] 37)
  have G0 : Hid _ := g0
  have G1 : Hid _ := g1
  have G2 : Hid _ := g2
  have GB : Hid _ := gb
  clear g0 g1 g2 gz gb
  go_enter Tryz.func28, Tryz.ntmps28
  go_upto_region 1 with fail
  generalize (((w.alloc (Obj.cells #[Value.bool nx, Value.slice ao len cap, Value.int IntKind.i64 ex] 37)).alloc (Obj.cells #[Value.bool ny, Value.slice bo blen bcap, Value.int IntKind.i64 ey] 37)).alloc (Obj.cells #[Value.bool false, Value.slice none 0 0, Value.int IntKind.i64 0] 37)) = W0 at G0 G1 G2 GB ⊢
  obtain ⟨x0, x1, x2⟩ := cells3 G0.out
  obtain ⟨y0, y1, y2⟩ := cells3 G1.out
  go_wp2_with fail
  refine Calls.mono (cmpZ_any _ _ s T x y _ (NumC.later HX.out GB.out).toZ (NumC.later HY.out GB.out).toZ hs hT) ?_
  rintro e w1 ⟨rfl, bw⟩
  have A1 : Hid _ := (bw.block _ (blk_lt G0.out)).trans G0.out
  have B1 : Hid _ := (bw.block _ (blk_lt G1.out)).trans G1.out
  have R1 : Hid _ := (bw.block _ (blk_lt G2.out)).trans G2.out
  have C1 : Hid (Below w.heap.size w w1) := GB.out.trans (bw.mono GB.out.size)
  have Zx : Hid (NumC w1 _ s T x) := NumC.later HX.out C1.out
  have Zy : Hid (NumC w1 _ s T y) := NumC.later HY.out C1.out
  clear bw G0 G1 G2 GB x0 x1 x2 y0 y1 y2 HX HY
  obtain ⟨x0, x1, x2⟩ := cells3 A1.out
  obtain ⟨y0, y1, y2⟩ := cells3 B1.out
  have hsg : sgi (x - y) ≥ 0 ↔ x - y ≥ 0 := by
    unfold sgi; split
    · omega
    · split <;> omega
  by_cases hc : x - y ≥ 0
  · have HS : Hid (x - y ≥ 0) := hc
    have hd : decide (sgi (x - y) ≥ 0) = true := decide_eq_true (hsg.2 hc)
    have hd2 : sgi (x - y) ≥ 0 := hsg.2 hc
    clear hsg hc
    obtain ⟨r0, r1, r2⟩ := cells3 R1.out
    have fz := fun j => frozen_of_row _ _ j _ _ R1.out
    go_wp2_with fail
    refine bodyPost_ret (v := .agg #[Value.bool nx, Value.slice ao len cap, Value.int IntKind.i64 ex]) (res_num _ 4 (by kernel_rfl) _ _ (w.heap.size + 1 + 1) _ _ _ (by rfl) (set3_heap _ _ _ R1.out)) rfl ⟨_, rfl, ?_, below_set3 _ _ _ C1.out (by omega)⟩
    have e : max x y = x := by have := HS.out; omega
    rw [e]
    exact NumC.set3 _ _ _ ⟨_, _, _, _, _, R1.out⟩ Zx.out
  · have HS : Hid (¬ (x - y ≥ 0)) := hc
    have hd : decide (sgi (x - y) ≥ 0) = false := decide_eq_false (fun c => hc (hsg.1 c))
    have hd2 : ¬ (sgi (x - y) ≥ 0) := fun c => hc (hsg.1 c)
    clear hsg hc
    obtain ⟨r0, r1, r2⟩ := cells3 R1.out
    have fz := fun j => frozen_of_row _ _ j _ _ R1.out
    go_wp2_with fail
    refine bodyPost_ret (v := .agg #[Value.bool ny, Value.slice bo blen bcap, Value.int IntKind.i64 ey]) (res_num _ 4 (by kernel_rfl) _ _ (w.heap.size + 1 + 1) _ _ _ (by rfl) (set3_heap _ _ _ R1.out)) rfl ⟨_, rfl, ?_, below_set3 _ _ _ C1.out (by omega)⟩
    have e : max x y = y := by have := HS.out; omega
    rw [e]
    exact NumC.set3 _ _ _ ⟨_, _, _, _, _, R1.out⟩ Zy.out
/-- What the law's loss holds between its rounds. -/
structure LsL (w W : World) (B E ks km : Nat) (us : List Nat) (la : Option Addr) (ll lc : Nat) (n : Bool) (o : Option Addr) (l c : Nat) (e : Int) (n9 : Bool) (o9 : Option Addr) (l9 c9 : Nat) (e9 : Int) : Prop where
  s : BxN W (w.heap.size + 1) E (1024 + (ks : Int)) ((sumK us ks : Nat) : Int) n o l c e
  m : BxN W (w.heap.size + 1 + 1) E 1024 ((rmag (grK us km) : Nat) : Int) n9 o9 l9 c9 e9
  r : W.heap[w.heap.size]? = some (.cells #[.bool false, .slice none 0 0, .int .i64 0] 37)
  row : RowN W B (.slice la ll lc) E us
  bel : Below w.heap.size w W
theorem rmag_max (a b : Nat) : (rmag (max a b) : Int) = max (rmag a : Int) (rmag b : Int) := by
  rcases Nat.le_total a b with h | h
  · rw [Nat.max_eq_right h]; have := rmag_le h; omega
  · rw [Nat.max_eq_left h]; have := rmag_le h; omega
set_option maxRecDepth 100000 in
set_option maxHeartbeats 8000000 in
/-- The law's loss. -/
theorem lossT_any (ao : Option Addr) (len cap : Nat) (us : List Nat) (E : Nat) (hE : E = 1074) (w : World) (h : RdF w ao len cap us) (hf : ∀ j : Nat, Fin (us[j]?.getD 0)) (hl : len ≤ 256) :
    Calls Tryz.prog 9 #[.slice ao len cap] w fun e w' => ∃ v, e = .returned v ∧ NumC w' v E 1300 (lossV us) ∧ Below w.heap.size w w' := by
  have HL : Hid (us.length = len) := h.length
  have HS : Hid (E = 1074 ∧ len ≤ 256) := ⟨hE, hl⟩
  have X0 : Below w.heap.size w (((w.alloc (.cells #[.bool false, .slice none 0 0, .int .i64 0] 37)).alloc (.cells #[.bool false, .slice none 0 0, .int .i64 0] 37)).alloc (.cells #[.bool false, .slice none 0 0, .int .i64 0] 37)) := (((Below.refl _ w).alloc (Nat.le_refl _) _).alloc (by simp only [alloc_size]; omega) _).alloc (by simp only [alloc_size]; omega) _
  obtain ⟨Y0, Y1, Y2, hsz, _⟩ := alloc3_facts w (.cells #[.bool false, .slice none 0 0, .int .i64 0] 37) (.cells #[.bool false, .slice none 0 0, .int .i64 0] 37) (.cells #[.bool false, .slice none 0 0, .int .i64 0] 37)
  have HN : Hid (∀ W', Below w.heap.size w W' → Calls Tryz.prog 26 #[.slice ao len cap] W' fun e w' => ∃ v, e = .returned v ∧ RowN w' W'.heap.size v E us ∧ Below W'.heap.size W' w') := fun W' hb => numsT_any ao len cap us E hE W' (h.later hb) hf (by omega)
  clear h hf hE
  go_enter Tryz.func9, Tryz.ntmps9
  go_upto_region 2 with fail
  obtain ⟨X, hX⟩ : ∃ X, (((w.alloc (.cells #[.bool false, .slice none 0 0, .int .i64 0] 37)).alloc (.cells #[.bool false, .slice none 0 0, .int .i64 0] 37)).alloc (.cells #[.bool false, .slice none 0 0, .int .i64 0] 37)) = X := ⟨_, rfl⟩
  rw [hX] at X0 Y0 Y1 Y2 ⊢
  have HX : Hid (Below w.heap.size w X ∧ X.heap[w.heap.size]? = some (.cells #[.bool false, .slice none 0 0, .int .i64 0] 37) ∧ X.heap[w.heap.size + 1]? = some (.cells #[.bool false, .slice none 0 0, .int .i64 0] 37) ∧ X.heap[w.heap.size + 1 + 1]? = some (.cells #[.bool false, .slice none 0 0, .int .i64 0] 37)) := ⟨X0, Y0, Y1, Y2⟩
  clear hX X0 Y0 Y1 Y2 hsz
  go_upto_region 3 with (first
    | (go_at_call 26; refine Calls.mono (HN.out _ HX.out.1) ?_; rintro e w1 ⟨v1, rfl, hr1, b1⟩))
  obtain ⟨la, lc, hv⟩ := hr1.form
  rw [HL.out] at hv
  subst hv
  obtain ⟨B, hB⟩ : ∃ B, X.heap.size = B := ⟨_, rfl⟩
  have HB : Hid (w.heap.size + 1 + 1 < B) := by unfold Hid; rw [← hB]; exact blk_lt HX.out.2.2.2
  rw [hB] at hr1
  have P0 : Hid (LsL w w1 B E 0 0 us la len lc false none 0 0 0 false none 0 0 0) := ⟨⟨kept b1 HX.out.2.2.1, NumC.zeroJ _ _ _ (by omega)⟩, ⟨kept b1 HX.out.2.2.2, NumC.zeroJ _ _ _ (by omega)⟩, kept b1 HX.out.2.1, hr1, to_call HX.out.1 b1⟩
  clear hr1 b1 hB HX HN
  go_wp2_with fail
  go_loopg [6] len (fun q v6 wx => ∃ (k : Nat), v6 = .int .i64 k ∧ k + q = len ∧ ∃ (n : Bool) (o : Option Addr) (l c : Nat) (e : Int) (n9 : Bool) (o9 : Option Addr) (l9 c9 : Nat) (e9 : Int), Hid (LsL w wx B E k k us la len lc n o l c e n9 o9 l9 c9 e9))
  case atStart => exact ⟨0, rfl, by omega, false, none, 0, 0, 0, false, none, 0, 0, 0, P0⟩
  case round =>
    clear P0
    obtain ⟨k, rfl, hk, n, o, l, c, e, n9, o9, l9, c9, e9, HI⟩ := hrel
    by_cases h1 : k < len
    · have hd1 : decide ((k : Int) < (len : Int)) = true := decide_eq_true (by omega)
      obtain ⟨q, rfl⟩ : ∃ q, gk = q + 1 := ⟨gk - 1, by omega⟩
      have HIG : Hid (k + (q + 1) = len) := hk
      have hk0 : (k : Int) < (len : Int) := by omega
      clear hk
      go_upto_region 6 with fail
      obtain ⟨gb, qb, bn, bo, bl0, bc', be, vb', rb, zb⟩ := RowN.range HI.out.row (k := k) (by rw [HL.out]; exact h1)
      rw [HL.out] at vb'
      have R2 : Hid (wr.rangeAt gb (k * 3) [.bool bn, .slice bo bl0 bc', .int .i64 be]) := rb
      have Z2 : Hid (NumC wr (.agg #[.bool bn, .slice bo bl0 bc', .int .i64 be]) E 1024 (fval (us[k]?.getD 0))) := zb
      have hba : la = some ⟨gb, 0, none⟩ := by injection vb'
      subst hba
      clear rb zb vb' hd1
      have SX : Below wr.heap.size wr wr.drew := (Below.refl _ _).drew
      refine wp_region_noPanic ?_
      refine wp_region_P (S := (fun V => Below wr.heap.size wr V)) (s := 7) (by kernel_rfl) ?_
      refine takeP 15 (i := 0) (v := .agg #[.bool n, .slice o l c, .int .i64 e]) rfl rfl (by kernel_rfl) (by kernel_rfl) (by kernel_rfl) (by kernel_rfl) rfl (by kernel_rfl) (fun _ _ _ h => h) (Or.inl ⟨by kernel_rfl, fun w' hSw => ex_loadRN _ 37 _ rfl (w.heap.size + 1) (by kernel_rfl) w' _ (kept hSw HI.out.s.row) _ Tryz.underlying37 rfl 3 Tryz.infoN3 rfl⟩) SX ?_
      try simp only [Act.put, List.setIfInBounds_toArray, List.set_cons_zero, List.set_cons_succ]
      refine takeP 16 (i := 1) (v := ?_) rfl rfl (by kernel_rfl) (by kernel_rfl) (by kernel_rfl) (by kernel_rfl) rfl (by kernel_rfl) (fun _ _ _ h => h) (Or.inl ⟨by kernel_rfl, ?_⟩) SX ?_
      rotate_left
      · intro w' hSw; go_simp; try with_reducible rfl
      try simp only [Act.put, List.setIfInBounds_toArray, List.set_cons_zero, List.set_cons_succ]
      refine takeP 17 (i := 2) (v := ?_) rfl rfl (by kernel_rfl) (by kernel_rfl) (by kernel_rfl) (by kernel_rfl) rfl (by kernel_rfl) (fun _ _ _ h => h) (Or.inl ⟨by kernel_rfl, ?_⟩) SX ?_
      rotate_left
      · intro w' hSw; go_simp; try with_reducible rfl
      try simp only [Act.put, List.setIfInBounds_toArray, List.set_cons_zero, List.set_cons_succ]
      refine takeP 18 (i := 3) (v := ?_) rfl rfl (by kernel_rfl) (by kernel_rfl) (by kernel_rfl) (by kernel_rfl) rfl (by kernel_rfl) (fun _ _ _ h => h) (Or.inl ⟨by kernel_rfl, ?_⟩) SX ?_
      rotate_left
      · intro w' hSw; go_simp; try with_reducible rfl
      try simp only [Act.put, List.setIfInBounds_toArray, List.set_cons_zero, List.set_cons_succ]
      refine takeP 19 (i := 4) (v := .agg #[.bool bn, .slice bo bl0 bc', .int .i64 be]) rfl rfl (by kernel_rfl) (by kernel_rfl) (by kernel_rfl) (by kernel_rfl) rfl (by kernel_rfl) (fun _ _ _ h => h) (yieldsIf_load_mid (by kernel_rfl) 37 _ rfl gb (k * 3) (by kernel_rfl) #[.bool bn, .slice bo bl0 bc', .int .i64 be].toList _ (fun V' hS => (range_later R2.out hS : V'.rangeAt gb (k * 3) [.bool bn, .slice bo bl0 bc', .int .i64 be])) Tryz.underlying37 rfl (by kernel_rfl)) SX ?_
      try simp only [Act.put, List.setIfInBounds_toArray, List.set_cons_zero, List.set_cons_succ]
      refine wpAnyP_ready (rs := [5]) (by kernel_rfl) (by simp) ?_
      refine consP _ rfl (hopCd 20 rfl (by kernel_rfl) rfl (by kernel_rfl) (Calls.mono (sizeC_any _ E 1024 _ _ (NumC.later Z2.out SX)) ?_)) AllReadyP.nil
      rintro e V1 ⟨v1, rfl, hz1, b1⟩
      obtain ⟨n1, o1, t1, p1, x1, hv1⟩ := hz1.form
      subst hv1
      have SX : Below wr.heap.size wr V1 := to_call SX b1
      clear b1
      refine ⟨_, rfl, SX, ?_⟩
      try simp only [Act.put, List.setIfInBounds_toArray, List.set_cons_zero, List.set_cons_succ]
      refine wpAnyP_ready (rs := [6]) (by kernel_rfl) (by simp) ?_
      refine consP _ rfl (hopCd 21 rfl (by kernel_rfl) rfl (by kernel_rfl) (Calls.mono (plusC_any _ _ E (1024 + k) _ _ _ (NumC.later HI.out.s.num SX) (hz1.mono (by omega)) (by have := HS.out; omega) (by have := HS.out; omega)) ?_)) AllReadyP.nil
      rintro e V2 ⟨v2, rfl, hz2, b2⟩
      obtain ⟨n2, o2, t2, p2, x2, hv2⟩ := hz2.form
      subst hv2
      have SX : Below wr.heap.size wr V2 := to_call SX b2
      clear b2 hz1
      refine ⟨_, rfl, SX, ?_⟩
      try simp only [Act.put, List.setIfInBounds_toArray, List.set_cons_zero, List.set_cons_succ]
      refine wpAnyP_ready (rs := [7]) (by kernel_rfl) (by simp) ?_
      refine consPs _ rfl (by kernel_rfl) (hopL rfl (wpList_store_row (by rfl) 37 _ _ (by rfl) w w.heap.size (w.heap.size + 1) #[.bool n2, .slice o2 t2 p2, .int .i64 x2] _ (by kernel_rfl) (by kernel_rfl) (kept SX HI.out.s.row) (to_call HI.out.bel SX) (by omega) 3 Tryz.infoN3 rfl rfl (oneN _ _ _ _ _) fun V3 e3 b3 s3 k3 => ?_)) AllReadyP.nil
      refine ⟨trivial, ?_⟩
      try simp only [Act.put, List.setIfInBounds_toArray, List.set_cons_zero, List.set_cons_succ]
      refine wpAnyP_done (by kernel_rfl) ?_ _
      refine NoPanic.normal ?_
      try simp only [Act.put, List.setIfInBounds_toArray, List.set_cons_zero, List.set_cons_succ]
      have HJ : Hid (LsL w V3 B E (k + 1) k us (some ⟨gb, 0, none⟩) len lc n2 o2 t2 p2 x2 n9 o9 l9 c9 e9) := by
        have hcl := num_cl (kept SX HI.out.s.row)
        have hz3 := hz2.cl hcl (fun b hb _ => k3 b hb)
        have e9' : ((sumK us k : Nat) : Int) + ((fval (us[k]?.getD 0)).natAbs : Int) = ((sumK us (k + 1) : Nat) : Int) := by rw [sumK, fval_absJ, Int.natCast_add]
        rw [e9'] at hz3
        obtain ⟨xs, hx1, _⟩ := HI.out.row.own
        exact ⟨⟨e3, hz3.mono (by rw [Int.natCast_add]; omega)⟩, ⟨by rw [k3 _ (by omega)]; exact kept SX HI.out.m.row, (NumC.later HI.out.m.num SX).cl hcl (fun b hb _ => k3 b hb)⟩, by rw [k3 _ (by omega)]; exact kept SX HI.out.r, RowN.stored (HI.out.row.later SX) hcl (fun b hb => k3 b hb) (fun g hg => by have := (World.ownsRow.lt hx1 g hg).1; have := HB.out; omega), b3⟩
      clear hz2 SX k3 b3 e3 s3 R2 Z2 HI
      go_upto_region 7 with fail
      obtain ⟨gb', qb, bn, bo, bl0, bc', be, vb', rb, zb⟩ := RowN.range HJ.out.row (k := k) (by rw [HL.out]; exact h1)
      have hgg : gb' = gb := by injection vb' with q1; injection q1 with q2; injection q2 with q3; exact q3.symm
      subst hgg
      have R2 : Hid (V3.rangeAt gb' (k * 3) [.bool bn, .slice bo bl0 bc', .int .i64 be]) := rb
      have Z2 : Hid (NumC V3 (.agg #[.bool bn, .slice bo bl0 bc', .int .i64 be]) E 1024 (fval (us[k]?.getD 0))) := zb
      clear rb zb vb'
      have SX : Below V3.heap.size V3 V3.drew := (Below.refl _ _).drew
      refine wp_region_noPanic ?_
      refine wp_region_P (S := (fun V => Below V3.heap.size V3 V)) (s := 7) (by kernel_rfl) ?_
      refine takeP 22 (i := 0) (v := .agg #[.bool n9, .slice o9 l9 c9, .int .i64 e9]) rfl rfl (by kernel_rfl) (by kernel_rfl) (by kernel_rfl) (by kernel_rfl) rfl (by kernel_rfl) (fun _ _ _ h => h) (Or.inl ⟨by kernel_rfl, fun w' hSw => ex_loadRN _ 37 _ rfl (w.heap.size + 1 + 1) (by kernel_rfl) w' _ (kept hSw HJ.out.m.row) _ Tryz.underlying37 rfl 3 Tryz.infoN3 rfl⟩) SX ?_
      try simp only [Act.put, List.setIfInBounds_toArray, List.set_cons_zero, List.set_cons_succ]
      refine takeP 23 (i := 1) (v := ?_) rfl rfl (by kernel_rfl) (by kernel_rfl) (by kernel_rfl) (by kernel_rfl) rfl (by kernel_rfl) (fun _ _ _ h => h) (Or.inl ⟨by kernel_rfl, ?_⟩) SX ?_
      rotate_left
      · intro w' hSw; go_simp; try with_reducible rfl
      try simp only [Act.put, List.setIfInBounds_toArray, List.set_cons_zero, List.set_cons_succ]
      refine takeP 24 (i := 2) (v := ?_) rfl rfl (by kernel_rfl) (by kernel_rfl) (by kernel_rfl) (by kernel_rfl) rfl (by kernel_rfl) (fun _ _ _ h => h) (Or.inl ⟨by kernel_rfl, ?_⟩) SX ?_
      rotate_left
      · intro w' hSw; go_simp; try with_reducible rfl
      try simp only [Act.put, List.setIfInBounds_toArray, List.set_cons_zero, List.set_cons_succ]
      refine takeP 25 (i := 3) (v := ?_) rfl rfl (by kernel_rfl) (by kernel_rfl) (by kernel_rfl) (by kernel_rfl) rfl (by kernel_rfl) (fun _ _ _ h => h) (Or.inl ⟨by kernel_rfl, ?_⟩) SX ?_
      rotate_left
      · intro w' hSw; go_simp; try with_reducible rfl
      try simp only [Act.put, List.setIfInBounds_toArray, List.set_cons_zero, List.set_cons_succ]
      refine takeP 26 (i := 4) (v := .agg #[.bool bn, .slice bo bl0 bc', .int .i64 be]) rfl rfl (by kernel_rfl) (by kernel_rfl) (by kernel_rfl) (by kernel_rfl) rfl (by kernel_rfl) (fun _ _ _ h => h) (yieldsIf_load_mid (by kernel_rfl) 37 _ rfl gb' (k * 3) (by kernel_rfl) #[.bool bn, .slice bo bl0 bc', .int .i64 be].toList _ (fun V' hS => (range_later R2.out hS : V'.rangeAt gb' (k * 3) [.bool bn, .slice bo bl0 bc', .int .i64 be])) Tryz.underlying37 rfl (by kernel_rfl)) SX ?_
      try simp only [Act.put, List.setIfInBounds_toArray, List.set_cons_zero, List.set_cons_succ]
      refine wpAnyP_ready (rs := [5]) (by kernel_rfl) (by simp) ?_
      refine consP _ rfl (hopCd 27 rfl (by kernel_rfl) rfl (by kernel_rfl) (Calls.mono (sizeC_any _ E 1024 _ _ (NumC.later Z2.out SX)) ?_)) AllReadyP.nil
      rintro e U1 ⟨v1, rfl, hz1, b1⟩
      obtain ⟨n1, o1, t1, p1, x1, hv1⟩ := hz1.form
      subst hv1
      have SX : Below V3.heap.size V3 U1 := to_call SX b1
      clear b1
      refine ⟨_, rfl, SX, ?_⟩
      try simp only [Act.put, List.setIfInBounds_toArray, List.set_cons_zero, List.set_cons_succ]
      refine wpAnyP_ready (rs := [6]) (by kernel_rfl) (by simp) ?_
      refine consP _ rfl (hopCd 28 rfl (by kernel_rfl) rfl (by kernel_rfl) (Calls.mono (mostT_any _ _ E 1024 _ _ _ (NumC.later HJ.out.m.num SX) hz1 (by have := HS.out; omega) (by omega)) ?_)) AllReadyP.nil
      rintro e U2 ⟨v2, rfl, hz2, b2⟩
      obtain ⟨n4, o4, t4, p4, x4, hv2⟩ := hz2.form
      subst hv2
      have SX : Below V3.heap.size V3 U2 := to_call SX b2
      clear b2 hz1
      refine ⟨_, rfl, SX, ?_⟩
      try simp only [Act.put, List.setIfInBounds_toArray, List.set_cons_zero, List.set_cons_succ]
      refine wpAnyP_ready (rs := [7]) (by kernel_rfl) (by simp) ?_
      refine consPs _ rfl (by kernel_rfl) (hopL rfl (wpList_store_row (by rfl) 37 _ _ (by rfl) w w.heap.size (w.heap.size + 1 + 1) #[.bool n4, .slice o4 t4 p4, .int .i64 x4] _ (by kernel_rfl) (by kernel_rfl) (kept SX HJ.out.m.row) (to_call HJ.out.bel SX) (by omega) 3 Tryz.infoN3 rfl rfl (oneN _ _ _ _ _) fun U3 e4 b4 s4 k4 => ?_)) AllReadyP.nil
      refine ⟨trivial, ?_⟩
      try simp only [Act.put, List.setIfInBounds_toArray, List.set_cons_zero, List.set_cons_succ]
      refine wpAnyP_done (by kernel_rfl) ?_ _
      refine NoPanic.normal ?_
      try simp only [Act.put, List.setIfInBounds_toArray, List.set_cons_zero, List.set_cons_succ]
      have HK : Hid (LsL w U3 B E (k + 1) (k + 1) us (some ⟨gb', 0, none⟩) len lc n2 o2 t2 p2 x2 n4 o4 t4 p4 x4) := by
        have hcl := num_cl (kept SX HJ.out.m.row)
        have hz3 := hz2.cl hcl (fun b hb _ => k4 b hb)
        have e9' : max ((rmag (grK us k) : Nat) : Int) ((fval (us[k]?.getD 0)).natAbs : Int) = ((rmag (grK us (k + 1)) : Nat) : Int) := by rw [grK, rmag_max, fval_absJ]
        rw [e9'] at hz3
        obtain ⟨xs, hx1, _⟩ := HJ.out.row.own
        exact ⟨⟨by rw [k4 _ (by omega)]; exact kept SX HJ.out.s.row, (NumC.later HJ.out.s.num SX).cl hcl (fun b hb _ => k4 b hb)⟩, ⟨e4, hz3⟩, by rw [k4 _ (by omega)]; exact kept SX HJ.out.r, RowN.stored (HJ.out.row.later SX) hcl (fun b hb => k4 b hb) (fun g hg => by have := (World.ownsRow.lt hx1 g hg).1; have := HB.out; omega), b4⟩
      clear hz2 SX k4 b4 e4 s4 R2 Z2 HJ
      go_wp2_with fail
      go_roundg q
      case measure => omega
      case rel => exact ⟨k + 1, by go_num, by have := HIG.out; omega, n2, o2, t2, p2, x2, n4, o4, t4, p4, x4, HK⟩
    · have hd1 : decide ((k : Int) < (len : Int)) = false := decide_eq_false (by omega)
      have hd2 : decide (k < len) = false := decide_eq_false h1
      have ek : k = len := by omega
      have HMI : Hid _ := minusC_any _ _ E (1024 + k) _ _ wr HI.out.s.num (HI.out.m.num.mono (by omega)) (by have := HS.out; omega) (by have := HS.out; omega)
      have HV : Hid (((sumK us k : Nat) : Int) - ((rmag (grK us k) : Nat) : Int) = lossV us) := by unfold Hid lossV; rw [HL.out, ek]
      have HKL : Hid (k ≤ 256) := by have := HS.out; unfold Hid; omega
      clear ek hk
      go_wp2_with (first
        | (refine wpList_load_row (by rfl) 37 _ (by rfl) (w.heap.size + 1) _ (by rfl) HI.out.s.row _ Tryz.underlying37 rfl 3 Tryz.infoN3 (by rfl) ?_)
        | (refine wpList_load_row (by rfl) 37 _ (by rfl) (w.heap.size + 1 + 1) _ (by rfl) HI.out.m.row _ Tryz.underlying37 rfl 3 Tryz.infoN3 (by rfl) ?_))
      refine Calls.mono HMI.out ?_
      rintro e1 w8 ⟨v8, rfl, hz8, b8⟩
      obtain ⟨n8, o8, t8, p8, x8, rfl⟩ := hz8.form
      have hr8 := kept b8 HI.out.r
      have hb8 := to_call HI.out.bel b8
      go_wp2_with (first
        | (refine wpList_store_row (by rfl) 37 _ _ (by rfl) w w.heap.size w.heap.size #[.bool n8, .slice o8 t8 p8, .int .i64 x8] _ (by rfl) (by rfl) hr8 hb8 (Nat.le_refl _) 3 Tryz.infoN3 (by rfl) (by rfl) (oneN _ _ _ _ _) ?_; intro W9 e9' b9 s9 o9'))
      refine bodyPost_ret (v := .agg #[.bool n8, .slice o8 t8 p8, .int .i64 x8]) (res_num _ 2 (by kernel_rfl) _ _ w.heap.size _ _ _ (by rfl) e9') rfl ⟨_, rfl, ?_, b9⟩
      have h9 := hz8.cl (num_cl hr8) (fun b hb _ => o9' b hb)
      rw [HV.out] at h9
      exact h9.mono (by have := HKL.out; omega)
end Go.Proofs.YtogdfdhdmfkmaaaGreat

namespace Go.Proofs.YtogdfdhdmfkmaaaGreat
open Go.RowKit Go.Shelf
set_option linter.unusedVariables false
set_option linter.unusedSimpArgs false

theorem ex_loadRT {P : Program} {ρ : Operand → Value} (o : Oper) (ty : TypeId) (p : Operand) (ho : o.op = .load ty p) (B : Nat) (hp : ρ p = .pointer (some ⟨B, 0, none⟩)) (w : World) (c : Array Value) (h : w.heap[B]? = some (.cells c ty)) (d : TypeDesc) (hu : P.underlying ty = some d) (hd : d.isRow = true) (n : Nat) (hi : (P.info? ty).map (·.size) = some n) (hn : c.size = n) : (execOp ρ o).run P w = .ok (.value (.agg c)) w := by
  have hr : w.rangeAt B 0 c.toList := by
    have := World.rangeAt_of_block h 0 c.size
    simpa using this
  have hl := run_loadVar_mid (P := P) w B 0 ty c.toList d hr hu hd (by rw [hi]; simp [hn])
  have hl2 : (loadVar ty ⟨B, 0, none⟩).run P w = .ok (.agg c) w := by simpa using hl
  unfold execOp
  simp only [ho, hp, Instr.loadAt, Instr.sureAddr, Sem.run_bind, Sem.run_pure, Result.andThen_ok, hl2]
theorem run_minI (x y : Int) : ∀ ts t w, (Builtin.min_ ts t #[.int .i64 x, .int .i64 y]).run Tryz.prog w = .ok (.int .i64 (min x y)) w := by
  intro ts t w
  have e : (if y < x then y else x) = min x y := by split <;> omega
  unfold Builtin.min_
  simp [Builtin.min2, e]
theorem allocBx (w : World) : (Instr.alloc 26 true (.tuple #[])).run Tryz.prog w = .ok (.pointer (some ⟨w.heap.size, 0, none⟩)) (w.alloc (.cells #[.int .i64 0, .slice none 0 0, .slice none 0 0, .slice none 0 0, .slice none 0 0, .bool false] 26)) := by kernel_rfl
theorem oneR (z : ZD) : (zRow z).all (·.oneCell') = true := oneZ _ _ _ _ _ rfl rfl rfl rfl _
/-- What the law's first loop holds. -/
structure LtS (Bg : Nat) (w8 W : World) (z : ZD) (low gi li E : Nat) (n : Bool) (o : Option Addr) (l' c : Nat) (e : Int) : Prop where
  g : BxN W Bg E 1054 ((goneL (lsZ z) z.gn low gi).map (lsZ z)).sum n o l' c e
  ob : W.heap[Bg + 1]? = some (.cells #[.bool false, .slice none 0 0, .int .i64 0] 37)
  l : W.heap[Bg + 1 + 1]? = some (.cells (upN z.dn li) 3)
  bel : Below w8.heap.size w8 W
theorem and40 (n : Int) : ∃ N : Nat, bits .and .i64 n 1099511627775 = (N : Int) ∧ N ≤ 1099511627775 := by
  have h1 : (BitVec.ofInt 64 1099511627775).toNat = 2 ^ 40 - 1 := by decide
  have h2 : (BitVec.ofInt 64 n &&& BitVec.ofInt 64 1099511627775).toNat = (BitVec.ofInt 64 n).toNat % 2 ^ 40 := by
    rw [BitVec.toNat_and, h1, Nat.and_two_pow_sub_one_eq_mod]
  have h3 : (BitVec.ofInt 64 n).toNat % 2 ^ 40 < 1099511627776 := Nat.mod_lt _ (by decide)
  refine ⟨(BitVec.ofInt 64 n).toNat % 2 ^ 40, ?_, by omega⟩
  show IntKind.i64.wrap ((BitVec.ofInt 64 n &&& BitVec.ofInt 64 1099511627775).toNat : Nat) = _
  rw [h2, IntKind.wrap_i64]
  omega
theorem up_cl {W : World} {B n k : Nat} {t : TypeId} (h : W.heap[B]? = some (.cells (upN n k) t)) : Cl noU W B := by
  refine ⟨_, _, h, fun i v hv => ?_⟩
  unfold upN at hv
  simp only [List.getElem?_toArray, List.getElem?_map, Option.map_eq_some_iff] at hv
  obtain ⟨j, _, rfl⟩ := hv
  rfl
theorem ls_bound {z : ZD} (h : WhF z) (hg : z.gs.length = z.gn) {F : Nat} (hF : F = 2098) (k : Nat) : 0 ≤ lsZ z k ∧ lsZ z k ≤ ((256 * 2 ^ F : Nat) : Int) := by
  refine ⟨lossV_nonneg _, ?_⟩
  have h1 := sumK_lt hF (h.fin.g k) (z.gs[k]?.getD []).length
  have h2 : (z.gs[k]?.getD []).length ≤ 256 := by
    by_cases hk : k < z.dn
    · rw [h.gl k hk]; exact h.n2
    · rw [List.getElem?_eq_none (by have := h.dg; omega)]; simp
  have h3 := Nat.mul_le_mul_right (2 ^ F) h2
  unfold lsZ lossV
  omega
theorem ls_sum {z : ZD} (h : WhF z) (hg : z.gs.length = z.gn) {F : Nat} (hF : F = 2098) : ∀ p : List Nat, 0 ≤ (p.map (lsZ z)).sum ∧ (p.map (lsZ z)).sum ≤ ((p.length * (256 * 2 ^ F) : Nat) : Int)
  | [] => by simp
  | a :: p => by
    have h1 := ls_sum h hg hF p
    have h2 := ls_bound h hg hF a
    rw [List.map_cons, List.sum_cons, List.length_cons, Nat.succ_mul]
    omega
theorem ls_lt {z : ZD} (h : WhF z) (hg : z.gs.length = z.gn) {X : Nat} (hX : X = 2128) (p : List Nat) (hp : p.length ≤ 1050000) : ((p.map (lsZ z)).sum).natAbs < 2 ^ X := by
  obtain ⟨F, hF⟩ : ∃ F : Nat, F = 2098 := ⟨_, rfl⟩
  have h1 := ls_sum h hg hF p
  have h2 : p.length * (256 * 2 ^ F) ≤ 1050000 * (256 * 2 ^ F) := Nat.mul_le_mul_right _ hp
  have h3 : X = 30 + F := by omega
  have h4 := Nat.two_pow_pos F
  rw [h3, Nat.pow_add]
  omega
/-- What the law's second loop holds. -/
structure LuS (Bg : Nat) (w8 W : World) (z : ZD) (low E : Nat) (p L : List Nat) (lv : Value) (n9 : Bool) (o9 : Option Addr) (l9 c9 : Nat) (e9 : Int) (n : Bool) (o : Option Addr) (l' c : Nat) (e : Int) : Prop where
  g : BxN W Bg E 1054 ((goneL (lsZ z) z.gn low z.dn).map (lsZ z)).sum n9 o9 l9 c9 e9
  ob : BxN W (Bg + 1) E 1054 (p.map (lsZ z)).sum n o l' c e
  l : W.ownsRow (Bg + 1 + 1) 3 1 lv L.length (L.map fun a : Nat => Value.int .i64 (a : Int))
  bel : Below w8.heap.size w8 W
  pm : (p ++ L).Perm (List.range z.dn)
theorem upN_list (n : Nat) : (upN n n).toList = (List.range n).map fun a : Nat => Value.int .i64 (a : Int) := by
  unfold upN
  refine List.map_congr_left fun j hj => ?_
  rw [if_pos (List.mem_range.1 hj)]
theorem Tryz.elemIT : Tryz.prog.elem 23 = 3 := by kernel_rfl
theorem sizeIT2 (w : World) : (sizeOf 3).run Tryz.prog w = .ok 1 w := by kernel_rfl
theorem cutIT (b len cap q : Nat) (hq : q ≤ cap) (hc : 0 < cap) (w : World) : (Instr.slice 23 (.slice (some ⟨b, 0, none⟩) len cap) none (some (.int .i64 (q : Int))) none).run Tryz.prog w = .ok (.slice (some ⟨b, 0, none⟩) q cap) w := by
  rw [run_slice_h w _ _ _ _ (by rw [Tryz.elemIT]; exact Tryz.underlying23) .i64 q (by omega) (by omega), Tryz.elemIT, sizeIT2]
  simp only [Result.andThen, sliced, if_neg (Nat.ne_of_gt hc), Option.map_some, Addr.add_lit]
  simp
theorem tailIT (b len cap q : Nat) (hq : q ≤ len) (hl : len ≤ cap) : ∃ ad : Addr, (q < len → ad = ⟨b, q, none⟩) ∧ ∀ w : World, (Instr.slice 23 (.slice (some ⟨b, 0, none⟩) len cap) (some (.int .i64 (q : Int))) none none).run Tryz.prog w = .ok (.slice (some ad) (len - q) (cap - q)) w := by
  refine ⟨if cap = q then ⟨b, 0, none⟩ else ⟨b, q, none⟩, fun h => if_neg (by omega), fun w => ?_⟩
  rw [run_slice_l w _ _ _ _ (by rw [Tryz.elemIT]; exact Tryz.underlying23) .i64 q (by omega) (by omega), Tryz.elemIT, sizeIT2]
  simp only [Result.andThen, sliced, Int.toNat_natCast, Option.map_some, Addr.add_lit]
  by_cases h : cap = q
  · simp [h]
  · simp [h]
theorem ex_sliceT {ρ : Operand → Value} (o : Oper) (x y : Operand) (ho : o.op = .slice 23 x none (some y) none) (xa : Option Addr) (xl xc : Nat) (v s : Value) (hx : ρ x = .slice xa xl xc) (hy : ρ y = v) (w : World) (h : (Instr.slice 23 (.slice xa xl xc) none (some v) none).run Tryz.prog w = .ok s w) : (execOp ρ o).run Tryz.prog w = .ok (.value s) w := by
  have hu : (underlying 23).run Tryz.prog w = .ok (.slice 3) w := by kernel_rfl
  unfold execOp
  simp only [ho, hx, hy, Option.map_none, Option.map_some, Instr.sliceAt]
  simp [go_sem, hu, h, Result.andThen]
theorem ex_sliceL {ρ : Operand → Value} (o : Oper) (x y : Operand) (ho : o.op = .slice 23 x (some y) none none) (xa : Option Addr) (xl xc : Nat) (v s : Value) (hx : ρ x = .slice xa xl xc) (hy : ρ y = v) (w : World) (h : (Instr.slice 23 (.slice xa xl xc) (some v) none none).run Tryz.prog w = .ok s w) : (execOp ρ o).run Tryz.prog w = .ok (.value s) w := by
  have hu : (underlying 23).run Tryz.prog w = .ok (.slice 3) w := by kernel_rfl
  unfold execOp
  simp only [ho, hx, hy, Option.map_none, Option.map_some, Instr.sliceAt]
  simp [go_sem, hu, h, Result.andThen]
theorem news_take {W : World} {base g n cap : Nat} {xs : List Value} (h : W.ownsRow base 3 1 (.slice (some ⟨g, 0, none⟩) n cap) n xs) (q : Nat) : ∀ j u, (xs.take q)[j]? = some u → W.cell? ((⟨g, 0, none⟩ : Addr).add j) = some u := by
  intro j u hj
  have hx : xs.length = n := by have := h.1; omega
  have h1 := (List.getElem?_eq_some_iff.1 hj).1
  rw [List.length_take] at h1
  rw [List.getElem?_take_of_lt (by omega)] at hj
  rw [Addr.add_lit, Nat.zero_add, World.ownsRow.cellAt h j (by omega)]
  exact hj
theorem news_drop {W : World} {base g n cap : Nat} {xs : List Value} (h : W.ownsRow base 3 1 (.slice (some ⟨g, 0, none⟩) n cap) n xs) (q : Nat) (ad : Addr) (had : q < n → ad = ⟨g, q, none⟩) : ∀ j u, (xs.drop q)[j]? = some u → W.cell? (ad.add j) = some u := by
  intro j u hj
  have hx : xs.length = n := by have := h.1; omega
  rw [List.getElem?_drop] at hj
  have h1 := (List.getElem?_eq_some_iff.1 hj).1
  rw [had (by omega), Addr.add_lit, World.ownsRow.cellAt h (q + j) (by omega)]
  exact hj
theorem ints_one (l : List Nat) : ∀ u ∈ (l.map fun a : Nat => Value.int .i64 (a : Int)), u.oneCell' = true := by
  intro u hu
  obtain ⟨a, _, rfl⟩ := List.mem_map.1 hu
  rfl
theorem perm_pick {p L M : List Nat} {j a : Nat} (h : (p ++ L).Perm M) (ha : L[j]? = some a) : ((p ++ [a]) ++ (L.take j ++ L.drop (j + 1))).Perm M := by
  refine List.Perm.trans ?_ h
  have hj := (List.getElem?_eq_some_iff.1 ha).1
  have e : L = L.take j ++ a :: L.drop (j + 1) := by
    have e1 := List.take_append_drop j L
    rw [List.drop_eq_getElem_cons hj] at e1
    rw [(List.getElem?_eq_some_iff.1 ha).2] at e1
    exact e1.symm
  rw [List.append_assoc]
  refine List.Perm.append_left p ?_
  conv => rhs; rw [e]
  exact (List.perm_middle (l₁ := L.take j) (a := a) (l₂ := L.drop (j + 1))).symm
set_option maxRecDepth 100000 in
set_option maxHeartbeats 16000000 in
theorem trimLeast_walk (z : ZD) (w : World) (hz : ZR w z) (hw : ZW z) (hdn : z.dn ≤ 1048576) (most : Int) (hm1 : -9223372036854775808 ≤ most) (hm2 : most ≤ 9223372036854775807) (ao : Option Addr) (l2 c2 : Nat) (ss : List Int) (hs : RdIs w ao l2 c2 ss) (hsb : ∀ i ∈ ss, -9223372036854775808 ≤ i ∧ i ≤ 9223372036854775807) :
    Calls Tryz.prog 3 #[.agg (zRow z), .int .i64 most, .slice ao l2 c2] w fun e w' => e = .returned (.bool true) ∧ Below w.heap.size w w' := by
  have HZ : Hid (∀ W', Below w.heap.size w W' → ZR W' z) := fun W' hb => hz.later hb
  have HS : Hid (∀ W', Below w.heap.size w W' → RdIs W' ao l2 c2 ss) := fun W' hb => hs.later hb
  have HSB : Hid (∀ i ∈ ss, -9223372036854775808 ≤ i ∧ i ≤ 9223372036854775807) := hsb
  have HSL : Hid (ss.length = l2) := hs.length
  have hmx := Nat.le_trans hs.max maxLen_le
  have HMM : Hid (-9223372036854775808 ≤ most ∧ most ≤ 9223372036854775807) := ⟨hm1, hm2⟩
  have HZW : Hid (ZW z) := hw
  have HD : Hid (z.dn ≤ 1048576) := hdn
  have HWF : Hid (wholeB z = true → WhF z) := fun h => WhF.of hz (by omega) h
  have HOf : Hid (∀ W', Below w.heap.size w W' → Calls Tryz.prog 7 #[.agg #[.int .i64 z.N, .slice z.co z.cn z.cc, .slice z.io z.dn z.dc, .slice z.go z.gn z.gc, .slice z.ro z.rn z.rc, .bool z.bad]] W' fun e w' => ∃ u : ZD, e = .returned (.agg (zRow u)) ∧ ZU w' u ∧ OfS z u ∧ Below W'.heap.size W' w') := fun W' hb => ofT_any z W' (hz.later hb) hw
  have X0 : Below w.heap.size w (w.alloc (.cells #[.int .i64 z.N, .slice z.co z.cn z.cc, .slice z.io z.dn z.dc, .slice z.go z.gn z.gc, .slice z.ro z.rn z.rc, .bool z.bad] 26)) := (Below.refl _ w).alloc (Nat.le_refl _) _
  have Y0 : (w.alloc (.cells #[.int .i64 z.N, .slice z.co z.cn z.cc, .slice z.io z.dn z.dc, .slice z.go z.gn z.gc, .slice z.ro z.rn z.rc, .bool z.bad] 26)).heap[w.heap.size]? = some (.cells #[.int .i64 z.N, .slice z.co z.cn z.cc, .slice z.io z.dn z.dc, .slice z.go z.gn z.gc, .slice z.ro z.rn z.rc, .bool z.bad] 26) := heap_alloc_new w _
  clear hz hs hsb hw hdn hm1 hm2
  unfold zRow
  go_enter Tryz.func3, Tryz.ntmps3
  go_upto_region 1 with fail
  obtain ⟨X, hX⟩ : ∃ X, (w.alloc (.cells #[.int .i64 z.N, .slice z.co z.cn z.cc, .slice z.io z.dn z.dc, .slice z.go z.gn z.gc, .slice z.ro z.rn z.rc, .bool z.bad] 26)) = X := ⟨_, rfl⟩
  rw [hX] at X0 Y0 ⊢
  have P0 : Hid (Below w.heap.size w X ∧ X.heap[w.heap.size]? = some (.cells #[.int .i64 z.N, .slice z.co z.cn z.cc, .slice z.io z.dn z.dc, .slice z.go z.gn z.gc, .slice z.ro z.rn z.rc, .bool z.bad] 26)) := ⟨X0, Y0⟩
  clear hX X0 Y0
  go_wp2_with fail
  refine Calls.mono (told11_any _) ?_
  rintro e w1 ⟨rfl, b1⟩
  have P4 : Hid (Below w.heap.size w w1 ∧ w1.heap[w.heap.size]? = some (.cells #[.int .i64 z.N, .slice z.co z.cn z.cc, .slice z.io z.dn z.dc, .slice z.go z.gn z.gc, .slice z.ro z.rn z.rc, .bool z.bad] 26)) := ⟨to_call P0.out.1 b1, kept b1 P0.out.2⟩
  clear b1 P0
  go_wp2_with (first | (refine wpList_load_row (by kernel_rfl) 26 _ (by rfl) w.heap.size _ (by rfl) P4.out.2 _ Tryz.underlying26 rfl 6 Tryz.infoZ (by rfl) ?_))
  refine Calls.mono (reduce_any 1166 rfl z _ (HZ.out _ P4.out.1) (by have := HD.out; omega) most HMM.out.1 HMM.out.2) ?_
  rintro e w5 ⟨y, rfl, hzy, hwy, hty, hry, b5⟩
  have A5 : Below w5.heap.size w5 (w5.alloc (.cells #[.int .i64 0, .slice none 0 0, .slice none 0 0, .slice none 0 0, .slice none 0 0, .bool false] 26)) := (Below.refl _ w5).alloc (Nat.le_refl _) _
  go_upto_region 4 with (first
    | (refine wpList_store_row (by rfl) 26 _ _ (by rfl) w5 w5.heap.size w5.heap.size (zRow y) _ (by rfl) (by rfl) (heap_alloc_new w5 _) A5 (Nat.le_refl _) 6 Tryz.infoZ rfl rfl (oneR y) ?_; intro W6 e6 b6 s6 o6))
  have HXX : Hid (W6.heap[w.heap.size]? = some (.cells (zRow z) 26) ∧ W6.heap[w5.heap.size]? = some (.cells (zRow y) 26) ∧ ZR W6 y ∧ Below w.heap.size w W6) := ⟨kept b6 (kept b5 P4.out.2), e6, hzy.later b6, to_call (to_call P4.out.1 b5) b6⟩
  have HRY : Hid (RdC z most y) := hry
  have HYW : Hid (ZW y) := hwy
  obtain ⟨D, hD⟩ : ∃ D, w5.heap.size = D := ⟨_, rfl⟩
  rw [hD] at HXX ⊢
  clear P4 A5 e6 b6 s6 o6 hzy hwy hty hry b5 hD
  go_wp2_with (first | (refine wpList_load_row (by kernel_rfl) 26 _ (by rfl) w.heap.size _ (by rfl) HXX.out.1 _ Tryz.underlying26 rfl 6 Tryz.infoZ (by rfl) ?_))
  refine Calls.mono (HOf.out _ HXX.out.2.2.2) ?_
  rintro e w7 ⟨u, rfl, hu, hk, b7⟩
  have huw := hk.uw (HZ.out _ HXX.out.2.2.2) HZW.out hu
  have HG : Hid (Calls Tryz.prog 6 #[.agg #[.int .i64 u.N, .slice u.co u.cn u.cc, .slice u.io u.dn u.dc, .slice u.go u.gn u.gc, .slice u.ro u.rn u.rc, .bool u.bad]] w7 fun e w' => e = .returned (.bool (checkB z && !z.bad)) ∧ Below w7.heap.size w7 w') := by
    have h9 := goodT_any u w7 hu huw
    have e9 : (checkB u && !u.bad) = (checkB z && !z.bad) := by rw [hk.check, hk.bad]
    rw [e9] at h9
    exact h9
  simp only [zRow]
  clear hu hk huw HOf
  go_wp2_with fail
  refine Calls.mono HG.out ?_
  rintro e w8 ⟨rfl, b8⟩
  have HW8 : Hid (Below W6.heap.size W6 w8) := to_call b7 b8
  have y5 : w8.cell? ⟨D, 5, none⟩ = some (.bool y.bad) := cellT (cellAtJ HXX.out.2.1 5 _ rfl) HW8.out
  clear HG b7 b8
  cases hgd : (checkB z && !z.bad) with
  | false =>
    clear hgd
    go_wp2_with fail
    go_ret
    exact ⟨rfl, to_call HXX.out.2.2.2 HW8.out⟩
  | true =>
    have hgd2 : checkB z = true ∧ z.bad = false := by simpa using hgd
    have hwh : wholeB z = true := by have h9 := hgd2.1; unfold checkB at h9; rw [hgd2.2] at h9; simpa using h9
    have HGD : Hid (z.bad = false ∧ wholeB z = true ∧ WhF z) := ⟨hgd2.2, hwh, HWF.out hwh⟩
    clear hgd hgd2 hwh HWF
    obtain ⟨mm, hmm⟩ : ∃ mm : Nat, max most 0 = (mm : Int) := ⟨(max most 0).toNat, by omega⟩
    rcases RdC.good HGD.out.1 HGD.out.2.1 HGD.out.2.2 (HZ.out _ HXX.out.2.2.2) HXX.out.2.2.1 HRY.out with ⟨h1, h2⟩ | ⟨h1, h2, h3⟩
    · have e2 : y.bad = true := by rw [h1]; rfl
      rw [e2] at y5
      clear h1 h2 e2 hmm
      go_wp2_with fail
      go_ret
      exact ⟨rfl, to_call HXX.out.2.2.2 HW8.out⟩
    · have HLE : Hid (min z.gn (max most 0).toNat = min z.gn mm) := by unfold Hid; rw [hmm]; rfl
      rw [HLE.out] at h1 h3
      obtain ⟨low, hlow⟩ : ∃ low, min z.gn mm = low := ⟨_, rfl⟩
      rw [hlow] at h1 h3
      have HST : Hid (StR z y low) := h1
      have HLZ : Hid (low ≤ z.gn) := by unfold Hid; omega
      have e2 := h1.bad
      rw [e2] at y5
      clear h1 h2 h3 e2 hlow HLE hmm
      have HDG : Hid (z.dn = z.gn) := HGD.out.2.2.dg
      go_upto_region 7 with fail
      obtain ⟨X2, hX2⟩ : ∃ X2, ((w8.alloc (.cells #[.bool false, .slice none 0 0, .int .i64 0] 37)).alloc (.cells #[.bool false, .slice none 0 0, .int .i64 0] 37)) = X2 := ⟨_, rfl⟩
      have B2 : Below w8.heap.size w8 X2 := hX2 ▸ (((Below.refl _ w8).alloc (Nat.le_refl _) _).alloc (by simp only [alloc_size]; omega) _)
      have G2 : X2.heap[w8.heap.size]? = some (.cells #[.bool false, .slice none 0 0, .int .i64 0] 37) := hX2 ▸ alloc_kept (heap_alloc_new w8 _) _
      have O2 : X2.heap[w8.heap.size + 1]? = some (.cells #[.bool false, .slice none 0 0, .int .i64 0] 37) := hX2 ▸ heap_at _ _ (w8.heap.size + 1) (by simp only [alloc_size])
      have S2 : X2.heap.size = w8.heap.size + 1 + 1 := by rw [← hX2]; simp only [alloc_size]
      rw [hX2]
      have z2 : X2.cell? ⟨w.heap.size, 2, none⟩ = some (.slice z.io z.dn z.dc) := cellT (cellT (cellAtJ HXX.out.1 2 _ rfl) HW8.out) B2
      have y2 : X2.cell? ⟨D, 2, none⟩ = some (.slice y.io low y.dc) := by
        have h9 : X2.cell? ⟨D, 2, none⟩ = some (.slice y.io y.dn y.dc) := cellT (cellT (cellAtJ HXX.out.2.1 2 _ rfl) HW8.out) B2
        rw [HST.out.dn] at h9
        exact h9
      have hsw := sub_wrapT (d := (z.dn : Int)) (m := (low : Int)) (by omega) (by have := HD.out; omega) (by omega) (by have := HLZ.out; have := HZW.out.gl; omega)
      have hmk := makeIT z.dn (by have := HD.out; omega)
      clear hX2 y5
      go_upto_region 10 with fail
      obtain ⟨Bg, hBg⟩ : ∃ Bg, w8.heap.size = Bg := ⟨_, rfl⟩
      obtain ⟨X3, hX3⟩ : ∃ X3, (X2.alloc (.cells (izN z.dn) 3)) = X3 := ⟨_, rfl⟩
      have P0 : Hid (LtS Bg w8 X3 z low 0 0 1074 false none 0 0 0) := by
        have b3 : Below X2.heap.size X2 X3 := hX3 ▸ (Below.refl _ X2).alloc (Nat.le_refl _) _
        have e3 : X3.heap[X2.heap.size]? = some (.cells (izN z.dn) 3) := hX3 ▸ heap_alloc_new X2 _
        rw [S2, hBg, upN_zero] at e3
        rw [hBg] at G2 O2
        exact ⟨⟨kept b3 G2, NumC.zeroJ _ _ _ (by omega)⟩, kept b3 O2, e3, to_call B2 b3⟩
      rw [hX3, hBg]
      clear B2 G2 O2 S2 z2 y2 hsw hmk hX3
      have HBg : Hid (w8.heap.size = Bg) := hBg
      have HZ8 : Hid (w8.cell? ⟨w.heap.size, 2, none⟩ = some (.slice z.io z.dn z.dc) ∧ w8.cell? ⟨w.heap.size, 3, none⟩ = some (.slice z.go z.gn z.gc) ∧ w8.cell? ⟨D, 2, none⟩ = some (.slice y.io low y.dc) ∧ ZR w8 z ∧ ZR w8 y ∧ Below w.heap.size w w8) := by
        have h9 : w8.cell? ⟨D, 2, none⟩ = some (.slice y.io y.dn y.dc) := cellT (cellAtJ HXX.out.2.1 2 _ rfl) HW8.out
        rw [HST.out.dn] at h9
        have hb := to_call HXX.out.2.2.2 HW8.out
        exact ⟨cellT (cellAtJ HXX.out.1 2 _ rfl) HW8.out, cellT (cellAtJ HXX.out.1 3 _ rfl) HW8.out, h9, HZ.out _ hb, HXX.out.2.2.1.later HW8.out, hb⟩
      clear hBg HXX HW8
      have HGL : Hid (z.gs.length = z.gn) := HZ8.out.2.2.2.1.g.length
      have hdn3 : z.dn ≤ 1048576 := HD.out
      have hlow3 : low ≤ 1050000 := by have := HLZ.out; have := HZW.out.gl; omega
      go_wp2_with fail
      go_loopg [10, 13] z.dn (fun g v10 v13 wx => ∃ i k : Nat, v10 = .int .i64 k ∧ v13 = .int .i64 i ∧ i + g = z.dn ∧ k ≤ low ∧ Hid (∀ j, j < low → (j < k ↔ (keptL (lsZ z) z.gn low)[j]?.getD 0 < i)) ∧ ∃ (n : Bool) (o : Option Addr) (l c : Nat) (e : Int), Hid (LtS Bg w8 wx z low i i 1074 n o l c e))
      case atStart => exact ⟨0, 0, rfl, rfl, by omega, by omega, fun j _ => ⟨fun h => absurd h (Nat.not_lt_zero _), fun h => absurd h (Nat.not_lt_zero _)⟩, false, none, 0, 0, 0, P0⟩
      case round =>
        clear P0
        obtain ⟨i, k, rfl, rfl, hi, hkl, HK, n, o, l, c, e, HI⟩ := hrel
        have bw : Below w8.heap.size w8 wr := HI.out.bel
        have z2 := cellT HZ8.out.1 bw
        by_cases h1 : i < z.dn
        · have he1 : decide ((i : Int) < (z.dn : Int)) = true := decide_eq_true (by omega)
          obtain ⟨q, rfl⟩ : ∃ q, gk = q + 1 := ⟨gk - 1, by omega⟩
          have HIG : Hid (i + (q + 1) = z.dn) := hi
          have h1' : (i : Int) < (z.dn : Int) := by omega
          clear hi
          go_upto_region 14 with (first
            | (refine wpList_store_at (by rfl) 3 _ _ (by rfl) w8 w8.heap.size (Bg + 1 + 1) i (.int .i64 (i : Int)) _ (upN z.dn (i + 1)) 3 (by kernel_rfl) (by kernel_rfl) HI.out.l HI.out.bel (by have := HBg.out; omega) 1 Tryz.szI1 rfl (by rw [upN_size]; omega) (one_in _) (upN_set _ _ h1) ?_; intro W2 e2 b2 s2 o2))
          have HJ : Hid (LtS Bg w8 W2 z low i (i + 1) 1074 n o l c e) := ⟨⟨by rw [o2 _ (by omega)]; exact HI.out.g.row, HI.out.g.num.cl (up_cl HI.out.l) (fun b hb _ => o2 b hb)⟩, by rw [o2 _ (by omega)]; exact HI.out.ob, e2, b2⟩
          clear e2 b2 s2 o2 HI z2 bw he1
          have bw2 : Below w8.heap.size w8 W2 := HJ.out.bel
          have zx := HZ8.out.2.2.2.1.later bw2
          have zy := HZ8.out.2.2.2.2.1.later bw2
          rcases zx.i.cells with h0 | ⟨zib, zio, ezi, hzi⟩
          · omega
          have cz2 := cellT HZ8.out.1 bw2
          have cy2 := cellT HZ8.out.2.2.1 bw2
          rw [ezi] at cz2
          have gz := hzi i h1
          have HKA : Hid (i ∈ keptL (lsZ z) z.gn low ↔ (k < low ∧ (keptL (lsZ z) z.gn low)[k]?.getD 0 = i)) := kept_at HLZ.out HK.out hkl
          obtain ⟨ia, hia⟩ : ∃ t, z.ids[i]?.getD 0 = t := ⟨_, rfl⟩
          rw [hia] at gz
          have hkl' : (k : Int) ≤ (low : Int) := by omega
          by_cases h2 : k < low
          · rcases zy.i.cells with h0 | ⟨yib, yio, eyi, hyi⟩
            · rw [HST.out.dn] at h0; omega
            rw [eyi] at cy2
            have gy := hyi k (by rw [HST.out.dn]; exact h2)
            rw [HST.out.idx h2] at gy
            have he2 : decide ((k : Int) < (low : Int)) = true := decide_eq_true (by omega)
            have h2' : (k : Int) < (low : Int) := by omega
            by_cases h3 : (keptL (lsZ z) z.gn low)[k]?.getD 0 = i
            · rw [h3, hia] at gy
              have heq : (ia == ia) = true := by simp
              clear zx zy hzi hyi ezi eyi hia
              go_upto_region 14 with fail
              have bX : Below W2.heap.size W2 W2.drew := (Below.refl _ _).drew
              refine wp_region_noPanic ?_
              refine wp_region_held_drew (S := (fun V => Below W2.heap.size W2 V)) (by kernel_rfl) bX (fun _ => ?_)
              refine takeH 51 (i := 0) (v := ?_) rfl rfl (by kernel_rfl) (by kernel_rfl) (by kernel_rfl) (fun _ _ _ h => h) (Or.inl ⟨by kernel_rfl, ?_⟩) bX ?_
              rotate_left
              · intro w' hSw; have s1 := cellT cz2 hSw; have s2 := cellT cy2 hSw; have s3 := cellT gz hSw; have s4 := cellT gy hSw; go_simp; try with_reducible rfl
              try simp only [Act.put, List.setIfInBounds_toArray, List.set_cons_zero, List.set_cons_succ]
              refine takeH 52 (i := 1) (v := ?_) rfl rfl (by kernel_rfl) (by kernel_rfl) (by kernel_rfl) (fun _ _ _ h => h) (Or.inl ⟨by kernel_rfl, ?_⟩) bX ?_
              rotate_left
              · intro w' hSw; have s1 := cellT cz2 hSw; have s2 := cellT cy2 hSw; have s3 := cellT gz hSw; have s4 := cellT gy hSw; go_simp; try with_reducible rfl
              try simp only [Act.put, List.setIfInBounds_toArray, List.set_cons_zero, List.set_cons_succ]
              refine takeH 53 (i := 2) (v := ?_) rfl rfl (by kernel_rfl) (by kernel_rfl) (by kernel_rfl) (fun _ _ _ h => h) (Or.inl ⟨by kernel_rfl, ?_⟩) bX ?_
              rotate_left
              · intro w' hSw; have s1 := cellT cz2 hSw; have s2 := cellT cy2 hSw; have s3 := cellT gz hSw; have s4 := cellT gy hSw; go_simp; try with_reducible rfl
              try simp only [Act.put, List.setIfInBounds_toArray, List.set_cons_zero, List.set_cons_succ]
              refine takeH 54 (i := 3) (v := ?_) rfl rfl (by kernel_rfl) (by kernel_rfl) (by kernel_rfl) (fun _ _ _ h => h) (Or.inl ⟨by kernel_rfl, ?_⟩) bX ?_
              rotate_left
              · intro w' hSw; have s1 := cellT cz2 hSw; have s2 := cellT cy2 hSw; have s3 := cellT gz hSw; have s4 := cellT gy hSw; go_simp; try with_reducible rfl
              try simp only [Act.put, List.setIfInBounds_toArray, List.set_cons_zero, List.set_cons_succ]
              refine takeH 55 (i := 4) (v := ?_) rfl rfl (by kernel_rfl) (by kernel_rfl) (by kernel_rfl) (fun _ _ _ h => h) (Or.inl ⟨by kernel_rfl, ?_⟩) bX ?_
              rotate_left
              · intro w' hSw; have s1 := cellT cz2 hSw; have s2 := cellT cy2 hSw; have s3 := cellT gz hSw; have s4 := cellT gy hSw; go_simp; try with_reducible rfl
              try simp only [Act.put, List.setIfInBounds_toArray, List.set_cons_zero, List.set_cons_succ]
              refine takeH 56 (i := 5) (v := ?_) rfl rfl (by kernel_rfl) (by kernel_rfl) (by kernel_rfl) (fun _ _ _ h => h) (Or.inl ⟨by kernel_rfl, ?_⟩) bX ?_
              rotate_left
              · intro w' hSw; have s1 := cellT cz2 hSw; have s2 := cellT cy2 hSw; have s3 := cellT gz hSw; have s4 := cellT gy hSw; go_simp; try with_reducible rfl
              try simp only [Act.put, List.setIfInBounds_toArray, List.set_cons_zero, List.set_cons_succ]
              refine takeH 57 (i := 6) (v := ?_) rfl rfl (by kernel_rfl) (by kernel_rfl) (by kernel_rfl) (fun _ _ _ h => h) (Or.inl ⟨by kernel_rfl, ?_⟩) bX ?_
              rotate_left
              · intro w' hSw; have s1 := cellT cz2 hSw; have s2 := cellT cy2 hSw; have s3 := cellT gz hSw; have s4 := cellT gy hSw; go_simp; try with_reducible rfl
              try simp only [Act.put, List.setIfInBounds_toArray, List.set_cons_zero, List.set_cons_succ]
              refine takeH 58 (i := 7) (v := ?_) rfl rfl (by kernel_rfl) (by kernel_rfl) (by kernel_rfl) (fun _ _ _ h => h) (Or.inl ⟨by kernel_rfl, ?_⟩) bX ?_
              rotate_left
              · intro w' hSw; have s1 := cellT cz2 hSw; have s2 := cellT cy2 hSw; have s3 := cellT gz hSw; have s4 := cellT gy hSw; go_simp; try with_reducible rfl
              try simp only [Act.put, List.setIfInBounds_toArray, List.set_cons_zero, List.set_cons_succ]
              refine takeH 59 (i := 8) (v := ?_) rfl rfl (by kernel_rfl) (by kernel_rfl) (by kernel_rfl) (fun _ _ _ h => h) (Or.inl ⟨by kernel_rfl, ?_⟩) bX ?_
              rotate_left
              · intro w' hSw; have s1 := cellT cz2 hSw; have s2 := cellT cy2 hSw; have s3 := cellT gz hSw; have s4 := cellT gy hSw; go_simp; try with_reducible rfl
              try simp only [Act.put, List.setIfInBounds_toArray, List.set_cons_zero, List.set_cons_succ]
              refine takeH 60 (i := 9) (v := ?_) rfl rfl (by kernel_rfl) (by kernel_rfl) (by kernel_rfl) (fun _ _ _ h => h) (Or.inl ⟨by kernel_rfl, ?_⟩) bX ?_
              rotate_left
              · intro w' hSw; have s1 := cellT cz2 hSw; have s2 := cellT cy2 hSw; have s3 := cellT gz hSw; have s4 := cellT gy hSw; go_simp; try with_reducible rfl
              try simp only [Act.put, List.setIfInBounds_toArray, List.set_cons_zero, List.set_cons_succ]
              refine takeH 61 (i := 10) (v := ?_) rfl rfl (by kernel_rfl) (by kernel_rfl) (by kernel_rfl) (fun _ _ _ h => h) (Or.inl ⟨by kernel_rfl, ?_⟩) bX ?_
              rotate_left
              · intro w' hSw; have s1 := cellT cz2 hSw; have s2 := cellT cy2 hSw; have s3 := cellT gz hSw; have s4 := cellT gy hSw; go_simp; try with_reducible rfl
              try simp only [Act.put, List.setIfInBounds_toArray, List.set_cons_zero, List.set_cons_succ]
              refine takeH 62 (i := 11) (v := ?_) rfl rfl (by kernel_rfl) (by kernel_rfl) (by kernel_rfl) (fun _ _ _ h => h) (Or.inl ⟨by kernel_rfl, ?_⟩) bX ?_
              rotate_left
              · intro w' hSw; have s1 := cellT cz2 hSw; have s2 := cellT cy2 hSw; have s3 := cellT gz hSw; have s4 := cellT gy hSw; go_simp; try with_reducible rfl
              try simp only [Act.put, List.setIfInBounds_toArray, List.set_cons_zero, List.set_cons_succ]
              refine takeH 63 (i := 12) (v := ?_) rfl rfl (by kernel_rfl) (by kernel_rfl) (by kernel_rfl) (fun _ _ _ h => h) (Or.inl ⟨by kernel_rfl, ?_⟩) bX ?_
              rotate_left
              · intro w' hSw; have s1 := cellT cz2 hSw; have s2 := cellT cy2 hSw; have s3 := cellT gz hSw; have s4 := cellT gy hSw; go_simp; try with_reducible rfl
              try simp only [Act.put, List.setIfInBounds_toArray, List.set_cons_zero, List.set_cons_succ]
              refine takeH 64 (i := 13) (v := ?_) rfl rfl (by kernel_rfl) (by kernel_rfl) (by kernel_rfl) (fun _ _ _ h => h) (Or.inl ⟨by kernel_rfl, ?_⟩) bX ?_
              rotate_left
              · intro w' hSw; have s1 := cellT cz2 hSw; have s2 := cellT cy2 hSw; have s3 := cellT gz hSw; have s4 := cellT gy hSw; go_simp; try with_reducible rfl
              try simp only [Act.put, List.setIfInBounds_toArray, List.set_cons_zero, List.set_cons_succ]
              refine takeH 65 (i := 14) (v := ?_) rfl rfl (by kernel_rfl) (by kernel_rfl) (by kernel_rfl) (fun _ _ _ h => h) (Or.inl ⟨by kernel_rfl, ?_⟩) bX ?_
              rotate_left
              · intro w' hSw; have s1 := cellT cz2 hSw; have s2 := cellT cy2 hSw; have s3 := cellT gz hSw; have s4 := cellT gy hSw; go_simp; try with_reducible rfl
              try simp only [Act.put, List.setIfInBounds_toArray, List.set_cons_zero, List.set_cons_succ]
              refine takeH 66 (i := 15) (v := ?_) rfl rfl (by kernel_rfl) (by kernel_rfl) (by kernel_rfl) (fun _ _ _ h => h) (Or.inl ⟨by kernel_rfl, ?_⟩) bX ?_
              rotate_left
              · intro w' hSw; have s1 := cellT cz2 hSw; have s2 := cellT cy2 hSw; have s3 := cellT gz hSw; have s4 := cellT gy hSw; go_simp; try with_reducible rfl
              try simp only [Act.put, List.setIfInBounds_toArray, List.set_cons_zero, List.set_cons_succ]
              refine takeH 67 (i := 16) (v := ?_) rfl rfl (by kernel_rfl) (by kernel_rfl) (by kernel_rfl) (fun _ _ _ h => h) (Or.inl ⟨by kernel_rfl, ?_⟩) bX ?_
              rotate_left
              · intro w' hSw; have s1 := cellT cz2 hSw; have s2 := cellT cy2 hSw; have s3 := cellT gz hSw; have s4 := cellT gy hSw; go_simp; try with_reducible rfl
              try simp only [Act.put, List.setIfInBounds_toArray, List.set_cons_zero, List.set_cons_succ]
              refine takeH 68 (i := 17) (v := ?_) rfl rfl (by kernel_rfl) (by kernel_rfl) (by kernel_rfl) (fun _ _ _ h => h) (Or.inl ⟨by kernel_rfl, ?_⟩) bX ?_
              rotate_left
              · intro w' hSw; have s1 := cellT cz2 hSw; have s2 := cellT cy2 hSw; have s3 := cellT gz hSw; have s4 := cellT gy hSw; go_simp; try with_reducible rfl
              try simp only [Act.put, List.setIfInBounds_toArray, List.set_cons_zero, List.set_cons_succ]
              refine wpAnyH_done (by kernel_rfl) ?_ _
              refine NoPanic.normal ?_
              try simp only [Act.put, List.setIfInBounds_toArray, List.set_cons_zero, List.set_cons_succ]
              have HK2 : Hid (LtS Bg w8 W2.drew z low (i + 1) (i + 1) 1074 n o l c e) := by
                have hb : Below W2.heap.size W2 W2.drew := (Below.refl _ W2).drew
                have e9 : goneL (lsZ z) z.gn low (i + 1) = goneL (lsZ z) z.gn low i := by
                  unfold goneL
                  rw [pick_succ, decide_eq_true (HKA.out.2 ⟨h2, h3⟩)]
                  simp
                refine ⟨⟨kept hb HJ.out.g.row, ?_⟩, kept hb HJ.out.ob, kept hb HJ.out.l, HJ.out.bel.drew⟩
                rw [e9]
                exact HJ.out.g.num.later hb
              have HKN : Hid (∀ j, j < low → (j < k + 1 ↔ (keptL (lsZ z) z.gn low)[j]?.getD 0 < i + 1)) := by
                intro j hj
                have h9 := HK.out j hj
                rcases Nat.lt_trichotomy j k with c1 | c1 | c1
                · omega
                · subst c1; omega
                · have h8 := keptL_up (v := lsZ z) HLZ.out (i := k) (j := j) (by omega) hj
                  omega
              clear bX cz2 cy2 gz gy heq he2 HJ HK
              go_wp2_with fail
              go_roundg q
              case measure => omega
              case rel => exact ⟨i + 1, k + 1, by go_num, by go_num, by have := HIG.out; omega, by omega, HKN, n, o, l, c, e, HK2⟩
            · have HNI : Hid (¬ i ∈ keptL (lsZ z) z.gn low) := fun h => h3 (HKA.out.1 h).2
              have hkz : (keptL (lsZ z) z.gn low)[k]?.getD 0 < z.dn := by
                have hl : k < (keptL (lsZ z) z.gn low).length := by rw [keptL_len HLZ.out]; exact h2
                rw [HDG.out, List.getElem?_eq_getElem hl]
                exact keptL_lt (List.getElem_mem hl)
              have hnn := ids_ne HGD.out.2.1 h3 hkz h1
              obtain ⟨ib, hib⟩ : ∃ t, z.ids[(keptL (lsZ z) z.gn low)[k]?.getD 0]?.getD 0 = t := ⟨_, rfl⟩
              rw [hib] at gy hnn
              rw [hia] at hnn
              have heq : (ib == ia) = false := by rw [beq_eq_false_iff_ne]; exact hnn
              clear zx zy hzi hyi ezi eyi hia hib hnn hkz
              go_upto_region 14 with fail
              have bX : Below W2.heap.size W2 W2.drew := (Below.refl _ _).drew
              refine wp_region_noPanic ?_
              refine wp_region_held_drew (S := (fun V => Below W2.heap.size W2 V)) (by kernel_rfl) bX (fun _ => ?_)
              refine takeH 51 (i := 0) (v := ?_) rfl rfl (by kernel_rfl) (by kernel_rfl) (by kernel_rfl) (fun _ _ _ h => h) (Or.inl ⟨by kernel_rfl, ?_⟩) bX ?_
              rotate_left
              · intro w' hSw; have s1 := cellT cz2 hSw; have s2 := cellT cy2 hSw; have s3 := cellT gz hSw; have s4 := cellT gy hSw; go_simp; try with_reducible rfl
              try simp only [Act.put, List.setIfInBounds_toArray, List.set_cons_zero, List.set_cons_succ]
              refine takeH 52 (i := 1) (v := ?_) rfl rfl (by kernel_rfl) (by kernel_rfl) (by kernel_rfl) (fun _ _ _ h => h) (Or.inl ⟨by kernel_rfl, ?_⟩) bX ?_
              rotate_left
              · intro w' hSw; have s1 := cellT cz2 hSw; have s2 := cellT cy2 hSw; have s3 := cellT gz hSw; have s4 := cellT gy hSw; go_simp; try with_reducible rfl
              try simp only [Act.put, List.setIfInBounds_toArray, List.set_cons_zero, List.set_cons_succ]
              refine takeH 53 (i := 2) (v := ?_) rfl rfl (by kernel_rfl) (by kernel_rfl) (by kernel_rfl) (fun _ _ _ h => h) (Or.inl ⟨by kernel_rfl, ?_⟩) bX ?_
              rotate_left
              · intro w' hSw; have s1 := cellT cz2 hSw; have s2 := cellT cy2 hSw; have s3 := cellT gz hSw; have s4 := cellT gy hSw; go_simp; try with_reducible rfl
              try simp only [Act.put, List.setIfInBounds_toArray, List.set_cons_zero, List.set_cons_succ]
              refine takeH 54 (i := 3) (v := ?_) rfl rfl (by kernel_rfl) (by kernel_rfl) (by kernel_rfl) (fun _ _ _ h => h) (Or.inl ⟨by kernel_rfl, ?_⟩) bX ?_
              rotate_left
              · intro w' hSw; have s1 := cellT cz2 hSw; have s2 := cellT cy2 hSw; have s3 := cellT gz hSw; have s4 := cellT gy hSw; go_simp; try with_reducible rfl
              try simp only [Act.put, List.setIfInBounds_toArray, List.set_cons_zero, List.set_cons_succ]
              refine takeH 55 (i := 4) (v := ?_) rfl rfl (by kernel_rfl) (by kernel_rfl) (by kernel_rfl) (fun _ _ _ h => h) (Or.inl ⟨by kernel_rfl, ?_⟩) bX ?_
              rotate_left
              · intro w' hSw; have s1 := cellT cz2 hSw; have s2 := cellT cy2 hSw; have s3 := cellT gz hSw; have s4 := cellT gy hSw; go_simp; try with_reducible rfl
              try simp only [Act.put, List.setIfInBounds_toArray, List.set_cons_zero, List.set_cons_succ]
              refine takeH 56 (i := 5) (v := ?_) rfl rfl (by kernel_rfl) (by kernel_rfl) (by kernel_rfl) (fun _ _ _ h => h) (Or.inl ⟨by kernel_rfl, ?_⟩) bX ?_
              rotate_left
              · intro w' hSw; have s1 := cellT cz2 hSw; have s2 := cellT cy2 hSw; have s3 := cellT gz hSw; have s4 := cellT gy hSw; go_simp; try with_reducible rfl
              try simp only [Act.put, List.setIfInBounds_toArray, List.set_cons_zero, List.set_cons_succ]
              refine takeH 57 (i := 6) (v := ?_) rfl rfl (by kernel_rfl) (by kernel_rfl) (by kernel_rfl) (fun _ _ _ h => h) (Or.inl ⟨by kernel_rfl, ?_⟩) bX ?_
              rotate_left
              · intro w' hSw; have s1 := cellT cz2 hSw; have s2 := cellT cy2 hSw; have s3 := cellT gz hSw; have s4 := cellT gy hSw; go_simp; try with_reducible rfl
              try simp only [Act.put, List.setIfInBounds_toArray, List.set_cons_zero, List.set_cons_succ]
              refine takeH 58 (i := 7) (v := ?_) rfl rfl (by kernel_rfl) (by kernel_rfl) (by kernel_rfl) (fun _ _ _ h => h) (Or.inl ⟨by kernel_rfl, ?_⟩) bX ?_
              rotate_left
              · intro w' hSw; have s1 := cellT cz2 hSw; have s2 := cellT cy2 hSw; have s3 := cellT gz hSw; have s4 := cellT gy hSw; go_simp; try with_reducible rfl
              try simp only [Act.put, List.setIfInBounds_toArray, List.set_cons_zero, List.set_cons_succ]
              refine takeH 59 (i := 8) (v := ?_) rfl rfl (by kernel_rfl) (by kernel_rfl) (by kernel_rfl) (fun _ _ _ h => h) (Or.inl ⟨by kernel_rfl, ?_⟩) bX ?_
              rotate_left
              · intro w' hSw; have s1 := cellT cz2 hSw; have s2 := cellT cy2 hSw; have s3 := cellT gz hSw; have s4 := cellT gy hSw; go_simp; try with_reducible rfl
              try simp only [Act.put, List.setIfInBounds_toArray, List.set_cons_zero, List.set_cons_succ]
              refine takeH 60 (i := 9) (v := ?_) rfl rfl (by kernel_rfl) (by kernel_rfl) (by kernel_rfl) (fun _ _ _ h => h) (Or.inl ⟨by kernel_rfl, ?_⟩) bX ?_
              rotate_left
              · intro w' hSw; have s1 := cellT cz2 hSw; have s2 := cellT cy2 hSw; have s3 := cellT gz hSw; have s4 := cellT gy hSw; go_simp; try with_reducible rfl
              try simp only [Act.put, List.setIfInBounds_toArray, List.set_cons_zero, List.set_cons_succ]
              refine takeH 61 (i := 10) (v := ?_) rfl rfl (by kernel_rfl) (by kernel_rfl) (by kernel_rfl) (fun _ _ _ h => h) (Or.inl ⟨by kernel_rfl, ?_⟩) bX ?_
              rotate_left
              · intro w' hSw; have s1 := cellT cz2 hSw; have s2 := cellT cy2 hSw; have s3 := cellT gz hSw; have s4 := cellT gy hSw; go_simp; try with_reducible rfl
              try simp only [Act.put, List.setIfInBounds_toArray, List.set_cons_zero, List.set_cons_succ]
              refine takeH 62 (i := 11) (v := ?_) rfl rfl (by kernel_rfl) (by kernel_rfl) (by kernel_rfl) (fun _ _ _ h => h) (Or.inl ⟨by kernel_rfl, ?_⟩) bX ?_
              rotate_left
              · intro w' hSw; have s1 := cellT cz2 hSw; have s2 := cellT cy2 hSw; have s3 := cellT gz hSw; have s4 := cellT gy hSw; go_simp; try with_reducible rfl
              try simp only [Act.put, List.setIfInBounds_toArray, List.set_cons_zero, List.set_cons_succ]
              refine takeH 63 (i := 12) (v := ?_) rfl rfl (by kernel_rfl) (by kernel_rfl) (by kernel_rfl) (fun _ _ _ h => h) (Or.inl ⟨by kernel_rfl, ?_⟩) bX ?_
              rotate_left
              · intro w' hSw; have s1 := cellT cz2 hSw; have s2 := cellT cy2 hSw; have s3 := cellT gz hSw; have s4 := cellT gy hSw; go_simp; try with_reducible rfl
              try simp only [Act.put, List.setIfInBounds_toArray, List.set_cons_zero, List.set_cons_succ]
              refine takeH 64 (i := 13) (v := ?_) rfl rfl (by kernel_rfl) (by kernel_rfl) (by kernel_rfl) (fun _ _ _ h => h) (Or.inl ⟨by kernel_rfl, ?_⟩) bX ?_
              rotate_left
              · intro w' hSw; have s1 := cellT cz2 hSw; have s2 := cellT cy2 hSw; have s3 := cellT gz hSw; have s4 := cellT gy hSw; go_simp; try with_reducible rfl
              try simp only [Act.put, List.setIfInBounds_toArray, List.set_cons_zero, List.set_cons_succ]
              refine takeH 65 (i := 14) (v := ?_) rfl rfl (by kernel_rfl) (by kernel_rfl) (by kernel_rfl) (fun _ _ _ h => h) (Or.inl ⟨by kernel_rfl, ?_⟩) bX ?_
              rotate_left
              · intro w' hSw; have s1 := cellT cz2 hSw; have s2 := cellT cy2 hSw; have s3 := cellT gz hSw; have s4 := cellT gy hSw; go_simp; try with_reducible rfl
              try simp only [Act.put, List.setIfInBounds_toArray, List.set_cons_zero, List.set_cons_succ]
              refine takeH 66 (i := 15) (v := ?_) rfl rfl (by kernel_rfl) (by kernel_rfl) (by kernel_rfl) (fun _ _ _ h => h) (Or.inl ⟨by kernel_rfl, ?_⟩) bX ?_
              rotate_left
              · intro w' hSw; have s1 := cellT cz2 hSw; have s2 := cellT cy2 hSw; have s3 := cellT gz hSw; have s4 := cellT gy hSw; go_simp; try with_reducible rfl
              try simp only [Act.put, List.setIfInBounds_toArray, List.set_cons_zero, List.set_cons_succ]
              refine takeH 67 (i := 16) (v := ?_) rfl rfl (by kernel_rfl) (by kernel_rfl) (by kernel_rfl) (fun _ _ _ h => h) (Or.inl ⟨by kernel_rfl, ?_⟩) bX ?_
              rotate_left
              · intro w' hSw; have s1 := cellT cz2 hSw; have s2 := cellT cy2 hSw; have s3 := cellT gz hSw; have s4 := cellT gy hSw; go_simp; try with_reducible rfl
              try simp only [Act.put, List.setIfInBounds_toArray, List.set_cons_zero, List.set_cons_succ]
              refine takeH 68 (i := 17) (v := ?_) rfl rfl (by kernel_rfl) (by kernel_rfl) (by kernel_rfl) (fun _ _ _ h => h) (Or.inl ⟨by kernel_rfl, ?_⟩) bX ?_
              rotate_left
              · intro w' hSw; have s1 := cellT cz2 hSw; have s2 := cellT cy2 hSw; have s3 := cellT gz hSw; have s4 := cellT gy hSw; go_simp; try with_reducible rfl
              try simp only [Act.put, List.setIfInBounds_toArray, List.set_cons_zero, List.set_cons_succ]
              refine wpAnyH_done (by kernel_rfl) ?_ _
              refine NoPanic.normal ?_
              try simp only [Act.put, List.setIfInBounds_toArray, List.set_cons_zero, List.set_cons_succ]
              clear gy heq he2
              obtain ⟨V9, hV9⟩ : ∃ V9, W2.drew = V9 := ⟨_, rfl⟩
              have HJ9 : Hid (LtS Bg w8 V9 z low i (i + 1) 1074 n o l c e) := by
                have hb : Below W2.heap.size W2 V9 := hV9 ▸ (Below.refl _ W2).drew
                exact ⟨⟨kept hb HJ.out.g.row, HJ.out.g.num.later hb⟩, kept hb HJ.out.ob, kept hb HJ.out.l, to_call HJ.out.bel hb⟩
              rw [hV9]
              have bw9 : Below w8.heap.size w8 V9 := HJ9.out.bel
              have zx := HZ8.out.2.2.2.1.later bw9
              have hig : i < z.gn := by rw [← HDG.out]; exact h1
              rcases zx.g.cells with h0 | ⟨zgb, zgo, ezg, hzg⟩
              · omega
              have rx := zx.g.each i hig
              have gzg := hzg i hig
              have lx : (z.gv i).2.1 = z.rn := by rw [← rx.length]; exact HGD.out.2.2.gl i h1
              obtain ⟨x1, ex1⟩ : ∃ t, (z.gv i).1 = t := ⟨_, rfl⟩
              obtain ⟨x3, ex3⟩ : ∃ t, (z.gv i).2.2 = t := ⟨_, rfl⟩
              rw [ex1, ex3, lx] at rx gzg
              have RK : Hid (RdF V9 x1 z.rn x3 (z.gs[i]?.getD []) ∧ ∀ j : Nat, Fin ((z.gs[i]?.getD [])[j]?.getD 0)) := ⟨rx, HGD.out.2.2.fin.g i⟩
              have CK : Hid (V9.cell? ⟨zgb, zgo + i, none⟩ = some (.slice x1 z.rn x3)) := gzg
              have C3 : Hid (V9.cell? ⟨w.heap.size, 3, none⟩ = some (.slice (some ⟨zgb, zgo, none⟩) z.gn z.gc)) := by unfold Hid; rw [← ezg]; exact cellT HZ8.out.2.1 bw9
              have HRN : Hid (z.rn ≤ 256) := HGD.out.2.2.n2
              have hig' : (i : Int) < (z.gn : Int) := by omega
              clear zx hzg rx gzg ezg lx ex1 ex3 hV9 bX cz2 cy2 gz HJ
              go_upto_region 16 with fail
              have SX : Below V9.heap.size V9 V9.drew := (Below.refl _ _).drew
              refine wp_region_noPanic ?_
              refine wp_region_P (S := (fun V => Below V9.heap.size V9 V)) (s := 8) (by kernel_rfl) ?_
              refine takeP 71 (i := 0) (v := .agg #[.bool n, .slice o l c, .int .i64 e]) rfl rfl (by kernel_rfl) (by kernel_rfl) (by kernel_rfl) (by kernel_rfl) rfl (by kernel_rfl) (fun _ _ _ h => h) (Or.inl ⟨by kernel_rfl, fun w' hSw => ex_loadRN _ 37 _ rfl Bg (by kernel_rfl) w' _ (kept hSw HJ9.out.g.row) _ Tryz.underlying37 rfl 3 Tryz.infoN3 rfl⟩) SX ?_
              try simp only [Act.put, List.setIfInBounds_toArray, List.set_cons_zero, List.set_cons_succ]
              refine takeP 72 (i := 1) (v := ?_) rfl rfl (by kernel_rfl) (by kernel_rfl) (by kernel_rfl) (by kernel_rfl) rfl (by kernel_rfl) (fun _ _ _ h => h) (Or.inl ⟨by kernel_rfl, ?_⟩) SX ?_
              rotate_left
              · intro w' hSw; go_simp; try with_reducible rfl
              try simp only [Act.put, List.setIfInBounds_toArray, List.set_cons_zero, List.set_cons_succ]
              refine takeP 73 (i := 2) (v := ?_) rfl rfl (by kernel_rfl) (by kernel_rfl) (by kernel_rfl) (by kernel_rfl) rfl (by kernel_rfl) (fun _ _ _ h => h) (Or.inl ⟨by kernel_rfl, ?_⟩) SX ?_
              rotate_left
              · intro w' hSw; have s0 := cellT C3.out hSw; go_simp; try with_reducible rfl
              try simp only [Act.put, List.setIfInBounds_toArray, List.set_cons_zero, List.set_cons_succ]
              refine takeP 74 (i := 3) (v := ?_) rfl rfl (by kernel_rfl) (by kernel_rfl) (by kernel_rfl) (by kernel_rfl) rfl (by kernel_rfl) (fun _ _ _ h => h) (Or.inl ⟨by kernel_rfl, ?_⟩) SX ?_
              rotate_left
              · intro w' hSw; go_simp; try with_reducible rfl
              try simp only [Act.put, List.setIfInBounds_toArray, List.set_cons_zero, List.set_cons_succ]
              refine takeP 75 (i := 4) (v := ?_) rfl rfl (by kernel_rfl) (by kernel_rfl) (by kernel_rfl) (by kernel_rfl) rfl (by kernel_rfl) (fun _ _ _ h => h) (Or.inl ⟨by kernel_rfl, ?_⟩) SX ?_
              rotate_left
              · intro w' hSw; go_simp; try with_reducible rfl
              try simp only [Act.put, List.setIfInBounds_toArray, List.set_cons_zero, List.set_cons_succ]
              refine takeP 76 (i := 5) (v := ?_) rfl rfl (by kernel_rfl) (by kernel_rfl) (by kernel_rfl) (by kernel_rfl) rfl (by kernel_rfl) (fun _ _ _ h => h) (Or.inl ⟨by kernel_rfl, ?_⟩) SX ?_
              rotate_left
              · intro w' hSw; have s0 := cellT CK.out hSw; go_simp; try with_reducible rfl
              try simp only [Act.put, List.setIfInBounds_toArray, List.set_cons_zero, List.set_cons_succ]
              refine wpAnyP_ready (rs := [6]) (by kernel_rfl) (by simp) ?_
              refine consP _ rfl (hopCd 77 rfl (by kernel_rfl) rfl (by kernel_rfl) (Calls.mono (lossT_any _ _ _ _ 1074 rfl _ (RK.out.1.later SX) RK.out.2 HRN.out) ?_)) AllReadyP.nil
              rintro e V1 ⟨v1, rfl, hz1, b1⟩
              obtain ⟨n1, o1, t1, p1, x1, hv1⟩ := hz1.form
              subst hv1
              have SX : Below V9.heap.size V9 V1 := to_call SX b1
              clear b1
              refine ⟨_, rfl, SX, ?_⟩
              try simp only [Act.put, List.setIfInBounds_toArray, List.set_cons_zero, List.set_cons_succ]
              refine wpAnyP_ready (rs := [7]) (by kernel_rfl) (by simp) ?_
              refine consP _ rfl (hopCd 78 rfl (by kernel_rfl) rfl (by kernel_rfl) (Calls.mono (plusC_any _ _ 1074 1300 _ _ _ ((NumC.later HJ9.out.g.num SX).mono (by omega)) hz1 (by omega) (by omega)) ?_)) AllReadyP.nil
              rintro e V4 ⟨v4, rfl, hz4, b4⟩
              obtain ⟨n4, o4, t4, p4, x4, hv4⟩ := hz4.form
              subst hv4
              have SX : Below V9.heap.size V9 V4 := to_call SX b4
              clear b4
              refine ⟨_, rfl, SX, ?_⟩
              try simp only [Act.put, List.setIfInBounds_toArray, List.set_cons_zero, List.set_cons_succ]
              refine wpAnyP_ready (rs := [8]) (by kernel_rfl) (by simp) ?_
              refine consPs _ rfl (by kernel_rfl) (hopL rfl (wpList_store_row (by rfl) 37 _ _ (by rfl) w8 w8.heap.size Bg #[.bool n4, .slice o4 t4 p4, .int .i64 x4] _ (by kernel_rfl) (by kernel_rfl) (kept SX HJ9.out.g.row) (to_call HJ9.out.bel SX) (by have := HBg.out; omega) 3 Tryz.infoN3 rfl rfl (oneN _ _ _ _ _) fun V5 e5 b5 s5 k5 => ?_)) AllReadyP.nil
              refine ⟨trivial, ?_⟩
              try simp only [Act.put, List.setIfInBounds_toArray, List.set_cons_zero, List.set_cons_succ]
              refine wpAnyP_done (by kernel_rfl) ?_ _
              refine NoPanic.normal ?_
              try simp only [Act.put, List.setIfInBounds_toArray, List.set_cons_zero, List.set_cons_succ]
              have e9 : goneL (lsZ z) z.gn low (i + 1) = goneL (lsZ z) z.gn low i ++ [i] := by
                unfold goneL
                rw [pick_succ, decide_eq_false HNI.out]
                simp
              have HK2 : Hid (LtS Bg w8 V5 z low (i + 1) (i + 1) 1074 n4 o4 t4 p4 x4) := by
                have hz5 := hz4.cl (num_cl (kept SX HJ9.out.g.row)) (fun b hb _ => k5 b hb)
                have hs9 : ((goneL (lsZ z) z.gn low i).map (lsZ z)).sum + lossV (z.gs[i]?.getD []) = ((goneL (lsZ z) z.gn low (i + 1)).map (lsZ z)).sum := by rw [e9, List.map_append, List.sum_append]; simp [lsZ]
                rw [hs9] at hz5
                obtain ⟨X9, hX9⟩ : ∃ X : Nat, X = 2128 := ⟨_, rfl⟩
                have h8 := ls_lt HGD.out.2.2 HGL.out hX9 (goneL (lsZ z) z.gn low (i + 1)) (by have h7 : (goneL (lsZ z) z.gn low (i + 1)).length ≤ i + 1 := pickL_len _ _; omega)
                exact ⟨⟨e5, hz5.tight (by omega) (X := X9) (by omega) h8⟩, by rw [k5 _ (by omega)]; exact kept SX HJ9.out.ob, by rw [k5 _ (by omega)]; exact kept SX HJ9.out.l, b5⟩
              have HKN : Hid (∀ j, j < low → (j < k ↔ (keptL (lsZ z) z.gn low)[j]?.getD 0 < i + 1)) := by
                intro j hj
                have h9 := HK.out j hj
                have h8 : (keptL (lsZ z) z.gn low)[j]?.getD 0 ≠ i := fun e7 => HNI.out (by
                  have hl := keptL_len (v := lsZ z) HLZ.out
                  rw [← e7, List.getElem?_eq_getElem (by omega)]
                  exact List.getElem_mem _)
                omega
              clear SX e5 b5 s5 k5 hz4 hz1 RK CK C3 HJ9 HK
              go_wp2_with fail
              go_roundg q
              case measure => omega
              case rel => exact ⟨i + 1, k, rfl, by go_num, by have := HIG.out; omega, hkl, HKN, n4, o4, t4, p4, x4, HK2⟩
          · have HNI : Hid (¬ i ∈ keptL (lsZ z) z.gn low) := fun h => h2 (HKA.out.1 h).1
            have he2 : decide ((k : Int) < (low : Int)) = false := decide_eq_false (by omega)
            clear zx zy hzi ezi hia
            go_upto_region 14 with fail
            have bX : Below W2.heap.size W2 W2.drew := (Below.refl _ _).drew
            refine wp_region_noPanic ?_
            refine wp_region_held_drew (S := (fun V => Below W2.heap.size W2 V)) (by kernel_rfl) bX (fun _ => ?_)
            refine takeH 51 (i := 0) (v := ?_) rfl rfl (by kernel_rfl) (by kernel_rfl) (by kernel_rfl) (fun _ _ _ h => h) (Or.inl ⟨by kernel_rfl, ?_⟩) bX ?_
            rotate_left
            · intro w' hSw; have s1 := cellT cz2 hSw; have s2 := cellT cy2 hSw; go_simp; try with_reducible rfl
            try simp only [Act.put, List.setIfInBounds_toArray, List.set_cons_zero, List.set_cons_succ]
            refine takeH 52 (i := 1) (v := ?_) rfl rfl (by kernel_rfl) (by kernel_rfl) (by kernel_rfl) (fun _ _ _ h => h) (Or.inl ⟨by kernel_rfl, ?_⟩) bX ?_
            rotate_left
            · intro w' hSw; have s1 := cellT cz2 hSw; have s2 := cellT cy2 hSw; go_simp; try with_reducible rfl
            try simp only [Act.put, List.setIfInBounds_toArray, List.set_cons_zero, List.set_cons_succ]
            refine takeH 53 (i := 2) (v := ?_) rfl rfl (by kernel_rfl) (by kernel_rfl) (by kernel_rfl) (fun _ _ _ h => h) (Or.inl ⟨by kernel_rfl, ?_⟩) bX ?_
            rotate_left
            · intro w' hSw; have s1 := cellT cz2 hSw; have s2 := cellT cy2 hSw; go_simp; try with_reducible rfl
            try simp only [Act.put, List.setIfInBounds_toArray, List.set_cons_zero, List.set_cons_succ]
            refine takeH 54 (i := 3) (v := ?_) rfl rfl (by kernel_rfl) (by kernel_rfl) (by kernel_rfl) (fun _ _ _ h => h) (Or.inl ⟨by kernel_rfl, ?_⟩) bX ?_
            rotate_left
            · intro w' hSw; have s1 := cellT cz2 hSw; have s2 := cellT cy2 hSw; go_simp; try with_reducible rfl
            try simp only [Act.put, List.setIfInBounds_toArray, List.set_cons_zero, List.set_cons_succ]
            refine takeH 55 (i := 4) (v := ?_) rfl rfl (by kernel_rfl) (by kernel_rfl) (by kernel_rfl) (fun _ _ _ h => h) (Or.inl ⟨by kernel_rfl, ?_⟩) bX ?_
            rotate_left
            · intro w' hSw; have s1 := cellT cz2 hSw; have s2 := cellT cy2 hSw; go_simp; try with_reducible rfl
            try simp only [Act.put, List.setIfInBounds_toArray, List.set_cons_zero, List.set_cons_succ]
            refine takeH 56 (i := 5) (v := ?_) rfl rfl (by kernel_rfl) (by kernel_rfl) (by kernel_rfl) (fun _ _ _ h => h) (Or.inl ⟨by kernel_rfl, ?_⟩) bX ?_
            rotate_left
            · intro w' hSw; have s1 := cellT cz2 hSw; have s2 := cellT cy2 hSw; go_simp; try with_reducible rfl
            try simp only [Act.put, List.setIfInBounds_toArray, List.set_cons_zero, List.set_cons_succ]
            refine takeH 57 (i := 6) (v := undef) rfl rfl (by kernel_rfl) (by kernel_rfl) (by kernel_rfl) (fun _ _ _ h => h) (Or.inr ⟨by kernel_rfl, rfl⟩) bX ?_
            try simp only [Act.put, List.setIfInBounds_toArray, List.set_cons_zero, List.set_cons_succ]
            refine takeH 58 (i := 7) (v := undef) rfl rfl (by kernel_rfl) (by kernel_rfl) (by kernel_rfl) (fun _ _ _ h => h) (Or.inr ⟨by kernel_rfl, rfl⟩) bX ?_
            try simp only [Act.put, List.setIfInBounds_toArray, List.set_cons_zero, List.set_cons_succ]
            refine takeH 59 (i := 8) (v := undef) rfl rfl (by kernel_rfl) (by kernel_rfl) (by kernel_rfl) (fun _ _ _ h => h) (Or.inr ⟨by kernel_rfl, rfl⟩) bX ?_
            try simp only [Act.put, List.setIfInBounds_toArray, List.set_cons_zero, List.set_cons_succ]
            refine takeH 60 (i := 9) (v := undef) rfl rfl (by kernel_rfl) (by kernel_rfl) (by kernel_rfl) (fun _ _ _ h => h) (Or.inr ⟨by kernel_rfl, rfl⟩) bX ?_
            try simp only [Act.put, List.setIfInBounds_toArray, List.set_cons_zero, List.set_cons_succ]
            refine takeH 61 (i := 10) (v := undef) rfl rfl (by kernel_rfl) (by kernel_rfl) (by kernel_rfl) (fun _ _ _ h => h) (Or.inr ⟨by kernel_rfl, rfl⟩) bX ?_
            try simp only [Act.put, List.setIfInBounds_toArray, List.set_cons_zero, List.set_cons_succ]
            refine takeH 62 (i := 11) (v := undef) rfl rfl (by kernel_rfl) (by kernel_rfl) (by kernel_rfl) (fun _ _ _ h => h) (Or.inr ⟨by kernel_rfl, rfl⟩) bX ?_
            try simp only [Act.put, List.setIfInBounds_toArray, List.set_cons_zero, List.set_cons_succ]
            refine takeH 63 (i := 12) (v := undef) rfl rfl (by kernel_rfl) (by kernel_rfl) (by kernel_rfl) (fun _ _ _ h => h) (Or.inr ⟨by kernel_rfl, rfl⟩) bX ?_
            try simp only [Act.put, List.setIfInBounds_toArray, List.set_cons_zero, List.set_cons_succ]
            refine takeH 64 (i := 13) (v := undef) rfl rfl (by kernel_rfl) (by kernel_rfl) (by kernel_rfl) (fun _ _ _ h => h) (Or.inr ⟨by kernel_rfl, rfl⟩) bX ?_
            try simp only [Act.put, List.setIfInBounds_toArray, List.set_cons_zero, List.set_cons_succ]
            refine takeH 65 (i := 14) (v := undef) rfl rfl (by kernel_rfl) (by kernel_rfl) (by kernel_rfl) (fun _ _ _ h => h) (Or.inr ⟨by kernel_rfl, rfl⟩) bX ?_
            try simp only [Act.put, List.setIfInBounds_toArray, List.set_cons_zero, List.set_cons_succ]
            refine takeH 66 (i := 15) (v := undef) rfl rfl (by kernel_rfl) (by kernel_rfl) (by kernel_rfl) (fun _ _ _ h => h) (Or.inr ⟨by kernel_rfl, rfl⟩) bX ?_
            try simp only [Act.put, List.setIfInBounds_toArray, List.set_cons_zero, List.set_cons_succ]
            refine takeH 67 (i := 16) (v := undef) rfl rfl (by kernel_rfl) (by kernel_rfl) (by kernel_rfl) (fun _ _ _ h => h) (Or.inr ⟨by kernel_rfl, rfl⟩) bX ?_
            try simp only [Act.put, List.setIfInBounds_toArray, List.set_cons_zero, List.set_cons_succ]
            refine takeH 68 (i := 17) (v := .bool false) rfl rfl (by kernel_rfl) (by kernel_rfl) (by kernel_rfl) (fun _ _ _ h => h) (Or.inl ⟨by kernel_rfl, fun w' _ => by kernel_rfl⟩) bX ?_
            try simp only [Act.put, List.setIfInBounds_toArray, List.set_cons_zero, List.set_cons_succ]
            refine wpAnyH_done (by kernel_rfl) ?_ _
            refine NoPanic.normal ?_
            try simp only [Act.put, List.setIfInBounds_toArray, List.set_cons_zero, List.set_cons_succ]
            clear he2
            obtain ⟨V9, hV9⟩ : ∃ V9, W2.drew = V9 := ⟨_, rfl⟩
            have HJ9 : Hid (LtS Bg w8 V9 z low i (i + 1) 1074 n o l c e) := by
              have hb : Below W2.heap.size W2 V9 := hV9 ▸ (Below.refl _ W2).drew
              exact ⟨⟨kept hb HJ.out.g.row, HJ.out.g.num.later hb⟩, kept hb HJ.out.ob, kept hb HJ.out.l, to_call HJ.out.bel hb⟩
            rw [hV9]
            have bw9 : Below w8.heap.size w8 V9 := HJ9.out.bel
            have zx := HZ8.out.2.2.2.1.later bw9
            have hig : i < z.gn := by rw [← HDG.out]; exact h1
            rcases zx.g.cells with h0 | ⟨zgb, zgo, ezg, hzg⟩
            · omega
            have rx := zx.g.each i hig
            have gzg := hzg i hig
            have lx : (z.gv i).2.1 = z.rn := by rw [← rx.length]; exact HGD.out.2.2.gl i h1
            obtain ⟨x1, ex1⟩ : ∃ t, (z.gv i).1 = t := ⟨_, rfl⟩
            obtain ⟨x3, ex3⟩ : ∃ t, (z.gv i).2.2 = t := ⟨_, rfl⟩
            rw [ex1, ex3, lx] at rx gzg
            have RK : Hid (RdF V9 x1 z.rn x3 (z.gs[i]?.getD []) ∧ ∀ j : Nat, Fin ((z.gs[i]?.getD [])[j]?.getD 0)) := ⟨rx, HGD.out.2.2.fin.g i⟩
            have CK : Hid (V9.cell? ⟨zgb, zgo + i, none⟩ = some (.slice x1 z.rn x3)) := gzg
            have C3 : Hid (V9.cell? ⟨w.heap.size, 3, none⟩ = some (.slice (some ⟨zgb, zgo, none⟩) z.gn z.gc)) := by unfold Hid; rw [← ezg]; exact cellT HZ8.out.2.1 bw9
            have HRN : Hid (z.rn ≤ 256) := HGD.out.2.2.n2
            have hig' : (i : Int) < (z.gn : Int) := by omega
            clear zx hzg rx gzg ezg lx ex1 ex3 hV9 bX cz2 cy2 gz HJ
            go_upto_region 16 with fail
            have SX : Below V9.heap.size V9 V9.drew := (Below.refl _ _).drew
            refine wp_region_noPanic ?_
            refine wp_region_P (S := (fun V => Below V9.heap.size V9 V)) (s := 8) (by kernel_rfl) ?_
            refine takeP 71 (i := 0) (v := .agg #[.bool n, .slice o l c, .int .i64 e]) rfl rfl (by kernel_rfl) (by kernel_rfl) (by kernel_rfl) (by kernel_rfl) rfl (by kernel_rfl) (fun _ _ _ h => h) (Or.inl ⟨by kernel_rfl, fun w' hSw => ex_loadRN _ 37 _ rfl Bg (by kernel_rfl) w' _ (kept hSw HJ9.out.g.row) _ Tryz.underlying37 rfl 3 Tryz.infoN3 rfl⟩) SX ?_
            try simp only [Act.put, List.setIfInBounds_toArray, List.set_cons_zero, List.set_cons_succ]
            refine takeP 72 (i := 1) (v := ?_) rfl rfl (by kernel_rfl) (by kernel_rfl) (by kernel_rfl) (by kernel_rfl) rfl (by kernel_rfl) (fun _ _ _ h => h) (Or.inl ⟨by kernel_rfl, ?_⟩) SX ?_
            rotate_left
            · intro w' hSw; go_simp; try with_reducible rfl
            try simp only [Act.put, List.setIfInBounds_toArray, List.set_cons_zero, List.set_cons_succ]
            refine takeP 73 (i := 2) (v := ?_) rfl rfl (by kernel_rfl) (by kernel_rfl) (by kernel_rfl) (by kernel_rfl) rfl (by kernel_rfl) (fun _ _ _ h => h) (Or.inl ⟨by kernel_rfl, ?_⟩) SX ?_
            rotate_left
            · intro w' hSw; have s0 := cellT C3.out hSw; go_simp; try with_reducible rfl
            try simp only [Act.put, List.setIfInBounds_toArray, List.set_cons_zero, List.set_cons_succ]
            refine takeP 74 (i := 3) (v := ?_) rfl rfl (by kernel_rfl) (by kernel_rfl) (by kernel_rfl) (by kernel_rfl) rfl (by kernel_rfl) (fun _ _ _ h => h) (Or.inl ⟨by kernel_rfl, ?_⟩) SX ?_
            rotate_left
            · intro w' hSw; go_simp; try with_reducible rfl
            try simp only [Act.put, List.setIfInBounds_toArray, List.set_cons_zero, List.set_cons_succ]
            refine takeP 75 (i := 4) (v := ?_) rfl rfl (by kernel_rfl) (by kernel_rfl) (by kernel_rfl) (by kernel_rfl) rfl (by kernel_rfl) (fun _ _ _ h => h) (Or.inl ⟨by kernel_rfl, ?_⟩) SX ?_
            rotate_left
            · intro w' hSw; go_simp; try with_reducible rfl
            try simp only [Act.put, List.setIfInBounds_toArray, List.set_cons_zero, List.set_cons_succ]
            refine takeP 76 (i := 5) (v := ?_) rfl rfl (by kernel_rfl) (by kernel_rfl) (by kernel_rfl) (by kernel_rfl) rfl (by kernel_rfl) (fun _ _ _ h => h) (Or.inl ⟨by kernel_rfl, ?_⟩) SX ?_
            rotate_left
            · intro w' hSw; have s0 := cellT CK.out hSw; go_simp; try with_reducible rfl
            try simp only [Act.put, List.setIfInBounds_toArray, List.set_cons_zero, List.set_cons_succ]
            refine wpAnyP_ready (rs := [6]) (by kernel_rfl) (by simp) ?_
            refine consP _ rfl (hopCd 77 rfl (by kernel_rfl) rfl (by kernel_rfl) (Calls.mono (lossT_any _ _ _ _ 1074 rfl _ (RK.out.1.later SX) RK.out.2 HRN.out) ?_)) AllReadyP.nil
            rintro e V1 ⟨v1, rfl, hz1, b1⟩
            obtain ⟨n1, o1, t1, p1, x1, hv1⟩ := hz1.form
            subst hv1
            have SX : Below V9.heap.size V9 V1 := to_call SX b1
            clear b1
            refine ⟨_, rfl, SX, ?_⟩
            try simp only [Act.put, List.setIfInBounds_toArray, List.set_cons_zero, List.set_cons_succ]
            refine wpAnyP_ready (rs := [7]) (by kernel_rfl) (by simp) ?_
            refine consP _ rfl (hopCd 78 rfl (by kernel_rfl) rfl (by kernel_rfl) (Calls.mono (plusC_any _ _ 1074 1300 _ _ _ ((NumC.later HJ9.out.g.num SX).mono (by omega)) hz1 (by omega) (by omega)) ?_)) AllReadyP.nil
            rintro e V4 ⟨v4, rfl, hz4, b4⟩
            obtain ⟨n4, o4, t4, p4, x4, hv4⟩ := hz4.form
            subst hv4
            have SX : Below V9.heap.size V9 V4 := to_call SX b4
            clear b4
            refine ⟨_, rfl, SX, ?_⟩
            try simp only [Act.put, List.setIfInBounds_toArray, List.set_cons_zero, List.set_cons_succ]
            refine wpAnyP_ready (rs := [8]) (by kernel_rfl) (by simp) ?_
            refine consPs _ rfl (by kernel_rfl) (hopL rfl (wpList_store_row (by rfl) 37 _ _ (by rfl) w8 w8.heap.size Bg #[.bool n4, .slice o4 t4 p4, .int .i64 x4] _ (by kernel_rfl) (by kernel_rfl) (kept SX HJ9.out.g.row) (to_call HJ9.out.bel SX) (by have := HBg.out; omega) 3 Tryz.infoN3 rfl rfl (oneN _ _ _ _ _) fun V5 e5 b5 s5 k5 => ?_)) AllReadyP.nil
            refine ⟨trivial, ?_⟩
            try simp only [Act.put, List.setIfInBounds_toArray, List.set_cons_zero, List.set_cons_succ]
            refine wpAnyP_done (by kernel_rfl) ?_ _
            refine NoPanic.normal ?_
            try simp only [Act.put, List.setIfInBounds_toArray, List.set_cons_zero, List.set_cons_succ]
            have e9 : goneL (lsZ z) z.gn low (i + 1) = goneL (lsZ z) z.gn low i ++ [i] := by
              unfold goneL
              rw [pick_succ, decide_eq_false HNI.out]
              simp
            have HK2 : Hid (LtS Bg w8 V5 z low (i + 1) (i + 1) 1074 n4 o4 t4 p4 x4) := by
              have hz5 := hz4.cl (num_cl (kept SX HJ9.out.g.row)) (fun b hb _ => k5 b hb)
              have hs9 : ((goneL (lsZ z) z.gn low i).map (lsZ z)).sum + lossV (z.gs[i]?.getD []) = ((goneL (lsZ z) z.gn low (i + 1)).map (lsZ z)).sum := by rw [e9, List.map_append, List.sum_append]; simp [lsZ]
              rw [hs9] at hz5
              obtain ⟨X9, hX9⟩ : ∃ X : Nat, X = 2128 := ⟨_, rfl⟩
              have h8 := ls_lt HGD.out.2.2 HGL.out hX9 (goneL (lsZ z) z.gn low (i + 1)) (by have h7 : (goneL (lsZ z) z.gn low (i + 1)).length ≤ i + 1 := pickL_len _ _; omega)
              exact ⟨⟨e5, hz5.tight (by omega) (X := X9) (by omega) h8⟩, by rw [k5 _ (by omega)]; exact kept SX HJ9.out.ob, by rw [k5 _ (by omega)]; exact kept SX HJ9.out.l, b5⟩
            have HKN : Hid (∀ j, j < low → (j < k ↔ (keptL (lsZ z) z.gn low)[j]?.getD 0 < i + 1)) := by
              intro j hj
              have h9 := HK.out j hj
              have h8 : (keptL (lsZ z) z.gn low)[j]?.getD 0 ≠ i := fun e7 => HNI.out (by
                have hl := keptL_len (v := lsZ z) HLZ.out
                rw [← e7, List.getElem?_eq_getElem (by omega)]
                exact List.getElem_mem _)
              omega
            clear SX e5 b5 s5 k5 hz4 hz1 RK CK C3 HJ9 HK
            go_wp2_with fail
            go_roundg q
            case measure => omega
            case rel => exact ⟨i + 1, k, rfl, by go_num, by have := HIG.out; omega, hkl, HKN, n4, o4, t4, p4, x4, HK2⟩
        · have he1 : decide ((i : Int) < (z.dn : Int)) = false := decide_eq_false (by omega)
          have he2 : decide (i < z.dn) = false := decide_eq_false (by omega)
          have ek : i = z.dn := by omega
          have HU0 : Hid (LuS Bg w8 wr z low 1074 [] (List.range z.dn) (.slice (some ⟨Bg + 1 + 1, 0, none⟩) z.dn z.dn) n o l c e false none 0 0 0) := by
            have h9 := HI.out
            rw [ek] at h9
            refine ⟨h9.g, ⟨h9.ob, NumC.zeroJ _ _ _ (by omega)⟩, ⟨by simp, .inr ⟨Bg + 1 + 1, z.dn, upN z.dn z.dn, by rw [List.length_range], Nat.le_refl _, h9.l, by rw [List.length_range]; exact Nat.le_refl _, by simp only [maxLen]; omega, by rw [upN_size, Nat.mul_one], ?_⟩⟩, h9.bel, by rw [List.nil_append]⟩
            rw [upN_list, List.length_range, Nat.mul_one, List.take_of_length_le (by simp)]
          have HNN : Hid (low ≤ z.dn) := by unfold Hid; rw [HDG.out]; exact HLZ.out
          clear hi hkl HK HI bw ek
          go_wp2_with fail
          clear z2 he1 he2
          obtain ⟨W7, hW7⟩ : ∃ W7, wr = W7 := ⟨_, rfl⟩
          rw [hW7] at HU0 ⊢
          clear hW7 wr
          go_loopg [12, 14] (z.dn - low) (fun g v12 v14 wx => ∃ (i : Nat) (p L : List Nat), v14 = .int .i64 i ∧ i + g = z.dn - low ∧ p.length = i ∧ ∃ (n' : Bool) (o' : Option Addr) (l' c' : Nat) (e' : Int), Hid (LuS Bg w8 wx z low 1074 p L v12 n o l c e n' o' l' c' e'))
          case atStart => exact ⟨0, [], List.range z.dn, rfl, by omega, rfl, false, none, 0, 0, 0, HU0⟩
          case round =>
            clear HU0
            obtain ⟨i, p, L, rfl, hi, hpl, n', o', l', c', e', HI⟩ := hrel
            have hnn := HNN.out
            by_cases h1 : i < z.dn - low
            · have he1 : decide ((i : Int) < (z.dn : Int) - (low : Int)) = true := decide_eq_true (by omega)
              obtain ⟨q, rfl⟩ : ∃ q, gk = q + 1 := ⟨gk - 1, by omega⟩
              have HIG : Hid (i + (q + 1) = z.dn - low) := hi
              clear hi
              have hLl : i + L.length = z.dn := by have h9 := HI.out.pm.length_eq; rw [List.length_append, List.length_range, hpl] at h9; exact h9
              rcases HI.out.l.2 with ⟨_, h0⟩ | ⟨lg, lcap, lcur, rfl, hlg, hlc, hlcap, hlmax, hlsz, hltk⟩
              · omega
              by_cases h2 : i < l2
              · have he2 : decide ((i : Int) < (l2 : Int)) = true := decide_eq_true (by omega)
                have h2' : (i : Int) < (l2 : Int) := by omega
                rcases (HS.out _ (to_call HZ8.out.2.2.2.2.2 HI.out.bel)).cells with h0 | ⟨sb, soff, rfl, hcs⟩
                · omega
                have ga := hcs i h2
                obtain ⟨x, hx⟩ : ∃ x, ss[i]?.getD 0 = x := ⟨_, rfl⟩
                rw [hx] at ga
                obtain ⟨N, hand, hN⟩ := and40 x
                have hrem : Int.tmod (N : Int) (L.length : Int) = ((N % L.length : Nat) : Int) := by rw [Int.natCast_emod]; exact Int.tmod_eq_emod_of_nonneg (by omega)
                have hjl : N % L.length < L.length := Nat.mod_lt _ (by omega)
                have hnz : ((L.length : Int) == 0) = false := by rw [beq_eq_false_iff_ne]; omega
                have hnz' : (L.length : Int) ≠ 0 := by omega
                clear hcs hx
                obtain ⟨jj, hjj⟩ : ∃ jj, N % L.length = jj := ⟨_, rfl⟩
                have hrem2 : (N : Int) % (L.length : Int) = (jj : Int) := by rw [← hjj]; omega
                rw [hjj] at hjl hrem
                go_upto_region 23 with fail
                clear hrem2 hrem hand hN hjj hnz hnz' ga he2
                obtain ⟨av, hav⟩ : ∃ a, L[jj]?.getD 0 = a := ⟨_, rfl⟩
                have hLj : L[jj]? = some av := by rw [List.getElem?_eq_getElem hjl] at hav ⊢; rw [← hav]; rfl
                have hmem : av ∈ L := List.mem_of_getElem? hLj
                have had : av < z.dn := List.mem_range.1 (HI.out.pm.mem_iff.1 (List.mem_append_right _ hmem))
                have CL : Hid (wr.cell? ⟨lg, jj, none⟩ = some (.int .i64 (av : Int))) := by
                  have h9 := World.ownsRow.cellAt HI.out.l jj (by omega)
                  rw [List.getElem?_map, hLj] at h9
                  exact h9
                have zx := HZ8.out.2.2.2.1.later HI.out.bel
                have hig : av < z.gn := by rw [← HDG.out]; exact had
                rcases zx.g.cells with h0 | ⟨zgb, zgo, ezg, hzg⟩
                · omega
                have rx := zx.g.each av hig
                have gzg := hzg av hig
                have lx : (z.gv av).2.1 = z.rn := by rw [← rx.length]; exact HGD.out.2.2.gl av had
                obtain ⟨x1, ex1⟩ : ∃ t, (z.gv av).1 = t := ⟨_, rfl⟩
                obtain ⟨x3, ex3⟩ : ∃ t, (z.gv av).2.2 = t := ⟨_, rfl⟩
                rw [ex1, ex3, lx] at rx gzg
                have RK : Hid (RdF wr x1 z.rn x3 (z.gs[av]?.getD []) ∧ ∀ j : Nat, Fin ((z.gs[av]?.getD [])[j]?.getD 0)) := ⟨rx, HGD.out.2.2.fin.g av⟩
                have CK : Hid (wr.cell? ⟨zgb, zgo + av, none⟩ = some (.slice x1 z.rn x3)) := gzg
                have C3 : Hid (wr.cell? ⟨w.heap.size, 3, none⟩ = some (.slice (some ⟨zgb, zgo, none⟩) z.gn z.gc)) := by unfold Hid; rw [← ezg]; exact cellT HZ8.out.2.1 HI.out.bel
                have HRN : Hid (z.rn ≤ 256) := HGD.out.2.2.n2
                have hig' : (av : Int) < (z.gn : Int) := by omega
                have hjl' : (jj : Int) < (L.length : Int) := by omega
                clear zx hzg rx gzg ezg lx ex1 ex3
                have SX : Below wr.heap.size wr wr.drew := (Below.refl _ _).drew
                refine wp_region_noPanic ?_
                refine wp_region_P (S := (fun V => Below wr.heap.size wr V)) (s := 11) (by kernel_rfl) ?_
                refine takeP 96 (i := 0) (v := .agg #[.bool n', .slice o' l' c', .int .i64 e']) rfl rfl (by kernel_rfl) (by kernel_rfl) (by kernel_rfl) (by kernel_rfl) rfl (by kernel_rfl) (fun _ _ _ h => h) (Or.inl ⟨by kernel_rfl, fun w' hSw => ex_loadRN _ 37 _ rfl (Bg + 1) (by kernel_rfl) w' _ (kept hSw HI.out.ob.row) _ Tryz.underlying37 rfl 3 Tryz.infoN3 rfl⟩) SX ?_
                try simp only [Act.put, List.setIfInBounds_toArray, List.set_cons_zero, List.set_cons_succ]
                refine takeP 97 (i := 1) (v := ?_) rfl rfl (by kernel_rfl) (by kernel_rfl) (by kernel_rfl) (by kernel_rfl) rfl (by kernel_rfl) (fun _ _ _ h => h) (Or.inl ⟨by kernel_rfl, ?_⟩) SX ?_
                rotate_left
                · intro w' hSw; go_simp; try with_reducible rfl
                try simp only [Act.put, List.setIfInBounds_toArray, List.set_cons_zero, List.set_cons_succ]
                refine takeP 98 (i := 2) (v := ?_) rfl rfl (by kernel_rfl) (by kernel_rfl) (by kernel_rfl) (by kernel_rfl) rfl (by kernel_rfl) (fun _ _ _ h => h) (Or.inl ⟨by kernel_rfl, ?_⟩) SX ?_
                rotate_left
                · intro w' hSw; have s0 := cellT C3.out hSw; go_simp; try with_reducible rfl
                try simp only [Act.put, List.setIfInBounds_toArray, List.set_cons_zero, List.set_cons_succ]
                refine takeP 99 (i := 3) (v := ?_) rfl rfl (by kernel_rfl) (by kernel_rfl) (by kernel_rfl) (by kernel_rfl) rfl (by kernel_rfl) (fun _ _ _ h => h) (Or.inl ⟨by kernel_rfl, ?_⟩) SX ?_
                rotate_left
                · intro w' hSw; go_simp; try with_reducible rfl
                try simp only [Act.put, List.setIfInBounds_toArray, List.set_cons_zero, List.set_cons_succ]
                refine takeP 100 (i := 4) (v := ?_) rfl rfl (by kernel_rfl) (by kernel_rfl) (by kernel_rfl) (by kernel_rfl) rfl (by kernel_rfl) (fun _ _ _ h => h) (Or.inl ⟨by kernel_rfl, ?_⟩) SX ?_
                rotate_left
                · intro w' hSw; go_simp; try with_reducible rfl
                try simp only [Act.put, List.setIfInBounds_toArray, List.set_cons_zero, List.set_cons_succ]
                refine takeP 101 (i := 5) (v := ?_) rfl rfl (by kernel_rfl) (by kernel_rfl) (by kernel_rfl) (by kernel_rfl) rfl (by kernel_rfl) (fun _ _ _ h => h) (Or.inl ⟨by kernel_rfl, ?_⟩) SX ?_
                rotate_left
                · intro w' hSw; go_simp; try with_reducible rfl
                try simp only [Act.put, List.setIfInBounds_toArray, List.set_cons_zero, List.set_cons_succ]
                refine takeP 102 (i := 6) (v := ?_) rfl rfl (by kernel_rfl) (by kernel_rfl) (by kernel_rfl) (by kernel_rfl) rfl (by kernel_rfl) (fun _ _ _ h => h) (Or.inl ⟨by kernel_rfl, ?_⟩) SX ?_
                rotate_left
                · intro w' hSw; have s0 := cellT CL.out hSw; go_simp; try with_reducible rfl
                try simp only [Act.put, List.setIfInBounds_toArray, List.set_cons_zero, List.set_cons_succ]
                refine takeP 103 (i := 7) (v := ?_) rfl rfl (by kernel_rfl) (by kernel_rfl) (by kernel_rfl) (by kernel_rfl) rfl (by kernel_rfl) (fun _ _ _ h => h) (Or.inl ⟨by kernel_rfl, ?_⟩) SX ?_
                rotate_left
                · intro w' hSw; go_simp; try with_reducible rfl
                try simp only [Act.put, List.setIfInBounds_toArray, List.set_cons_zero, List.set_cons_succ]
                refine takeP 104 (i := 8) (v := ?_) rfl rfl (by kernel_rfl) (by kernel_rfl) (by kernel_rfl) (by kernel_rfl) rfl (by kernel_rfl) (fun _ _ _ h => h) (Or.inl ⟨by kernel_rfl, ?_⟩) SX ?_
                rotate_left
                · intro w' hSw; have s0 := cellT CK.out hSw; go_simp; try with_reducible rfl
                try simp only [Act.put, List.setIfInBounds_toArray, List.set_cons_zero, List.set_cons_succ]
                refine wpAnyP_ready (rs := [9]) (by kernel_rfl) (by simp) ?_
                refine consP _ rfl (hopCd 105 rfl (by kernel_rfl) rfl (by kernel_rfl) (Calls.mono (lossT_any _ _ _ _ 1074 rfl _ (RK.out.1.later SX) RK.out.2 HRN.out) ?_)) AllReadyP.nil
                rintro e V1 ⟨v1, rfl, hz1, b1⟩
                obtain ⟨n1, o1, t1, p1, x1, hv1⟩ := hz1.form
                subst hv1
                have SX : Below wr.heap.size wr V1 := to_call SX b1
                clear b1
                refine ⟨_, rfl, SX, ?_⟩
                try simp only [Act.put, List.setIfInBounds_toArray, List.set_cons_zero, List.set_cons_succ]
                refine wpAnyP_ready (rs := [10]) (by kernel_rfl) (by simp) ?_
                refine consP _ rfl (hopCd 106 rfl (by kernel_rfl) rfl (by kernel_rfl) (Calls.mono (plusC_any _ _ 1074 1300 _ _ _ ((NumC.later HI.out.ob.num SX).mono (by omega)) hz1 (by omega) (by omega)) ?_)) AllReadyP.nil
                rintro e V4 ⟨v4, rfl, hz4, b4⟩
                obtain ⟨n4, o4, t4, p4, x4, hv4⟩ := hz4.form
                subst hv4
                have SX : Below wr.heap.size wr V4 := to_call SX b4
                clear b4
                refine ⟨_, rfl, SX, ?_⟩
                try simp only [Act.put, List.setIfInBounds_toArray, List.set_cons_zero, List.set_cons_succ]
                refine wpAnyP_ready (rs := [11]) (by kernel_rfl) (by simp) ?_
                refine consPs _ rfl (by kernel_rfl) (hopL rfl (wpList_store_row (by rfl) 37 _ _ (by rfl) w8 w8.heap.size (Bg + 1) #[.bool n4, .slice o4 t4 p4, .int .i64 x4] _ (by kernel_rfl) (by kernel_rfl) (kept SX HI.out.ob.row) (to_call HI.out.bel SX) (by have := HBg.out; omega) 3 Tryz.infoN3 rfl rfl (oneN _ _ _ _ _) fun V5 e5 b5 s5 k5 => ?_)) AllReadyP.nil
                refine ⟨trivial, ?_⟩
                try simp only [Act.put, List.setIfInBounds_toArray, List.set_cons_zero, List.set_cons_succ]
                refine wpAnyP_done (by kernel_rfl) ?_ _
                refine NoPanic.normal ?_
                try simp only [Act.put, List.setIfInBounds_toArray, List.set_cons_zero, List.set_cons_succ]
                have hlg5 : V5.heap[lg]? = _ := (k5 lg (by omega)).trans (kept SX hlc)
                have HQ : Hid (BxN V5 Bg 1074 1054 ((goneL (lsZ z) z.gn low z.dn).map (lsZ z)).sum n o l c e ∧ BxN V5 (Bg + 1) 1074 1054 ((p ++ [av]).map (lsZ z)).sum n4 o4 t4 p4 x4 ∧ V5.ownsRow (Bg + 1 + 1) 3 1 (.slice (some ⟨lg, 0, none⟩) L.length lcap) L.length (L.map fun a : Nat => Value.int .i64 (a : Int)) ∧ Below w8.heap.size w8 V5) := by
                  have hcl := num_cl (kept SX HI.out.ob.row)
                  have hz5 := hz4.cl hcl (fun b hb _ => k5 b hb)
                  have hs9 : (p.map (lsZ z)).sum + lossV (z.gs[av]?.getD []) = ((p ++ [av]).map (lsZ z)).sum := by rw [List.map_append, List.sum_append]; simp [lsZ]
                  rw [hs9] at hz5
                  obtain ⟨X9, hX9⟩ : ∃ X : Nat, X = 2128 := ⟨_, rfl⟩
                  have h8 := ls_lt HGD.out.2.2 HGL.out hX9 (p ++ [av]) (by rw [List.length_append, hpl]; simp; omega)
                  refine ⟨⟨by rw [k5 _ (by omega)]; exact kept SX HI.out.g.row, (NumC.later HI.out.g.num SX).cl hcl (fun b hb _ => k5 b hb)⟩, ⟨e5, hz5.tight (by omega) (X := X9) (by omega) h8⟩, owns_keep HI.out.l (fun b hb => ?_), b5⟩
                  have h7 := World.ownsRow.lt HI.out.l b hb
                  rw [k5 b (by omega)]
                  exact SX.block b h7.2
                have hLb : L.length ≤ 1048576 := by omega
                clear SX e5 b5 s5 k5 hz4 hz1 RK CK C3 CL
                have HO5 : Hid (V5.ownsRow (Bg + 1 + 1) 3 1 (.slice (some ⟨lg, 0, none⟩) L.length lcap) L.length (L.map (fun a : Nat => Value.int .i64 (a : Int)))) := HQ.out.2.2.1
                have hn1 : ∀ j u, ((L.map (fun a : Nat => Value.int .i64 (a : Int))).take jj)[j]? = some u → V5.drew.cell? ((⟨lg, 0, none⟩ : Addr).add j) = some u := news_take (World.ownsRow.drew HO5.out) jj
                have hl1 : ((L.map (fun a : Nat => Value.int .i64 (a : Int))).take jj).length = jj * 1 := by rw [List.length_take, List.length_map]; omega
                have hl2 : ((L.map (fun a : Nat => Value.int .i64 (a : Int))).drop (jj + 1)).length = (L.length - (jj + 1)) * 1 := by rw [List.length_drop, List.length_map]; omega
                have hone1 : ∀ u ∈ (L.map (fun a : Nat => Value.int .i64 (a : Int))).take jj, u.oneCell' = true := fun u hu => ints_one L u (List.mem_of_mem_take hu)
                have hone2 : ∀ u ∈ (L.map (fun a : Nat => Value.int .i64 (a : Int))).drop (jj + 1), u.oneCell' = true := fun u hu => ints_one L u (List.mem_of_mem_drop hu)
                have hle1 : 0 + jj ≤ 4000000 := by omega
                have hle2 : 0 + jj + (L.length - (jj + 1)) ≤ 4000000 := by omega
                obtain ⟨ad2, had2, hrun2⟩ := tailIT lg L.length lcap (jj + 1) (by omega) (by omega)
                have hcp : 0 < lcap := by omega
                go_upto_region 24 with fail
                have bX : Below V5.heap.size V5 V5.drew := (Below.refl _ _).drew
                refine wp_region_noPanic ?_
                refine wp_region_held_drew (S := (fun V => Below V5.heap.size V5 V)) (by kernel_rfl) bX (fun _ => ?_)
                refine takeH 107 (i := 0) (v := ?_) rfl rfl (by kernel_rfl) (by kernel_rfl) (by kernel_rfl) (fun _ _ _ h => h) (Or.inl ⟨by kernel_rfl, ?_⟩) bX ?_
                rotate_left
                · intro w' hSw; go_simp; try with_reducible rfl
                try simp only [Act.put, List.setIfInBounds_toArray, List.set_cons_zero, List.set_cons_succ]
                refine takeH 108 (i := 1) (v := ?_) rfl rfl (by kernel_rfl) (by kernel_rfl) (by kernel_rfl) (fun _ _ _ h => h) (Or.inl ⟨by kernel_rfl, ?_⟩) bX ?_
                rotate_left
                · intro w' hSw; go_simp; try with_reducible rfl
                try simp only [Act.put, List.setIfInBounds_toArray, List.set_cons_zero, List.set_cons_succ]
                refine takeH 109 (i := 2) (v := .slice (some ⟨lg, 0, none⟩) jj lcap) rfl rfl (by kernel_rfl) (by kernel_rfl) (by kernel_rfl) (fun _ _ _ h => h) (Or.inl ⟨by kernel_rfl, fun w' _ => ex_sliceT _ _ _ rfl _ _ _ _ _ (by kernel_rfl) (by kernel_rfl) w' (cutIT lg L.length lcap jj (by omega) (by omega) w')⟩) bX ?_
                try simp only [Act.put, List.setIfInBounds_toArray, List.set_cons_zero, List.set_cons_succ]
                refine takeH 111 (i := 4) (v := ?_) rfl rfl (by kernel_rfl) (by kernel_rfl) (by kernel_rfl) (fun _ _ _ h => h) (Or.inl ⟨by kernel_rfl, ?_⟩) bX ?_
                rotate_left
                · intro w' hSw; go_simp; try with_reducible rfl
                try simp only [Act.put, List.setIfInBounds_toArray, List.set_cons_zero, List.set_cons_succ]
                refine takeH 112 (i := 5) (v := ?_) rfl rfl (by kernel_rfl) (by kernel_rfl) (by kernel_rfl) (fun _ _ _ h => h) (Or.inl ⟨by kernel_rfl, ?_⟩) bX ?_
                rotate_left
                · intro w' hSw; go_simp; try with_reducible rfl
                try simp only [Act.put, List.setIfInBounds_toArray, List.set_cons_zero, List.set_cons_succ]
                refine takeH 113 (i := 6) (v := .int .i64 ((jj + 1 : Nat) : Int)) rfl rfl (by kernel_rfl) (by kernel_rfl) (by kernel_rfl) (fun _ _ _ h => h) (Or.inl ⟨by kernel_rfl, ?_⟩) bX ?_
                · intro w' hSw; go_simp; try (rw [IntKind.wrap_i64]; omega)
                try simp only [Act.put, List.setIfInBounds_toArray, List.set_cons_zero, List.set_cons_succ]
                refine takeH 114 (i := 7) (v := .slice (some ad2) (L.length - (jj + 1)) (lcap - (jj + 1))) rfl rfl (by kernel_rfl) (by kernel_rfl) (by kernel_rfl) (fun _ _ _ h => h) (Or.inl ⟨by kernel_rfl, fun w' _ => ex_sliceL _ _ _ rfl _ _ _ _ _ (by kernel_rfl) (by kernel_rfl) w' (hrun2 w')⟩) bX ?_
                try simp only [Act.put, List.setIfInBounds_toArray, List.set_cons_zero, List.set_cons_succ]
                refine wpAnyH_ready (rs := [3]) (by kernel_rfl) (by simp) ?_
                refine consH _ rfl (hopL rfl (append_gsJ Tryz.underlying23 Tryz.infoIJ rfl (by decide) (by decide) V5.drew (by rfl) _ _ (by rfl) V5.heap.size _ 0 [] (by kernel_rfl) (World.ownsRow_nil _ _ _ _) ⟨lg, 0, none⟩ jj lcap ((L.map (fun a : Nat => Value.int .i64 (a : Int))).take jj) (by kernel_rfl) hl1 hn1 hone1 hle1 (Nat.le_refl _) fun v6 V6 o6 g6 => ?_)) AllReadyH.nil
                have q6 : Below V5.heap.size V5 V6 := bX.trans (g6.below (fun k hk => by simp [Value.ownBlock] at hk) (Nat.le_refl _))
                refine (And.intro q6 ?_ : _ ∧ _)
                try simp only [Act.put, List.setIfInBounds_toArray, List.set_cons_zero, List.set_cons_succ]
                have hO6 := owns_keep HO5.out (fun k hk => q6.block k (World.ownsRow.lt HO5.out k hk).2)
                refine wpAnyH_ready (rs := [8]) (by kernel_rfl) (by simp) ?_
                refine consH _ rfl (hopL rfl (append_gsJ Tryz.underlying23 Tryz.infoIJ rfl (by decide) (by decide) V6 (by rfl) _ _ (by rfl) V5.heap.size v6 (0 + jj) ([] ++ (L.map (fun a : Nat => Value.int .i64 (a : Int))).take jj) (by kernel_rfl) o6 ad2 (L.length - (jj + 1)) (lcap - (jj + 1)) ((L.map (fun a : Nat => Value.int .i64 (a : Int))).drop (jj + 1)) (by kernel_rfl) hl2 (news_drop hO6 (jj + 1) ad2 had2) hone2 hle2 q6.size fun v7 V7 o7 g7 => ?_)) AllReadyH.nil
                have q7 : Below V5.heap.size V5 V7 := q6.trans (g7.below (fun k hk => (World.ownsRow.lt o6 k hk).1) q6.size)
                refine (And.intro q7 ?_ : _ ∧ _)
                try simp only [Act.put, List.setIfInBounds_toArray, List.set_cons_zero, List.set_cons_succ]
                refine takeH 12 (i := 9) (v := ?_) rfl rfl (by kernel_rfl) (by kernel_rfl) (by kernel_rfl) (fun _ _ _ h => h) (Or.inl ⟨by kernel_rfl, ?_⟩) q7 ?_
                rotate_left
                · intro w' hSw; go_simp; try with_reducible rfl
                try simp only [Act.put, List.setIfInBounds_toArray, List.set_cons_zero, List.set_cons_succ]
                refine wpAnyH_done (by kernel_rfl) ?_ _
                refine NoPanic.normal ?_
                try simp only [Act.put, List.setIfInBounds_toArray, List.set_cons_zero, List.set_cons_succ]
                have HK2 : Hid (LuS Bg w8 V7 z low 1074 (p ++ [av]) (L.take jj ++ L.drop (jj + 1)) v7 n o l c e n4 o4 t4 p4 x4) := by
                  refine ⟨⟨kept q7 HQ.out.1.row, HQ.out.1.num.later q7⟩, ⟨kept q7 HQ.out.2.1.row, HQ.out.2.1.num.later q7⟩, ?_, to_call HQ.out.2.2.2 q7, perm_pick HI.out.pm hLj⟩
                  have h9 := owns_monoJ o7 (b := Bg + 1 + 1) (by have h8 := blk_lt HQ.out.2.1.row; have h7 := blk_lt hlg5; omega)
                  have e1 : (L.take jj ++ L.drop (jj + 1)).length = 0 + jj + (L.length - (jj + 1)) := by rw [List.length_append, List.length_take, List.length_drop]; omega
                  have e2 : ((L.take jj ++ L.drop (jj + 1)).map (fun a : Nat => Value.int .i64 (a : Int))) = [] ++ (L.map (fun a : Nat => Value.int .i64 (a : Int))).take jj ++ (L.map (fun a : Nat => Value.int .i64 (a : Int))).drop (jj + 1) := by rw [List.map_append, List.map_take, List.map_drop, List.nil_append]
                  rw [e1, e2]
                  exact h9
                clear o6 g6 q6 o7 g7 q7 hO6 HO5 HQ hn1 hl1 hl2 hone1 hone2 had2 hrun2 bX
                go_wp2_with fail
                go_roundg q
                case measure => omega
                case rel => exact ⟨i + 1, p ++ [av], L.take jj ++ L.drop (jj + 1), by go_num, by have := HIG.out; omega, by rw [List.length_append, hpl]; rfl, n4, o4, t4, p4, x4, HK2⟩
              · have he2 : decide ((i : Int) < (l2 : Int)) = false := decide_eq_false (by omega)
                have he3 : decide (i < l2) = false := decide_eq_false (by omega)
                have hjl : 0 < L.length := by omega
                go_upto_region 23 with fail
                clear he2 he3
                obtain ⟨av, hav⟩ : ∃ a, L[0]?.getD 0 = a := ⟨_, rfl⟩
                have hLj : L[0]? = some av := by rw [List.getElem?_eq_getElem hjl] at hav ⊢; rw [← hav]; rfl
                have hmem : av ∈ L := List.mem_of_getElem? hLj
                have had : av < z.dn := List.mem_range.1 (HI.out.pm.mem_iff.1 (List.mem_append_right _ hmem))
                have CL : Hid (wr.cell? ⟨lg, 0, none⟩ = some (.int .i64 (av : Int))) := by
                  have h9 := World.ownsRow.cellAt HI.out.l 0 (by omega)
                  rw [List.getElem?_map, hLj] at h9
                  exact h9
                have zx := HZ8.out.2.2.2.1.later HI.out.bel
                have hig : av < z.gn := by rw [← HDG.out]; exact had
                rcases zx.g.cells with h0 | ⟨zgb, zgo, ezg, hzg⟩
                · omega
                have rx := zx.g.each av hig
                have gzg := hzg av hig
                have lx : (z.gv av).2.1 = z.rn := by rw [← rx.length]; exact HGD.out.2.2.gl av had
                obtain ⟨x1, ex1⟩ : ∃ t, (z.gv av).1 = t := ⟨_, rfl⟩
                obtain ⟨x3, ex3⟩ : ∃ t, (z.gv av).2.2 = t := ⟨_, rfl⟩
                rw [ex1, ex3, lx] at rx gzg
                have RK : Hid (RdF wr x1 z.rn x3 (z.gs[av]?.getD []) ∧ ∀ j : Nat, Fin ((z.gs[av]?.getD [])[j]?.getD 0)) := ⟨rx, HGD.out.2.2.fin.g av⟩
                have CK : Hid (wr.cell? ⟨zgb, zgo + av, none⟩ = some (.slice x1 z.rn x3)) := gzg
                have C3 : Hid (wr.cell? ⟨w.heap.size, 3, none⟩ = some (.slice (some ⟨zgb, zgo, none⟩) z.gn z.gc)) := by unfold Hid; rw [← ezg]; exact cellT HZ8.out.2.1 HI.out.bel
                have HRN : Hid (z.rn ≤ 256) := HGD.out.2.2.n2
                have hig' : (av : Int) < (z.gn : Int) := by omega
                have hjl' : (0 : Int) < (L.length : Int) := by omega
                clear zx hzg rx gzg ezg lx ex1 ex3
                have SX : Below wr.heap.size wr wr.drew := (Below.refl _ _).drew
                refine wp_region_noPanic ?_
                refine wp_region_P (S := (fun V => Below wr.heap.size wr V)) (s := 11) (by kernel_rfl) ?_
                refine takeP 96 (i := 0) (v := .agg #[.bool n', .slice o' l' c', .int .i64 e']) rfl rfl (by kernel_rfl) (by kernel_rfl) (by kernel_rfl) (by kernel_rfl) rfl (by kernel_rfl) (fun _ _ _ h => h) (Or.inl ⟨by kernel_rfl, fun w' hSw => ex_loadRN _ 37 _ rfl (Bg + 1) (by kernel_rfl) w' _ (kept hSw HI.out.ob.row) _ Tryz.underlying37 rfl 3 Tryz.infoN3 rfl⟩) SX ?_
                try simp only [Act.put, List.setIfInBounds_toArray, List.set_cons_zero, List.set_cons_succ]
                refine takeP 97 (i := 1) (v := ?_) rfl rfl (by kernel_rfl) (by kernel_rfl) (by kernel_rfl) (by kernel_rfl) rfl (by kernel_rfl) (fun _ _ _ h => h) (Or.inl ⟨by kernel_rfl, ?_⟩) SX ?_
                rotate_left
                · intro w' hSw; go_simp; try with_reducible rfl
                try simp only [Act.put, List.setIfInBounds_toArray, List.set_cons_zero, List.set_cons_succ]
                refine takeP 98 (i := 2) (v := ?_) rfl rfl (by kernel_rfl) (by kernel_rfl) (by kernel_rfl) (by kernel_rfl) rfl (by kernel_rfl) (fun _ _ _ h => h) (Or.inl ⟨by kernel_rfl, ?_⟩) SX ?_
                rotate_left
                · intro w' hSw; have s0 := cellT C3.out hSw; go_simp; try with_reducible rfl
                try simp only [Act.put, List.setIfInBounds_toArray, List.set_cons_zero, List.set_cons_succ]
                refine takeP 99 (i := 3) (v := ?_) rfl rfl (by kernel_rfl) (by kernel_rfl) (by kernel_rfl) (by kernel_rfl) rfl (by kernel_rfl) (fun _ _ _ h => h) (Or.inl ⟨by kernel_rfl, ?_⟩) SX ?_
                rotate_left
                · intro w' hSw; go_simp; try with_reducible rfl
                try simp only [Act.put, List.setIfInBounds_toArray, List.set_cons_zero, List.set_cons_succ]
                refine takeP 100 (i := 4) (v := ?_) rfl rfl (by kernel_rfl) (by kernel_rfl) (by kernel_rfl) (by kernel_rfl) rfl (by kernel_rfl) (fun _ _ _ h => h) (Or.inl ⟨by kernel_rfl, ?_⟩) SX ?_
                rotate_left
                · intro w' hSw; go_simp; try with_reducible rfl
                try simp only [Act.put, List.setIfInBounds_toArray, List.set_cons_zero, List.set_cons_succ]
                refine takeP 101 (i := 5) (v := ?_) rfl rfl (by kernel_rfl) (by kernel_rfl) (by kernel_rfl) (by kernel_rfl) rfl (by kernel_rfl) (fun _ _ _ h => h) (Or.inl ⟨by kernel_rfl, ?_⟩) SX ?_
                rotate_left
                · intro w' hSw; go_simp; try with_reducible rfl
                try simp only [Act.put, List.setIfInBounds_toArray, List.set_cons_zero, List.set_cons_succ]
                refine takeP 102 (i := 6) (v := ?_) rfl rfl (by kernel_rfl) (by kernel_rfl) (by kernel_rfl) (by kernel_rfl) rfl (by kernel_rfl) (fun _ _ _ h => h) (Or.inl ⟨by kernel_rfl, ?_⟩) SX ?_
                rotate_left
                · intro w' hSw; have s0 := cellT CL.out hSw; go_simp; try with_reducible rfl
                try simp only [Act.put, List.setIfInBounds_toArray, List.set_cons_zero, List.set_cons_succ]
                refine takeP 103 (i := 7) (v := ?_) rfl rfl (by kernel_rfl) (by kernel_rfl) (by kernel_rfl) (by kernel_rfl) rfl (by kernel_rfl) (fun _ _ _ h => h) (Or.inl ⟨by kernel_rfl, ?_⟩) SX ?_
                rotate_left
                · intro w' hSw; go_simp; try with_reducible rfl
                try simp only [Act.put, List.setIfInBounds_toArray, List.set_cons_zero, List.set_cons_succ]
                refine takeP 104 (i := 8) (v := ?_) rfl rfl (by kernel_rfl) (by kernel_rfl) (by kernel_rfl) (by kernel_rfl) rfl (by kernel_rfl) (fun _ _ _ h => h) (Or.inl ⟨by kernel_rfl, ?_⟩) SX ?_
                rotate_left
                · intro w' hSw; have s0 := cellT CK.out hSw; go_simp; try with_reducible rfl
                try simp only [Act.put, List.setIfInBounds_toArray, List.set_cons_zero, List.set_cons_succ]
                refine wpAnyP_ready (rs := [9]) (by kernel_rfl) (by simp) ?_
                refine consP _ rfl (hopCd 105 rfl (by kernel_rfl) rfl (by kernel_rfl) (Calls.mono (lossT_any _ _ _ _ 1074 rfl _ (RK.out.1.later SX) RK.out.2 HRN.out) ?_)) AllReadyP.nil
                rintro e V1 ⟨v1, rfl, hz1, b1⟩
                obtain ⟨n1, o1, t1, p1, x1, hv1⟩ := hz1.form
                subst hv1
                have SX : Below wr.heap.size wr V1 := to_call SX b1
                clear b1
                refine ⟨_, rfl, SX, ?_⟩
                try simp only [Act.put, List.setIfInBounds_toArray, List.set_cons_zero, List.set_cons_succ]
                refine wpAnyP_ready (rs := [10]) (by kernel_rfl) (by simp) ?_
                refine consP _ rfl (hopCd 106 rfl (by kernel_rfl) rfl (by kernel_rfl) (Calls.mono (plusC_any _ _ 1074 1300 _ _ _ ((NumC.later HI.out.ob.num SX).mono (by omega)) hz1 (by omega) (by omega)) ?_)) AllReadyP.nil
                rintro e V4 ⟨v4, rfl, hz4, b4⟩
                obtain ⟨n4, o4, t4, p4, x4, hv4⟩ := hz4.form
                subst hv4
                have SX : Below wr.heap.size wr V4 := to_call SX b4
                clear b4
                refine ⟨_, rfl, SX, ?_⟩
                try simp only [Act.put, List.setIfInBounds_toArray, List.set_cons_zero, List.set_cons_succ]
                refine wpAnyP_ready (rs := [11]) (by kernel_rfl) (by simp) ?_
                refine consPs _ rfl (by kernel_rfl) (hopL rfl (wpList_store_row (by rfl) 37 _ _ (by rfl) w8 w8.heap.size (Bg + 1) #[.bool n4, .slice o4 t4 p4, .int .i64 x4] _ (by kernel_rfl) (by kernel_rfl) (kept SX HI.out.ob.row) (to_call HI.out.bel SX) (by have := HBg.out; omega) 3 Tryz.infoN3 rfl rfl (oneN _ _ _ _ _) fun V5 e5 b5 s5 k5 => ?_)) AllReadyP.nil
                refine ⟨trivial, ?_⟩
                try simp only [Act.put, List.setIfInBounds_toArray, List.set_cons_zero, List.set_cons_succ]
                refine wpAnyP_done (by kernel_rfl) ?_ _
                refine NoPanic.normal ?_
                try simp only [Act.put, List.setIfInBounds_toArray, List.set_cons_zero, List.set_cons_succ]
                have hlg5 : V5.heap[lg]? = _ := (k5 lg (by omega)).trans (kept SX hlc)
                have HQ : Hid (BxN V5 Bg 1074 1054 ((goneL (lsZ z) z.gn low z.dn).map (lsZ z)).sum n o l c e ∧ BxN V5 (Bg + 1) 1074 1054 ((p ++ [av]).map (lsZ z)).sum n4 o4 t4 p4 x4 ∧ V5.ownsRow (Bg + 1 + 1) 3 1 (.slice (some ⟨lg, 0, none⟩) L.length lcap) L.length (L.map fun a : Nat => Value.int .i64 (a : Int)) ∧ Below w8.heap.size w8 V5) := by
                  have hcl := num_cl (kept SX HI.out.ob.row)
                  have hz5 := hz4.cl hcl (fun b hb _ => k5 b hb)
                  have hs9 : (p.map (lsZ z)).sum + lossV (z.gs[av]?.getD []) = ((p ++ [av]).map (lsZ z)).sum := by rw [List.map_append, List.sum_append]; simp [lsZ]
                  rw [hs9] at hz5
                  obtain ⟨X9, hX9⟩ : ∃ X : Nat, X = 2128 := ⟨_, rfl⟩
                  have h8 := ls_lt HGD.out.2.2 HGL.out hX9 (p ++ [av]) (by rw [List.length_append, hpl]; simp; omega)
                  refine ⟨⟨by rw [k5 _ (by omega)]; exact kept SX HI.out.g.row, (NumC.later HI.out.g.num SX).cl hcl (fun b hb _ => k5 b hb)⟩, ⟨e5, hz5.tight (by omega) (X := X9) (by omega) h8⟩, owns_keep HI.out.l (fun b hb => ?_), b5⟩
                  have h7 := World.ownsRow.lt HI.out.l b hb
                  rw [k5 b (by omega)]
                  exact SX.block b h7.2
                have hLb : L.length ≤ 1048576 := by omega
                clear SX e5 b5 s5 k5 hz4 hz1 RK CK C3 CL
                have HO5 : Hid (V5.ownsRow (Bg + 1 + 1) 3 1 (.slice (some ⟨lg, 0, none⟩) L.length lcap) L.length (L.map (fun a : Nat => Value.int .i64 (a : Int)))) := HQ.out.2.2.1
                have hn1 : ∀ j u, ((L.map (fun a : Nat => Value.int .i64 (a : Int))).take 0)[j]? = some u → V5.drew.cell? ((⟨lg, 0, none⟩ : Addr).add j) = some u := news_take (World.ownsRow.drew HO5.out) 0
                have hl1 : ((L.map (fun a : Nat => Value.int .i64 (a : Int))).take 0).length = 0 * 1 := by rw [List.length_take, List.length_map]; omega
                have hl2 : ((L.map (fun a : Nat => Value.int .i64 (a : Int))).drop (0 + 1)).length = (L.length - (0 + 1)) * 1 := by rw [List.length_drop, List.length_map]; omega
                have hone1 : ∀ u ∈ (L.map (fun a : Nat => Value.int .i64 (a : Int))).take 0, u.oneCell' = true := fun u hu => ints_one L u (List.mem_of_mem_take hu)
                have hone2 : ∀ u ∈ (L.map (fun a : Nat => Value.int .i64 (a : Int))).drop (0 + 1), u.oneCell' = true := fun u hu => ints_one L u (List.mem_of_mem_drop hu)
                have hle1 : 0 + 0 ≤ 4000000 := by omega
                have hle2 : 0 + 0 + (L.length - (0 + 1)) ≤ 4000000 := by omega
                obtain ⟨ad2, had2, hrun2⟩ := tailIT lg L.length lcap (0 + 1) (by omega) (by omega)
                have hcp : 0 < lcap := by omega
                go_upto_region 24 with fail
                have bX : Below V5.heap.size V5 V5.drew := (Below.refl _ _).drew
                refine wp_region_noPanic ?_
                refine wp_region_held_drew (S := (fun V => Below V5.heap.size V5 V)) (by kernel_rfl) bX (fun _ => ?_)
                refine takeH 107 (i := 0) (v := ?_) rfl rfl (by kernel_rfl) (by kernel_rfl) (by kernel_rfl) (fun _ _ _ h => h) (Or.inl ⟨by kernel_rfl, ?_⟩) bX ?_
                rotate_left
                · intro w' hSw; go_simp; try with_reducible rfl
                try simp only [Act.put, List.setIfInBounds_toArray, List.set_cons_zero, List.set_cons_succ]
                refine takeH 108 (i := 1) (v := ?_) rfl rfl (by kernel_rfl) (by kernel_rfl) (by kernel_rfl) (fun _ _ _ h => h) (Or.inl ⟨by kernel_rfl, ?_⟩) bX ?_
                rotate_left
                · intro w' hSw; go_simp; try with_reducible rfl
                try simp only [Act.put, List.setIfInBounds_toArray, List.set_cons_zero, List.set_cons_succ]
                refine takeH 109 (i := 2) (v := .slice (some ⟨lg, 0, none⟩) 0 lcap) rfl rfl (by kernel_rfl) (by kernel_rfl) (by kernel_rfl) (fun _ _ _ h => h) (Or.inl ⟨by kernel_rfl, fun w' _ => ex_sliceT _ _ _ rfl _ _ _ _ _ (by kernel_rfl) (by kernel_rfl) w' (cutIT lg L.length lcap 0 (by omega) (by omega) w')⟩) bX ?_
                try simp only [Act.put, List.setIfInBounds_toArray, List.set_cons_zero, List.set_cons_succ]
                refine takeH 111 (i := 4) (v := ?_) rfl rfl (by kernel_rfl) (by kernel_rfl) (by kernel_rfl) (fun _ _ _ h => h) (Or.inl ⟨by kernel_rfl, ?_⟩) bX ?_
                rotate_left
                · intro w' hSw; go_simp; try with_reducible rfl
                try simp only [Act.put, List.setIfInBounds_toArray, List.set_cons_zero, List.set_cons_succ]
                refine takeH 112 (i := 5) (v := ?_) rfl rfl (by kernel_rfl) (by kernel_rfl) (by kernel_rfl) (fun _ _ _ h => h) (Or.inl ⟨by kernel_rfl, ?_⟩) bX ?_
                rotate_left
                · intro w' hSw; go_simp; try with_reducible rfl
                try simp only [Act.put, List.setIfInBounds_toArray, List.set_cons_zero, List.set_cons_succ]
                refine takeH 113 (i := 6) (v := .int .i64 ((0 + 1 : Nat) : Int)) rfl rfl (by kernel_rfl) (by kernel_rfl) (by kernel_rfl) (fun _ _ _ h => h) (Or.inl ⟨by kernel_rfl, ?_⟩) bX ?_
                · intro w' hSw; go_simp; try (rw [IntKind.wrap_i64]; omega)
                try simp only [Act.put, List.setIfInBounds_toArray, List.set_cons_zero, List.set_cons_succ]
                refine takeH 114 (i := 7) (v := .slice (some ad2) (L.length - (0 + 1)) (lcap - (0 + 1))) rfl rfl (by kernel_rfl) (by kernel_rfl) (by kernel_rfl) (fun _ _ _ h => h) (Or.inl ⟨by kernel_rfl, fun w' _ => ex_sliceL _ _ _ rfl _ _ _ _ _ (by kernel_rfl) (by kernel_rfl) w' (hrun2 w')⟩) bX ?_
                try simp only [Act.put, List.setIfInBounds_toArray, List.set_cons_zero, List.set_cons_succ]
                refine wpAnyH_ready (rs := [3]) (by kernel_rfl) (by simp) ?_
                refine consH _ rfl (hopL rfl (append_gsJ Tryz.underlying23 Tryz.infoIJ rfl (by decide) (by decide) V5.drew (by rfl) _ _ (by rfl) V5.heap.size _ 0 [] (by kernel_rfl) (World.ownsRow_nil _ _ _ _) ⟨lg, 0, none⟩ 0 lcap ((L.map (fun a : Nat => Value.int .i64 (a : Int))).take 0) (by kernel_rfl) hl1 hn1 hone1 hle1 (Nat.le_refl _) fun v6 V6 o6 g6 => ?_)) AllReadyH.nil
                have q6 : Below V5.heap.size V5 V6 := bX.trans (g6.below (fun k hk => by simp [Value.ownBlock] at hk) (Nat.le_refl _))
                refine (And.intro q6 ?_ : _ ∧ _)
                try simp only [Act.put, List.setIfInBounds_toArray, List.set_cons_zero, List.set_cons_succ]
                have hO6 := owns_keep HO5.out (fun k hk => q6.block k (World.ownsRow.lt HO5.out k hk).2)
                refine wpAnyH_ready (rs := [8]) (by kernel_rfl) (by simp) ?_
                refine consH _ rfl (hopL rfl (append_gsJ Tryz.underlying23 Tryz.infoIJ rfl (by decide) (by decide) V6 (by rfl) _ _ (by rfl) V5.heap.size v6 (0 + 0) ([] ++ (L.map (fun a : Nat => Value.int .i64 (a : Int))).take 0) (by kernel_rfl) o6 ad2 (L.length - (0 + 1)) (lcap - (0 + 1)) ((L.map (fun a : Nat => Value.int .i64 (a : Int))).drop (0 + 1)) (by kernel_rfl) hl2 (news_drop hO6 (0 + 1) ad2 had2) hone2 hle2 q6.size fun v7 V7 o7 g7 => ?_)) AllReadyH.nil
                have q7 : Below V5.heap.size V5 V7 := q6.trans (g7.below (fun k hk => (World.ownsRow.lt o6 k hk).1) q6.size)
                refine (And.intro q7 ?_ : _ ∧ _)
                try simp only [Act.put, List.setIfInBounds_toArray, List.set_cons_zero, List.set_cons_succ]
                refine takeH 12 (i := 9) (v := ?_) rfl rfl (by kernel_rfl) (by kernel_rfl) (by kernel_rfl) (fun _ _ _ h => h) (Or.inl ⟨by kernel_rfl, ?_⟩) q7 ?_
                rotate_left
                · intro w' hSw; go_simp; try with_reducible rfl
                try simp only [Act.put, List.setIfInBounds_toArray, List.set_cons_zero, List.set_cons_succ]
                refine wpAnyH_done (by kernel_rfl) ?_ _
                refine NoPanic.normal ?_
                try simp only [Act.put, List.setIfInBounds_toArray, List.set_cons_zero, List.set_cons_succ]
                have HK2 : Hid (LuS Bg w8 V7 z low 1074 (p ++ [av]) (L.take 0 ++ L.drop (0 + 1)) v7 n o l c e n4 o4 t4 p4 x4) := by
                  refine ⟨⟨kept q7 HQ.out.1.row, HQ.out.1.num.later q7⟩, ⟨kept q7 HQ.out.2.1.row, HQ.out.2.1.num.later q7⟩, ?_, to_call HQ.out.2.2.2 q7, perm_pick HI.out.pm hLj⟩
                  have h9 := owns_monoJ o7 (b := Bg + 1 + 1) (by have h8 := blk_lt HQ.out.2.1.row; have h7 := blk_lt hlg5; omega)
                  have e1 : (L.take 0 ++ L.drop (0 + 1)).length = 0 + 0 + (L.length - (0 + 1)) := by rw [List.length_append, List.length_take, List.length_drop]; omega
                  have e2 : ((L.take 0 ++ L.drop (0 + 1)).map (fun a : Nat => Value.int .i64 (a : Int))) = [] ++ (L.map (fun a : Nat => Value.int .i64 (a : Int))).take 0 ++ (L.map (fun a : Nat => Value.int .i64 (a : Int))).drop (0 + 1) := by rw [List.map_append, List.map_take, List.map_drop, List.nil_append]
                  rw [e1, e2]
                  exact h9
                clear o6 g6 q6 o7 g7 q7 hO6 HO5 HQ hn1 hl1 hl2 hone1 hone2 had2 hrun2 bX
                go_wp2_with fail
                go_roundg q
                case measure => omega
                case rel => exact ⟨i + 1, p ++ [av], L.take 0 ++ L.drop (0 + 1), by go_num, by have := HIG.out; omega, by rw [List.length_append, hpl]; rfl, n4, o4, t4, p4, x4, HK2⟩
            · have he1 : decide ((i : Int) < (z.dn : Int) - (low : Int)) = false := decide_eq_false (by omega)
              have ei : i = z.dn - low := by omega
              have hle : ((goneL (lsZ z) z.gn low z.dn).map (lsZ z)).sum ≤ (p.map (lsZ z)).sum := by
                have hnd : (p ++ L).Nodup := HI.out.pm.nodup_iff.2 List.nodup_range
                have h9 := plN_least (v := lsZ z) (n := z.gn) p (List.nodup_append.1 hnd).1 (fun a ha => by rw [← HDG.out]; exact List.mem_range.1 (HI.out.pm.mem_iff.1 (List.mem_append_left _ ha)))
                have h8 := goneL_sum (v := lsZ z) HLZ.out
                rw [HDG.out]
                rw [h8]
                rw [hpl, ei, HDG.out] at h9
                exact h9
              obtain ⟨x, hx⟩ : ∃ x, ((goneL (lsZ z) z.gn low z.dn).map (lsZ z)).sum = x := ⟨_, rfl⟩
              obtain ⟨y', hy⟩ : ∃ y', (p.map (lsZ z)).sum = y' := ⟨_, rfl⟩
              have HQ : Hid (BxN wr Bg 1074 1054 x n o l c e ∧ BxN wr (Bg + 1) 1074 1054 y' n' o' l' c' e' ∧ Below w8.heap.size w8 wr) := ⟨hx ▸ HI.out.g, hy ▸ HI.out.ob, HI.out.bel⟩
              rw [hx, hy] at hle
              have hsg : sgi (x - y') ≤ 0 := by
                unfold sgi; split
                · omega
                · split <;> omega
              obtain ⟨sg, hsg2⟩ : ∃ sg, sgi (x - y') = sg := ⟨_, rfl⟩
              have HC : Hid (∀ W, Below wr.heap.size wr W → Calls Tryz.prog 10 #[.agg #[.bool n, .slice o l c, .int .i64 e], .agg #[.bool n', .slice o' l' c', .int .i64 e']] W fun e9 w' => e9 = .returned (.int .i64 sg) ∧ Below W.heap.size W w') := by
                intro W hb
                refine (cmpZ_any _ _ 1074 1054 x y' W (HQ.out.1.num.later hb).toZ (HQ.out.2.1.num.later hb).toZ (by omega) (by omega)).mono ?_
                rintro e9 w9 ⟨rfl, b9⟩
                exact ⟨by rw [hsg2], b9⟩
              rw [hsg2] at hsg
              have hdd : decide (sg ≤ 0) = true := decide_eq_true hsg
              clear hx hy hsg2 hle HI ei hi
              go_wp2_with (first | (refine wpList_load_row (by rfl) 37 _ (by rfl) Bg _ (by rfl) HQ.out.1.row _ Tryz.underlying37 rfl 3 Tryz.infoN3 (by rfl) ?_) | (refine wpList_load_row (by rfl) 37 _ (by rfl) (Bg + 1) _ (by rfl) HQ.out.2.1.row _ Tryz.underlying37 rfl 3 Tryz.infoN3 (by rfl) ?_))
              refine Calls.mono (HC.out _ (Below.refl _ _)) ?_
              rintro e9 w9 ⟨rfl, b9⟩
              go_wp2_with fail
              go_ret
              exact ⟨rfl, to_call (to_call HZ8.out.2.2.2.2.2 HQ.out.2.2) b9⟩
end Go.Proofs.YtogdfdhdmfkmaaaGreat

namespace Go.Proofs.YtogdfdhdmfkmaaaGreat.trimLeastDone
open Go.ChangeShapes Go.WideShapes Go.ChangeAt Go.RowKit
set_option linter.unusedVariables false
set_option maxRecDepth 100000
theorem i64_bounds {n : Int} (h : (Lit.int .i64 n).wf = true) : -9223372036854775808 ≤ n ∧ n ≤ 9223372036854775807 := by
  have h2 : (decide ((-9223372036854775808 : Int) ≤ n) && decide (n ≤ 9223372036854775807)) = true := h
  simpa using h2
theorem own : ownKnob Tryz.prog.godebug = none := by kernel_rfl
theorem laidOut : laidOutB Tryz.prog = true := by kernel_rfl
theorem reads (os : Os) {H : Type} (enc : TypeId × Value → H) : ∃ places, DataW.whole enc Tryz.prog ((World.holding Tryz.prog os ⟨#[], #[], []⟩).forCall (fun _ _ => 0) ⟨#[], #[.agg #[.int .i64 0, .slice none 0 0, .slice none 0 0, .slice none 0 0, .slice none 0 0, .bool false], .int .i64 0, .slice none 0 0], []⟩).memory Tryz.f3.params.toList Rows.trimLeastSpec.vars false (#[.agg #[.int .i64 0, .slice none 0 0, .slice none 0 0, .slice none 0 0, .slice none 0 0, .bool false], .int .i64 0, .slice none 0 0] : Array Value).toList 8 = some ([.agg [.lit (.int .i64 0), .nil, .nil, .nil, .nil, .lit (.bool false)], .lit (.int .i64 0), .nil], [], places) :=
  ⟨[], by kernel_rfl⟩
theorem bounds {H : Type} {a0  a1  a2 : DataW H} (h : Rows.uptoSmall H [a0, a1, a2] = true) : Rows.uptoBulk a0 ≤ 1048576 ∧ Rows.uptoBulk a1 ≤ 1048576 ∧ Rows.uptoBulk a2 ≤ 1048576 := by
  have h2 : Rows.uptoBulkAll [a0, a1, a2] ≤ 1048576 := of_decide_eq_true h
  simp only [Rows.uptoBulkAll] at h2
  omega
theorem contract (H : Type) (enc : TypeId × Value → H) (W : World) (base : Nat) (args : Array Value) (ds gs : List (DataW H)) (before : List MemPlace)
    (hval : ∀ (j : Nat) t v, Tryz.f3.params[j]? = some t → args[j]? = some v → Value.okWide Tryz.prog W .any base t v)
    (hW : DataW.Whole enc Tryz.prog Tryz.f3.params.toList Rows.trimLeastSpec.vars false W args.toList ds gs before) (hk : Rows.uptoSmall H (ds ++ gs) = true) :
    Calls Tryz.prog 3 args W fun e W' => ∃ v, e = .returned v ∧ Rows.trimLeastSpec.post enc Tryz.prog Tryz.f3 false true false false W args v W' := by
  have hW' := hW
  obtain ⟨p, q, hA0, hV, rfl, hfz, hnd⟩ := hW
  have hA : DataW.TrodAll enc Tryz.prog W 0 (fun _ => true) true Tryz.f3.params.toList args.toList ds p := hA0
  rw [Tryz.params3] at hA hval
  obtain ⟨v0, vs0, d0, ds0, p0, q0, hargs, rfl, rfl, h0, r0⟩ := trodAll_cons hA
  obtain ⟨v1, vs1, d1, ds1, p1, q1, rfl, rfl, rfl, h1, r1⟩ := trodAll_cons r0
  obtain ⟨v2, vs2, d2, ds2, p2, q2, rfl, rfl, rfl, h2, r2⟩ := trodAll_cons r1
  obtain ⟨rfl, rfl, rfl⟩ := trodAll_nil r2
  obtain rfl : args = #[v0, v1, v2] := by cases args; simp_all
  obtain ⟨rfl, rfl⟩ := trodVars_none hV
  simp only [List.append_nil] at hk
  have hbd := bounds hk
  have k0 := h0
  have lt0 : ∀ x ∈ p0, x.block < W.heap.size := by obtain ⟨m, hm⟩ := k0; exact DataW.trod_lt m _ _ _ hm
  obtain ⟨z0, hv0, zr0, zw0, zd0⟩ := zono_openD (hval 0 26 v0 rfl rfl) h0 hbd.1
  subst hv0
  obtain ⟨a1, rfl, rfl, rfl, w1⟩ := open_int Tryz.underlying3 (hval 1 3 v1 rfl rfl) h1
  have bd1 := i64_bounds w1
  have k2 := h2
  have lt2 : ∀ x ∈ p2, x.block < W.heap.size := by obtain ⟨m, hm⟩ := k2; exact DataW.trod_lt m _ _ _ hm
  obtain ⟨b2, len2, cap2, rfl⟩ := okWide_slice Tryz.underlying23 (hval 2 23 v2 rfl rfl)
  obtain ⟨m2, hm2⟩ := h2
  obtain ⟨ao2, l2, c2, us2, e2, rd2, rn2, rl2, rb2⟩ := intsB_open Tryz.underlying23 Tryz.underlying3 (by kernel_rfl) hm2
  simp [Value.cells] at e2
  obtain ⟨rfl, rfl, rfl⟩ := e2
  dsimp only at rl2 rn2
  clear hA0
  refine (trimLeast_walk z0 W zr0 zw0 zd0 a1 bd1.1 bd1.2 _ _ _ _ rd2 rb2).mono fun e W' ⟨he, bel⟩ => ?_
  subst he
  exact ⟨_, rfl, _, _, _, [], _, [], hW', trodAll_mk1 (shut_bool Tryz.underlying4 _), (trodAll_cons_mk (Below.trod laidOut (by kernel_rfl) (of_decide_eq_true (by kernel_rfl)) k0 bel lt0) (trodAll_cons_mk (shut_int Tryz.underlying3 w1) (trodAll_cons_mk (Below.trod laidOut (by kernel_rfl) (of_decide_eq_true (by kernel_rfl)) k2 bel lt2) trodAll_mk0))), rfl, bel.frame _, fun h => by cases h⟩
theorem lifted (os : Os) (started : os.Started) (H : Type) (enc : TypeId × Value → H) (F : Stop.Interp) :
    ReturnsInHanded {} Tryz.checked os 3 .any ((Rows.OpenSpec.upto Rows.trimLeastSpec).preRow enc Tryz.prog Tryz.f3 Rows.trimLeastUptoRow.domain false Rows.trimLeastUptoRow.laid) (((Rows.OpenSpec.upto Rows.trimLeastSpec).at F).post enc Tryz.prog Tryz.f3 false true false false) := by
  obtain ⟨places, hx⟩ := reads os enc
  refine returnsInHanded_of_row (C := Tryz.checked) (s := Rows.OpenSpec.upto Rows.trimLeastSpec) own started (by kernel_rfl) Tryz.func3
    (witness_row_at (enc := enc) (C := Tryz.checked) false (World.holding Tryz.prog os ⟨#[], #[], []⟩) #[.agg #[.int .i64 0, .slice none 0 0, .slice none 0 0, .slice none 0 0, .slice none 0 0, .bool false], .int .i64 0, .slice none 0 0] rfl (by kernel_rfl) (by kernel_rfl) (by kernel_rfl)
      (OpenSpec.preRow_of_cond 8 hx (by kernel_rfl) (fun k hk => by cases hk; kernel_rfl) (by kernel_rfl) (laidMet_of_run' 8 (by kernel_rfl) (by kernel_rfl)))) ?_
  intro W base args ds gs before hval hW x1 x2 x3 hL x5 x6
  exact contract H enc W base args ds gs before hval hW (by first | exact x1 _ rfl | exact x2 _ rfl | exact x3 _ rfl | exact x5 _ rfl | exact x6 _ rfl)
theorem said : Rows.TrimLeastUptoSaid :=
  OpenClaim.holds_of_cond 3 Tryz.f3 rfl rfl rfl rfl rfl rfl rfl ⟨rfl, rfl, rfl, rfl, rfl⟩ rfl rfl rfl rfl rfl (by kernel_rfl) Tryz.func3 (by kernel_rfl)
    (of_decide_eq_true (by kernel_rfl)) (by unfold Func.isWrapper; first | (rw [if_pos (by decide +kernel)]; kernel_rfl) | (rw [if_neg (by decide +kernel)]; exact ⟨rfl, rfl⟩))
    (fun os started H enc _ F => by rw [OpenClaim.pre_eq_preRow]; exact lifted os started H enc F)
end Go.Proofs.YtogdfdhdmfkmaaaGreat.trimLeastDone
namespace Go.Proofs.YtogdfdhdmfkmaaaGreat
theorem trimLeast_holds : Rows.TrimLeastUptoSaid := trimLeastDone.said
#print axioms trimLeast_holds
end Go.Proofs.YtogdfdhdmfkmaaaGreat
