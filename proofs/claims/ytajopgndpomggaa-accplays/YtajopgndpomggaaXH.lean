import Derived.Test.YtajopgndpomggaaXC
namespace Go.Proofs.Ytajopgndpomggaa
open Go.RowKit
set_option linter.unusedVariables false

theorem NumC.set3 {w : World} {B : Nat} (x y z : Value) (hB : NumB w B) {v : Value} {s : Nat} {T r : Int} (h : NumC w v s T r) : NumC (((w.setCell ⟨B, 0, none⟩ x).setCell ⟨B, 1, none⟩ y).setCell ⟨B, 2, none⟩ z) v s T r := by
  obtain ⟨neg, m, e, ⟨ao, len, cap, xs, h1, h2, h3⟩, h4⟩ := h
  exact ⟨neg, m, e, ⟨ao, len, cap, xs, h1, rd4_set3 x y z hB h2, h3⟩, h4⟩
theorem turnedC_any (v : Value) (s : Nat) (T x : Int) (w : World) (hx : NumC w v s T x) :
    Calls Try.prog 76 #[v] w fun e' w' => ∃ v', e' = .returned v' ∧ NumC w' v' s T (-x) ∧ Below w.heap.size w w' := by
  obtain ⟨nx, mx, ex, h1, h2, h3, h4, h5⟩ := hx
  refine (turned_any v nx mx ex w h1).mono ?_
  rintro e' w' ⟨v', rfl, hN, hB⟩
  refine ⟨v', rfl, ⟨_, mx, ex, hN, h2, h3, ?_, h5⟩, hB⟩
  by_cases h0 : mx = 0
  · rw [← h4, h0, zv_zero, zv_zero]; rfl
  · rw [if_neg h0, zv_not, h4]
set_option maxRecDepth 100000 in
theorem minusC_any (v u : Value) (s : Nat) (T x y : Int) (w : World) (hx : NumC w v s T x) (hy : NumC w u s T y) (hs : s ≤ 20000) (hT : 0 ≤ T ∧ T ≤ 20000) :
    Calls Try.prog 49 #[v, u] w fun e' w' => ∃ v', e' = .returned v' ∧ NumC w' v' s (T + 1) (x - y) ∧ Below w.heap.size w w' := by
  have HX : Hid (NumC w v s T x) := hx
  have HY : Hid (NumC w u s T y) := hy
  obtain ⟨nx, mx, ex, ⟨ao, len, cap, xs, rfl, -⟩, -⟩ := hx
  obtain ⟨ny, my, ey, ⟨bo, blen, bcap, ys, rfl, -⟩, -⟩ := hy
  obtain ⟨p0, p1, p2, pz, pb⟩ := alloc3_facts w (Obj.cells #[Value.bool nx, Value.slice ao len cap, Value.int IntKind.i64 ex] 27) (Obj.cells #[Value.bool ny, Value.slice bo blen bcap, Value.int IntKind.i64 ey] 27) (Obj.cells #[Value.bool false, Value.slice none 0 0, Value.int IntKind.i64 0] 27)
  have PZ : Hid _ := pz
  have PB : Hid _ := pb
  go_enter Try.func49, Try.ntmps49
  go_wp2_with fail
  generalize (((w.alloc (Obj.cells #[Value.bool nx, Value.slice ao len cap, Value.int IntKind.i64 ex] 27)).alloc (Obj.cells #[Value.bool ny, Value.slice bo blen bcap, Value.int IntKind.i64 ey] 27)).alloc (Obj.cells #[Value.bool false, Value.slice none 0 0, Value.int IntKind.i64 0] 27)) = wa at *
  have HY2 : Hid (NumC wa.drew _ s T y) := NumC.later HY.out PB.out.drew
  have P2 : Hid _ := p2
  obtain ⟨x0, x1, x2⟩ := three_cells p0
  obtain ⟨y0, y1, y2⟩ := three_cells p1
  have P0 : Hid _ := p0
  have P1 : Hid _ := p1
  clear p0 p1 p2 pz pb
  have hne1 : ¬ (w.heap.size + 1 + 1 = w.heap.size) := by omega
  have hne2 : ¬ (w.heap.size = w.heap.size + 1 + 1) := by omega
  go_region_held3 (fun w' => w'.cell? ⟨w.heap.size, 0, none⟩ = some (.bool nx) ∧ w'.cell? ⟨w.heap.size, 1, none⟩ = some (.slice ao len cap) ∧ w'.cell? ⟨w.heap.size, 2, none⟩ = some (.int .i64 ex) ∧ w'.cell? ⟨w.heap.size + 1, 0, none⟩ = some (.bool ny) ∧ w'.cell? ⟨w.heap.size + 1, 1, none⟩ = some (.slice bo blen bcap) ∧ w'.cell? ⟨w.heap.size + 1, 2, none⟩ = some (.int .i64 ey)) (go_keep)
    (first
      | (go_at_call 76; refine (turnedC_any _ s T y _ HY2.out).mono ?_; rintro ee ww ⟨v1, rfl, hz1, hb1⟩; have b0 := (hb1.block w.heap.size (by show w.heap.size < wa.heap.size; rw [PZ.out]; omega)).trans P0.out; have b1 := (hb1.block (w.heap.size + 1) (by show w.heap.size + 1 < wa.heap.size; rw [PZ.out]; omega)).trans P1.out; have b2 := (hb1.block (w.heap.size + 1 + 1) (by show w.heap.size + 1 + 1 < wa.heap.size; rw [PZ.out]; omega)).trans P2.out; obtain ⟨a0, a1, a2⟩ := three_cells b0; obtain ⟨a3, a4, a5⟩ := three_cells b1; have HBB : Hid (Below w.heap.size w ww) := PB.out.drew.trans (hb1.mono (by show w.heap.size ≤ wa.heap.size; rw [PZ.out]; omega)); have HSZ : Hid (w.heap.size + 3 ≤ ww.heap.size) := Nat.le_trans (Nat.le_of_eq PZ.out.symm) hb1.size; have HZ1 : Hid (NumC ww v1 s T (-y)) := hz1; have B0 : Hid _ := b0; have B1 : Hid _ := b1; have B2 : Hid _ := b2; clear hz1 hb1 b0 b1 b2)
      | (go_at_call 43; refine (plusC_any _ _ s T x (-y) _ (NumC.later HX.out HBB.out) HZ1.out hs hT).mono ?_; rintro ee ww2 ⟨v2, rfl, hz2, hb2⟩; have d0 := (hb2.block w.heap.size (by have := HSZ.out; omega)).trans B0.out; have d1 := (hb2.block (w.heap.size + 1) (by have := HSZ.out; omega)).trans B1.out; obtain ⟨i0, i1, i2⟩ := three_cells d0; obtain ⟨i3, i4, i5⟩ := three_cells d1; have d2 := (hb2.block (w.heap.size + 1 + 1) (by have := HSZ.out; omega)).trans B2.out; have HB3 : Hid (Below w.heap.size w ww2) := HBB.out.trans (hb2.mono HBB.out.size); obtain ⟨c0, c1, c2⟩ := three_cells d2; have fc := (fun j => frozen_of_row _ _ j _ _ d2); have D2 : Hid _ := d2; have HZ2 : Hid (NumC ww2 v2 s (T + 1) (x + -y)) := hz2; obtain ⟨n3, m3, e3, ⟨a3, l3, c3, xs3, rfl, -⟩, -⟩ := hz2; clear hb2 d0 d1 d2))
  all_goals go_wp2_with fail
  all_goals
    refine bodyPost_ret (v := .agg #[.bool n3, .slice a3 l3 c3, .int .i64 e3]) (res_num _ 4 (by kernel_rfl) _ _ (w.heap.size + 1 + 1) _ _ _ (by rfl) (set3_heap _ _ _ D2.out)) rfl ⟨_, rfl, ?_, ?_⟩
    · rw [show x - y = x + -y by omega]; exact NumC.set3 _ _ _ ⟨_, _, _, _, _, D2.out⟩ HZ2.out
    · exact below_set3 _ _ _ HB3.out (by omega)
set_option maxRecDepth 100000 in
theorem sizeR_any (nb : Bool) (ao : Option Addr) (len cap : Nat) (e : Int) (w : World) :
    Calls Try.prog 12 #[.agg #[.bool nb, .slice ao len cap, .int .i64 e]] w fun e' w' => e' = .returned (.agg #[.bool false, .slice ao len cap, .int .i64 e]) ∧ Below w.heap.size w w' := by
  have hbel : ∀ c1 c2 : Obj, Below w.heap.size w ((w.alloc c1).alloc c2) := fun c1 c2 => ((Below.refl _ _).alloc (Nat.le_refl _) _).alloc (by simp) _
  have HB : Hid _ := hbel
  clear hbel
  go_enter Try.func12, Try.ntmps12
  go_wp2_with fail
  exact bodyPost_ret (v := .agg #[.bool false, .slice ao len cap, .int .i64 e]) (res_num _ 2 (by kernel_rfl) _ _ (w.heap.size + 1) _ _ _ (by rfl) (by have := heap_alloc_new (w.alloc (Obj.cells #[Value.bool false, Value.slice ao len cap, Value.int IntKind.i64 e] 27)) (Obj.cells #[Value.bool false, Value.slice ao len cap, Value.int IntKind.i64 e] 27); simpa using this)) rfl ⟨rfl, HB.out _ _⟩
theorem NumC.size {w : World} {nb : Bool} {ao : Option Addr} {len cap : Nat} {e : Int} {s : Nat} {T z : Int} (h : NumC w (.agg #[.bool nb, .slice ao len cap, .int .i64 e]) s T z) : NumC w (.agg #[.bool false, .slice ao len cap, .int .i64 e]) s T (z.natAbs : Int) := by
  obtain ⟨neg, m, e', ⟨a, l, c, xs, h1, h2, h3, h4⟩, h5, h6, h7, h8⟩ := h
  cases h1
  refine ⟨false, m, e, ⟨ao, len, cap, xs, rfl, h2, h3, h4⟩, h5, h6, ?_, h8⟩
  rw [← h7, zv_abs]; unfold zv sv
  simp only [Bool.false_eq_true, if_false]
  rw [Int.natCast_mul]
theorem NumC.bnd {w : World} {v : Value} {s : Nat} {T z : Int} (h : NumC w v s T z) : ∃ neg m e, NumV w v neg m e ∧ -(s : Int) ≤ e ∧ (bl m : Int) + e ≤ T ∧ zv s neg m e = z := by
  obtain ⟨neg, m, e, h1, h2, h3, h4, _⟩ := h
  exact ⟨neg, m, e, h1, h2, h3, h4⟩
set_option maxRecDepth 100000 in
set_option maxHeartbeats 1000000 in
theorem refSign3_any (v : Value) (o : Option Int) (w : World) (h : RefO w v o) :
    Calls Try.prog 38 #[v] w fun e' w' => e' = .returned (.int .i64 (signO o)) ∧ Below w.heap.size w w' := by
  obtain ⟨nb, ao, l, c, e, rfl, hz⟩ := h
  have HZ : Hid (∀ z, o = some z → NumC w (.agg #[.bool nb, .slice ao l c, .int .i64 e]) 2240 2560 z) := hz
  have B1 : Hid (Below w.heap.size w (w.alloc (.cells #[.bool nb, .slice ao l c, .int .i64 e, .bool o.isNone] 29))) := (Below.refl _ w).alloc (Nat.le_refl _) _
  clear hz
  cases o with
  | none =>
    go_enter Try.func38, Try.ntmps38
    go_wp2_with fail
    go_ret
    exact ⟨rfl, B1.out⟩
  | some z =>
    have HC : Hid (NumZ (w.alloc (.cells #[.bool nb, .slice ao l c, .int .i64 e, .bool false] 29)) (.agg #[.bool nb, .slice ao l c, .int .i64 e]) 2240 2560 z) := NumZ.later (NumC.toZ (HZ.out z rfl)) B1.out
    go_enter Try.func38, Try.ntmps38
    go_wp2_with fail
    refine (signZ_any _ 2240 2560 z _ HC.out).mono ?_
    rintro e8 w8 ⟨rfl, b8⟩
    have B8 : Hid (Below w.heap.size w w8) := B1.out.trans (b8.mono B1.out.size)
    clear b8
    go_wp2_with fail
    go_ret
    exact ⟨rfl, B8.out⟩
def cmpI (o p : Option Int) : Int := match o, p with | some x, some y => sgi (x - y) | _, _ => 0
def cmpB (o p : Option Int) : Bool := match o, p with | some _, some _ => true | _, _ => false
set_option maxRecDepth 100000 in
set_option maxHeartbeats 1000000 in
theorem refCmp3_any (v u : Value) (o p : Option Int) (w : World) (h : RefO w v o) (k : RefO w u p) :
    Calls Try.prog 36 #[v, u] w fun e' w' => e' = .returned (.tuple #[.int .i64 (cmpI o p), .bool (cmpB o p)]) ∧ Below w.heap.size w w' := by
  obtain ⟨nb, ao, l, c, e, rfl, hz⟩ := h
  obtain ⟨nb', ao', l', c', e', rfl, hz'⟩ := k
  have HZ : Hid (∀ z, o = some z → NumC w (.agg #[.bool nb, .slice ao l c, .int .i64 e]) 2240 2560 z) := hz
  have HZ' : Hid (∀ z, p = some z → NumC w (.agg #[.bool nb', .slice ao' l' c', .int .i64 e']) 2240 2560 z) := hz'
  obtain ⟨-, -, a3, a4⟩ := alloc2_facts w (.cells #[.bool nb, .slice ao l c, .int .i64 e, .bool o.isNone] 29) (.cells #[.bool nb', .slice ao' l' c', .int .i64 e', .bool p.isNone] 29)
  have B1 : Hid _ := a4
  have A3 : Hid _ := a3
  clear hz hz' a3 a4
  cases o with
  | none =>
    go_enter Try.func36, Try.ntmps36
    go_wp2_with fail
    go_ret2
    exact ⟨rfl, B1.out⟩
  | some z =>
    cases p with
    | none =>
      go_enter Try.func36, Try.ntmps36
      go_wp2_with fail
      go_ret2
      exact ⟨rfl, B1.out⟩
    | some y =>
      have HC : Hid (NumZ _ (.agg #[.bool nb, .slice ao l c, .int .i64 e]) 2240 2560 z) := NumZ.later (NumC.toZ (HZ.out z rfl)) B1.out
      have HC' : Hid (NumZ _ (.agg #[.bool nb', .slice ao' l' c', .int .i64 e']) 2240 2560 y) := NumZ.later (NumC.toZ (HZ'.out y rfl)) B1.out
      go_enter Try.func36, Try.ntmps36
      go_wp2_with fail
      refine (cmpZ_any _ _ 2240 2560 z y _ HC.out HC'.out (by omega) (by omega)).mono ?_
      rintro e8 w8 ⟨rfl, b8⟩
      have B8 : Hid (Below w.heap.size w w8) := B1.out.trans (b8.mono B1.out.size)
      clear b8
      go_wp2_with fail
      go_ret2
      exact ⟨rfl, B8.out⟩
set_option maxRecDepth 100000 in
set_option maxHeartbeats 1000000 in
theorem refAbs3_any (v : Value) (o : Option Int) (w : World) (h : RefO w v o) :
    Calls Try.prog 31 #[v] w fun e' w' => ∃ v', e' = .returned v' ∧ RefO w' v' (absO o) ∧ Below w.heap.size w w' := by
  obtain ⟨nb, ao, l, c, e, rfl, hz⟩ := h
  have HZ : Hid (∀ z, o = some z → NumC w (.agg #[.bool nb, .slice ao l c, .int .i64 e]) 2240 2560 z) := hz
  obtain ⟨a1, a2, a3, a4⟩ := alloc2_facts w (.cells #[.bool nb, .slice ao l c, .int .i64 e, .bool o.isNone] 29) (.cells #[.bool false, .slice none 0 0, .int .i64 0, .bool false] 29)
  clear hz
  go_enter Try.func31, Try.ntmps31
  go_wp2_with fail
  generalize (w.alloc (.cells #[.bool nb, .slice ao l c, .int .i64 e, .bool o.isNone] 29)).alloc (.cells #[.bool false, .slice none 0 0, .int .i64 0, .bool false] 29) = w1 at a1 a2 a3 a4 ⊢
  have A1 : Hid _ := a1
  have A2 : Hid _ := a2
  have A3 : Hid _ := a3
  have B1 : Hid (Below w.heap.size w w1) := a4
  clear a1 a2 a3 a4
  refine (sizeR_any nb ao l c e _).mono ?_
  rintro e8 w8 ⟨rfl, b8⟩
  have R8 : Hid (w8.heap[w.heap.size + 1]? = _) := (b8.block (w.heap.size + 1) (by have := A3.out; omega)).trans A2.out
  have Q8 : Hid (w8.heap[w.heap.size]? = _) := (b8.block (w.heap.size) (by have := A3.out; omega)).trans A1.out
  have B8 : Hid (Below w.heap.size w w8) := B1.out.trans (b8.mono B1.out.size)
  obtain ⟨q0, q1, q2, q3⟩ := four_cells Q8.out
  have qf := fun j => frozen_of_row _ _ j _ _ Q8.out
  clear b8
  go_upto_region 2 with fail
  have s1 := heap_setCell_same w8 w.heap.size 0 _ _ (.bool false) Q8.out
  have s2 := heap_setCell_same _ w.heap.size 1 _ _ (.slice ao l c) s1
  have s3 := heap_setCell_same _ w.heap.size 2 _ _ (.int .i64 e) s2
  have B9 : Hid (Below w.heap.size w (((w8.setCell ⟨w.heap.size, 0, none⟩ (.bool false)).setCell ⟨w.heap.size, 1, none⟩ (.slice ao l c)).setCell ⟨w.heap.size, 2, none⟩ (.int .i64 e))) := below_set3 _ _ _ B8.out (Nat.le_refl _)
  have hne : w.heap.size + 1 ≠ w.heap.size := by omega
  have R9 : Hid ((((w8.setCell ⟨w.heap.size, 0, none⟩ (.bool false)).setCell ⟨w.heap.size, 1, none⟩ (.slice ao l c)).setCell ⟨w.heap.size, 2, none⟩ (.int .i64 e)).heap[w.heap.size + 1]? = _) := (by rw [heap_setCell_other _ _ _ _ hne, heap_setCell_other _ _ _ _ hne, heap_setCell_other _ _ _ _ hne]; exact R8.out)
  have Q9 : Hid _ := s3
  clear q0 q1 q2 q3 qf s1 s2 s3
  generalize (((w8.setCell ⟨w.heap.size, 0, none⟩ (.bool false)).setCell ⟨w.heap.size, 1, none⟩ (.slice ao l c)).setCell ⟨w.heap.size, 2, none⟩ (.int .i64 e)) = w9 at *
  obtain ⟨q0, q1, q2, q3⟩ := four_cells Q9.out
  obtain ⟨r0, r1, r2, r3⟩ := four_cells R9.out
  have rf := fun j => frozen_of_row _ _ j _ _ R9.out
  go_wp2_with fail
  refine bodyPost_ret (v := .agg #[.bool false, .slice ao l c, .int .i64 e, .bool o.isNone]) (res_acc4 _ 2 (by kernel_rfl) _ _ (w.heap.size + 1) _ _ _ _ (by rfl) (set4_heap _ _ _ _ R9.out)) rfl ⟨_, rfl, ?_, below_set4 _ _ _ _ B9.out (by omega)⟩
  refine ⟨false, ao, l, c, e, ?_, fun y hy => ?_⟩
  · cases o <;> rfl
  · cases o with
    | none => cases hy
    | some z =>
      cases hy
      exact NumC.size (NumC.later (HZ.out z rfl) (below_set4 _ _ _ _ B9.out (by omega)))
set_option maxRecDepth 100000 in
set_option maxHeartbeats 1000000 in
theorem refJoin3_any (v u : Value) (o p : Option Int) (neg : Bool) (w : World) (h : RefO w v o) (k : RefO w u p) :
    Calls Try.prog 30 #[v, u, .bool neg] w fun e' w' => ∃ v', e' = .returned v' ∧ RefO w' v' (joinO o p neg) ∧ Below w.heap.size w w' := by
  obtain ⟨nb, ao, l, c, e, rfl, hz⟩ := h
  obtain ⟨nb', ao', l', c', e', rfl, hz'⟩ := k
  have HZ : Hid (∀ z, o = some z → NumC w (.agg #[.bool nb, .slice ao l c, .int .i64 e]) 2240 2560 z) := hz
  have HZ' : Hid (∀ z, p = some z → NumC w (.agg #[.bool nb', .slice ao' l' c', .int .i64 e']) 2240 2560 z) := hz'
  obtain ⟨p0, p1, p2, pz, pb⟩ := alloc3_facts w (.cells #[.bool nb, .slice ao l c, .int .i64 e, .bool o.isNone] 29) (.cells #[.bool nb', .slice ao' l' c', .int .i64 e', .bool p.isNone] 29) (.cells #[.bool false, .slice none 0 0, .int .i64 0, .bool false] 29)
  clear hz hz'
  go_enter Try.func30, Try.ntmps30
  go_upto_region 1 with fail
  generalize (((w.alloc (.cells #[.bool nb, .slice ao l c, .int .i64 e, .bool o.isNone] 29)).alloc (.cells #[.bool nb', .slice ao' l' c', .int .i64 e', .bool p.isNone] 29)).alloc (.cells #[.bool false, .slice none 0 0, .int .i64 0, .bool false] 29)) = w1 at p0 p1 p2 pz pb ⊢
  have P2 : Hid _ := p2
  have PZ : Hid _ := pz
  have B1 : Hid (Below w.heap.size w w1) := pb
  obtain ⟨x0, x1, x2, x3⟩ := four_cells p0
  obtain ⟨y0, y1, y2, y3⟩ := four_cells p1
  clear p0 p1 pz pb
  by_cases hb : o = none ∨ p = none
  · have HJ : Hid (joinO o p neg = none) := by
      rcases hb with rfl | rfl
      · rfl
      · cases o <;> rfl
    obtain ⟨d0, d1, d2, d3⟩ := four_cells p2
    have fd := fun j => frozen_of_row _ _ j _ _ P2.out
    have hbb : o.isNone = true ∨ (o.isNone = false ∧ p.isNone = true) := by
      cases o with
      | none => exact .inl rfl
      | some z =>
        rcases hb with h | h
        · cases h
        · rw [h]; exact .inr ⟨rfl, rfl⟩
    clear hb p2
    rcases hbb with h1 | ⟨h1, h2⟩
    · rw [h1] at x3
      go_wp2_with fail
      refine bodyPost_ret (v := .agg #[.bool false, .slice none 0 0, .int .i64 0, .bool true]) (res_acc4 _ 6 (by kernel_rfl) _ _ (w.heap.size + 1 + 1) _ _ _ _ (by rfl) (set4_heap _ _ _ _ P2.out)) rfl ⟨_, rfl, ?_, below_set4 _ _ _ _ B1.out (by omega)⟩
      rw [HJ.out]
      exact ⟨_, _, _, _, _, rfl, fun y hy => by cases hy⟩
    · rw [h1] at x3
      rw [h2] at y3
      go_wp2_with fail
      refine bodyPost_ret (v := .agg #[.bool false, .slice none 0 0, .int .i64 0, .bool true]) (res_acc4 _ 6 (by kernel_rfl) _ _ (w.heap.size + 1 + 1) _ _ _ _ (by rfl) (set4_heap _ _ _ _ P2.out)) rfl ⟨_, rfl, ?_, below_set4 _ _ _ _ B1.out (by omega)⟩
      rw [HJ.out]
      exact ⟨_, _, _, _, _, rfl, fun y hy => by cases hy⟩
  · cases o with
    | none => exact absurd (.inl rfl) hb
    | some x =>
      cases p with
      | none => exact absurd (.inr rfl) hb
      | some y =>
        clear hb p2
        have HC : Hid (NumC w1 (.agg #[.bool nb, .slice ao l c, .int .i64 e]) 2240 2560 x) := NumC.later (HZ.out x rfl) B1.out
        have HC' : Hid (NumC w1 (.agg #[.bool nb', .slice ao' l' c', .int .i64 e']) 2240 2560 y) := NumC.later (HZ'.out y rfl) B1.out
        simp only [Option.isNone_some] at x3 y3
        cases neg with
        | true =>
          go_wp2_with fail
          refine (minusC_any _ _ 2240 2560 x y _ HC.out HC'.out (by omega) (by omega)).mono ?_
          rintro e7 w7 ⟨v7, rfl, hz7, b7⟩
          have B7 : Hid (Below w.heap.size w w7) := B1.out.trans (b7.mono B1.out.size)
          have R7 : Hid (w7.heap[w.heap.size + 1 + 1]? = _) := (b7.block (w.heap.size + 1 + 1) (by have := PZ.out; omega)).trans P2.out
          have S7 : Hid (w.heap.size + 3 ≤ w7.heap.size) := Nat.le_trans (Nat.le_of_eq PZ.out.symm) b7.size
          have Z7 : Hid _ := hz7
          clear b7 hz7 x0 x1 x2 x3 y0 y1 y2 y3
          go_wp2_with fail
          refine (held3_any _ (x - y) _ Z7.out).mono ?_
          rintro e8 w8 ⟨v8, rfl, ⟨nb8, ao8, l8, c8, e9, rfl, hz8⟩, b8⟩
          have R8 : Hid (w8.heap[w.heap.size + 1 + 1]? = _) := (b8.block (w.heap.size + 1 + 1) (by have := S7.out; omega)).trans R7.out
          have Z8 : Hid (∀ q, holdZ (x - y) = some q → NumC w8 (.agg #[.bool nb8, .slice ao8 l8 c8, .int .i64 e9]) 2240 2560 q) := hz8
          have B8 : Hid (Below w.heap.size w w8) := B7.out.trans (b8.mono B7.out.size)
          obtain ⟨r0, r1, r2, r3⟩ := four_cells R8.out
          have rf := fun j => frozen_of_row _ _ j _ _ R8.out
          clear hz8 b8
          go_wp2_with fail
          refine bodyPost_ret (v := .agg #[.bool nb8, .slice ao8 l8 c8, .int .i64 e9, .bool (holdZ (x - y)).isNone]) (res_acc4 _ 6 (by kernel_rfl) _ _ (w.heap.size + 1 + 1) _ _ _ _ (by rfl) (set4_heap _ _ _ _ R8.out)) rfl ⟨_, rfl, ?_, below_set4 _ _ _ _ B8.out (by omega)⟩
          show RefO _ _ (holdZ (x + -y))
          rw [show x + -y = x - y by omega]
          exact ⟨nb8, ao8, l8, c8, e9, rfl, fun q hq => NumC.keep (acc4_not R8.out) (heap_set4 _ _ _ _) (Z8.out q hq)⟩
        | false =>
          go_wp2_with fail
          refine (plusC_any _ _ 2240 2560 x y _ HC.out HC'.out (by omega) (by omega)).mono ?_
          rintro e7 w7 ⟨v7, rfl, hz7, b7⟩
          have B7 : Hid (Below w.heap.size w w7) := B1.out.trans (b7.mono B1.out.size)
          have R7 : Hid (w7.heap[w.heap.size + 1 + 1]? = _) := (b7.block (w.heap.size + 1 + 1) (by have := PZ.out; omega)).trans P2.out
          have S7 : Hid (w.heap.size + 3 ≤ w7.heap.size) := Nat.le_trans (Nat.le_of_eq PZ.out.symm) b7.size
          have Z7 : Hid _ := hz7
          clear b7 hz7 x0 x1 x2 x3 y0 y1 y2 y3
          go_wp2_with fail
          refine (held3_any _ (x + y) _ Z7.out).mono ?_
          rintro e8 w8 ⟨v8, rfl, ⟨nb8, ao8, l8, c8, e9, rfl, hz8⟩, b8⟩
          have R8 : Hid (w8.heap[w.heap.size + 1 + 1]? = _) := (b8.block (w.heap.size + 1 + 1) (by have := S7.out; omega)).trans R7.out
          have Z8 : Hid (∀ q, holdZ (x + y) = some q → NumC w8 (.agg #[.bool nb8, .slice ao8 l8 c8, .int .i64 e9]) 2240 2560 q) := hz8
          have B8 : Hid (Below w.heap.size w w8) := B7.out.trans (b8.mono B7.out.size)
          obtain ⟨r0, r1, r2, r3⟩ := four_cells R8.out
          have rf := fun j => frozen_of_row _ _ j _ _ R8.out
          clear hz8 b8
          go_wp2_with fail
          refine bodyPost_ret (v := .agg #[.bool nb8, .slice ao8 l8 c8, .int .i64 e9, .bool (holdZ (x + y)).isNone]) (res_acc4 _ 6 (by kernel_rfl) _ _ (w.heap.size + 1 + 1) _ _ _ _ (by rfl) (set4_heap _ _ _ _ R8.out)) rfl ⟨_, rfl, ?_, below_set4 _ _ _ _ B8.out (by omega)⟩
          show RefO _ _ (holdZ (x + y))
          exact ⟨nb8, ao8, l8, c8, e9, rfl, fun q hq => NumC.keep (acc4_not R8.out) (heap_set4 _ _ _ _) (Z8.out q hq)⟩
end Go.Proofs.Ytajopgndpomggaa
