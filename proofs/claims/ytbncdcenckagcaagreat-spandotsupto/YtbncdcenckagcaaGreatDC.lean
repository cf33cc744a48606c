import Derived.Test.YtbncdcenckagcaaGreatDA
import Derived.Test.YtbncdcenckagcaaGreatMV
import Derived.Test.YtbncdcenckagcaaGreatMZ
namespace Go.Proofs.YtbncdcenckagcaaGreat
open Go.RowKit
set_option linter.unusedVariables false

/-- A number whose nought has no power. -/
def NumC (w : World) (v : Value) (s : Nat) (T : Int) (z : Int) : Prop := ∃ neg m e, NumV w v neg m e ∧ -(s : Int) ≤ e ∧ (bl m : Int) + e ≤ T ∧ zv s neg m e = z ∧ (m = 0 → e = 0)
theorem NumC.later {w w' : World} {v : Value} {s : Nat} {T z : Int} (h : NumC w v s T z) (hb : Below w.heap.size w w') : NumC w' v s T z := by
  obtain ⟨neg, m, e, h1, h2⟩ := h
  exact ⟨neg, m, e, h1.later hb, h2⟩
theorem NumC.toZ {w : World} {v : Value} {s : Nat} {T z : Int} (h : NumC w v s T z) : NumZ w v s T z := by
  obtain ⟨neg, m, e, h1, h2, h3, h4, _⟩ := h
  exact ⟨neg, m, e, h1, h2, h3, h4⟩
theorem NumC.mono {w : World} {v : Value} {s : Nat} {T T' z : Int} (h : NumC w v s T z) (hT : T ≤ T') : NumC w v s T' z := by
  obtain ⟨neg, m, e, h1, h2, h3, h4⟩ := h
  exact ⟨neg, m, e, h1, h2, by omega, h4⟩
theorem plusC_any (v u : Value) (s : Nat) (T x y : Int) (w : World) (hx : NumC w v s T x) (hy : NumC w u s T y) (hs : s ≤ 20000) (hT : 0 ≤ T ∧ T ≤ 20000) :
    Calls Tryz.prog 16 #[v, u] w fun e' w' => ∃ v', e' = .returned v' ∧ NumC w' v' s (T + 1) (x + y) ∧ Below w.heap.size w w' := by
  obtain ⟨nx, mx, ex, h1, h2, h3, h4, h5⟩ := hx
  obtain ⟨ny, my, ey, k1, k2, k3, k4, k5⟩ := hy
  refine (plusV_any v u nx ny mx my ex ey w h1 k1 (by omega) (by omega) (by omega) (by omega)).mono ?_
  rintro e' w' ⟨v', neg, m, e, rfl, hN, hP, hB⟩
  obtain ⟨p1, p2, p3⟩ := hP.1 s T h2 k2 h3 k3 hT.1
  exact ⟨v', rfl, ⟨neg, m, e, hN, p1, p2, by rw [p3, h4, k4], fun c => hP.2 c h5 k5⟩, hB⟩
theorem timesC_any (v u : Value) (s : Nat) (T T' x y : Int) (w : World) (hx : NumZ w v s T x) (hy : NumZ w u s T' y) (hs : s ≤ 10000) (hT : 0 ≤ T ∧ T ≤ 10000) (hT' : 0 ≤ T' ∧ T' ≤ 10000) :
    Calls Tryz.prog 15 #[v, u] w fun e' w' => ∃ v', e' = .returned v' ∧ NumC w' v' (s + s) (T + T') (x * y) ∧ Below w.heap.size w w' := by
  obtain ⟨nx, mx, ex, h1, h2, h3, h4⟩ := hx
  obtain ⟨ny, my, ey, k1, k2, k3, k4⟩ := hy
  refine (timesV_any v u nx ny mx my ex ey w h1 k1 (by omega) (by omega) (by omega) (by omega)).mono ?_
  rintro e' w' ⟨v', neg, e, rfl, hN, hz, hnz, hB⟩
  refine ⟨v', rfl, ⟨neg, mx * my, e, hN, ?_, ?_, ?_, hz⟩, hB⟩
  · by_cases h : mx * my = 0
    · rw [hz h]; omega
    · rw [(hnz h).2]; omega
  · by_cases h : mx * my = 0
    · rw [hz h, h, bl_zero]; omega
    · have := bl_mul mx my
      rw [(hnz h).2]; omega
  · rw [← h4, ← k4, ← zv_mul nx ny mx my h2 k2]
    by_cases h : mx * my = 0
    · rw [h, zv_zero, zv_zero]
    · rw [(hnz h).1, (hnz h).2]
theorem NumC.set3 {w : World} {B : Nat} (x y z : Value) (hB : NumB w B) {v : Value} {s : Nat} {T r : Int} (h : NumC w v s T r) : NumC (((w.setCell ⟨B, 0, none⟩ x).setCell ⟨B, 1, none⟩ y).setCell ⟨B, 2, none⟩ z) v s T r := by
  obtain ⟨neg, m, e, ⟨ao, len, cap, xs, h1, h2, h3⟩, h4⟩ := h
  exact ⟨neg, m, e, ⟨ao, len, cap, xs, h1, rd4_set3 x y z hB h2, h3⟩, h4⟩
theorem blC_low {m : Nat} (h : m ≠ 0) : ∃ k, bl m = k + 1 ∧ 2 ^ k ≤ m := ⟨m.log2, by unfold bl; rw [if_neg h], Nat.log2_self_le h⟩
/-- How great it is tells how far it reaches. -/
theorem NumC.tight {w : World} {v : Value} {s : Nat} {T T' z : Int} (h : NumC w v s T z) (hT : 0 ≤ T') {X : Nat} (hX : (X : Int) = s + T') (hz : z.natAbs < 2 ^ X) : NumC w v s T' z := by
  obtain ⟨neg, m, e, h1, h2, h3, h4, h5⟩ := h
  refine ⟨neg, m, e, h1, h2, ?_, h4, h5⟩
  by_cases hm : m = 0
  · rw [h5 hm, hm, bl_zero]; omega
  · obtain ⟨k, hk, hk2⟩ := blC_low hm
    rw [hk]
    have hv : z.natAbs = m * 2 ^ (e + s).toNat := by
      rw [← h4]
      unfold zv sv
      rw [Int.natAbs_mul, Int.natAbs_natCast]
      congr 1
      split <;> simp
    rw [hv] at hz
    have h6 : 2 ^ k * 2 ^ (e + s).toNat < 2 ^ X := Nat.lt_of_le_of_lt (Nat.mul_le_mul_right _ hk2) hz
    rw [← Nat.pow_add] at h6
    have h7 := (Nat.pow_lt_pow_iff_right (by omega : 1 < 2)).1 h6
    omega
set_option maxRecDepth 100000 in
set_option maxHeartbeats 2000000 in
theorem mostC_any (v u : Value) (s : Nat) (T x y : Int) (w : World) (hx : NumC w v s T x) (hy : NumC w u s T y) (hs : s ≤ 20000) (hT : 0 ≤ T ∧ T ≤ 20000) :
    Calls Tryz.prog 18 #[v, u] w fun e' w' => ∃ v', e' = .returned v' ∧ NumC w' v' s T (max x y) ∧ Below w.heap.size w w' := by
  have HX : Hid (NumC w v s T x) := hx
  have HY : Hid (NumC w u s T y) := hy
  obtain ⟨nx, mx, ex, ⟨ao, len, cap, xs, rfl, -⟩, -⟩ := hx
  obtain ⟨ny, my, ey, ⟨bo, blen, bcap, ys, rfl, -⟩, -⟩ := hy
  obtain ⟨g0, g1, g2, gz, gb⟩ := alloc3_facts w (Obj.cells #[Value.bool nx, Value.slice ao len cap, Value.int IntKind.i64 ex] 44) (Obj.cells #[Value.bool ny, Value.slice bo blen bcap, Value.int IntKind.i64 ey] 44) (Obj.cells #[Value.bool false, Value.slice none 0 0, Value.int IntKind.i64 0] 44)
  have G0 : Hid _ := g0
  have G1 : Hid _ := g1
  have G2 : Hid _ := g2
  have GB : Hid _ := gb
  clear g0 g1 g2 gz gb
  go_enter Tryz.func18, Tryz.ntmps18
  go_upto_region 1 with fail
  generalize (((w.alloc (Obj.cells #[Value.bool nx, Value.slice ao len cap, Value.int IntKind.i64 ex] 44)).alloc (Obj.cells #[Value.bool ny, Value.slice bo blen bcap, Value.int IntKind.i64 ey] 44)).alloc (Obj.cells #[Value.bool false, Value.slice none 0 0, Value.int IntKind.i64 0] 44)) = W0 at G0 G1 G2 GB ⊢
  obtain ⟨x0, x1, x2⟩ := cells3 G0.out
  obtain ⟨y0, y1, y2⟩ := cells3 G1.out
  go_wp2_with fail
  refine Calls.mono (cmpZ_any _ _ s T x y _ (NumC.later HX.out GB.out).toZ (NumC.later HY.out GB.out).toZ hs hT) ?_
  rintro e w1 ⟨rfl, bw⟩
  have A1 : Hid _ := (bw.block _ (blk_lt G0.out)).trans G0.out
  have B1 : Hid _ := (bw.block _ (blk_lt G1.out)).trans G1.out
  have R1 : Hid _ := (bw.block _ (blk_lt G2.out)).trans G2.out
  have C1 : Hid (Below w.heap.size w w1) := GB.out.trans (bw.mono GB.out.size)
  have Zx : Hid (NumC w1 _ s T x) := NumC.later HX.out C1.out
  have Zy : Hid (NumC w1 _ s T y) := NumC.later HY.out C1.out
  clear bw G0 G1 G2 GB x0 x1 x2 y0 y1 y2 HX HY
  obtain ⟨x0, x1, x2⟩ := cells3 A1.out
  obtain ⟨y0, y1, y2⟩ := cells3 B1.out
  have hsg : sgi (x - y) ≥ 0 ↔ x - y ≥ 0 := by
    unfold sgi; split
    · omega
    · split <;> omega
  by_cases hc : x - y ≥ 0
  · have HS : Hid (x - y ≥ 0) := hc
    have hd : decide (sgi (x - y) ≥ 0) = true := decide_eq_true (hsg.2 hc)
    have hd2 : sgi (x - y) ≥ 0 := hsg.2 hc
    clear hsg hc
    obtain ⟨r0, r1, r2⟩ := cells3 R1.out
    have fz := fun j => frozen_of_row _ _ j _ _ R1.out
    go_wp2_with fail
    refine bodyPost_ret (v := .agg #[Value.bool nx, Value.slice ao len cap, Value.int IntKind.i64 ex]) (res_num _ 4 (by kernel_rfl) _ _ (w.heap.size + 1 + 1) _ _ _ (by rfl) (set3_heap _ _ _ R1.out)) rfl ⟨_, rfl, ?_, below_set3 _ _ _ C1.out (by omega)⟩
    have e : max x y = x := by have := HS.out; omega
    rw [e]
    exact NumC.set3 _ _ _ ⟨_, _, _, _, _, R1.out⟩ Zx.out
  · have HS : Hid (¬ (x - y ≥ 0)) := hc
    have hd : decide (sgi (x - y) ≥ 0) = false := decide_eq_false (fun c => hc (hsg.1 c))
    have hd2 : ¬ (sgi (x - y) ≥ 0) := fun c => hc (hsg.1 c)
    clear hsg hc
    obtain ⟨r0, r1, r2⟩ := cells3 R1.out
    have fz := fun j => frozen_of_row _ _ j _ _ R1.out
    go_wp2_with fail
    refine bodyPost_ret (v := .agg #[Value.bool ny, Value.slice bo blen bcap, Value.int IntKind.i64 ey]) (res_num _ 4 (by kernel_rfl) _ _ (w.heap.size + 1 + 1) _ _ _ (by rfl) (set3_heap _ _ _ R1.out)) rfl ⟨_, rfl, ?_, below_set3 _ _ _ C1.out (by omega)⟩
    have e : max x y = y := by have := HS.out; omega
    rw [e]
    exact NumC.set3 _ _ _ ⟨_, _, _, _, _, R1.out⟩ Zy.out
set_option maxRecDepth 100000 in
set_option maxHeartbeats 2000000 in
theorem leastC_any (v u : Value) (s : Nat) (T x y : Int) (w : World) (hx : NumC w v s T x) (hy : NumC w u s T y) (hs : s ≤ 20000) (hT : 0 ≤ T ∧ T ≤ 20000) :
    Calls Tryz.prog 17 #[v, u] w fun e' w' => ∃ v', e' = .returned v' ∧ NumC w' v' s T (min x y) ∧ Below w.heap.size w w' := by
  have HX : Hid (NumC w v s T x) := hx
  have HY : Hid (NumC w u s T y) := hy
  obtain ⟨nx, mx, ex, ⟨ao, len, cap, xs, rfl, -⟩, -⟩ := hx
  obtain ⟨ny, my, ey, ⟨bo, blen, bcap, ys, rfl, -⟩, -⟩ := hy
  obtain ⟨g0, g1, g2, gz, gb⟩ := alloc3_facts w (Obj.cells #[Value.bool nx, Value.slice ao len cap, Value.int IntKind.i64 ex] 44) (Obj.cells #[Value.bool ny, Value.slice bo blen bcap, Value.int IntKind.i64 ey] 44) (Obj.cells #[Value.bool false, Value.slice none 0 0, Value.int IntKind.i64 0] 44)
  have G0 : Hid _ := g0
  have G1 : Hid _ := g1
  have G2 : Hid _ := g2
  have GB : Hid _ := gb
  clear g0 g1 g2 gz gb
  go_enter Tryz.func17, Tryz.ntmps17
  go_upto_region 1 with fail
  generalize (((w.alloc (Obj.cells #[Value.bool nx, Value.slice ao len cap, Value.int IntKind.i64 ex] 44)).alloc (Obj.cells #[Value.bool ny, Value.slice bo blen bcap, Value.int IntKind.i64 ey] 44)).alloc (Obj.cells #[Value.bool false, Value.slice none 0 0, Value.int IntKind.i64 0] 44)) = W0 at G0 G1 G2 GB ⊢
  obtain ⟨x0, x1, x2⟩ := cells3 G0.out
  obtain ⟨y0, y1, y2⟩ := cells3 G1.out
  go_wp2_with fail
  refine Calls.mono (cmpZ_any _ _ s T x y _ (NumC.later HX.out GB.out).toZ (NumC.later HY.out GB.out).toZ hs hT) ?_
  rintro e w1 ⟨rfl, bw⟩
  have A1 : Hid _ := (bw.block _ (blk_lt G0.out)).trans G0.out
  have B1 : Hid _ := (bw.block _ (blk_lt G1.out)).trans G1.out
  have R1 : Hid _ := (bw.block _ (blk_lt G2.out)).trans G2.out
  have C1 : Hid (Below w.heap.size w w1) := GB.out.trans (bw.mono GB.out.size)
  have Zx : Hid (NumC w1 _ s T x) := NumC.later HX.out C1.out
  have Zy : Hid (NumC w1 _ s T y) := NumC.later HY.out C1.out
  clear bw G0 G1 G2 GB x0 x1 x2 y0 y1 y2 HX HY
  obtain ⟨x0, x1, x2⟩ := cells3 A1.out
  obtain ⟨y0, y1, y2⟩ := cells3 B1.out
  have hsg : sgi (x - y) ≤ 0 ↔ x - y ≤ 0 := by
    unfold sgi; split
    · omega
    · split <;> omega
  by_cases hc : x - y ≤ 0
  · have HS : Hid (x - y ≤ 0) := hc
    have hd : decide (sgi (x - y) ≤ 0) = true := decide_eq_true (hsg.2 hc)
    have hd2 : sgi (x - y) ≤ 0 := hsg.2 hc
    clear hsg hc
    obtain ⟨r0, r1, r2⟩ := cells3 R1.out
    have fz := fun j => frozen_of_row _ _ j _ _ R1.out
    go_wp2_with fail
    refine bodyPost_ret (v := .agg #[Value.bool nx, Value.slice ao len cap, Value.int IntKind.i64 ex]) (res_num _ 4 (by kernel_rfl) _ _ (w.heap.size + 1 + 1) _ _ _ (by rfl) (set3_heap _ _ _ R1.out)) rfl ⟨_, rfl, ?_, below_set3 _ _ _ C1.out (by omega)⟩
    have e : min x y = x := by have := HS.out; omega
    rw [e]
    exact NumC.set3 _ _ _ ⟨_, _, _, _, _, R1.out⟩ Zx.out
  · have HS : Hid (¬ (x - y ≤ 0)) := hc
    have hd : decide (sgi (x - y) ≤ 0) = false := decide_eq_false (fun c => hc (hsg.1 c))
    have hd2 : ¬ (sgi (x - y) ≤ 0) := fun c => hc (hsg.1 c)
    clear hsg hc
    obtain ⟨r0, r1, r2⟩ := cells3 R1.out
    have fz := fun j => frozen_of_row _ _ j _ _ R1.out
    go_wp2_with fail
    refine bodyPost_ret (v := .agg #[Value.bool ny, Value.slice bo blen bcap, Value.int IntKind.i64 ey]) (res_num _ 4 (by kernel_rfl) _ _ (w.heap.size + 1 + 1) _ _ _ (by rfl) (set3_heap _ _ _ R1.out)) rfl ⟨_, rfl, ?_, below_set3 _ _ _ C1.out (by omega)⟩
    have e : min x y = y := by have := HS.out; omega
    rw [e]
    exact NumC.set3 _ _ _ ⟨_, _, _, _, _, R1.out⟩ Zy.out
end Go.Proofs.YtbncdcenckagcaaGreat
