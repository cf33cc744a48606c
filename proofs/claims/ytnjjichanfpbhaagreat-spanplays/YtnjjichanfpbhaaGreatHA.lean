import Derived.Test.YtnjjichanfpbhaaGreatZT
import Derived.Test.YtnjjichanfpbhaaGreatZV
import Derived.Test.YtnjjichanfpbhaaGreatMZ
namespace Go.Proofs.YtnjjichanfpbhaaGreat
open Go.RowKit
set_option linter.unusedVariables false

set_option maxRecDepth 100000 in
set_option maxHeartbeats 2000000 in
theorem mostZ_any (v u : Value) (s : Nat) (T x y : Int) (w : World) (hx : NumZ w v s T x) (hy : NumZ w u s T y) (hs : s ≤ 20000) (hT : 0 ≤ T ∧ T ≤ 20000) :
    Calls Tryz.prog 63 #[v, u] w fun e' w' => ∃ v', e' = .returned v' ∧ NumZ w' v' s T (max x y) ∧ Below w.heap.size w w' := by
  have HX : Hid (NumZ w v s T x) := hx
  have HY : Hid (NumZ w u s T y) := hy
  obtain ⟨nx, mx, ex, ⟨ao, len, cap, xs, rfl, -⟩, -⟩ := hx
  obtain ⟨ny, my, ey, ⟨bo, blen, bcap, ys, rfl, -⟩, -⟩ := hy
  obtain ⟨g0, g1, g2, gz, gb⟩ := alloc3_facts w (Obj.cells #[Value.bool nx, Value.slice ao len cap, Value.int IntKind.i64 ex] 61) (Obj.cells #[Value.bool ny, Value.slice bo blen bcap, Value.int IntKind.i64 ey] 61) (Obj.cells #[Value.bool false, Value.slice none 0 0, Value.int IntKind.i64 0] 61)
  have G0 : Hid _ := g0
  have G1 : Hid _ := g1
  have G2 : Hid _ := g2
  have GB : Hid _ := gb
  clear g0 g1 g2 gz gb
  go_enter Tryz.func63, Tryz.ntmps63
  go_upto_region 1 with fail
  generalize (((w.alloc (Obj.cells #[Value.bool nx, Value.slice ao len cap, Value.int IntKind.i64 ex] 61)).alloc (Obj.cells #[Value.bool ny, Value.slice bo blen bcap, Value.int IntKind.i64 ey] 61)).alloc (Obj.cells #[Value.bool false, Value.slice none 0 0, Value.int IntKind.i64 0] 61)) = W0 at G0 G1 G2 GB ⊢
  obtain ⟨x0, x1, x2⟩ := cells3 G0.out
  obtain ⟨y0, y1, y2⟩ := cells3 G1.out
  go_wp2_with fail
  refine Calls.mono (cmpZ_any _ _ s T x y _ (NumZ.later HX.out GB.out) (NumZ.later HY.out GB.out) hs hT) ?_
  rintro e w1 ⟨rfl, bw⟩
  have A1 : Hid _ := (bw.block _ (blk_lt G0.out)).trans G0.out
  have B1 : Hid _ := (bw.block _ (blk_lt G1.out)).trans G1.out
  have R1 : Hid _ := (bw.block _ (blk_lt G2.out)).trans G2.out
  have C1 : Hid (Below w.heap.size w w1) := GB.out.trans (bw.mono GB.out.size)
  have Zx : Hid (NumZ w1 _ s T x) := NumZ.later HX.out C1.out
  have Zy : Hid (NumZ w1 _ s T y) := NumZ.later HY.out C1.out
  clear bw G0 G1 G2 GB x0 x1 x2 y0 y1 y2 HX HY
  obtain ⟨x0, x1, x2⟩ := cells3 A1.out
  obtain ⟨y0, y1, y2⟩ := cells3 B1.out
  have hsg : sgi (x - y) ≥ 0 ↔ x - y ≥ 0 := by
    unfold sgi; split
    · omega
    · split <;> omega
  by_cases hc : x - y ≥ 0
  · have HS : Hid (x - y ≥ 0) := hc
    have hd : decide (sgi (x - y) ≥ 0) = true := decide_eq_true (hsg.2 hc)
    have hd2 : sgi (x - y) ≥ 0 := hsg.2 hc
    clear hsg hc
    obtain ⟨r0, r1, r2⟩ := cells3 R1.out
    have fz := fun j => frozen_of_row _ _ j _ _ R1.out
    go_wp2_with fail
    refine bodyPost_ret (v := .agg #[Value.bool nx, Value.slice ao len cap, Value.int IntKind.i64 ex]) (res_num _ 4 (by kernel_rfl) _ _ (w.heap.size + 1 + 1) _ _ _ (by rfl) (set3_heap _ _ _ R1.out)) rfl ⟨_, rfl, ?_, below_set3 _ _ _ C1.out (by omega)⟩
    have e : max x y = x := by have := HS.out; omega
    rw [e]
    exact NumZ.set3 _ _ _ ⟨_, _, _, _, _, R1.out⟩ Zx.out
  · have HS : Hid (¬ (x - y ≥ 0)) := hc
    have hd : decide (sgi (x - y) ≥ 0) = false := decide_eq_false (fun c => hc (hsg.1 c))
    have hd2 : ¬ (sgi (x - y) ≥ 0) := fun c => hc (hsg.1 c)
    clear hsg hc
    obtain ⟨r0, r1, r2⟩ := cells3 R1.out
    have fz := fun j => frozen_of_row _ _ j _ _ R1.out
    go_wp2_with fail
    refine bodyPost_ret (v := .agg #[Value.bool ny, Value.slice bo blen bcap, Value.int IntKind.i64 ey]) (res_num _ 4 (by kernel_rfl) _ _ (w.heap.size + 1 + 1) _ _ _ (by rfl) (set3_heap _ _ _ R1.out)) rfl ⟨_, rfl, ?_, below_set3 _ _ _ C1.out (by omega)⟩
    have e : max x y = y := by have := HS.out; omega
    rw [e]
    exact NumZ.set3 _ _ _ ⟨_, _, _, _, _, R1.out⟩ Zy.out
set_option maxRecDepth 100000 in
set_option maxHeartbeats 2000000 in
theorem leastZ_any (v u : Value) (s : Nat) (T x y : Int) (w : World) (hx : NumZ w v s T x) (hy : NumZ w u s T y) (hs : s ≤ 20000) (hT : 0 ≤ T ∧ T ≤ 20000) :
    Calls Tryz.prog 64 #[v, u] w fun e' w' => ∃ v', e' = .returned v' ∧ NumZ w' v' s T (min x y) ∧ Below w.heap.size w w' := by
  have HX : Hid (NumZ w v s T x) := hx
  have HY : Hid (NumZ w u s T y) := hy
  obtain ⟨nx, mx, ex, ⟨ao, len, cap, xs, rfl, -⟩, -⟩ := hx
  obtain ⟨ny, my, ey, ⟨bo, blen, bcap, ys, rfl, -⟩, -⟩ := hy
  obtain ⟨g0, g1, g2, gz, gb⟩ := alloc3_facts w (Obj.cells #[Value.bool nx, Value.slice ao len cap, Value.int IntKind.i64 ex] 61) (Obj.cells #[Value.bool ny, Value.slice bo blen bcap, Value.int IntKind.i64 ey] 61) (Obj.cells #[Value.bool false, Value.slice none 0 0, Value.int IntKind.i64 0] 61)
  have G0 : Hid _ := g0
  have G1 : Hid _ := g1
  have G2 : Hid _ := g2
  have GB : Hid _ := gb
  clear g0 g1 g2 gz gb
  go_enter Tryz.func64, Tryz.ntmps64
  go_upto_region 1 with fail
  generalize (((w.alloc (Obj.cells #[Value.bool nx, Value.slice ao len cap, Value.int IntKind.i64 ex] 61)).alloc (Obj.cells #[Value.bool ny, Value.slice bo blen bcap, Value.int IntKind.i64 ey] 61)).alloc (Obj.cells #[Value.bool false, Value.slice none 0 0, Value.int IntKind.i64 0] 61)) = W0 at G0 G1 G2 GB ⊢
  obtain ⟨x0, x1, x2⟩ := cells3 G0.out
  obtain ⟨y0, y1, y2⟩ := cells3 G1.out
  go_wp2_with fail
  refine Calls.mono (cmpZ_any _ _ s T x y _ (NumZ.later HX.out GB.out) (NumZ.later HY.out GB.out) hs hT) ?_
  rintro e w1 ⟨rfl, bw⟩
  have A1 : Hid _ := (bw.block _ (blk_lt G0.out)).trans G0.out
  have B1 : Hid _ := (bw.block _ (blk_lt G1.out)).trans G1.out
  have R1 : Hid _ := (bw.block _ (blk_lt G2.out)).trans G2.out
  have C1 : Hid (Below w.heap.size w w1) := GB.out.trans (bw.mono GB.out.size)
  have Zx : Hid (NumZ w1 _ s T x) := NumZ.later HX.out C1.out
  have Zy : Hid (NumZ w1 _ s T y) := NumZ.later HY.out C1.out
  clear bw G0 G1 G2 GB x0 x1 x2 y0 y1 y2 HX HY
  obtain ⟨x0, x1, x2⟩ := cells3 A1.out
  obtain ⟨y0, y1, y2⟩ := cells3 B1.out
  have hsg : sgi (x - y) ≤ 0 ↔ x - y ≤ 0 := by
    unfold sgi; split
    · omega
    · split <;> omega
  by_cases hc : x - y ≤ 0
  · have HS : Hid (x - y ≤ 0) := hc
    have hd : decide (sgi (x - y) ≤ 0) = true := decide_eq_true (hsg.2 hc)
    have hd2 : sgi (x - y) ≤ 0 := hsg.2 hc
    clear hsg hc
    obtain ⟨r0, r1, r2⟩ := cells3 R1.out
    have fz := fun j => frozen_of_row _ _ j _ _ R1.out
    go_wp2_with fail
    refine bodyPost_ret (v := .agg #[Value.bool nx, Value.slice ao len cap, Value.int IntKind.i64 ex]) (res_num _ 4 (by kernel_rfl) _ _ (w.heap.size + 1 + 1) _ _ _ (by rfl) (set3_heap _ _ _ R1.out)) rfl ⟨_, rfl, ?_, below_set3 _ _ _ C1.out (by omega)⟩
    have e : min x y = x := by have := HS.out; omega
    rw [e]
    exact NumZ.set3 _ _ _ ⟨_, _, _, _, _, R1.out⟩ Zx.out
  · have HS : Hid (¬ (x - y ≤ 0)) := hc
    have hd : decide (sgi (x - y) ≤ 0) = false := decide_eq_false (fun c => hc (hsg.1 c))
    have hd2 : ¬ (sgi (x - y) ≤ 0) := fun c => hc (hsg.1 c)
    clear hsg hc
    obtain ⟨r0, r1, r2⟩ := cells3 R1.out
    have fz := fun j => frozen_of_row _ _ j _ _ R1.out
    go_wp2_with fail
    refine bodyPost_ret (v := .agg #[Value.bool ny, Value.slice bo blen bcap, Value.int IntKind.i64 ey]) (res_num _ 4 (by kernel_rfl) _ _ (w.heap.size + 1 + 1) _ _ _ (by rfl) (set3_heap _ _ _ R1.out)) rfl ⟨_, rfl, ?_, below_set3 _ _ _ C1.out (by omega)⟩
    have e : min x y = y := by have := HS.out; omega
    rw [e]
    exact NumZ.set3 _ _ _ ⟨_, _, _, _, _, R1.out⟩ Zy.out
end Go.Proofs.YtnjjichanfpbhaaGreat
