import Derived.Test.YtokglpemefkmjaaRWb2
import Ieee.Arith
import Derived.Test.YtokglpemefkmjaaChecked
import Derived.WalkKit
import Derived.WalkSmall
import Derived.WalkLawsBesides
import Derived.Laws.BitsAll
import Derived.Deep.QuietTactic
import Derived.Deep.RegionWith
import Derived.Deep.DeepCutAuto
import Derived.Deep.LoopGhost
import Derived.OwnWalk
import Derived.Deep.WholeRow
import Derived.Deep.MidRow
import Derived.Laws.CopyOwn
import Derived.BigQuiet
import Derived.Laws.AppendOwnNone
import Derived.Deep.RegionHeld3
import Derived.Laws.OwnMore
import Derived.ArgAppend
import Derived.Orders
import Derived.RegionTactic
import Derived.Below
namespace Go.Proofs.Ytokglpemefkmjaa
open Go.RowKit
set_option linter.unusedVariables false
theorem Try.infoB16 : (Try.prog.info? 105).map (·.size) = some 16 := by kernel_rfl
theorem Try.infoB2 : (Try.prog.info? 104).map (·.size) = some 2 := by kernel_rfl
set_option maxRecDepth 100000 in
set_option maxHeartbeats 1000000 in
theorem slopeDense (o kh kw sh sw ph pw fr : Int) (v1 v2 v3 v4 : Value) (w : World) :
    Calls Try.prog 52 #[.agg #[.int .i64 1, .int .i64 o, .int .i64 kh, .int .i64 kw, .int .i64 sh, .int .i64 sw, .int .i64 ph, .int .i64 pw, .int .i64 fr, .int .u64 0, v1, v2, v3, v4]] w fun e w' => e = .returned (.int .i64 0) ∧ Below w.heap.size w w' := by
  have HB : Hid (∀ x, Below w.heap.size w (w.alloc x)) := fun x => (Below.refl _ w).alloc (Nat.le_refl _) _
  go_enter Try.func52, Try.ntmps52
  go_wp2_with fail
  go_ret
  exact ⟨rfl, HB.out _⟩
set_option maxRecDepth 100000 in
set_option maxHeartbeats 1000000 in
theorem slopeConv (o kh kw sh sw ph pw fr : Int) (v1 v2 v3 v4 : Value) (w : World) :
    Calls Try.prog 52 #[.agg #[.int .i64 2, .int .i64 o, .int .i64 kh, .int .i64 kw, .int .i64 sh, .int .i64 sw, .int .i64 ph, .int .i64 pw, .int .i64 fr, .int .u64 0, v1, v2, v3, v4]] w fun e w' => e = .returned (.int .i64 0) ∧ Below w.heap.size w w' := by
  have HB : Hid (∀ x, Below w.heap.size w (w.alloc x)) := fun x => (Below.refl _ w).alloc (Nat.le_refl _) _
  go_enter Try.func52, Try.ntmps52
  go_wp2_with fail
  go_ret
  exact ⟨rfl, HB.out _⟩
set_option maxRecDepth 100000 in
theorem windowsD (w : World) : Calls Try.prog 58 #[.int .i64 1] w fun e w' => e = .returned (.bool false) ∧ w' = w := by
  go_enter Try.func58, Try.ntmps58
  go_wp2_with fail
  go_ret
  exact ⟨rfl, rfl⟩
set_option maxRecDepth 100000 in
theorem windowsC (w : World) : Calls Try.prog 58 #[.int .i64 2] w fun e w' => e = .returned (.bool true) ∧ w' = w := by
  go_enter Try.func58, Try.ntmps58
  go_wp2_with fail
  go_ret
  exact ⟨rfl, rfl⟩
set_option maxRecDepth 100000 in
set_option maxHeartbeats 2000000 in
theorem boundsDense (o kh kw sh sw ph pw fr : Int) (v1 v2 v3 v4 : Value) (w : World) :
    Calls Try.prog 51 #[.agg #[.int .i64 1, .int .i64 o, .int .i64 kh, .int .i64 kw, .int .i64 sh, .int .i64 sw, .int .i64 ph, .int .i64 pw, .int .i64 fr, .int .u64 0, v1, v2, v3, v4]] w fun e w' => e = .returned (.agg #[.int .i64 1, .int .i64 256, .int .i64 0, .int .i64 0, .int .i64 0, .int .i64 0, .int .i64 0, .int .i64 0, .int .i64 0, .int .i64 0, .int .i64 0, .int .i64 0, .int .i64 0, .int .i64 0, .int .i64 0, .int .i64 0]) ∧ Below w.heap.size w w' := by
  have HB : Hid (∀ x y z, Below w.heap.size w (((w.alloc x).alloc y).alloc z)) := fun x y z => (((Below.refl _ w).alloc (Nat.le_refl _) _).alloc (by simp only [alloc_size]; omega) _).alloc (by simp only [alloc_size]; omega) _
  go_enter Try.func51, Try.ntmps51
  go_wp2_with (first | (go_at_call 58; refine (windowsD _).mono ?_; rintro e w1 ⟨rfl, rfl⟩))
  exact bodyPost_ret (res_one _ 2 105 (by kernel_rfl) _ _ (w.heap.size + 1) _ (by rfl) _ Try.underlying105 rfl 16 Try.infoB16 rfl (alloc_kept (heap_at _ _ (w.heap.size + 1) (by simp only [alloc_size])) _)) rfl ⟨rfl, HB.out _ _ _⟩
def bC (i : Nat) : Array Value := #[.int .i64 1, .int .i64 256, .int .i64 (if 1 < i then 1 else 0), .int .i64 (if 1 < i then 16 else 0), .int .i64 (if 2 < i then 1 else 0), .int .i64 (if 2 < i then 16 else 0), .int .i64 (if 3 < i then 1 else 0), .int .i64 (if 3 < i then 16 else 0), .int .i64 (if 4 < i then 1 else 0), .int .i64 (if 4 < i then 16 else 0), .int .i64 0, .int .i64 0, .int .i64 0, .int .i64 0, .int .i64 0, .int .i64 0]
theorem one16 (y0 y1 y2 y3 y4 y5 y6 y7 y8 y9 y10 y11 y12 y13 y14 y15 : Int) : (#[.int .i64 y0, .int .i64 y1, .int .i64 y2, .int .i64 y3, .int .i64 y4, .int .i64 y5, .int .i64 y6, .int .i64 y7, .int .i64 y8, .int .i64 y9, .int .i64 y10, .int .i64 y11, .int .i64 y12, .int .i64 y13, .int .i64 y14, .int .i64 y15] : Array Value).all (·.oneCell') = true := by
  simp only [Array.all_eq_true_iff_forall_mem]
  intro v hv
  simp only [List.mem_toArray, List.mem_cons, List.not_mem_nil, or_false] at hv
  rcases hv with rfl | rfl | rfl | rfl | rfl | rfl | rfl | rfl | rfl | rfl | rfl | rfl | rfl | rfl | rfl | rfl <;> rfl
set_option maxRecDepth 100000 in
set_option maxHeartbeats 4000000 in
theorem boundsConv (o kh kw sh sw ph pw fr kh' kw' : Int) (hk1 : IntKind.i64.wrap (kh - 1) = kh') (hk2 : IntKind.i64.wrap (kw - 1) = kw') (v1 v2 v3 v4 : Value) (w : World) :
    Calls Try.prog 51 #[.agg #[.int .i64 2, .int .i64 o, .int .i64 kh, .int .i64 kw, .int .i64 sh, .int .i64 sw, .int .i64 ph, .int .i64 pw, .int .i64 fr, .int .u64 0, v1, v2, v3, v4]] w fun e w' => e = .returned (.agg #[.int .i64 1, .int .i64 256, .int .i64 1, .int .i64 16, .int .i64 1, .int .i64 16, .int .i64 1, .int .i64 16, .int .i64 1, .int .i64 16, .int .i64 0, .int .i64 kh', .int .i64 0, .int .i64 kw', .int .i64 0, .int .i64 0]) ∧ Below w.heap.size w w' := by
  have HB : Hid (∀ x y z, Below w.heap.size w (((w.alloc x).alloc y).alloc z)) := fun x y z => (((Below.refl _ w).alloc (Nat.le_refl _) _).alloc (by simp only [alloc_size]; omega) _).alloc (by simp only [alloc_size]; omega) _
  go_enter Try.func51, Try.ntmps51
  go_wp2_with (first | (go_at_call 58; refine (windowsC _).mono ?_; rintro e w1 ⟨rfl, rfl⟩))
  go_loopg [4] 4 (fun g v wx => ∃ i : Nat, v = .int .i64 i ∧ (1 ≤ i ∧ i + g = 5) ∧ Hid (Below w.heap.size w wx) ∧ Hid (wx.heap[w.heap.size]? = some (.cells #[.int .i64 2, .int .i64 o, .int .i64 kh, .int .i64 kw, .int .i64 sh, .int .i64 sw, .int .i64 ph, .int .i64 pw, .int .i64 fr, .int .u64 0, v1, v2, v3, v4] 55) ∧ wx.heap[w.heap.size + 1]? = some (.cells #[.int .i64 0, .int .i64 0, .int .i64 0, .int .i64 0, .int .i64 0, .int .i64 0, .int .i64 0, .int .i64 0, .int .i64 0, .int .i64 0, .int .i64 0, .int .i64 0, .int .i64 0, .int .i64 0, .int .i64 0, .int .i64 0] 105) ∧ wx.heap[w.heap.size + 1 + 1]? = some (.cells (bC i) 105)))
  case atStart => exact ⟨1, rfl, ⟨by omega, by omega⟩, HB.out _ _ _, alloc_kept (alloc_kept (heap_alloc_new w _) _) _, alloc_kept (heap_at _ _ (w.heap.size + 1) (by simp only [alloc_size])) _, heap_at _ _ (w.heap.size + 1 + 1) (by simp only [alloc_size])⟩
  case round =>
    clear HB
    obtain ⟨i, rfl, hi, HB, HK⟩ := hrel
    have hlt := blk_lt HK.out.2.2
    obtain rfl | rfl | rfl | rfl | rfl : i = 1 ∨ i = 2 ∨ i = 3 ∨ i = 4 ∨ i = 5 := by omega
    · have E0 : wr.heap[w.heap.size + 1 + 1]? = some (.cells #[.int .i64 1, .int .i64 256, .int .i64 0, .int .i64 0, .int .i64 0, .int .i64 0, .int .i64 0, .int .i64 0, .int .i64 0, .int .i64 0, .int .i64 0, .int .i64 0, .int .i64 0, .int .i64 0, .int .i64 0, .int .i64 0] 105) := HK.out.2.2
      have hb0 := HB.out
      go_wp2_with (first | (refine wpList_store_at (by rfl) 104 _ _ (by rfl) w w.heap.size (w.heap.size + 1 + 1) 2 (.agg #[.int .i64 1, .int .i64 16]) _ #[.int .i64 1, .int .i64 256, .int .i64 1, .int .i64 16, .int .i64 0, .int .i64 0, .int .i64 0, .int .i64 0, .int .i64 0, .int .i64 0, .int .i64 0, .int .i64 0, .int .i64 0, .int .i64 0, .int .i64 0, .int .i64 0] 105 (by rfl) (by rfl) E0 hb0 (by omega) 2 Try.infoB2 (by rfl) (Nat.le_of_ble_eq_true rfl) (by exact one_int2 _ _) (by rfl) ?_; intro W5 e5 hb5 hs5 ho5))
      go_roundg 3
      case measure => omega
      case rel => exact ⟨2, rfl, ⟨by omega, by omega⟩, hb5, (ho5 _ (by omega)).trans HK.out.1, (ho5 _ (by omega)).trans HK.out.2.1, e5⟩
    · have E0 : wr.heap[w.heap.size + 1 + 1]? = some (.cells #[.int .i64 1, .int .i64 256, .int .i64 1, .int .i64 16, .int .i64 0, .int .i64 0, .int .i64 0, .int .i64 0, .int .i64 0, .int .i64 0, .int .i64 0, .int .i64 0, .int .i64 0, .int .i64 0, .int .i64 0, .int .i64 0] 105) := HK.out.2.2
      have hb0 := HB.out
      go_wp2_with (first | (refine wpList_store_at (by rfl) 104 _ _ (by rfl) w w.heap.size (w.heap.size + 1 + 1) 4 (.agg #[.int .i64 1, .int .i64 16]) _ #[.int .i64 1, .int .i64 256, .int .i64 1, .int .i64 16, .int .i64 1, .int .i64 16, .int .i64 0, .int .i64 0, .int .i64 0, .int .i64 0, .int .i64 0, .int .i64 0, .int .i64 0, .int .i64 0, .int .i64 0, .int .i64 0] 105 (by rfl) (by rfl) E0 hb0 (by omega) 2 Try.infoB2 (by rfl) (Nat.le_of_ble_eq_true rfl) (by exact one_int2 _ _) (by rfl) ?_; intro W5 e5 hb5 hs5 ho5))
      go_roundg 2
      case measure => omega
      case rel => exact ⟨3, rfl, ⟨by omega, by omega⟩, hb5, (ho5 _ (by omega)).trans HK.out.1, (ho5 _ (by omega)).trans HK.out.2.1, e5⟩
    · have E0 : wr.heap[w.heap.size + 1 + 1]? = some (.cells #[.int .i64 1, .int .i64 256, .int .i64 1, .int .i64 16, .int .i64 1, .int .i64 16, .int .i64 0, .int .i64 0, .int .i64 0, .int .i64 0, .int .i64 0, .int .i64 0, .int .i64 0, .int .i64 0, .int .i64 0, .int .i64 0] 105) := HK.out.2.2
      have hb0 := HB.out
      go_wp2_with (first | (refine wpList_store_at (by rfl) 104 _ _ (by rfl) w w.heap.size (w.heap.size + 1 + 1) 6 (.agg #[.int .i64 1, .int .i64 16]) _ #[.int .i64 1, .int .i64 256, .int .i64 1, .int .i64 16, .int .i64 1, .int .i64 16, .int .i64 1, .int .i64 16, .int .i64 0, .int .i64 0, .int .i64 0, .int .i64 0, .int .i64 0, .int .i64 0, .int .i64 0, .int .i64 0] 105 (by rfl) (by rfl) E0 hb0 (by omega) 2 Try.infoB2 (by rfl) (Nat.le_of_ble_eq_true rfl) (by exact one_int2 _ _) (by rfl) ?_; intro W5 e5 hb5 hs5 ho5))
      go_roundg 1
      case measure => omega
      case rel => exact ⟨4, rfl, ⟨by omega, by omega⟩, hb5, (ho5 _ (by omega)).trans HK.out.1, (ho5 _ (by omega)).trans HK.out.2.1, e5⟩
    · have E0 : wr.heap[w.heap.size + 1 + 1]? = some (.cells #[.int .i64 1, .int .i64 256, .int .i64 1, .int .i64 16, .int .i64 1, .int .i64 16, .int .i64 1, .int .i64 16, .int .i64 0, .int .i64 0, .int .i64 0, .int .i64 0, .int .i64 0, .int .i64 0, .int .i64 0, .int .i64 0] 105) := HK.out.2.2
      have hb0 := HB.out
      go_wp2_with (first | (refine wpList_store_at (by rfl) 104 _ _ (by rfl) w w.heap.size (w.heap.size + 1 + 1) 8 (.agg #[.int .i64 1, .int .i64 16]) _ #[.int .i64 1, .int .i64 256, .int .i64 1, .int .i64 16, .int .i64 1, .int .i64 16, .int .i64 1, .int .i64 16, .int .i64 1, .int .i64 16, .int .i64 0, .int .i64 0, .int .i64 0, .int .i64 0, .int .i64 0, .int .i64 0] 105 (by rfl) (by rfl) E0 hb0 (by omega) 2 Try.infoB2 (by rfl) (Nat.le_of_ble_eq_true rfl) (by exact one_int2 _ _) (by rfl) ?_; intro W5 e5 hb5 hs5 ho5))
      go_roundg 0
      case measure => omega
      case rel => exact ⟨5, rfl, ⟨by omega, by omega⟩, hb5, (ho5 _ (by omega)).trans HK.out.1, (ho5 _ (by omega)).trans HK.out.2.1, e5⟩
    · have E0 : wr.heap[w.heap.size + 1 + 1]? = some (.cells #[.int .i64 1, .int .i64 256, .int .i64 1, .int .i64 16, .int .i64 1, .int .i64 16, .int .i64 1, .int .i64 16, .int .i64 1, .int .i64 16, .int .i64 0, .int .i64 0, .int .i64 0, .int .i64 0, .int .i64 0, .int .i64 0] 105) := HK.out.2.2
      have hb0 := HB.out
      have a2 := cellOf HK.out.1 2 (.int .i64 kh) rfl
      have a3 := cellOf HK.out.1 3 (.int .i64 kw) rfl
      go_upto_region 16 with (first | (refine wpList_store_at (by rfl) 104 _ _ (by rfl) w w.heap.size (w.heap.size + 1 + 1) 10 (.agg #[.int .i64 0, .int .i64 kh']) _ #[.int .i64 1, .int .i64 256, .int .i64 1, .int .i64 16, .int .i64 1, .int .i64 16, .int .i64 1, .int .i64 16, .int .i64 1, .int .i64 16, .int .i64 0, .int .i64 kh', .int .i64 0, .int .i64 0, .int .i64 0, .int .i64 0] 105 (by rfl) (by rfl) E0 hb0 (by omega) 2 Try.infoB2 (by rfl) (Nat.le_of_ble_eq_true rfl) (by exact one_int2 _ _) (by rfl) ?_; intro W6 e6 hb6 hs6 ho6))
      have K6 := (ho6 _ (by omega)).trans HK.out.1
      have R6 := (ho6 _ (by omega)).trans HK.out.2.1
      have a3' := cellOf K6 3 (.int .i64 kw) rfl
      go_upto_region 17 with (first | (refine wpList_store_at (by rfl) 104 _ _ (by rfl) w w.heap.size (w.heap.size + 1 + 1) 12 (.agg #[.int .i64 0, .int .i64 kw']) _ #[.int .i64 1, .int .i64 256, .int .i64 1, .int .i64 16, .int .i64 1, .int .i64 16, .int .i64 1, .int .i64 16, .int .i64 1, .int .i64 16, .int .i64 0, .int .i64 kh', .int .i64 0, .int .i64 kw', .int .i64 0, .int .i64 0] 105 (by rfl) (by rfl) e6 hb6 (by omega) 2 Try.infoB2 (by rfl) (Nat.le_of_ble_eq_true rfl) (by exact one_int2 _ _) (by rfl) ?_; intro W7 e7 hb7 hs7 ho7))
      have R7 := (ho7 _ (by omega)).trans R6
      go_wp2_with (first
        | (refine wpList_load_row (by rfl) 105 _ (by rfl) (w.heap.size + 1 + 1) _ (by rfl) e7 _ Try.underlying105 rfl 16 Try.infoB16 (by rfl) ?_)
        | (refine wpList_store_row (by rfl) 105 _ _ (by rfl) w w.heap.size (w.heap.size + 1) _ _ (by rfl) (by rfl) R7 hb7 (by omega) 16 Try.infoB16 (by rfl) (by rfl) (by exact one16 ..) ?_; intro W9 e9 hb9 hs9 ho9))
      exact bodyPost_ret (res_one _ 2 105 (by kernel_rfl) _ _ (w.heap.size + 1) _ (by rfl) _ Try.underlying105 rfl 16 Try.infoB16 rfl e9) rfl ⟨rfl, hb9⟩
end Go.Proofs.Ytokglpemefkmjaa

namespace Go.Proofs.Ytokglpemefkmjaa
open Go.RowKit
set_option linter.unusedVariables false
theorem Try.infoRL : (Try.prog.info? 55).map (·.size) = some 14 := by kernel_rfl
theorem within_anyR (n lo hi : Int) (w : World) : Calls Try.prog 50 #[.int .i64 n, .int .i64 lo, .int .i64 hi] w fun e w' => e = .returned (.bool (inB lo n hi)) ∧ w' = w := by
  by_cases h1 : lo ≤ n
  · by_cases h2 : n ≤ hi
    · have e : inB lo n hi = true := inB_true ⟨h1, h2⟩
      rw [e]
      go_enter Try.func50, Try.ntmps50
      go_wp2_with fail
      go_ret
      exact ⟨rfl, rfl⟩
    · have e : inB lo n hi = false := by cases he : inB lo n hi with | false => rfl | true => exact absurd (inB_iff.1 he).2 h2
      rw [e]
      go_enter Try.func50, Try.ntmps50
      go_wp2_with fail
      go_ret
      exact ⟨rfl, rfl⟩
  · have e : inB lo n hi = false := by cases he : inB lo n hi with | false => rfl | true => exact absurd (inB_iff.1 he).1 h1
    rw [e]
    go_enter Try.func50, Try.ntmps50
    go_wp2_with fail
    go_ret
    exact ⟨rfl, rfl⟩
set_option maxRecDepth 100000 in
set_option maxHeartbeats 4000000 in
theorem refFields_ok (kd g0 g1 g2 g3 g4 g5 g6 g7 l0 l1 l2 l3 l4 l5 l6 l7 m0 m1 m2 m3 m4 m5 m6 m7 : Int) (a9 v1 v2 v3 v4 : Value) (hk : 1 ≤ kd ∧ kd ≤ 12) (q0 : l0 ≤ g0 ∧ g0 ≤ m0) (q1 : l1 ≤ g1 ∧ g1 ≤ m1) (q2 : l2 ≤ g2 ∧ g2 ≤ m2) (q3 : l3 ≤ g3 ∧ g3 ≤ m3) (q4 : l4 ≤ g4 ∧ g4 ≤ m4) (q5 : l5 ≤ g5 ∧ g5 ≤ m5) (q6 : l6 ≤ g6 ∧ g6 ≤ m6) (q7 : l7 ≤ g7 ∧ g7 ≤ m7)
    (hBd : ∀ w, Calls Try.prog 51 #[.agg #[.int .i64 kd, .int .i64 g0, .int .i64 g1, .int .i64 g2, .int .i64 g3, .int .i64 g4, .int .i64 g5, .int .i64 g6, .int .i64 g7, a9, v1, v2, v3, v4]] w fun e w' => e = .returned (.agg #[.int .i64 l0, .int .i64 m0, .int .i64 l1, .int .i64 m1, .int .i64 l2, .int .i64 m2, .int .i64 l3, .int .i64 m3, .int .i64 l4, .int .i64 m4, .int .i64 l5, .int .i64 m5, .int .i64 l6, .int .i64 m6, .int .i64 l7, .int .i64 m7]) ∧ Below w.heap.size w w')
    (hSl : ∀ w, Calls Try.prog 52 #[.agg #[.int .i64 kd, .int .i64 g0, .int .i64 g1, .int .i64 g2, .int .i64 g3, .int .i64 g4, .int .i64 g5, .int .i64 g6, .int .i64 g7, a9, v1, v2, v3, v4]] w fun e w' => e = .returned (.int .i64 0) ∧ Below w.heap.size w w') (w : World) :
    Calls Try.prog 43 #[.agg #[.int .i64 kd, .int .i64 g0, .int .i64 g1, .int .i64 g2, .int .i64 g3, .int .i64 g4, .int .i64 g5, .int .i64 g6, .int .i64 g7, a9, v1, v2, v3, v4]] w fun e w' => e = .returned (.int .i64 0) ∧ Below w.heap.size w w' := by
  have HBd : Hid _ := hBd
  have HSl : Hid _ := hSl
  have HKd : Hid (∀ x, Calls Try.prog 50 #[.int .i64 kd, .int .i64 1, .int .i64 12] x fun e w' => e = .returned (.bool true) ∧ w' = x) := fun x => by
    have := within_anyR kd 1 12 x
    rw [inB_true hk] at this
    exact this
  clear hBd hSl hk
  have X0 : Below w.heap.size w ((w.alloc (.cells #[.int .i64 kd, .int .i64 g0, .int .i64 g1, .int .i64 g2, .int .i64 g3, .int .i64 g4, .int .i64 g5, .int .i64 g6, .int .i64 g7, a9, v1, v2, v3, v4] 55)).alloc (.cells #[.int .i64 g0, .int .i64 g1, .int .i64 g2, .int .i64 g3, .int .i64 g4, .int .i64 g5, .int .i64 g6, .int .i64 g7] 103)) := ((Below.refl _ w).alloc (Nat.le_refl _) _).alloc (by simp only [alloc_size]; omega) _
  go_enter Try.func43, Try.ntmps43
  go_wp2_with (first
    | (go_at_call 50; refine Calls.mono (HKd.out _) ?_; rintro e w2 ⟨rfl, rfl⟩))
  refine Calls.mono (HBd.out _) ?_
  rintro e w1 ⟨rfl, hb⟩
  have B1 : Hid (Below w.heap.size w w1) := to_call X0 hb
  have k0 := kept hb (alloc_kept (heap_alloc_new w _) _)
  have k1 := kept hb (heap_at _ _ (w.heap.size + 1) (by simp only [alloc_size]))
  have hsz := blk_lt k1
  clear hb X0 HBd HKd
  go_wp2_with fail
  go_loopg [5] 8 (fun g v wx => ∃ i : Nat, v = .int .i64 i ∧ i + g = 8 ∧ Hid (Below w.heap.size w wx) ∧ Hid (wx.heap[w.heap.size]? = some (.cells #[.int .i64 kd, .int .i64 g0, .int .i64 g1, .int .i64 g2, .int .i64 g3, .int .i64 g4, .int .i64 g5, .int .i64 g6, .int .i64 g7, a9, v1, v2, v3, v4] 55) ∧ wx.heap[w.heap.size + 1]? = some (.cells #[.int .i64 g0, .int .i64 g1, .int .i64 g2, .int .i64 g3, .int .i64 g4, .int .i64 g5, .int .i64 g6, .int .i64 g7] 103) ∧ wx.heap[w1.heap.size]? = some (.cells #[.int .i64 l0, .int .i64 m0, .int .i64 l1, .int .i64 m1, .int .i64 l2, .int .i64 m2, .int .i64 l3, .int .i64 m3, .int .i64 l4, .int .i64 m4, .int .i64 l5, .int .i64 m5, .int .i64 l6, .int .i64 m6, .int .i64 l7, .int .i64 m7] 105)))
  case atStart => exact ⟨0, rfl, by omega, B1.out.alloc B1.out.size _, alloc_kept k0 _, alloc_kept k1 _, heap_alloc_new w1 _⟩
  case round =>
    obtain ⟨i, rfl, hi, HB, HK⟩ := hrel
    obtain rfl | rfl | rfl | rfl | rfl | rfl | rfl | rfl | rfl : i = 0 ∨ i = 1 ∨ i = 2 ∨ i = 3 ∨ i = 4 ∨ i = 5 ∨ i = 6 ∨ i = 7 ∨ i = 8 := by omega
    · have c0 := cellOf (W := wr.drew) HK.out.2.1 0 (.int .i64 g0) rfl
      have c1 := cellOf (W := wr.drew) HK.out.2.2 0 (.int .i64 l0) rfl
      have c2 := cellOf (W := wr.drew) HK.out.2.2 1 (.int .i64 m0) rfl
      have HH : Hid (∀ x, Calls Try.prog 50 #[.int .i64 g0, .int .i64 l0, .int .i64 m0] x fun e w' => e = .returned (.bool true) ∧ w' = x) := fun x => by
        have := within_anyR g0 l0 m0 x
        rw [inB_true q0] at this
        exact this
      clear q0 q1 q2 q3 q4 q5 q6 q7
      go_upto_region 8 with fail
      go_region_held3 (fun w' => w'.cell? ⟨w.heap.size + 1, 0, none⟩ = some (.int .i64 g0) ∧ w'.cell? ⟨w1.heap.size, 0, none⟩ = some (.int .i64 l0) ∧ w'.cell? ⟨w1.heap.size, 1, none⟩ = some (.int .i64 m0)) (go_keep) (first | (go_at_call 50; refine Calls.mono (HH.out _) ?_; rintro e w2 ⟨rfl, rfl⟩))
      go_wp2
      go_roundg 7
      case measure => omega
      case rel => exact ⟨1, rfl, by omega, HB.out.drew, HK.out.1, HK.out.2.1, HK.out.2.2⟩
    · have c0 := cellOf (W := wr.drew) HK.out.2.1 1 (.int .i64 g1) rfl
      have c1 := cellOf (W := wr.drew) HK.out.2.2 2 (.int .i64 l1) rfl
      have c2 := cellOf (W := wr.drew) HK.out.2.2 3 (.int .i64 m1) rfl
      have HH : Hid (∀ x, Calls Try.prog 50 #[.int .i64 g1, .int .i64 l1, .int .i64 m1] x fun e w' => e = .returned (.bool true) ∧ w' = x) := fun x => by
        have := within_anyR g1 l1 m1 x
        rw [inB_true q1] at this
        exact this
      clear q0 q1 q2 q3 q4 q5 q6 q7
      go_upto_region 8 with fail
      go_region_held3 (fun w' => w'.cell? ⟨w.heap.size + 1, 1, none⟩ = some (.int .i64 g1) ∧ w'.cell? ⟨w1.heap.size, 2, none⟩ = some (.int .i64 l1) ∧ w'.cell? ⟨w1.heap.size, 3, none⟩ = some (.int .i64 m1)) (go_keep) (first | (go_at_call 50; refine Calls.mono (HH.out _) ?_; rintro e w2 ⟨rfl, rfl⟩))
      go_wp2
      go_roundg 6
      case measure => omega
      case rel => exact ⟨2, rfl, by omega, HB.out.drew, HK.out.1, HK.out.2.1, HK.out.2.2⟩
    · have c0 := cellOf (W := wr.drew) HK.out.2.1 2 (.int .i64 g2) rfl
      have c1 := cellOf (W := wr.drew) HK.out.2.2 4 (.int .i64 l2) rfl
      have c2 := cellOf (W := wr.drew) HK.out.2.2 5 (.int .i64 m2) rfl
      have HH : Hid (∀ x, Calls Try.prog 50 #[.int .i64 g2, .int .i64 l2, .int .i64 m2] x fun e w' => e = .returned (.bool true) ∧ w' = x) := fun x => by
        have := within_anyR g2 l2 m2 x
        rw [inB_true q2] at this
        exact this
      clear q0 q1 q2 q3 q4 q5 q6 q7
      go_upto_region 8 with fail
      go_region_held3 (fun w' => w'.cell? ⟨w.heap.size + 1, 2, none⟩ = some (.int .i64 g2) ∧ w'.cell? ⟨w1.heap.size, 4, none⟩ = some (.int .i64 l2) ∧ w'.cell? ⟨w1.heap.size, 5, none⟩ = some (.int .i64 m2)) (go_keep) (first | (go_at_call 50; refine Calls.mono (HH.out _) ?_; rintro e w2 ⟨rfl, rfl⟩))
      go_wp2
      go_roundg 5
      case measure => omega
      case rel => exact ⟨3, rfl, by omega, HB.out.drew, HK.out.1, HK.out.2.1, HK.out.2.2⟩
    · have c0 := cellOf (W := wr.drew) HK.out.2.1 3 (.int .i64 g3) rfl
      have c1 := cellOf (W := wr.drew) HK.out.2.2 6 (.int .i64 l3) rfl
      have c2 := cellOf (W := wr.drew) HK.out.2.2 7 (.int .i64 m3) rfl
      have HH : Hid (∀ x, Calls Try.prog 50 #[.int .i64 g3, .int .i64 l3, .int .i64 m3] x fun e w' => e = .returned (.bool true) ∧ w' = x) := fun x => by
        have := within_anyR g3 l3 m3 x
        rw [inB_true q3] at this
        exact this
      clear q0 q1 q2 q3 q4 q5 q6 q7
      go_upto_region 8 with fail
      go_region_held3 (fun w' => w'.cell? ⟨w.heap.size + 1, 3, none⟩ = some (.int .i64 g3) ∧ w'.cell? ⟨w1.heap.size, 6, none⟩ = some (.int .i64 l3) ∧ w'.cell? ⟨w1.heap.size, 7, none⟩ = some (.int .i64 m3)) (go_keep) (first | (go_at_call 50; refine Calls.mono (HH.out _) ?_; rintro e w2 ⟨rfl, rfl⟩))
      go_wp2
      go_roundg 4
      case measure => omega
      case rel => exact ⟨4, rfl, by omega, HB.out.drew, HK.out.1, HK.out.2.1, HK.out.2.2⟩
    · have c0 := cellOf (W := wr.drew) HK.out.2.1 4 (.int .i64 g4) rfl
      have c1 := cellOf (W := wr.drew) HK.out.2.2 8 (.int .i64 l4) rfl
      have c2 := cellOf (W := wr.drew) HK.out.2.2 9 (.int .i64 m4) rfl
      have HH : Hid (∀ x, Calls Try.prog 50 #[.int .i64 g4, .int .i64 l4, .int .i64 m4] x fun e w' => e = .returned (.bool true) ∧ w' = x) := fun x => by
        have := within_anyR g4 l4 m4 x
        rw [inB_true q4] at this
        exact this
      clear q0 q1 q2 q3 q4 q5 q6 q7
      go_upto_region 8 with fail
      go_region_held3 (fun w' => w'.cell? ⟨w.heap.size + 1, 4, none⟩ = some (.int .i64 g4) ∧ w'.cell? ⟨w1.heap.size, 8, none⟩ = some (.int .i64 l4) ∧ w'.cell? ⟨w1.heap.size, 9, none⟩ = some (.int .i64 m4)) (go_keep) (first | (go_at_call 50; refine Calls.mono (HH.out _) ?_; rintro e w2 ⟨rfl, rfl⟩))
      go_wp2
      go_roundg 3
      case measure => omega
      case rel => exact ⟨5, rfl, by omega, HB.out.drew, HK.out.1, HK.out.2.1, HK.out.2.2⟩
    · have c0 := cellOf (W := wr.drew) HK.out.2.1 5 (.int .i64 g5) rfl
      have c1 := cellOf (W := wr.drew) HK.out.2.2 10 (.int .i64 l5) rfl
      have c2 := cellOf (W := wr.drew) HK.out.2.2 11 (.int .i64 m5) rfl
      have HH : Hid (∀ x, Calls Try.prog 50 #[.int .i64 g5, .int .i64 l5, .int .i64 m5] x fun e w' => e = .returned (.bool true) ∧ w' = x) := fun x => by
        have := within_anyR g5 l5 m5 x
        rw [inB_true q5] at this
        exact this
      clear q0 q1 q2 q3 q4 q5 q6 q7
      go_upto_region 8 with fail
      go_region_held3 (fun w' => w'.cell? ⟨w.heap.size + 1, 5, none⟩ = some (.int .i64 g5) ∧ w'.cell? ⟨w1.heap.size, 10, none⟩ = some (.int .i64 l5) ∧ w'.cell? ⟨w1.heap.size, 11, none⟩ = some (.int .i64 m5)) (go_keep) (first | (go_at_call 50; refine Calls.mono (HH.out _) ?_; rintro e w2 ⟨rfl, rfl⟩))
      go_wp2
      go_roundg 2
      case measure => omega
      case rel => exact ⟨6, rfl, by omega, HB.out.drew, HK.out.1, HK.out.2.1, HK.out.2.2⟩
    · have c0 := cellOf (W := wr.drew) HK.out.2.1 6 (.int .i64 g6) rfl
      have c1 := cellOf (W := wr.drew) HK.out.2.2 12 (.int .i64 l6) rfl
      have c2 := cellOf (W := wr.drew) HK.out.2.2 13 (.int .i64 m6) rfl
      have HH : Hid (∀ x, Calls Try.prog 50 #[.int .i64 g6, .int .i64 l6, .int .i64 m6] x fun e w' => e = .returned (.bool true) ∧ w' = x) := fun x => by
        have := within_anyR g6 l6 m6 x
        rw [inB_true q6] at this
        exact this
      clear q0 q1 q2 q3 q4 q5 q6 q7
      go_upto_region 8 with fail
      go_region_held3 (fun w' => w'.cell? ⟨w.heap.size + 1, 6, none⟩ = some (.int .i64 g6) ∧ w'.cell? ⟨w1.heap.size, 12, none⟩ = some (.int .i64 l6) ∧ w'.cell? ⟨w1.heap.size, 13, none⟩ = some (.int .i64 m6)) (go_keep) (first | (go_at_call 50; refine Calls.mono (HH.out _) ?_; rintro e w2 ⟨rfl, rfl⟩))
      go_wp2
      go_roundg 1
      case measure => omega
      case rel => exact ⟨7, rfl, by omega, HB.out.drew, HK.out.1, HK.out.2.1, HK.out.2.2⟩
    · have c0 := cellOf (W := wr.drew) HK.out.2.1 7 (.int .i64 g7) rfl
      have c1 := cellOf (W := wr.drew) HK.out.2.2 14 (.int .i64 l7) rfl
      have c2 := cellOf (W := wr.drew) HK.out.2.2 15 (.int .i64 m7) rfl
      have HH : Hid (∀ x, Calls Try.prog 50 #[.int .i64 g7, .int .i64 l7, .int .i64 m7] x fun e w' => e = .returned (.bool true) ∧ w' = x) := fun x => by
        have := within_anyR g7 l7 m7 x
        rw [inB_true q7] at this
        exact this
      clear q0 q1 q2 q3 q4 q5 q6 q7
      go_upto_region 8 with fail
      go_region_held3 (fun w' => w'.cell? ⟨w.heap.size + 1, 7, none⟩ = some (.int .i64 g7) ∧ w'.cell? ⟨w1.heap.size, 14, none⟩ = some (.int .i64 l7) ∧ w'.cell? ⟨w1.heap.size, 15, none⟩ = some (.int .i64 m7)) (go_keep) (first | (go_at_call 50; refine Calls.mono (HH.out _) ?_; rintro e w2 ⟨rfl, rfl⟩))
      go_wp2
      go_roundg 0
      case measure => omega
      case rel => exact ⟨8, rfl, by omega, HB.out.drew, HK.out.1, HK.out.2.1, HK.out.2.2⟩
    · go_wp2_with (first
        | (refine wpList_load_row (by rfl) 55 _ (by rfl) w.heap.size _ (by rfl) HK.out.1 _ Try.underlying55 rfl 14 Try.infoRL (by rfl) ?_)
        | (go_at_call 52; refine Calls.mono (HSl.out _) ?_; rintro e w2 ⟨rfl, hb2⟩; have B2 : Hid (Below w.heap.size w w2) := to_call HB.out hb2; clear hb2))
      go_ret
      exact ⟨rfl, B2.out⟩
end Go.Proofs.Ytokglpemefkmjaa

namespace Go.Proofs.Ytokglpemefkmjaa
open Go.RowKit
set_option linter.unusedVariables false
set_option linter.unusedSimpArgs false
theorem Try.infoRLy : (Try.prog.info? 55).map (·.size) = some 14 := by kernel_rfl
set_option maxRecDepth 100000 in
theorem bitsNil (w : World) : Calls Try.prog 32 #[.slice none 0 0] w fun e w' => e = .returned (.slice none 0 0) ∧ w' = w := by
  go_enter Try.func32, Try.ntmps32
  go_wp2_with fail
  go_loopg [3, 4] 0 (fun g v u wx => v = .slice none 0 0 ∧ u = .int .i64 0 ∧ Hid (wx = w))
  case atStart => exact ⟨rfl, rfl, rfl⟩
  case round =>
    obtain ⟨rfl, rfl, hw⟩ := hrel
    go_wp2
    go_ret
    exact ⟨rfl, hw.out⟩
theorem ofL_alloc (w : World) : (Instr.alloc 55 true (.tuple #[])).run Try.prog w = .ok (.pointer (some ⟨w.heap.size, 0, none⟩)) (w.alloc (.cells #[.int .i64 0, .int .i64 0, .int .i64 0, .int .i64 0, .int .i64 0, .int .i64 0, .int .i64 0, .int .i64 0, .int .i64 0, .int .u64 0, .slice none 0 0, .slice none 0 0, .slice none 0 0, .slice none 0 0] 55)) := by kernel_rfl
theorem ofL_one (k0 g0 g1 g2 g3 g4 g5 g6 g7 : Int) : (#[.int .i64 k0, .int .i64 g0, .int .i64 g1, .int .i64 g2, .int .i64 g3, .int .i64 g4, .int .i64 g5, .int .i64 g6, .int .i64 g7, .int .u64 0, .slice none 0 0, .slice none 0 0, .slice none 0 0, .slice none 0 0] : Array Value).all (·.oneCell') = true := by
  simp only [Array.all_eq_true_iff_forall_mem]
  intro v hv
  simp only [List.mem_toArray, List.mem_cons, List.not_mem_nil, or_false] at hv
  rcases hv with rfl | rfl | rfl | rfl | rfl | rfl | rfl | rfl | rfl | rfl | rfl | rfl | rfl | rfl <;> rfl
theorem hopA {P : Program} {ops : Array Oper} {Q : Exit → Act → World → Prop} {i : Nat} {o : Oper} {K : Act → World → Prop} {a : Act} {w : World} (d : Nat) (ho : ops[i]? = some o) (hg : o.guard = none) (hd : o.dst = some d) (t : TypeId) (hop : o.op = .alloc t) (z : Array Value)
    (hz : ∀ w, (Instr.alloc t true (.tuple #[])).run P w = .ok (.pointer (some ⟨w.heap.size, 0, none⟩)) (w.alloc (.cells z t)))
    (h : ∀ D W', W'.heap[D]? = some (.cells z t) → w.heap.size ≤ D → Below w.heap.size w W' → K (a.put (some d) (.pointer (some ⟨D, 0, none⟩))) W') : wpOp P ops Q i K a w :=
  hopV d ho hg hd (ex_alloc _ t hop _ _ _ (hz w)) (h _ _ (heap_alloc_new w _) (Nat.le_refl _) ((Below.refl _ w).alloc (Nat.le_refl _) _))
set_option maxRecDepth 100000 in
set_option maxHeartbeats 4000000 in
theorem ofLayer_nil (k0 g0 g1 g2 g3 g4 g5 g6 g7 : Int) (w : World) :
    Calls Try.prog 17 #[.agg #[.int .i64 k0, .int .i64 g0, .int .i64 g1, .int .i64 g2, .int .i64 g3, .int .i64 g4, .int .i64 g5, .int .i64 g6, .int .i64 g7, .float .f64 0, .slice none 0 0, .slice none 0 0, .slice none 0 0, .slice none 0 0]] w fun e w' => e = .returned (.agg #[.int .i64 k0, .int .i64 g0, .int .i64 g1, .int .i64 g2, .int .i64 g3, .int .i64 g4, .int .i64 g5, .int .i64 g6, .int .i64 g7, .int .u64 0, .slice none 0 0, .slice none 0 0, .slice none 0 0, .slice none 0 0]) ∧ Below w.heap.size w w' := by
  have X0 : Below w.heap.size w ((w.alloc (.cells #[.int .i64 k0, .int .i64 g0, .int .i64 g1, .int .i64 g2, .int .i64 g3, .int .i64 g4, .int .i64 g5, .int .i64 g6, .int .i64 g7, .float .f64 0, .slice none 0 0, .slice none 0 0, .slice none 0 0, .slice none 0 0] 30)).alloc (.cells #[.int .i64 0, .int .i64 0, .int .i64 0, .int .i64 0, .int .i64 0, .int .i64 0, .int .i64 0, .int .i64 0, .int .i64 0, .int .u64 0, .slice none 0 0, .slice none 0 0, .slice none 0 0, .slice none 0 0] 55)) := ((Below.refl _ w).alloc (Nat.le_refl _) _).alloc (by simp only [alloc_size]; omega) _
  have Y0 : ((w.alloc (.cells #[.int .i64 k0, .int .i64 g0, .int .i64 g1, .int .i64 g2, .int .i64 g3, .int .i64 g4, .int .i64 g5, .int .i64 g6, .int .i64 g7, .float .f64 0, .slice none 0 0, .slice none 0 0, .slice none 0 0, .slice none 0 0] 30)).alloc (.cells #[.int .i64 0, .int .i64 0, .int .i64 0, .int .i64 0, .int .i64 0, .int .i64 0, .int .i64 0, .int .i64 0, .int .i64 0, .int .u64 0, .slice none 0 0, .slice none 0 0, .slice none 0 0, .slice none 0 0] 55)).heap[w.heap.size]? = _ := alloc_kept (heap_alloc_new w _) _
  have Y1 : ((w.alloc (.cells #[.int .i64 k0, .int .i64 g0, .int .i64 g1, .int .i64 g2, .int .i64 g3, .int .i64 g4, .int .i64 g5, .int .i64 g6, .int .i64 g7, .float .f64 0, .slice none 0 0, .slice none 0 0, .slice none 0 0, .slice none 0 0] 30)).alloc (.cells #[.int .i64 0, .int .i64 0, .int .i64 0, .int .i64 0, .int .i64 0, .int .i64 0, .int .i64 0, .int .i64 0, .int .i64 0, .int .u64 0, .slice none 0 0, .slice none 0 0, .slice none 0 0, .slice none 0 0] 55)).heap[w.heap.size + 1]? = _ := heap_at _ _ (w.heap.size + 1) (by simp only [alloc_size])
  go_enter Try.func17, Try.ntmps17
  go_upto_region 1 with fail
  obtain ⟨X, hX⟩ : ∃ X, ((w.alloc (.cells #[.int .i64 k0, .int .i64 g0, .int .i64 g1, .int .i64 g2, .int .i64 g3, .int .i64 g4, .int .i64 g5, .int .i64 g6, .int .i64 g7, .float .f64 0, .slice none 0 0, .slice none 0 0, .slice none 0 0, .slice none 0 0] 30)).alloc (.cells #[.int .i64 0, .int .i64 0, .int .i64 0, .int .i64 0, .int .i64 0, .int .i64 0, .int .i64 0, .int .i64 0, .int .i64 0, .int .u64 0, .slice none 0 0, .slice none 0 0, .slice none 0 0, .slice none 0 0] 55)) = X := ⟨_, rfl⟩
  rw [hX] at X0 Y0 Y1 ⊢
  clear hX
  have HX : Hid (Below w.heap.size w X ∧ X.heap[w.heap.size]? = _ ∧ X.heap[w.heap.size + 1]? = _ ∧ w.heap.size < X.heap.size ∧ w.heap.size + 1 < X.heap.size) := ⟨X0, Y0, Y1, blk_lt Y0, blk_lt Y1⟩
  clear X0 Y0 Y1
  go_cut [3] (fun v wx => ∃ D, v = .pointer (some ⟨D, 0, none⟩) ∧ Hid (wx.heap[D]? = some (.cells #[.int .i64 k0, .int .i64 g0, .int .i64 g1, .int .i64 g2, .int .i64 g3, .int .i64 g4, .int .i64 g5, .int .i64 g6, .int .i64 g7, .int .u64 0, .slice none 0 0, .slice none 0 0, .slice none 0 0, .slice none 0 0] 55)) ∧ Hid (Below w.heap.size w wx) ∧ Hid (wx.heap[w.heap.size]? = some (.cells #[.int .i64 k0, .int .i64 g0, .int .i64 g1, .int .i64 g2, .int .i64 g3, .int .i64 g4, .int .i64 g5, .int .i64 g6, .int .i64 g7, .float .f64 0, .slice none 0 0, .slice none 0 0, .slice none 0 0, .slice none 0 0] 30) ∧ wx.heap[w.heap.size + 1]? = some (.cells #[.int .i64 0, .int .i64 0, .int .i64 0, .int .i64 0, .int .i64 0, .int .i64 0, .int .i64 0, .int .i64 0, .int .i64 0, .int .u64 0, .slice none 0 0, .slice none 0 0, .slice none 0 0, .slice none 0 0] 55)) ∧ w.heap.size + 1 < D)
  case first =>
    have bX : Below X.heap.size X X.drew := (Below.refl _ _).drew
    refine wp_region_noPanic ?_
    refine wp_region_held_drew (S := (fun W' => Below X.heap.size X W')) (by kernel_rfl) bX (fun _ => ?_)
    refine takeH 10 (i := 0) (v := ?_) rfl rfl (by kernel_rfl) (by kernel_rfl) (by kernel_rfl) (fun _ _ _ h => h) (Or.inl ⟨by kernel_rfl, ?_⟩) bX ?_
    rotate_left
    · intro w' hSw; obtain ⟨c0, c1, c2, c3, c4, c5, c6, c7, c8, c9, c10, c11, c12, c13⟩ := cells14 ((hSw.block _ HX.out.2.2.2.1).trans HX.out.2.1); go_simp; try with_reducible rfl
    try simp only [Act.put, List.setIfInBounds_toArray, List.set_cons_zero, List.set_cons_succ]
    refine takeH 11 (i := 1) (v := ?_) rfl rfl (by kernel_rfl) (by kernel_rfl) (by kernel_rfl) (fun _ _ _ h => h) (Or.inl ⟨by kernel_rfl, ?_⟩) bX ?_
    rotate_left
    · intro w' hSw; obtain ⟨c0, c1, c2, c3, c4, c5, c6, c7, c8, c9, c10, c11, c12, c13⟩ := cells14 ((hSw.block _ HX.out.2.2.2.1).trans HX.out.2.1); go_simp; try with_reducible rfl
    try simp only [Act.put, List.setIfInBounds_toArray, List.set_cons_zero, List.set_cons_succ]
    refine takeH 12 (i := 2) (v := ?_) rfl rfl (by kernel_rfl) (by kernel_rfl) (by kernel_rfl) (fun _ _ _ h => h) (Or.inl ⟨by kernel_rfl, ?_⟩) bX ?_
    rotate_left
    · intro w' hSw; obtain ⟨c0, c1, c2, c3, c4, c5, c6, c7, c8, c9, c10, c11, c12, c13⟩ := cells14 ((hSw.block _ HX.out.2.2.2.1).trans HX.out.2.1); go_simp; try with_reducible rfl
    try simp only [Act.put, List.setIfInBounds_toArray, List.set_cons_zero, List.set_cons_succ]
    refine takeH 13 (i := 3) (v := ?_) rfl rfl (by kernel_rfl) (by kernel_rfl) (by kernel_rfl) (fun _ _ _ h => h) (Or.inl ⟨by kernel_rfl, ?_⟩) bX ?_
    rotate_left
    · intro w' hSw; obtain ⟨c0, c1, c2, c3, c4, c5, c6, c7, c8, c9, c10, c11, c12, c13⟩ := cells14 ((hSw.block _ HX.out.2.2.2.1).trans HX.out.2.1); go_simp; try with_reducible rfl
    try simp only [Act.put, List.setIfInBounds_toArray, List.set_cons_zero, List.set_cons_succ]
    refine takeH 14 (i := 4) (v := ?_) rfl rfl (by kernel_rfl) (by kernel_rfl) (by kernel_rfl) (fun _ _ _ h => h) (Or.inl ⟨by kernel_rfl, ?_⟩) bX ?_
    rotate_left
    · intro w' hSw; obtain ⟨c0, c1, c2, c3, c4, c5, c6, c7, c8, c9, c10, c11, c12, c13⟩ := cells14 ((hSw.block _ HX.out.2.2.2.1).trans HX.out.2.1); go_simp; try with_reducible rfl
    try simp only [Act.put, List.setIfInBounds_toArray, List.set_cons_zero, List.set_cons_succ]
    refine takeH 15 (i := 5) (v := ?_) rfl rfl (by kernel_rfl) (by kernel_rfl) (by kernel_rfl) (fun _ _ _ h => h) (Or.inl ⟨by kernel_rfl, ?_⟩) bX ?_
    rotate_left
    · intro w' hSw; obtain ⟨c0, c1, c2, c3, c4, c5, c6, c7, c8, c9, c10, c11, c12, c13⟩ := cells14 ((hSw.block _ HX.out.2.2.2.1).trans HX.out.2.1); go_simp; try with_reducible rfl
    try simp only [Act.put, List.setIfInBounds_toArray, List.set_cons_zero, List.set_cons_succ]
    refine takeH 16 (i := 6) (v := ?_) rfl rfl (by kernel_rfl) (by kernel_rfl) (by kernel_rfl) (fun _ _ _ h => h) (Or.inl ⟨by kernel_rfl, ?_⟩) bX ?_
    rotate_left
    · intro w' hSw; obtain ⟨c0, c1, c2, c3, c4, c5, c6, c7, c8, c9, c10, c11, c12, c13⟩ := cells14 ((hSw.block _ HX.out.2.2.2.1).trans HX.out.2.1); go_simp; try with_reducible rfl
    try simp only [Act.put, List.setIfInBounds_toArray, List.set_cons_zero, List.set_cons_succ]
    refine takeH 17 (i := 7) (v := ?_) rfl rfl (by kernel_rfl) (by kernel_rfl) (by kernel_rfl) (fun _ _ _ h => h) (Or.inl ⟨by kernel_rfl, ?_⟩) bX ?_
    rotate_left
    · intro w' hSw; obtain ⟨c0, c1, c2, c3, c4, c5, c6, c7, c8, c9, c10, c11, c12, c13⟩ := cells14 ((hSw.block _ HX.out.2.2.2.1).trans HX.out.2.1); go_simp; try with_reducible rfl
    try simp only [Act.put, List.setIfInBounds_toArray, List.set_cons_zero, List.set_cons_succ]
    refine takeH 18 (i := 8) (v := ?_) rfl rfl (by kernel_rfl) (by kernel_rfl) (by kernel_rfl) (fun _ _ _ h => h) (Or.inl ⟨by kernel_rfl, ?_⟩) bX ?_
    rotate_left
    · intro w' hSw; obtain ⟨c0, c1, c2, c3, c4, c5, c6, c7, c8, c9, c10, c11, c12, c13⟩ := cells14 ((hSw.block _ HX.out.2.2.2.1).trans HX.out.2.1); go_simp; try with_reducible rfl
    try simp only [Act.put, List.setIfInBounds_toArray, List.set_cons_zero, List.set_cons_succ]
    refine takeH 19 (i := 9) (v := ?_) rfl rfl (by kernel_rfl) (by kernel_rfl) (by kernel_rfl) (fun _ _ _ h => h) (Or.inl ⟨by kernel_rfl, ?_⟩) bX ?_
    rotate_left
    · intro w' hSw; obtain ⟨c0, c1, c2, c3, c4, c5, c6, c7, c8, c9, c10, c11, c12, c13⟩ := cells14 ((hSw.block _ HX.out.2.2.2.1).trans HX.out.2.1); go_simp; try with_reducible rfl
    try simp only [Act.put, List.setIfInBounds_toArray, List.set_cons_zero, List.set_cons_succ]
    refine takeH 20 (i := 10) (v := ?_) rfl rfl (by kernel_rfl) (by kernel_rfl) (by kernel_rfl) (fun _ _ _ h => h) (Or.inl ⟨by kernel_rfl, ?_⟩) bX ?_
    rotate_left
    · intro w' hSw; obtain ⟨c0, c1, c2, c3, c4, c5, c6, c7, c8, c9, c10, c11, c12, c13⟩ := cells14 ((hSw.block _ HX.out.2.2.2.1).trans HX.out.2.1); go_simp; try with_reducible rfl
    try simp only [Act.put, List.setIfInBounds_toArray, List.set_cons_zero, List.set_cons_succ]
    refine takeH 21 (i := 11) (v := ?_) rfl rfl (by kernel_rfl) (by kernel_rfl) (by kernel_rfl) (fun _ _ _ h => h) (Or.inl ⟨by kernel_rfl, ?_⟩) bX ?_
    rotate_left
    · intro w' hSw; obtain ⟨c0, c1, c2, c3, c4, c5, c6, c7, c8, c9, c10, c11, c12, c13⟩ := cells14 ((hSw.block _ HX.out.2.2.2.1).trans HX.out.2.1); go_simp; try with_reducible rfl
    try simp only [Act.put, List.setIfInBounds_toArray, List.set_cons_zero, List.set_cons_succ]
    refine takeH 22 (i := 12) (v := ?_) rfl rfl (by kernel_rfl) (by kernel_rfl) (by kernel_rfl) (fun _ _ _ h => h) (Or.inl ⟨by kernel_rfl, ?_⟩) bX ?_
    rotate_left
    · intro w' hSw; obtain ⟨c0, c1, c2, c3, c4, c5, c6, c7, c8, c9, c10, c11, c12, c13⟩ := cells14 ((hSw.block _ HX.out.2.2.2.1).trans HX.out.2.1); go_simp; try with_reducible rfl
    try simp only [Act.put, List.setIfInBounds_toArray, List.set_cons_zero, List.set_cons_succ]
    refine takeH 23 (i := 13) (v := ?_) rfl rfl (by kernel_rfl) (by kernel_rfl) (by kernel_rfl) (fun _ _ _ h => h) (Or.inl ⟨by kernel_rfl, ?_⟩) bX ?_
    rotate_left
    · intro w' hSw; obtain ⟨c0, c1, c2, c3, c4, c5, c6, c7, c8, c9, c10, c11, c12, c13⟩ := cells14 ((hSw.block _ HX.out.2.2.2.1).trans HX.out.2.1); go_simp; try with_reducible rfl
    try simp only [Act.put, List.setIfInBounds_toArray, List.set_cons_zero, List.set_cons_succ]
    refine takeH 24 (i := 14) (v := ?_) rfl rfl (by kernel_rfl) (by kernel_rfl) (by kernel_rfl) (fun _ _ _ h => h) (Or.inl ⟨by kernel_rfl, ?_⟩) bX ?_
    rotate_left
    · intro w' hSw; obtain ⟨c0, c1, c2, c3, c4, c5, c6, c7, c8, c9, c10, c11, c12, c13⟩ := cells14 ((hSw.block _ HX.out.2.2.2.1).trans HX.out.2.1); go_simp; try with_reducible rfl
    try simp only [Act.put, List.setIfInBounds_toArray, List.set_cons_zero, List.set_cons_succ]
    refine takeH 25 (i := 15) (v := ?_) rfl rfl (by kernel_rfl) (by kernel_rfl) (by kernel_rfl) (fun _ _ _ h => h) (Or.inl ⟨by kernel_rfl, ?_⟩) bX ?_
    rotate_left
    · intro w' hSw; obtain ⟨c0, c1, c2, c3, c4, c5, c6, c7, c8, c9, c10, c11, c12, c13⟩ := cells14 ((hSw.block _ HX.out.2.2.2.1).trans HX.out.2.1); go_simp; try with_reducible rfl
    try simp only [Act.put, List.setIfInBounds_toArray, List.set_cons_zero, List.set_cons_succ]
    refine takeH 26 (i := 16) (v := ?_) rfl rfl (by kernel_rfl) (by kernel_rfl) (by kernel_rfl) (fun _ _ _ h => h) (Or.inl ⟨by kernel_rfl, ?_⟩) bX ?_
    rotate_left
    · intro w' hSw; obtain ⟨c0, c1, c2, c3, c4, c5, c6, c7, c8, c9, c10, c11, c12, c13⟩ := cells14 ((hSw.block _ HX.out.2.2.2.1).trans HX.out.2.1); go_simp; try with_reducible rfl
    try simp only [Act.put, List.setIfInBounds_toArray, List.set_cons_zero, List.set_cons_succ]
    refine takeH 27 (i := 17) (v := ?_) rfl rfl (by kernel_rfl) (by kernel_rfl) (by kernel_rfl) (fun _ _ _ h => h) (Or.inl ⟨by kernel_rfl, ?_⟩) bX ?_
    rotate_left
    · intro w' hSw; obtain ⟨c0, c1, c2, c3, c4, c5, c6, c7, c8, c9, c10, c11, c12, c13⟩ := cells14 ((hSw.block _ HX.out.2.2.2.1).trans HX.out.2.1); go_simp; try with_reducible rfl
    try simp only [Act.put, List.setIfInBounds_toArray, List.set_cons_zero, List.set_cons_succ]
    refine takeH 28 (i := 18) (v := ?_) rfl rfl (by kernel_rfl) (by kernel_rfl) (by kernel_rfl) (fun _ _ _ h => h) (Or.inl ⟨by kernel_rfl, ?_⟩) bX ?_
    rotate_left
    · intro w' hSw; obtain ⟨c0, c1, c2, c3, c4, c5, c6, c7, c8, c9, c10, c11, c12, c13⟩ := cells14 ((hSw.block _ HX.out.2.2.2.1).trans HX.out.2.1); go_simp; try with_reducible rfl
    try simp only [Act.put, List.setIfInBounds_toArray, List.set_cons_zero, List.set_cons_succ]
    refine takeH 29 (i := 19) (v := ?_) rfl rfl (by kernel_rfl) (by kernel_rfl) (by kernel_rfl) (fun _ _ _ h => h) (Or.inl ⟨by kernel_rfl, ?_⟩) bX ?_
    rotate_left
    · intro w' hSw; obtain ⟨c0, c1, c2, c3, c4, c5, c6, c7, c8, c9, c10, c11, c12, c13⟩ := cells14 ((hSw.block _ HX.out.2.2.2.1).trans HX.out.2.1); go_simp; try with_reducible rfl
    try simp only [Act.put, List.setIfInBounds_toArray, List.set_cons_zero, List.set_cons_succ]
    refine takeH 31 (i := 21) (v := ?_) rfl rfl (by kernel_rfl) (by kernel_rfl) (by kernel_rfl) (fun _ _ _ h => h) (Or.inl ⟨by kernel_rfl, ?_⟩) bX ?_
    rotate_left
    · intro w' hSw; obtain ⟨c0, c1, c2, c3, c4, c5, c6, c7, c8, c9, c10, c11, c12, c13⟩ := cells14 ((hSw.block _ HX.out.2.2.2.1).trans HX.out.2.1); go_simp; try with_reducible rfl
    try simp only [Act.put, List.setIfInBounds_toArray, List.set_cons_zero, List.set_cons_succ]
    refine takeH 32 (i := 22) (v := ?_) rfl rfl (by kernel_rfl) (by kernel_rfl) (by kernel_rfl) (fun _ _ _ h => h) (Or.inl ⟨by kernel_rfl, ?_⟩) bX ?_
    rotate_left
    · intro w' hSw; obtain ⟨c0, c1, c2, c3, c4, c5, c6, c7, c8, c9, c10, c11, c12, c13⟩ := cells14 ((hSw.block _ HX.out.2.2.2.1).trans HX.out.2.1); go_simp; try with_reducible rfl
    try simp only [Act.put, List.setIfInBounds_toArray, List.set_cons_zero, List.set_cons_succ]
    refine takeH 34 (i := 24) (v := ?_) rfl rfl (by kernel_rfl) (by kernel_rfl) (by kernel_rfl) (fun _ _ _ h => h) (Or.inl ⟨by kernel_rfl, ?_⟩) bX ?_
    rotate_left
    · intro w' hSw; obtain ⟨c0, c1, c2, c3, c4, c5, c6, c7, c8, c9, c10, c11, c12, c13⟩ := cells14 ((hSw.block _ HX.out.2.2.2.1).trans HX.out.2.1); go_simp; try with_reducible rfl
    try simp only [Act.put, List.setIfInBounds_toArray, List.set_cons_zero, List.set_cons_succ]
    refine takeH 35 (i := 25) (v := ?_) rfl rfl (by kernel_rfl) (by kernel_rfl) (by kernel_rfl) (fun _ _ _ h => h) (Or.inl ⟨by kernel_rfl, ?_⟩) bX ?_
    rotate_left
    · intro w' hSw; obtain ⟨c0, c1, c2, c3, c4, c5, c6, c7, c8, c9, c10, c11, c12, c13⟩ := cells14 ((hSw.block _ HX.out.2.2.2.1).trans HX.out.2.1); go_simp; try with_reducible rfl
    try simp only [Act.put, List.setIfInBounds_toArray, List.set_cons_zero, List.set_cons_succ]
    refine wpAnyH_ready (rs := [20, 28]) (by kernel_rfl) (by simp) ?_
    refine consH _ rfl ?_ (consH _ rfl ?_ AllReadyH.nil)
    · refine hopCd 30 rfl (by kernel_rfl) rfl (by kernel_rfl) (Calls.mono (bits_any 0 _) ?_)
      rintro e m20 ⟨rfl, hw20⟩
      subst hw20
      refine ⟨_, rfl, bX, ?_⟩
      try simp only [Act.put, List.setIfInBounds_toArray, List.set_cons_zero, List.set_cons_succ]
      refine wpAnyH_ready (rs := [23, 28]) (by kernel_rfl) (by simp) ?_
      refine consH _ rfl ?_ (consH _ rfl ?_ AllReadyH.nil)
      · refine hopCd 33 rfl (by kernel_rfl) rfl (by kernel_rfl) (Calls.mono (bitsNil _) ?_)
        rintro e m23 ⟨rfl, hw23⟩
        subst hw23
        refine ⟨_, rfl, bX, ?_⟩
        try simp only [Act.put, List.setIfInBounds_toArray, List.set_cons_zero, List.set_cons_succ]
        refine wpAnyH_ready (rs := [26, 28]) (by kernel_rfl) (by simp) ?_
        refine consH _ rfl ?_ (consH _ rfl ?_ AllReadyH.nil)
        · refine hopCd 36 rfl (by kernel_rfl) rfl (by kernel_rfl) (Calls.mono (bitsNil _) ?_)
          rintro e m26 ⟨rfl, hw26⟩
          subst hw26
          refine ⟨_, rfl, bX, ?_⟩
          try simp only [Act.put, List.setIfInBounds_toArray, List.set_cons_zero, List.set_cons_succ]
          refine takeH 37 (i := 27) (v := ?_) rfl rfl (by kernel_rfl) (by kernel_rfl) (by kernel_rfl) (fun _ _ _ h => h) (Or.inl ⟨by kernel_rfl, ?_⟩) bX ?_
          rotate_left
          · intro w' hSw; (try dsimp only at hSw); go_simp; try with_reducible rfl
          try simp only [Act.put, List.setIfInBounds_toArray, List.set_cons_zero, List.set_cons_succ]
          refine wpAnyH_ready (rs := [28]) (by kernel_rfl) (by simp) ?_
          refine consH _ rfl ?_ AllReadyH.nil
          · refine hopA 3 rfl rfl rfl 55 rfl #[.int .i64 0, .int .i64 0, .int .i64 0, .int .i64 0, .int .i64 0, .int .i64 0, .int .i64 0, .int .i64 0, .int .i64 0, .int .u64 0, .slice none 0 0, .slice none 0 0, .slice none 0 0, .slice none 0 0] ofL_alloc fun D W' hD hDw bD => ?_
            have bW' : Below X.heap.size X W' := bX.trans (bD.mono bX.size)
            have hDX : X.heap.size ≤ D := Nat.le_trans bX.size hDw
            refine ⟨bW', ?_⟩
            try simp only [Act.put, List.setIfInBounds_toArray, List.set_cons_zero, List.set_cons_succ]
            refine wpAnyH_ready (rs := [29]) (by kernel_rfl) (by simp) ?_
            refine consH _ rfl (hopL rfl (wpList_store_row (by rfl) 55 _ _ (by rfl) X X.heap.size D #[.int .i64 k0, .int .i64 g0, .int .i64 g1, .int .i64 g2, .int .i64 g3, .int .i64 g4, .int .i64 g5, .int .i64 g6, .int .i64 g7, .int .u64 0, .slice none 0 0, .slice none 0 0, .slice none 0 0, .slice none 0 0] _ (by kernel_rfl) (by kernel_rfl) hD bW' hDX 14 Try.infoRLy (by rfl) (by rfl) (ofL_one ..) fun W9 e9 b9 hs9 ho9 => ?_)) AllReadyH.nil
            refine (And.intro b9 ?_ : _ ∧ _)
            try simp only [Act.put, List.setIfInBounds_toArray, List.set_cons_zero, List.set_cons_succ]
            refine wpAnyH_done (by kernel_rfl) ?_ _
            refine NoPanic.normal ?_
            try simp only [Act.put, List.setIfInBounds_toArray, List.set_cons_zero, List.set_cons_succ]
            go_wp2_with fail
            go_meet
            exact ⟨D, rfl, e9, HX.out.1.trans (b9.mono HX.out.1.size), ⟨(b9.block _ HX.out.2.2.2.1).trans HX.out.2.1, (b9.block _ HX.out.2.2.2.2).trans HX.out.2.2.1⟩, Nat.lt_of_lt_of_le HX.out.2.2.2.2 hDX⟩
        · refine hopA 3 rfl rfl rfl 55 rfl #[.int .i64 0, .int .i64 0, .int .i64 0, .int .i64 0, .int .i64 0, .int .i64 0, .int .i64 0, .int .i64 0, .int .i64 0, .int .u64 0, .slice none 0 0, .slice none 0 0, .slice none 0 0, .slice none 0 0] ofL_alloc fun D W' hD hDw bD => ?_
          have bW' : Below X.heap.size X W' := bX.trans (bD.mono bX.size)
          have hDX : X.heap.size ≤ D := Nat.le_trans bX.size hDw
          refine ⟨bW', ?_⟩
          try simp only [Act.put, List.setIfInBounds_toArray, List.set_cons_zero, List.set_cons_succ]
          refine wpAnyH_ready (rs := [26]) (by kernel_rfl) (by simp) ?_
          refine consH _ rfl ?_ AllReadyH.nil
          · refine hopCd 36 rfl (by kernel_rfl) rfl (by kernel_rfl) (Calls.mono (bitsNil _) ?_)
            rintro e m26 ⟨rfl, hw26⟩
            subst hw26
            refine ⟨_, rfl, bW', ?_⟩
            try simp only [Act.put, List.setIfInBounds_toArray, List.set_cons_zero, List.set_cons_succ]
            refine takeH 37 (i := 27) (v := ?_) rfl rfl (by kernel_rfl) (by kernel_rfl) (by kernel_rfl) (fun _ _ _ h => h) (Or.inl ⟨by kernel_rfl, ?_⟩) bW' ?_
            rotate_left
            · intro w' hSw; (try dsimp only at hSw); go_simp; try with_reducible rfl
            try simp only [Act.put, List.setIfInBounds_toArray, List.set_cons_zero, List.set_cons_succ]
            refine wpAnyH_ready (rs := [29]) (by kernel_rfl) (by simp) ?_
            refine consH _ rfl (hopL rfl (wpList_store_row (by rfl) 55 _ _ (by rfl) X X.heap.size D #[.int .i64 k0, .int .i64 g0, .int .i64 g1, .int .i64 g2, .int .i64 g3, .int .i64 g4, .int .i64 g5, .int .i64 g6, .int .i64 g7, .int .u64 0, .slice none 0 0, .slice none 0 0, .slice none 0 0, .slice none 0 0] _ (by kernel_rfl) (by kernel_rfl) hD bW' hDX 14 Try.infoRLy (by rfl) (by rfl) (ofL_one ..) fun W9 e9 b9 hs9 ho9 => ?_)) AllReadyH.nil
            refine (And.intro b9 ?_ : _ ∧ _)
            try simp only [Act.put, List.setIfInBounds_toArray, List.set_cons_zero, List.set_cons_succ]
            refine wpAnyH_done (by kernel_rfl) ?_ _
            refine NoPanic.normal ?_
            try simp only [Act.put, List.setIfInBounds_toArray, List.set_cons_zero, List.set_cons_succ]
            go_wp2_with fail
            go_meet
            exact ⟨D, rfl, e9, HX.out.1.trans (b9.mono HX.out.1.size), ⟨(b9.block _ HX.out.2.2.2.1).trans HX.out.2.1, (b9.block _ HX.out.2.2.2.2).trans HX.out.2.2.1⟩, Nat.lt_of_lt_of_le HX.out.2.2.2.2 hDX⟩
      · refine hopA 3 rfl rfl rfl 55 rfl #[.int .i64 0, .int .i64 0, .int .i64 0, .int .i64 0, .int .i64 0, .int .i64 0, .int .i64 0, .int .i64 0, .int .i64 0, .int .u64 0, .slice none 0 0, .slice none 0 0, .slice none 0 0, .slice none 0 0] ofL_alloc fun D W' hD hDw bD => ?_
        have bW' : Below X.heap.size X W' := bX.trans (bD.mono bX.size)
        have hDX : X.heap.size ≤ D := Nat.le_trans bX.size hDw
        refine ⟨bW', ?_⟩
        try simp only [Act.put, List.setIfInBounds_toArray, List.set_cons_zero, List.set_cons_succ]
        refine wpAnyH_ready (rs := [23]) (by kernel_rfl) (by simp) ?_
        refine consH _ rfl ?_ AllReadyH.nil
        · refine hopCd 33 rfl (by kernel_rfl) rfl (by kernel_rfl) (Calls.mono (bitsNil _) ?_)
          rintro e m23 ⟨rfl, hw23⟩
          subst hw23
          refine ⟨_, rfl, bW', ?_⟩
          try simp only [Act.put, List.setIfInBounds_toArray, List.set_cons_zero, List.set_cons_succ]
          refine wpAnyH_ready (rs := [26]) (by kernel_rfl) (by simp) ?_
          refine consH _ rfl ?_ AllReadyH.nil
          · refine hopCd 36 rfl (by kernel_rfl) rfl (by kernel_rfl) (Calls.mono (bitsNil _) ?_)
            rintro e m26 ⟨rfl, hw26⟩
            subst hw26
            refine ⟨_, rfl, bW', ?_⟩
            try simp only [Act.put, List.setIfInBounds_toArray, List.set_cons_zero, List.set_cons_succ]
            refine takeH 37 (i := 27) (v := ?_) rfl rfl (by kernel_rfl) (by kernel_rfl) (by kernel_rfl) (fun _ _ _ h => h) (Or.inl ⟨by kernel_rfl, ?_⟩) bW' ?_
            rotate_left
            · intro w' hSw; (try dsimp only at hSw); go_simp; try with_reducible rfl
            try simp only [Act.put, List.setIfInBounds_toArray, List.set_cons_zero, List.set_cons_succ]
            refine wpAnyH_ready (rs := [29]) (by kernel_rfl) (by simp) ?_
            refine consH _ rfl (hopL rfl (wpList_store_row (by rfl) 55 _ _ (by rfl) X X.heap.size D #[.int .i64 k0, .int .i64 g0, .int .i64 g1, .int .i64 g2, .int .i64 g3, .int .i64 g4, .int .i64 g5, .int .i64 g6, .int .i64 g7, .int .u64 0, .slice none 0 0, .slice none 0 0, .slice none 0 0, .slice none 0 0] _ (by kernel_rfl) (by kernel_rfl) hD bW' hDX 14 Try.infoRLy (by rfl) (by rfl) (ofL_one ..) fun W9 e9 b9 hs9 ho9 => ?_)) AllReadyH.nil
            refine (And.intro b9 ?_ : _ ∧ _)
            try simp only [Act.put, List.setIfInBounds_toArray, List.set_cons_zero, List.set_cons_succ]
            refine wpAnyH_done (by kernel_rfl) ?_ _
            refine NoPanic.normal ?_
            try simp only [Act.put, List.setIfInBounds_toArray, List.set_cons_zero, List.set_cons_succ]
            go_wp2_with fail
            go_meet
            exact ⟨D, rfl, e9, HX.out.1.trans (b9.mono HX.out.1.size), ⟨(b9.block _ HX.out.2.2.2.1).trans HX.out.2.1, (b9.block _ HX.out.2.2.2.2).trans HX.out.2.2.1⟩, Nat.lt_of_lt_of_le HX.out.2.2.2.2 hDX⟩
    · refine hopA 3 rfl rfl rfl 55 rfl #[.int .i64 0, .int .i64 0, .int .i64 0, .int .i64 0, .int .i64 0, .int .i64 0, .int .i64 0, .int .i64 0, .int .i64 0, .int .u64 0, .slice none 0 0, .slice none 0 0, .slice none 0 0, .slice none 0 0] ofL_alloc fun D W' hD hDw bD => ?_
      have bW' : Below X.heap.size X W' := bX.trans (bD.mono bX.size)
      have hDX : X.heap.size ≤ D := Nat.le_trans bX.size hDw
      refine ⟨bW', ?_⟩
      try simp only [Act.put, List.setIfInBounds_toArray, List.set_cons_zero, List.set_cons_succ]
      refine wpAnyH_ready (rs := [20]) (by kernel_rfl) (by simp) ?_
      refine consH _ rfl ?_ AllReadyH.nil
      · refine hopCd 30 rfl (by kernel_rfl) rfl (by kernel_rfl) (Calls.mono (bits_any 0 _) ?_)
        rintro e m20 ⟨rfl, hw20⟩
        subst hw20
        refine ⟨_, rfl, bW', ?_⟩
        try simp only [Act.put, List.setIfInBounds_toArray, List.set_cons_zero, List.set_cons_succ]
        refine wpAnyH_ready (rs := [23]) (by kernel_rfl) (by simp) ?_
        refine consH _ rfl ?_ AllReadyH.nil
        · refine hopCd 33 rfl (by kernel_rfl) rfl (by kernel_rfl) (Calls.mono (bitsNil _) ?_)
          rintro e m23 ⟨rfl, hw23⟩
          subst hw23
          refine ⟨_, rfl, bW', ?_⟩
          try simp only [Act.put, List.setIfInBounds_toArray, List.set_cons_zero, List.set_cons_succ]
          refine wpAnyH_ready (rs := [26]) (by kernel_rfl) (by simp) ?_
          refine consH _ rfl ?_ AllReadyH.nil
          · refine hopCd 36 rfl (by kernel_rfl) rfl (by kernel_rfl) (Calls.mono (bitsNil _) ?_)
            rintro e m26 ⟨rfl, hw26⟩
            subst hw26
            refine ⟨_, rfl, bW', ?_⟩
            try simp only [Act.put, List.setIfInBounds_toArray, List.set_cons_zero, List.set_cons_succ]
            refine takeH 37 (i := 27) (v := ?_) rfl rfl (by kernel_rfl) (by kernel_rfl) (by kernel_rfl) (fun _ _ _ h => h) (Or.inl ⟨by kernel_rfl, ?_⟩) bW' ?_
            rotate_left
            · intro w' hSw; (try dsimp only at hSw); go_simp; try with_reducible rfl
            try simp only [Act.put, List.setIfInBounds_toArray, List.set_cons_zero, List.set_cons_succ]
            refine wpAnyH_ready (rs := [29]) (by kernel_rfl) (by simp) ?_
            refine consH _ rfl (hopL rfl (wpList_store_row (by rfl) 55 _ _ (by rfl) X X.heap.size D #[.int .i64 k0, .int .i64 g0, .int .i64 g1, .int .i64 g2, .int .i64 g3, .int .i64 g4, .int .i64 g5, .int .i64 g6, .int .i64 g7, .int .u64 0, .slice none 0 0, .slice none 0 0, .slice none 0 0, .slice none 0 0] _ (by kernel_rfl) (by kernel_rfl) hD bW' hDX 14 Try.infoRLy (by rfl) (by rfl) (ofL_one ..) fun W9 e9 b9 hs9 ho9 => ?_)) AllReadyH.nil
            refine (And.intro b9 ?_ : _ ∧ _)
            try simp only [Act.put, List.setIfInBounds_toArray, List.set_cons_zero, List.set_cons_succ]
            refine wpAnyH_done (by kernel_rfl) ?_ _
            refine NoPanic.normal ?_
            try simp only [Act.put, List.setIfInBounds_toArray, List.set_cons_zero, List.set_cons_succ]
            go_wp2_with fail
            go_meet
            exact ⟨D, rfl, e9, HX.out.1.trans (b9.mono HX.out.1.size), ⟨(b9.block _ HX.out.2.2.2.1).trans HX.out.2.1, (b9.block _ HX.out.2.2.2.2).trans HX.out.2.2.1⟩, Nat.lt_of_lt_of_le HX.out.2.2.2.2 hDX⟩
  case rest =>
  obtain ⟨D, rfl, ED, EB, EK, hDl⟩ := hcut
  go_upto_region 2 with fail
  have z12 := cellAt EK.out.1 12 (.slice none 0 0) rfl
  have z13 := cellAt EK.out.1 13 (.slice none 0 0) rfl
  go_wp2_with fail
  go_loopg [4] 0 (fun g u wx => u = .int .i64 0 ∧ Hid (wx = wc))
  case atStart => exact ⟨rfl, rfl⟩
  case round =>
    obtain ⟨rfl, hw⟩ := hrel
    have hw' := hw.out
    subst hw'
    go_wp2_with fail
    go_loopg [7] 0 (fun g u wx => u = .int .i64 0 ∧ Hid (wx = wr))
    case atStart => exact ⟨rfl, rfl⟩
    case round =>
      obtain ⟨rfl, hw2⟩ := hrel
      have hw2' := hw2.out
      subst hw2'
      go_wp2_with (first
        | (refine wpList_load_row (by rfl) 55 _ (by rfl) D _ (by rfl) ED.out _ Try.underlying55 rfl 14 Try.infoRLy (by rfl) ?_)
        | (refine wpList_store_row (by rfl) 55 _ _ (by rfl) w w.heap.size (w.heap.size + 1) _ _ (by rfl) (by rfl) EK.out.2 EB.out (by omega) 14 Try.infoRLy (by rfl) (by rfl) (ofL_one ..) ?_; intro W9 e9 hb9 hs9 ho9))
      refine bodyPost_ret (res_one _ 2 55 (by kernel_rfl) _ _ (w.heap.size + 1) _ (by rfl) _ Try.underlying55 rfl 14 Try.infoRLy rfl e9) rfl ?_
      exact ⟨rfl, hb9⟩
end Go.Proofs.Ytokglpemefkmjaa

namespace Go.Proofs.Ytokglpemefkmjaa
open Go.RowKit
set_option linter.unusedVariables false
set_option linter.unusedSimpArgs false
theorem own_val {w : World} {base n : Nat} {E : TypeId} {v : Value} {xs : List Value} (h : w.ownsRow base E 1 v n xs) : v.oneCell' = true ∧ v.cells = #[v] := by
  rcases h.2 with ⟨rfl, _⟩ | ⟨g, cap, cu, rfl, hg, hh, r⟩ <;> exact ⟨rfl, rfl⟩
theorem own_kp {w w' : World} {base n : Nat} {E : TypeId} {v : Value} {xs : List Value} (h : w.ownsRow base E 1 v n xs) (hk : ∀ k, v.ownBlock = some k → w'.heap[k]? = w.heap[k]?) : w'.ownsRow base E 1 v n xs := by
  refine ⟨h.1, ?_⟩
  rcases h.2 with h2 | ⟨g, cap, cu, rfl, hg, hh, r⟩
  · exact .inl h2
  · exact .inr ⟨g, cap, cu, rfl, hg, (hk g rfl).trans hh, r⟩
def OwnF (w : World) (base : Nat) (v : Value) (us : List Nat) : Prop := w.ownsRow base 26 1 v (flV' us).length (flV' us)
theorem OwnF.nil (w : World) (base : Nat) : OwnF w base (.slice none 0 0) [] := World.ownsRow_nil w base _ 1
theorem OwnF.rd {w : World} {base : Nat} {v : Value} {us : List Nat} (h : OwnF w base v us) (hm : us.length ≤ 1000) (hl : ∀ u ∈ us, u < 18446744073709551616) : ∃ ao cap, v = .slice ao us.length cap ∧ us.length ≤ cap ∧ RdF w ao us.length cap us := by
  have hmx : us.length ≤ maxLen := Nat.le_trans hm (by decide)
  have hfl : (flV' us).length = us.length := by simp [flV']
  rcases h.2 with ⟨h0, h1⟩ | ⟨g, cap, cur, hv, hg, hh, hc, hx, hs, ht⟩
  · have hl0 : us.length = 0 := by rw [hfl] at h1; exact h1
    exact ⟨none, 0, by rw [h0, hl0], by omega, ⟨rfl, hmx, hl, .inl hl0⟩⟩
  · rw [hfl] at hv hc
    refine ⟨some ⟨g, 0, none⟩, cap, hv, hc, ⟨rfl, hmx, hl, .inr ⟨g, 0, rfl, fun j hj => ?_⟩⟩⟩
    rw [cell_of_row _ g _ _ _ _ hh]
    have hu := flV'_at us j hj
    rw [← ht, List.getElem?_take] at hu
    split at hu
    · rw [Array.getElem?_toList] at hu; rw [Nat.zero_add]; exact hu
    · cases hu
theorem flV'_snoc (us : List Nat) (u : Nat) : flV' (us ++ [u]) = flV' us ++ [.float .f64 u] := by simp [flV']
/-- The numbers that the law's made writes. -/
def wL (seed : Int) (p : Nat) : List Nat := (List.range p).map fun (i : Nat) => flZ (smallZ seed (3 * (i : Int)))
def bL (seed : Int) (p : Nat) : List Nat := (List.range p).map fun (i : Nat) => flZ (smallZ seed (5 * (i : Int) + 1))
theorem wL_snoc (seed : Int) (p : Nat) : wL seed (p + 1) = wL seed p ++ [flZ (smallZ seed (3 * (p : Int)))] := by unfold wL; rw [List.range_succ, List.map_append]; rfl
theorem bL_snoc (seed : Int) (p : Nat) : bL seed (p + 1) = bL seed p ++ [flZ (smallZ seed (5 * (p : Int) + 1))] := by unfold bL; rw [List.range_succ, List.map_append]; rfl
theorem wL_len (seed : Int) (p : Nat) : (wL seed p).length = p := by unfold wL; simp
theorem bL_len (seed : Int) (p : Nat) : (bL seed p).length = p := by unfold bL; simp
theorem wL_lt (seed : Int) (p : Nat) : ∀ u ∈ wL seed p, u < 18446744073709551616 := by
  unfold wL; intro u hu
  obtain ⟨i, -, rfl⟩ := List.mem_map.1 hu
  exact (flZ_lt (smallZ_bd _ _)).1
theorem bL_lt (seed : Int) (p : Nat) : ∀ u ∈ bL seed p, u < 18446744073709551616 := by
  unfold bL; intro u hu
  obtain ⟨i, -, rfl⟩ := List.mem_map.1 hu
  exact (flZ_lt (smallZ_bd _ _)).1
theorem ex_loadR {P : Program} {ρ : Operand → Value} (o : Oper) (ty : TypeId) (p : Operand) (ho : o.op = .load ty p) (B : Nat) (hp : ρ p = .pointer (some ⟨B, 0, none⟩)) (w : World) (c : Array Value) (h : w.heap[B]? = some (.cells c ty)) (d : TypeDesc) (hu : P.underlying ty = some d) (hd : d.isRow = true) (n : Nat) (hi : (P.info? ty).map (·.size) = some n) (hn : c.size = n) : (execOp ρ o).run P w = .ok (.value (.agg c)) w := by
  have hr : w.rangeAt B 0 c.toList := by
    have := World.rangeAt_of_block h 0 c.size
    simpa using this
  have hl := run_loadVar_mid (P := P) w B 0 ty c.toList d hr hu hd (by rw [hi]; simp [hn])
  have hl2 : (loadVar ty ⟨B, 0, none⟩).run P w = .ok (.agg c) w := by simpa using hl
  unfold execOp
  simp only [ho, hp, Instr.loadAt, Instr.sureAddr, Sem.run_bind, Sem.run_pure, Result.andThen_ok, hl2]
theorem ex_load1 {P : Program} {ρ : Operand → Value} (o : Oper) (ty : TypeId) (p : Operand) (ho : o.op = .load ty p) (A : Addr) (hp : ρ p = .pointer (some A)) (w : World) (v : Value) (h : w.cell? A = some v) (hag : ∀ w, (isAgg ty).run P w = .ok false w) : (execOp ρ o).run P w = .ok (.value v) w := by
  unfold execOp
  simp only [ho, hp]
  simp [go_sem, hag, h, Result.andThen]
theorem agF (w : World) : (isAgg 27).run Try.prog w = .ok false w := by kernel_rfl
theorem madeK_alloc (w : World) : (Instr.alloc 48 true (.tuple #[])).run Try.prog w = .ok (.pointer (some ⟨w.heap.size, 0, none⟩)) (w.alloc (.cells #[.int .i64 0, .int .i64 0, .int .i64 0, .int .i64 0] 48)) := by kernel_rfl
theorem one14i (a0 a1 a2 a3 a4 a5 a6 a7 a8 : Int) (A : Nat) (v1 v2 v3 v4 : Value) (h1 : v1.oneCell' = true) (h2 : v2.oneCell' = true) (h3 : v3.oneCell' = true) (h4 : v4.oneCell' = true) : (#[.int .i64 a0, .int .i64 a1, .int .i64 a2, .int .i64 a3, .int .i64 a4, .int .i64 a5, .int .i64 a6, .int .i64 a7, .int .i64 a8, .float .f64 A, v1, v2, v3, v4] : Array Value).all (·.oneCell') = true := by
  simp only [Array.all_eq_true_iff_forall_mem]
  intro v hv
  simp only [List.mem_toArray, List.mem_cons, List.not_mem_nil, or_false] at hv
  rcases hv with rfl | rfl | rfl | rfl | rfl | rfl | rfl | rfl | rfl | rfl | rfl | rfl | rfl | rfl <;> first | rfl | assumption
/-- What the law's made holds between its loops. -/
structure MD (w wx : World) (xs lay ks : Array Value) (D : Nat) : Prop where
  bel : Below w.heap.size w wx
  x : wx.heap[w.heap.size]? = some (.cells xs 23)
  r : wx.heap[w.heap.size + 1 + 1]? = some (.cells #[.int .i64 0, .int .i64 0, .int .i64 0, .int .i64 0, .int .i64 0, .int .i64 0, .int .i64 0, .int .i64 0, .int .i64 0, .float .f64 0, .slice none 0 0, .slice none 0 0, .slice none 0 0, .slice none 0 0] 30)
  l : wx.heap[w.heap.size + 1 + 1 + 1]? = some (.cells lay 30)
  k : wx.heap[D]? = some (.cells ks 48)
  d : w.heap.size + 1 + 1 + 1 < D
theorem MD.later {w wx wy : World} {xs lay ks : Array Value} {D : Nat} (h : MD w wx xs lay ks D) (hb : Below wx.heap.size wx wy) : MD w wy xs lay ks D :=
  ⟨to_call h.bel hb, kept hb h.x, kept hb h.r, kept hb h.l, kept hb h.k, h.d⟩
/-- One number more in a list, and the list into the layer. -/
theorem MD.app {w wx W w5 w9 : World} {xs lay lay' ks : Array Value} {D base : Nat} {v : Value} {us : List Nat} (h : MD w wx xs lay ks D) (hb : Below wx.heap.size wx W) (ho : OwnF wx base v us) (hbs : w.heap.size ≤ base)
    (hk : ∀ k, k < W.heap.size → v.ownBlock ≠ some k → w5.heap[k]? = W.heap[k]?) (h9 : w9.heap[w.heap.size + 1 + 1 + 1]? = some (.cells lay' 30)) (b9 : Below w.heap.size w w9) (k9 : ∀ k, k ≠ w.heap.size + 1 + 1 + 1 → w9.heap[k]? = w5.heap[k]?) : MD w w9 xs lay' ks D := by
  have hsz := hb.size
  have lx := blk_lt h.x
  have lr := blk_lt h.r
  have lk := blk_lt h.k
  have hd := h.d
  refine ⟨b9, ?_, ?_, h9, ?_, h.d⟩
  · exact (k9 _ (by omega)).trans ((hk _ (by omega) (own_ne ho h.x (by decide))).trans (kept hb h.x))
  · exact (k9 _ (by omega)).trans ((hk _ (by omega) (own_ne ho h.r (by decide))).trans (kept hb h.r))
  · exact (k9 _ (by omega)).trans ((hk _ (by omega) (own_ne ho h.k (by decide))).trans (kept hb h.k))
end Go.Proofs.Ytokglpemefkmjaa
