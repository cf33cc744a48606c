import Derived.Test.YtmbnbleahehdaaaTA
import Derived.Deep.RegionHeld3
namespace Go.Proofs.Ytmbnbleahehdaaa
open Go.RowKit
set_option linter.unusedVariables false

theorem Try.infoPlace : (Try.prog.info? 67).map (·.size) = some 3 := by kernel_rfl
set_option maxRecDepth 100000 in
set_option maxHeartbeats 1000000 in
theorem index_any (p0 p1 p2 c h k a b d r : Int) (h1 : IntKind.i64.wrap (p0 * h) = a) (h2 : IntKind.i64.wrap (a + p1) = b) (h3 : IntKind.i64.wrap (b * k) = d) (h4 : IntKind.i64.wrap (d + p2) = r) (w : World) :
    Calls Try.prog 24 #[.agg #[.int .i64 p0, .int .i64 p1, .int .i64 p2], .agg #[.int .i64 c, .int .i64 h, .int .i64 k]] w fun e w' => e = .returned (.int .i64 r) ∧ Below w.heap.size w w' := by
  have HB : Hid (∀ x y, Below w.heap.size w ((w.alloc x).alloc y)) := fun x y => ((Below.refl _ w).alloc (Nat.le_refl _) _).alloc (by simp only [alloc_size]; omega) _
  go_enter Try.func24, Try.ntmps24
  go_wp2_with fail
  go_ret
  exact ⟨rfl, HB.out _ _⟩
set_option maxRecDepth 100000 in
set_option maxHeartbeats 1000000 in
theorem from_any (p0 p1 p2 q0 q1 q2 a b d : Int) (h1 : IntKind.i64.wrap (p0 - q0) = a) (h2 : IntKind.i64.wrap (p1 - q1) = b) (h3 : IntKind.i64.wrap (p2 - q2) = d) (w : World) :
    Calls Try.prog 45 #[.agg #[.int .i64 p0, .int .i64 p1, .int .i64 p2], .agg #[.int .i64 q0, .int .i64 q1, .int .i64 q2]] w fun e w' => e = .returned (.agg #[.int .i64 a, .int .i64 b, .int .i64 d]) ∧ Below w.heap.size w w' := by
  have HB : Hid (∀ x y z, Below w.heap.size w (((w.alloc x).alloc y).alloc z)) := fun x y z => (((Below.refl _ w).alloc (Nat.le_refl _) _).alloc (by simp only [alloc_size]; omega) _).alloc (by simp only [alloc_size]; omega) _
  go_enter Try.func45, Try.ntmps45
  go_wp2_with (first | (refine wpList_store_row (by rfl) 67 _ _ (by rfl) w w.heap.size (w.heap.size + 1 + 1) _ _ (by rfl) (by rfl) (heap_at _ _ (w.heap.size + 1 + 1) (by simp only [alloc_size])) (HB.out _ _ _) (by omega) 3 Try.infoPlace (by rfl) (by rfl) (by exact one3 ..) ?_; intro W9 e9 hb9 hs9 ho9))
  exact bodyPost_ret (res_one _ 4 67 (by kernel_rfl) _ _ (w.heap.size + 1 + 1) _ (by rfl) _ Try.underlying67 rfl 3 Try.infoPlace rfl e9) rfl ⟨rfl, hb9⟩
set_option maxRecDepth 100000 in
set_option maxHeartbeats 1000000 in
theorem placeOf_any (i c h k m q t r s : Int) (hm : IntKind.i64.wrap (h * k) = m) (hm0 : ¬ m = 0) (hk0 : ¬ k = 0) (hh0 : ¬ h = 0) (hq : wrap64 (i.tdiv m) = q) (ht : wrap64 (i.tdiv k) = t) (hr : t.tmod h = r) (hs : i.tmod k = s) (w : World) :
    Calls Try.prog 23 #[.int .i64 i, .agg #[.int .i64 c, .int .i64 h, .int .i64 k]] w fun e w' => e = .returned (.agg #[.int .i64 q, .int .i64 r, .int .i64 s]) ∧ Below w.heap.size w w' := by
  have HB : Hid (∀ x y, Below w.heap.size w ((w.alloc x).alloc y)) := fun x y => ((Below.refl _ w).alloc (Nat.le_refl _) _).alloc (by simp only [alloc_size]; omega) _
  go_enter Try.func23, Try.ntmps23
  go_wp2_with fail
  go_region
  go_wp2_with fail
  exact bodyPost_ret (res_one _ 4 67 (by kernel_rfl) _ _ (w.heap.size + 1) _ (by rfl) _ Try.underlying67 rfl 3 Try.infoPlace rfl (heap_at _ _ (w.heap.size + 1) (by simp only [alloc_size]))) rfl ⟨rfl, (HB.out _ _).drew⟩
end Go.Proofs.Ytmbnbleahehdaaa
