import Derived.Test.YtmbnbleahehdaaaKH
namespace Go.Proofs.Ytmbnbleahehdaaa
open Go.RowKit
set_option linter.unusedVariables false

set_option maxRecDepth 100000 in
set_option maxHeartbeats 1000000 in
theorem formMaxTold_any (w : World) :
    Calls Try.prog 42 #[.agg #[.int .i64 12, .int .i64 0, .int .i64 3, .int .i64 1, .int .i64 5, .int .i64 9, .int .i64 0, .int .i64 0, .int .i64 0, .float .f64 0, .slice none 0 0, .slice none 0 0, .slice none 0 0, .slice none 0 0], .agg #[.int .i64 2, .int .i64 4, .int .i64 3]] w fun e w' =>
      e = .returned (.tuple #[.agg #[.int .i64 0, .int .i64 0, .int .i64 1, .int .i64 16, .int .i64 1, .int .i64 16, .int .i64 1, .int .i64 16, .int .i64 1, .int .i64 16, .int .i64 0, .int .i64 2, .int .i64 0, .int .i64 0, .int .i64 0, .int .i64 0, .int .i64 0, .int .i64 2, .int .i64 1, .int .i64 1, .int .i64 0, .int .i64 0, .int .i64 0, .int .i64 0], .bool true]) ∧ Below w.heap.size w w' := by
  have HS : Hid _ := size_any 2 4 3
  go_enter Try.func42, Try.ntmps42
  go_wp2_with fail
  refine Calls.mono (HS.out _) ?_
  rintro e w1 ⟨rfl, hb⟩
  have HB1 : Hid (Below w.heap.size w w1) := to_call ((((Below.refl _ w).alloc (Nat.le_refl _) _).alloc (by simp only [alloc_size]; omega) _).alloc (by simp only [alloc_size]; omega) _) hb
  have k0 := kept hb (alloc_kept (alloc_kept (heap_alloc_new w _) _) _)
  have k1 := kept hb (alloc_kept (heap_at _ _ (w.heap.size + 1) (by simp only [alloc_size])) _)
  have k2 := kept hb (heap_at _ _ (w.heap.size + 1 + 1) (by simp only [alloc_size]))
  have HK : Hid (w1.heap[w.heap.size]? = _ ∧ w1.heap[w.heap.size + 1]? = _ ∧ w1.heap[w.heap.size + 1 + 1]? = _) := ⟨k0, k1, k2⟩
  have hsz := blk_lt k2
  obtain ⟨b0, b1, b2⟩ := cells3 k1
  clear k0 k1 k2 hb HS
  unfold szV
  generalize (szF [2, 4, 3] 1).1 = n1
  generalize (szF [2, 4, 3] 1).2 = n2
  go_upto_region 22 with (first | (refine wpList_store_row (by rfl) 86 _ _ (by rfl) w w.heap.size w1.heap.size _ _ (by rfl) (by rfl) (heap_alloc_new w1 _) (HB1.out.alloc (by omega) _) (by omega) 24 Try.infoForm (by rfl) (by rfl) (by exact one24 ..) ?_; intro W2 e2 hb2 hs2 ho2; obtain ⟨a0, a1, a2, a3, a4, a5, a6, a7, a8, a9, a10, a11, a12, a13⟩ := cells14 ((ho2 _ (by omega)).trans (alloc_kept HK.out.1 _))))
  have HK2 : Hid (W2.heap[w.heap.size]? = _ ∧ W2.heap[w.heap.size + 1]? = _ ∧ W2.heap[w.heap.size + 1 + 1]? = _) := ⟨(ho2 _ (by omega)).trans (alloc_kept HK.out.1 _), (ho2 _ (by omega)).trans (alloc_kept HK.out.2.1 _), (ho2 _ (by omega)).trans (alloc_kept HK.out.2.2 _)⟩
  have hsW : w1.heap.size < W2.heap.size := blk_lt e2
  obtain ⟨q0, q1, q2⟩ := cells3 HK2.out.2.1
  have HG : Hid _ := goByTold_any w1.heap.size W2 e2
  go_upto_region 23 with (go_at_call 50; refine Calls.mono HG.out ?_; rintro e W3 ⟨rfl, e3, hb3⟩)
  have HK3 : Hid (W3.heap[w.heap.size]? = _ ∧ W3.heap[w.heap.size + 1]? = _ ∧ W3.heap[w.heap.size + 1 + 1]? = _) := ⟨(hb3.block _ (by omega)).trans HK2.out.1, (hb3.block _ (by omega)).trans HK2.out.2.1, (hb3.block _ (by omega)).trans HK2.out.2.2⟩
  have hb4 : Below w.heap.size w W3 := hb2.trans (hb3.mono (by omega))
  have p0 := cell_at HK3.out.1 0 (.int .i64 12) rfl
  go_upto_region 32 with fail
  go_wp2_with (first
    | (refine wpList_load_row (by rfl) 86 _ (by rfl) w1.heap.size _ (by rfl) e3 _ Try.underlying86 rfl 24 Try.infoForm (by rfl) ?_)
    | (refine wpList_store_row (by rfl) 86 _ _ (by rfl) w w.heap.size (w.heap.size + 1 + 1) _ _ (by rfl) (by rfl) HK3.out.2.2 hb4 (by omega) 24 Try.infoForm (by rfl) (by rfl) (by exact one24 ..) ?_; intro W9 e9 hb9 hs9 ho9))
  refine bodyPost_ret (res_form _ 4 5 (by kernel_rfl) _ _ (w.heap.size + 1 + 1) _ _ (by rfl) (by rfl) rfl e9) rfl ?_
  exact ⟨rfl, hb9⟩
end Go.Proofs.Ytmbnbleahehdaaa
