import Derived.Test.YtmbnbleahehdaaaKJ
namespace Go.Proofs.Ytmbnbleahehdaaa
open Go.RowKit
set_option linter.unusedVariables false

theorem ixS0 (a b c d e f : Int) (w : World) : (Instr.index 97 (.agg #[.int .i64 a, .int .i64 b, .int .i64 c, .int .i64 d, .int .i64 e, .int .i64 f]) (.int .i64 0)).run Try.prog w = .ok (.agg #[.int .i64 a, .int .i64 b, .int .i64 c]) w := by kernel_rfl
theorem ixS1 (a b c d e f : Int) (w : World) : (Instr.index 97 (.agg #[.int .i64 a, .int .i64 b, .int .i64 c, .int .i64 d, .int .i64 e, .int .i64 f]) (.int .i64 1)).run Try.prog w = .ok (.agg #[.int .i64 d, .int .i64 e, .int .i64 f]) w := by kernel_rfl
theorem size_of {c h k n : Int} (hs : szF [c, h, k] 1 = (n, 0)) (w : World) :
    Calls Try.prog 19 #[.agg #[.int .i64 c, .int .i64 h, .int .i64 k]] w fun e w' => e = .returned (.tuple #[.int .i64 n, .int .i64 0]) ∧ Below w.heap.size w w' := by
  have := size_any c h k w
  rw [hs] at this
  exact this
set_option maxRecDepth 100000 in
set_option maxHeartbeats 2000000 in
theorem fit_ok (y0 y1 y2 y3 y4 y5 y6 y7 y8 y9 y10 y11 y12 y13 y14 y15 y16 y17 y18 y19 y20 y21 y22 y23 c h k n n' : Int) (x0 x1 x2 x3 x4 x5 x6 x7 x8 x9 x10 x11 x12 x13 : Value) (w : World)
    (hF : ∀ w, Calls Try.prog 42 #[.agg #[x0, x1, x2, x3, x4, x5, x6, x7, x8, x9, x10, x11, x12, x13], .agg #[.int .i64 c, .int .i64 h, .int .i64 k]] w fun e w' => e = .returned (.tuple #[.agg #[.int .i64 y0, .int .i64 y1, .int .i64 y2, .int .i64 y3, .int .i64 y4, .int .i64 y5, .int .i64 y6, .int .i64 y7, .int .i64 y8, .int .i64 y9, .int .i64 y10, .int .i64 y11, .int .i64 y12, .int .i64 y13, .int .i64 y14, .int .i64 y15, .int .i64 y16, .int .i64 y17, .int .i64 y18, .int .i64 y19, .int .i64 y20, .int .i64 y21, .int .i64 y22, .int .i64 y23], .bool true]) ∧ Below w.heap.size w w')
    (hG : ∀ w, Calls Try.prog 43 #[.agg #[.int .i64 y0, .int .i64 y1, .int .i64 y2, .int .i64 y3, .int .i64 y4, .int .i64 y5, .int .i64 y6, .int .i64 y7, .int .i64 y8, .int .i64 y9, .int .i64 y10, .int .i64 y11, .int .i64 y12, .int .i64 y13, .int .i64 y14, .int .i64 y15, .int .i64 y16, .int .i64 y17, .int .i64 y18, .int .i64 y19, .int .i64 y20, .int .i64 y21, .int .i64 y22, .int .i64 y23], .agg #[x0, x1, x2, x3, x4, x5, x6, x7, x8, x9, x10, x11, x12, x13]] w fun e w' => e = .returned (.int .i64 0) ∧ Below w.heap.size w w')
    (hs : szF [c, h, k] 1 = (n, 0)) (ht : szF [y17, y18, y19] 1 = (n', 0)) :
    Calls Try.prog 32 #[.agg #[x0, x1, x2, x3, x4, x5, x6, x7, x8, x9, x10, x11, x12, x13], .agg #[.int .i64 c, .int .i64 h, .int .i64 k]] w fun e w' => e = .returned (.tuple #[.agg #[.int .i64 y0, .int .i64 y1, .int .i64 y2, .int .i64 y3, .int .i64 y4, .int .i64 y5, .int .i64 y6, .int .i64 y7, .int .i64 y8, .int .i64 y9, .int .i64 y10, .int .i64 y11, .int .i64 y12, .int .i64 y13, .int .i64 y14, .int .i64 y15, .int .i64 y16, .int .i64 y17, .int .i64 y18, .int .i64 y19, .int .i64 y20, .int .i64 y21, .int .i64 y22, .int .i64 y23], .int .i64 0]) ∧ Below w.heap.size w w' := by
  have HF : Hid _ := hF
  have HG : Hid _ := hG
  have HS : Hid (∀ w, Calls Try.prog 19 #[.agg #[.int .i64 c, .int .i64 h, .int .i64 k]] w fun e w' => e = .returned (.tuple #[.int .i64 n, .int .i64 0]) ∧ Below w.heap.size w w') := fun w => size_of hs w
  have HT : Hid (∀ w, Calls Try.prog 19 #[.agg #[.int .i64 y17, .int .i64 y18, .int .i64 y19]] w fun e w' => e = .returned (.tuple #[.int .i64 n', .int .i64 0]) ∧ Below w.heap.size w w') := fun w => size_of ht w
  clear hF hG hs ht
  go_enter Try.func32, Try.ntmps32
  go_wp2_with fail
  refine Calls.mono (HF.out _) ?_
  rintro e w1 ⟨rfl, hb⟩
  have HB1 : Hid (Below w.heap.size w w1) := to_call ((((Below.refl _ w).alloc (Nat.le_refl _) _).alloc (by simp only [alloc_size]; omega) _).alloc (by simp only [alloc_size]; omega) _) hb
  have k0 := kept hb (alloc_kept (alloc_kept (heap_alloc_new w _) _) _)
  have k1 := kept hb (alloc_kept (heap_at _ _ (w.heap.size + 1) (by simp only [alloc_size])) _)
  have k2 := kept hb (heap_at _ _ (w.heap.size + 1 + 1) (by simp only [alloc_size]))
  have HK : Hid (w1.heap[w.heap.size]? = _ ∧ w1.heap[w.heap.size + 1]? = _ ∧ w1.heap[w.heap.size + 1 + 1]? = _) := ⟨k0, k1, k2⟩
  have hsz := blk_lt k2
  clear k0 k1 k2 hb HF
  go_upto_region 4 with (first | (refine wpList_store_row (by rfl) 86 _ _ (by rfl) w w.heap.size w1.heap.size _ _ (by rfl) (by rfl) (heap_alloc_new w1 _) (HB1.out.alloc (by omega) _) (by omega) 24 Try.infoForm (by rfl) (by rfl) (by exact one24 ..) ?_; intro W2 e2 hb2 hs2 ho2))
  have HK2 : Hid (W2.heap[w.heap.size]? = _ ∧ W2.heap[w.heap.size + 1]? = _ ∧ W2.heap[w.heap.size + 1 + 1]? = _ ∧ W2.heap[w1.heap.size]? = _) := ⟨(ho2 _ (by omega)).trans (alloc_kept HK.out.1 _), (ho2 _ (by omega)).trans (alloc_kept HK.out.2.1 _), (ho2 _ (by omega)).trans (alloc_kept HK.out.2.2 _), e2⟩
  have HB2 : Hid (Below w.heap.size w W2) := hb2
  obtain ⟨a0, a1, a2, a3, a4, a5, a6, a7, a8, a9, a10, a11, a12, a13⟩ := cells14 HK2.out.1
  clear e2 hb2 hs2 ho2 HB1 HK
  go_wp2_with (first | (refine wpList_load_row (by rfl) 86 _ (by rfl) w1.heap.size _ (by rfl) HK2.out.2.2.2 _ Try.underlying86 rfl 24 Try.infoForm (by rfl) ?_))
  refine Calls.mono (HG.out _) ?_
  rintro e W3 ⟨rfl, hb⟩
  have HB3 : Hid (Below w.heap.size w W3) := to_call HB2.out hb
  have HK3 : Hid (W3.heap[w.heap.size + 1]? = _ ∧ W3.heap[w.heap.size + 1 + 1]? = _ ∧ W3.heap[w1.heap.size]? = _) := ⟨kept hb HK2.out.2.1, kept hb HK2.out.2.2.1, kept hb HK2.out.2.2.2⟩
  clear hb HK2 HB2 HG a0 a1 a2 a3 a4 a5 a6 a7 a8 a9 a10 a11 a12 a13
  obtain ⟨s0, s1, s2⟩ := cells3 HK3.out.1
  have t0 := cellAt HK3.out.2.2 17 (.int .i64 y17) rfl
  have t1 := cellAt HK3.out.2.2 18 (.int .i64 y18) rfl
  have t2 := cellAt HK3.out.2.2 19 (.int .i64 y19) rfl
  go_upto_region 8 with fail
  go_loopg [33] 2 (fun g v wx => ∃ (i : Nat), v = .int .i64 i ∧ i + g = 2 ∧ Hid (Below w.heap.size w wx) ∧ Hid (wx.heap[w.heap.size + 1 + 1]? = some (.cells _ 86) ∧ wx.heap[w1.heap.size]? = some (.cells #[.int .i64 y0, .int .i64 y1, .int .i64 y2, .int .i64 y3, .int .i64 y4, .int .i64 y5, .int .i64 y6, .int .i64 y7, .int .i64 y8, .int .i64 y9, .int .i64 y10, .int .i64 y11, .int .i64 y12, .int .i64 y13, .int .i64 y14, .int .i64 y15, .int .i64 y16, .int .i64 y17, .int .i64 y18, .int .i64 y19, .int .i64 y20, .int .i64 y21, .int .i64 y22, .int .i64 y23] 86)))
  case atStart => exact ⟨0, rfl, by omega, HB3, HK3.out.2.1, HK3.out.2.2⟩
  case round =>
    obtain ⟨i, rfl, hi, HB, HK⟩ := hrel
    have hsr := HB.out.size
    obtain rfl | rfl | rfl : i = 0 ∨ i = 1 ∨ i = 2 := by omega
    · have hix := ixS0 c h k y17 y18 y19
      go_wp2_with fail
      refine Calls.mono (HS.out _) ?_
      rintro e w5 ⟨rfl, hb⟩
      have HB5 : Hid (Below w.heap.size w w5) := to_call (HB.out.alloc (by omega) _) hb
      have HK5 : Hid _ := (And.intro (kept hb (alloc_kept HK.out.1 _)) (kept hb (alloc_kept HK.out.2 _)))
      clear hb hix HB HK
      go_wp2
      go_roundg 1
      case measure => omega
      case rel => exact ⟨1, rfl, by omega, HB5, HK5⟩
    · have hix := ixS1 c h k y17 y18 y19
      go_wp2_with fail
      refine Calls.mono (HT.out _) ?_
      rintro e w5 ⟨rfl, hb⟩
      have HB5 : Hid (Below w.heap.size w w5) := to_call (HB.out.alloc (by omega) _) hb
      have HK5 : Hid _ := (And.intro (kept hb (alloc_kept HK.out.1 _)) (kept hb (alloc_kept HK.out.2 _)))
      clear hb hix HB HK
      go_wp2
      go_roundg 0
      case measure => omega
      case rel => exact ⟨2, rfl, by omega, HB5, HK5⟩
    · go_wp2_with (first
        | (refine wpList_load_row (by rfl) 86 _ (by rfl) w1.heap.size _ (by rfl) HK.out.2 _ Try.underlying86 rfl 24 Try.infoForm (by rfl) ?_)
        | (refine wpList_store_row (by rfl) 86 _ _ (by rfl) w w.heap.size (w.heap.size + 1 + 1) _ _ (by rfl) (by rfl) HK.out.1 HB.out (by omega) 24 Try.infoForm (by rfl) (by rfl) (by exact one24 ..) ?_; intro W9 e9 hb9 hs9 ho9))
      refine bodyPost_ret (res_form _ 4 5 (by kernel_rfl) _ _ (w.heap.size + 1 + 1) _ _ (by rfl) (by rfl) rfl e9) rfl ?_
      exact ⟨rfl, hb9⟩
end Go.Proofs.Ytmbnbleahehdaaa
