import Derived.Test.YtokglpemefkmjaaRWy
namespace Go.Proofs.Ytokglpemefkmjaa
open Go.RowKit
set_option linter.unusedVariables false
set_option linter.unusedSimpArgs false
theorem Try.infoWholeN : (Try.prog.info? 23).map (·.size) = some 9 := by kernel_rfl
set_option maxRecDepth 100000 in
set_option maxHeartbeats 8000000 in
theorem lawN (kd g0 g1 g2 g3 g4 g5 g6 seed c h k : Int) (AV : Nat) (LK : Int → Int → Int → Int → Prop) (h2 : ¬ kd = 2) (h4 : ¬ kd = 4) (h12 : ¬ kd = 12) (hM : ∀ w, Calls Try.prog 5 #[.agg #[.int .i64 kd, .int .i64 g0, .int .i64 g1, .int .i64 g2, .int .i64 g3, .int .i64 g4, .int .i64 g5, .int .i64 g6, .int .i64 seed], .agg #[.int .i64 c, .int .i64 h, .int .i64 k]] w fun e w' => MdP LK kd g0 g1 g2 g3 g4 g5 g6 seed AV w.heap.size w' e ∧ Below w.heap.size w w') (w : World) :
    Calls Try.prog 4 #[.agg #[.int .i64 kd, .int .i64 g0, .int .i64 g1, .int .i64 g2, .int .i64 g3, .int .i64 g4, .int .i64 g5, .int .i64 g6, .int .i64 seed], .agg #[.int .i64 c, .int .i64 h, .int .i64 k]] w fun e w' => e = .returned (.bool true) ∧ Below w.heap.size w w' := by
  have HM : Hid _ := hM
  have HTO : Hid _ := told7
  clear hM
  have X0 : Below w.heap.size w ((w.alloc (.cells #[.int .i64 kd, .int .i64 g0, .int .i64 g1, .int .i64 g2, .int .i64 g3, .int .i64 g4, .int .i64 g5, .int .i64 g6, .int .i64 seed] 23)).alloc (.cells #[.int .i64 c, .int .i64 h, .int .i64 k] 25)) := ((Below.refl _ w).alloc (Nat.le_refl _) _).alloc (by simp only [alloc_size]; omega) _
  have HW0 : ((w.alloc (.cells #[.int .i64 kd, .int .i64 g0, .int .i64 g1, .int .i64 g2, .int .i64 g3, .int .i64 g4, .int .i64 g5, .int .i64 g6, .int .i64 seed] 23)).alloc (.cells #[.int .i64 c, .int .i64 h, .int .i64 k] 25)).heap[w.heap.size]? = _ := alloc_kept (heap_alloc_new w _) _
  have HS0 : ((w.alloc (.cells #[.int .i64 kd, .int .i64 g0, .int .i64 g1, .int .i64 g2, .int .i64 g3, .int .i64 g4, .int .i64 g5, .int .i64 g6, .int .i64 seed] 23)).alloc (.cells #[.int .i64 c, .int .i64 h, .int .i64 k] 25)).heap[w.heap.size + 1]? = _ := heap_at _ _ (w.heap.size + 1) (by simp only [alloc_size])
  go_enter Try.func4, Try.ntmps4
  go_wp2_with (first | (refine wpList_load_row (by rfl) 23 _ (by rfl) w.heap.size _ (by rfl) HW0 _ Try.underlying23 rfl 9 Try.infoWholeN (by rfl) ?_) | (refine wpList_load_row (by rfl) 25 _ (by rfl) (w.heap.size + 1) _ (by rfl) HS0 _ Try.underlying25 rfl 3 Try.infoShape (by rfl) ?_))
  refine Calls.mono (HM.out _) ?_
  rintro e w1 ⟨hmd, hb⟩
  have H1 : Hid (Below w.heap.size w w1) := to_call X0 hb
  clear hb X0 HW0 HS0 HM
  rcases hmd with rfl | ⟨q0, q1, q2, q3, v1, v2, v3, v4, hLK, hq0, hq2, rfl, o1, o2, o3, o4⟩
  · go_upto_region 2 with (first | (refine wpList_store_row (by rfl) 30 _ _ (by rfl) w1 w1.heap.size w1.heap.size _ _ (by rfl) (by rfl) (heap_alloc_new w1 _) ((Below.refl _ w1).alloc (Nat.le_refl _) _) (Nat.le_refl _) 14 Try.infoLy (by rfl) (by rfl) (one14i _ _ _ _ _ _ _ _ _ _ _ _ _ _ rfl rfl rfl rfl) ?_; intro W2 e2 hb2 hs2 ho2))
    have H2 : Hid (Below w.heap.size w W2) := to_call H1.out hb2
    clear hb2 hs2 ho2 e2 H1
    go_wp2_with fail
    refine Calls.mono (HTO.out _) ?_
    rintro e w7 ⟨rfl, hb7⟩
    have H7 : Hid (Below w.heap.size w w7) := to_call H2.out hb7
    clear hb7 H2
    go_wp2_with fail
    go_ret
    exact ⟨rfl, H7.out⟩
  have HON : Hid (v1.oneCell' = true ∧ v2.oneCell' = true ∧ v3.oneCell' = true ∧ v4.oneCell' = true) := ⟨(own_valM o1).1, (own_valM o2).1, (own_valM o3).1, (own_valM o4).1⟩
  clear hLK hq0 hq2 o1 o2 o3 o4
  go_upto_region 2 with (first | (refine wpList_store_row (by rfl) 30 _ _ (by rfl) w1 w1.heap.size w1.heap.size _ _ (by rfl) (by rfl) (heap_alloc_new w1 _) ((Below.refl _ w1).alloc (Nat.le_refl _) _) (Nat.le_refl _) 14 Try.infoLy (by rfl) (by rfl) (one14i _ _ _ _ _ _ _ _ _ _ _ _ _ _ HON.out.1 HON.out.2.1 HON.out.2.2.1 HON.out.2.2.2) ?_; intro W2 e2 hb2 hs2 ho2))
  obtain ⟨B, hB⟩ : ∃ B, w1.heap.size = B := ⟨_, rfl⟩
  have H2 : Hid (Below w.heap.size w W2) := to_call H1.out hb2
  have l0 := cellAt (hB ▸ e2 : W2.heap[B]? = _) 0 (.int .i64 kd) rfl
  rw [hB]
  clear hb2 hs2 ho2 e2 H1 hB
  have b2 : (kd != 2) = true := by simp [h2]
  have b4 : (kd != 4) = true := by simp [h4]
  have b12 : (kd != 12) = true := by simp [h12]
  clear h2 h4 h12
  go_wp2_with fail
  refine Calls.mono (HTO.out _) ?_
  rintro e w7 ⟨rfl, hb7⟩
  have H7 : Hid (Below w.heap.size w w7) := to_call H2.out hb7
  clear hb7 H2
  go_wp2_with fail
  go_ret
  exact ⟨rfl, H7.out⟩
end Go.Proofs.Ytokglpemefkmjaa
