import Derived.Test.YtmbnbleahehdaaaKK
namespace Go.Proofs.Ytmbnbleahehdaaa
open Go.RowKit
set_option linter.unusedVariables false

theorem res_shape (f : Func) (i j : Nat) (hf : f.results = #[ResultVar.cell i 25, ResultVar.tmp j]) (tmps : Array Value) (W : World) (B : Nat) (c : Array Value) (v : Value) (hp : tmps[i]? = some (.pointer (some ⟨B, 0, none⟩))) (hv : tmps[j]? = some v)
    (hc : c.size = 3) (h : W.heap[B]? = some (.cells c 25)) : (results f tmps).run Try.prog W = .ok (.tuple #[.agg c, v]) W := by
  have hr : W.rangeAt B 0 c.toList := by
    have := World.rangeAt_of_block h 0 c.size
    simpa using this
  have hl := run_loadVar_mid (P := Try.prog) W B 0 25 c.toList _ hr Try.underlying25 rfl (by rw [Try.infoShape]; simp [hc])
  have hl2 : (loadVar 25 ⟨B, 0, none⟩).run Try.prog W = .ok (.agg c) W := by simpa using hl
  simp [results, hf, hp, hv, hl2, asAddr]
theorem one3 (a b c : Int) : (#[.int .i64 a, .int .i64 b, .int .i64 c] : Array Value).all (·.oneCell') = true := by
  simp only [Array.all_eq_true_iff_forall_mem]
  intro v hv
  simp only [List.mem_toArray, List.mem_cons, List.not_mem_nil, or_false] at hv
  rcases hv with rfl | rfl | rfl <;> rfl
set_option maxRecDepth 100000 in
set_option maxHeartbeats 2000000 in
theorem outOf (y0 y1 y2 y3 y4 y5 y6 y7 y8 y9 y10 y11 y12 y13 y14 y15 y16 y17 y18 y19 y20 y21 y22 y23 c h k : Int) (x0 x1 x2 x3 x4 x5 x6 x7 x8 x9 x10 x11 x12 x13 : Value) (w : World)
    (hF : ∀ w, Calls Try.prog 32 #[.agg #[x0, x1, x2, x3, x4, x5, x6, x7, x8, x9, x10, x11, x12, x13], .agg #[.int .i64 c, .int .i64 h, .int .i64 k]] w fun e w' => e = .returned (.tuple #[.agg #[.int .i64 y0, .int .i64 y1, .int .i64 y2, .int .i64 y3, .int .i64 y4, .int .i64 y5, .int .i64 y6, .int .i64 y7, .int .i64 y8, .int .i64 y9, .int .i64 y10, .int .i64 y11, .int .i64 y12, .int .i64 y13, .int .i64 y14, .int .i64 y15, .int .i64 y16, .int .i64 y17, .int .i64 y18, .int .i64 y19, .int .i64 y20, .int .i64 y21, .int .i64 y22, .int .i64 y23], .int .i64 0]) ∧ Below w.heap.size w w') :
    Calls Try.prog 18 #[.agg #[x0, x1, x2, x3, x4, x5, x6, x7, x8, x9, x10, x11, x12, x13], .agg #[.int .i64 c, .int .i64 h, .int .i64 k]] w fun e w' => e = .returned (.tuple #[.agg #[.int .i64 y17, .int .i64 y18, .int .i64 y19], .int .i64 0]) ∧ Below w.heap.size w w' := by
  have HF : Hid _ := hF
  clear hF
  go_enter Try.func18, Try.ntmps18
  go_wp2_with fail
  refine Calls.mono (HF.out _) ?_
  rintro e w1 ⟨rfl, hb⟩
  have HB1 : Hid (Below w.heap.size w w1) := to_call ((((Below.refl _ w).alloc (Nat.le_refl _) _).alloc (by simp only [alloc_size]; omega) _).alloc (by simp only [alloc_size]; omega) _) hb
  have HK : Hid (w1.heap[w.heap.size + 1 + 1]? = _) := kept hb (heap_at _ _ (w.heap.size + 1 + 1) (by simp only [alloc_size]))
  have hsz := blk_lt HK.out
  clear hb HF
  go_upto_region 2 with (first | (refine wpList_store_row (by rfl) 86 _ _ (by rfl) w w.heap.size w1.heap.size _ _ (by rfl) (by rfl) (heap_alloc_new w1 _) (HB1.out.alloc (by omega) _) (by omega) 24 Try.infoForm (by rfl) (by rfl) (by exact one24 ..) ?_; intro W2 e2 hb2 hs2 ho2))
  have HK2 : Hid (W2.heap[w.heap.size + 1 + 1]? = _) := (ho2 _ (by omega)).trans (alloc_kept HK.out _)
  have t0 := cellAt e2 17 (.int .i64 y17) rfl
  have t1 := cellAt e2 18 (.int .i64 y18) rfl
  have t2 := cellAt e2 19 (.int .i64 y19) rfl
  go_wp2_with (first
    | (refine wpList_store_row (by rfl) 25 _ _ (by rfl) w w.heap.size (w.heap.size + 1 + 1) _ _ (by rfl) (by rfl) HK2.out hb2 (by omega) 3 Try.infoShape (by rfl) (by rfl) (by exact one3 ..) ?_; intro W9 e9 hb9 hs9 ho9))
  refine bodyPost_ret (res_shape _ 4 5 (by kernel_rfl) _ _ (w.heap.size + 1 + 1) _ _ (by rfl) (by rfl) rfl e9) rfl ?_
  exact ⟨rfl, hb9⟩
end Go.Proofs.Ytmbnbleahehdaaa
