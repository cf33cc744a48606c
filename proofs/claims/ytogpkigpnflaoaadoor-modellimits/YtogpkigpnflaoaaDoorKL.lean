import Derived.Test.YtogpkigpnflaoaaDoorKK
namespace Go.Proofs.YtogpkigpnflaoaaDoor
open Go.RowKit
set_option linter.unusedVariables false

theorem res_shape (f : Func) (i j : Nat) (hf : f.results = #[ResultVar.cell i 24, ResultVar.tmp j]) (tmps : Array Value) (W : World) (B : Nat) (c : Array Value) (v : Value) (hp : tmps[i]? = some (.pointer (some ⟨B, 0, none⟩))) (hv : tmps[j]? = some v)
    (hc : c.size = 3) (h : W.heap[B]? = some (.cells c 24)) : (results f tmps).run Tryd.prog W = .ok (.tuple #[.agg c, v]) W := by
  have hr : W.rangeAt B 0 c.toList := by
    have := World.rangeAt_of_block h 0 c.size
    simpa using this
  have hl := run_loadVar_mid (P := Tryd.prog) W B 0 24 c.toList _ hr Tryd.underlying24 rfl (by rw [Tryd.infoShape]; simp [hc])
  have hl2 : (loadVar 24 ⟨B, 0, none⟩).run Tryd.prog W = .ok (.agg c) W := by simpa using hl
  simp [results, hf, hp, hv, hl2, asAddr]
theorem one3 (a b c : Int) : (#[.int .i64 a, .int .i64 b, .int .i64 c] : Array Value).all (·.oneCell') = true := by
  simp only [Array.all_eq_true_iff_forall_mem]
  intro v hv
  simp only [List.mem_toArray, List.mem_cons, List.not_mem_nil, or_false] at hv
  rcases hv with rfl | rfl | rfl <;> rfl
set_option maxRecDepth 100000 in
set_option maxHeartbeats 2000000 in
theorem outOf (y0 y1 y2 y3 y4 y5 y6 y7 y8 y9 y10 y11 y12 y13 y14 y15 y16 y17 y18 y19 y20 y21 y22 y23 c h k : Int) (x0 x1 x2 x3 x4 x5 x6 x7 x8 x9 x10 x11 x12 x13 : Value) (w : World)
    (hF : ∀ w, Calls Tryd.prog 17 #[.agg #[x0, x1, x2, x3, x4, x5, x6, x7, x8, x9, x10, x11, x12, x13], .agg #[.int .i64 c, .int .i64 h, .int .i64 k]] w fun e w' => e = .returned (.tuple #[.agg #[.int .i64 y0, .int .i64 y1, .int .i64 y2, .int .i64 y3, .int .i64 y4, .int .i64 y5, .int .i64 y6, .int .i64 y7, .int .i64 y8, .int .i64 y9, .int .i64 y10, .int .i64 y11, .int .i64 y12, .int .i64 y13, .int .i64 y14, .int .i64 y15, .int .i64 y16, .int .i64 y17, .int .i64 y18, .int .i64 y19, .int .i64 y20, .int .i64 y21, .int .i64 y22, .int .i64 y23], .int .i64 0]) ∧ Below w.heap.size w w') :
    Calls Tryd.prog 9 #[.agg #[x0, x1, x2, x3, x4, x5, x6, x7, x8, x9, x10, x11, x12, x13], .agg #[.int .i64 c, .int .i64 h, .int .i64 k]] w fun e w' => e = .returned (.tuple #[.agg #[.int .i64 y17, .int .i64 y18, .int .i64 y19], .int .i64 0]) ∧ Below w.heap.size w w' := by
  have HF : Hid _ := hF
  clear hF
  go_enter Tryd.func9, Tryd.ntmps9
  go_wp2_with fail
  refine Calls.mono (HF.out _) ?_
  rintro e w1 ⟨rfl, hb⟩
  have HB1 : Hid (Below w.heap.size w w1) := to_call ((((Below.refl _ w).alloc (Nat.le_refl _) _).alloc (by simp only [alloc_size]; omega) _).alloc (by simp only [alloc_size]; omega) _) hb
  have HK : Hid (w1.heap[w.heap.size + 1 + 1]? = _) := kept hb (heap_at _ _ (w.heap.size + 1 + 1) (by simp only [alloc_size]))
  have hsz := blk_lt HK.out
  clear hb HF
  go_upto_region 2 with (first | (refine wpList_store_row (by rfl) 60 _ _ (by rfl) w w.heap.size w1.heap.size _ _ (by rfl) (by rfl) (heap_alloc_new w1 _) (HB1.out.alloc (by omega) _) (by omega) 24 Tryd.infoForm (by rfl) (by rfl) (by exact one24 ..) ?_; intro W2 e2 hb2 hs2 ho2))
  have HK2 : Hid (W2.heap[w.heap.size + 1 + 1]? = _) := (ho2 _ (by omega)).trans (alloc_kept HK.out _)
  have t0 := cellAt e2 17 (.int .i64 y17) rfl
  have t1 := cellAt e2 18 (.int .i64 y18) rfl
  have t2 := cellAt e2 19 (.int .i64 y19) rfl
  go_wp2_with (first
    | (refine wpList_store_row (by rfl) 24 _ _ (by rfl) w w.heap.size (w.heap.size + 1 + 1) _ _ (by rfl) (by rfl) HK2.out hb2 (by omega) 3 Tryd.infoShape (by rfl) (by rfl) (by exact one3 ..) ?_; intro W9 e9 hb9 hs9 ho9))
  refine bodyPost_ret (res_shape _ 4 5 (by kernel_rfl) _ _ (w.heap.size + 1 + 1) _ _ (by rfl) (by rfl) rfl e9) rfl ?_
  exact ⟨rfl, hb9⟩
set_option maxRecDepth 100000 in
theorem pairs_none (zo : Option Addr) (zc : Nat) (w : World) :
    Calls Tryd.prog 39 #[.slice zo 0 zc] w fun e w' => e = .returned (.bool true) ∧ w' = w := by
  go_enter Tryd.func39, Tryd.ntmps39
  go_wp2_with fail
  go_loopg [7] 0 (fun g iv wx => iv = .int .i64 0 ∧ Hid (wx = w))
  case atStart => exact ⟨rfl, rfl⟩
  case round =>
    obtain ⟨rfl, hw⟩ := hrel
    go_wp2
    go_ret
    exact ⟨rfl, hw.out⟩
set_option maxRecDepth 100000 in
set_option maxHeartbeats 2000000 in
theorem lists_ok (y0 y1 y2 y3 y4 y5 y6 y7 y8 y9 y10 y11 y12 y13 y14 y15 y16 y17 y18 y19 : Int) (x0 x1 x2 x3 x4 x5 x6 x7 x8 x9 : Value) (wo bo zo yo : Option Addr) (wn wc bn bc zc yc : Nat) (us vs : List Nat) (w : World) (h1 : RdF w wo wn wc us) (h2 : RdF w bo bn bc vs) (n1 : numsB us = true) (n2 : numsB vs = true) :
    Calls Tryd.prog 33 #[.agg #[.int .i64 y0, .int .i64 y1, .int .i64 y2, .int .i64 y3, .int .i64 y4, .int .i64 y5, .int .i64 y6, .int .i64 y7, .int .i64 y8, .int .i64 y9, .int .i64 y10, .int .i64 y11, .int .i64 y12, .int .i64 y13, .int .i64 y14, .int .i64 y15, .int .i64 y16, .int .i64 y17, .int .i64 y18, .int .i64 y19, .int .i64 (wn : Int), .int .i64 (bn : Int), .int .i64 0, .int .i64 0], .agg #[x0, x1, x2, x3, x4, x5, x6, x7, x8, x9, .slice wo wn wc, .slice bo bn bc, .slice zo 0 zc, .slice yo 0 yc]] w fun e w' => e = .returned (.int .i64 0) ∧ Below w.heap.size w w' := by
  have HRD : Hid (∀ w', Below w.heap.size w w' → RdF w' wo wn wc us ∧ RdF w' bo bn bc vs) := fun w' hb => ⟨h1.later hb, h2.later hb⟩
  clear h1 h2
  go_enter Tryd.func33, Tryd.ntmps33
  go_upto_region 1 with fail
  have hb := ((Below.refl _ w).alloc (Nat.le_refl _) (Obj.cells #[.int .i64 y0, .int .i64 y1, .int .i64 y2, .int .i64 y3, .int .i64 y4, .int .i64 y5, .int .i64 y6, .int .i64 y7, .int .i64 y8, .int .i64 y9, .int .i64 y10, .int .i64 y11, .int .i64 y12, .int .i64 y13, .int .i64 y14, .int .i64 y15, .int .i64 y16, .int .i64 y17, .int .i64 y18, .int .i64 y19, .int .i64 (wn : Int), .int .i64 (bn : Int), .int .i64 0, .int .i64 0] 60)).alloc (by simp only [alloc_size]; omega) (Obj.cells #[x0, x1, x2, x3, x4, x5, x6, x7, x8, x9, .slice wo wn wc, .slice bo bn bc, .slice zo 0 zc, .slice yo 0 yc] 33)
  have k0 := alloc_kept (heap_alloc_new w (Obj.cells #[.int .i64 y0, .int .i64 y1, .int .i64 y2, .int .i64 y3, .int .i64 y4, .int .i64 y5, .int .i64 y6, .int .i64 y7, .int .i64 y8, .int .i64 y9, .int .i64 y10, .int .i64 y11, .int .i64 y12, .int .i64 y13, .int .i64 y14, .int .i64 y15, .int .i64 y16, .int .i64 y17, .int .i64 y18, .int .i64 y19, .int .i64 (wn : Int), .int .i64 (bn : Int), .int .i64 0, .int .i64 0] 60)) (Obj.cells #[x0, x1, x2, x3, x4, x5, x6, x7, x8, x9, .slice wo wn wc, .slice bo bn bc, .slice zo 0 zc, .slice yo 0 yc] 33)
  have k1 := heap_at (w.alloc (Obj.cells #[.int .i64 y0, .int .i64 y1, .int .i64 y2, .int .i64 y3, .int .i64 y4, .int .i64 y5, .int .i64 y6, .int .i64 y7, .int .i64 y8, .int .i64 y9, .int .i64 y10, .int .i64 y11, .int .i64 y12, .int .i64 y13, .int .i64 y14, .int .i64 y15, .int .i64 y16, .int .i64 y17, .int .i64 y18, .int .i64 y19, .int .i64 (wn : Int), .int .i64 (bn : Int), .int .i64 0, .int .i64 0] 60)) (Obj.cells #[x0, x1, x2, x3, x4, x5, x6, x7, x8, x9, .slice wo wn wc, .slice bo bn bc, .slice zo 0 zc, .slice yo 0 yc] 33) (w.heap.size + 1) (by simp only [alloc_size])
  obtain ⟨W, hW⟩ : ∃ W, (w.alloc (Obj.cells #[.int .i64 y0, .int .i64 y1, .int .i64 y2, .int .i64 y3, .int .i64 y4, .int .i64 y5, .int .i64 y6, .int .i64 y7, .int .i64 y8, .int .i64 y9, .int .i64 y10, .int .i64 y11, .int .i64 y12, .int .i64 y13, .int .i64 y14, .int .i64 y15, .int .i64 y16, .int .i64 y17, .int .i64 y18, .int .i64 y19, .int .i64 (wn : Int), .int .i64 (bn : Int), .int .i64 0, .int .i64 0] 60)).alloc (Obj.cells #[x0, x1, x2, x3, x4, x5, x6, x7, x8, x9, .slice wo wn wc, .slice bo bn bc, .slice zo 0 zc, .slice yo 0 yc] 33) = W := ⟨_, rfl⟩
  rw [hW] at hb k0 k1 ⊢
  clear hW
  obtain ⟨r1, r2⟩ := HRD.out W hb
  have HN1 : Hid _ := numbers_any wo wn wc us W r1
  have HN2 : Hid _ := numbers_any bo bn bc vs W r2
  rw [n1] at HN1
  rw [n2] at HN2
  have HP1 : Hid _ := pairs_none zo zc W
  have HP2 : Hid _ := pairs_none yo yc W
  have HBB : Hid _ := hb
  have c10 := cellAt k1 10 (.slice wo wn wc) rfl
  have c11 := cellAt k1 11 (.slice bo bn bc) rfl
  have c12 := cellAt k1 12 (.slice zo 0 zc) rfl
  have c13 := cellAt k1 13 (.slice yo 0 yc) rfl
  have d20 := cellAt k0 20 (.int .i64 (wn : Int)) rfl
  have d21 := cellAt k0 21 (.int .i64 (bn : Int)) rfl
  have d22 := cellAt k0 22 (.int .i64 0) rfl
  have d23 := cellAt k0 23 (.int .i64 0) rfl
  clear r1 r2 n1 n2 k0 k1 hb HRD
  go_wp2_with fail
  refine Calls.mono HN1.out ?_
  rintro e w2 ⟨rfl, hw⟩
  rw [hw]
  clear hw HN1
  go_wp2_with fail
  refine Calls.mono HN2.out ?_
  rintro e w2 ⟨rfl, hw⟩
  rw [hw]
  clear hw HN2
  go_wp2_with fail
  refine Calls.mono HP1.out ?_
  rintro e w2 ⟨rfl, hw⟩
  rw [hw]
  clear hw HP1
  go_wp2_with fail
  refine Calls.mono HP2.out ?_
  rintro e w2 ⟨rfl, hw⟩
  rw [hw]
  clear hw HP2
  go_wp2_with fail
  go_ret
  exact ⟨rfl, HBB.out⟩
set_option maxRecDepth 100000 in
theorem weightsOf_any (x0 x1 x2 x3 x4 x5 x6 x7 x8 x9 : Value) (wo bo zo yo : Option Addr) (wn wc bn bc zc yc : Nat) (hw : wn ≤ 1000000000) (hb : bn ≤ 1000000000) (w : World) :
    Calls Tryd.prog 12 #[.agg #[x0, x1, x2, x3, x4, x5, x6, x7, x8, x9, .slice wo wn wc, .slice bo bn bc, .slice zo 0 zc, .slice yo 0 yc]] w fun e w' => e = .returned (.int .i64 ((wn : Int) + (bn : Int))) ∧ Below w.heap.size w w' := by
  have E1 : Hid (wrap64 ((wn : Int) + (bn : Int)) = (wn : Int) + (bn : Int)) := w64 _ (by omega)
  clear hw hb
  go_enter Tryd.func12, Tryd.ntmps12
  go_wp2
  go_ret
  exact ⟨congrArg (fun z => Ending.returned (.int .i64 z)) (by rw [E1.out, E1.out]), (Below.refl _ w).alloc (Nat.le_refl _) _⟩
end Go.Proofs.YtogpkigpnflaoaaDoor
