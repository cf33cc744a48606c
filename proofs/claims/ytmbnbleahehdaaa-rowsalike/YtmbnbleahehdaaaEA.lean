import Derived.Test.YtmbnbleahehdaaaTE
namespace Go.Proofs.Ytmbnbleahehdaaa
open Go.RowKit
set_option linter.unusedVariables false

set_option maxRecDepth 100000 in
set_option maxHeartbeats 1000000 in
theorem listsOf (y0 y1 y2 y3 y4 y5 y6 y7 y8 y9 y10 y11 y12 y13 y14 y15 y16 y17 y18 y19 y20 y21 y22 y23 c h k : Int) (x0 x1 x2 x3 x4 x5 x6 x7 x8 x9 x10 x11 x12 x13 : Value) (w : World)
    (hF : ∀ w, Calls Try.prog 32 #[.agg #[x0, x1, x2, x3, x4, x5, x6, x7, x8, x9, x10, x11, x12, x13], .agg #[.int .i64 c, .int .i64 h, .int .i64 k]] w fun e w' => e = .returned (.tuple #[.agg #[.int .i64 y0, .int .i64 y1, .int .i64 y2, .int .i64 y3, .int .i64 y4, .int .i64 y5, .int .i64 y6, .int .i64 y7, .int .i64 y8, .int .i64 y9, .int .i64 y10, .int .i64 y11, .int .i64 y12, .int .i64 y13, .int .i64 y14, .int .i64 y15, .int .i64 y16, .int .i64 y17, .int .i64 y18, .int .i64 y19, .int .i64 y20, .int .i64 y21, .int .i64 y22, .int .i64 y23], .int .i64 0]) ∧ Below w.heap.size w w') :
    Calls Try.prog 34 #[.agg #[x0, x1, x2, x3, x4, x5, x6, x7, x8, x9, x10, x11, x12, x13], .agg #[.int .i64 c, .int .i64 h, .int .i64 k]] w fun e w' => e = .returned (.tuple #[.int .i64 y20, .int .i64 y21, .int .i64 y22, .int .i64 y23, .int .i64 0]) ∧ Below w.heap.size w w' := by
  have HF : Hid _ := hF
  clear hF
  go_enter Try.func34, Try.ntmps34
  go_wp2_with fail
  refine Calls.mono (HF.out _) ?_
  rintro e w1 ⟨rfl, hb⟩
  have HB1 : Hid (Below w.heap.size w w1) := to_call (((Below.refl _ w).alloc (Nat.le_refl _) _).alloc (by simp only [alloc_size]; omega) _) hb
  have hsz := HB1.out.size
  clear hb HF
  go_upto_region 2 with (first | (refine wpList_store_row (by rfl) 86 _ _ (by rfl) w w.heap.size w1.heap.size _ _ (by rfl) (by rfl) (heap_alloc_new w1 _) (HB1.out.alloc (by omega) _) (by omega) 24 Try.infoForm (by rfl) (by rfl) (by exact one24 ..) ?_; intro W2 e2 hb2 hs2 ho2))
  have t0 := cellAt e2 20 (.int .i64 y20) rfl
  have t1 := cellAt e2 21 (.int .i64 y21) rfl
  have t2 := cellAt e2 22 (.int .i64 y22) rfl
  have t3 := cellAt e2 23 (.int .i64 y23) rfl
  clear e2 hs2 ho2
  go_quiet (fail)
  go_wp2_with fail
  refine bodyPost_ret (res_tmp5 _ 4 5 6 7 8 (by kernel_rfl) _ _ _ _ _ _ _ (by rfl) (by rfl) (by rfl) (by rfl) (by rfl)) rfl ?_
  exact ⟨rfl, below_drewN hb2 _⟩
set_option maxRecDepth 100000 in
set_option maxHeartbeats 1000000 in
theorem countOf (c h k c' h' k' n : Int) (x0 x1 x2 x3 x4 x5 x6 x7 x8 x9 x10 x11 x12 x13 : Value) (w : World) (hO : ∀ w, Calls Try.prog 18 #[.agg #[x0, x1, x2, x3, x4, x5, x6, x7, x8, x9, x10, x11, x12, x13], .agg #[.int .i64 c, .int .i64 h, .int .i64 k]] w fun e w' => e = .returned (.tuple #[.agg #[.int .i64 c', .int .i64 h', .int .i64 k'], .int .i64 0]) ∧ Below w.heap.size w w') (hs : szF [c', h', k'] 1 = (n, 0)) :
    Calls Try.prog 7 #[.agg #[x0, x1, x2, x3, x4, x5, x6, x7, x8, x9, x10, x11, x12, x13], .agg #[.int .i64 c, .int .i64 h, .int .i64 k]] w fun e w' => e = .returned (.tuple #[.int .i64 n, .int .i64 0]) ∧ Below w.heap.size w w' := by
  have HF : Hid _ := hO
  have HS : Hid _ := fun w => size_of hs w
  clear hO
  go_enter Try.func7, Try.ntmps7
  go_wp2_with fail
  refine Calls.mono (HF.out _) ?_
  rintro e w1 ⟨rfl, hb⟩
  have HB1 : Hid (Below w.heap.size w w1) := to_call (((Below.refl _ w).alloc (Nat.le_refl _) _).alloc (by simp only [alloc_size]; omega) _) hb
  have hsz := HB1.out.size
  clear hb HF
  go_wp2_with (first | (refine wpList_store_row (by rfl) 25 _ _ (by rfl) w w.heap.size w1.heap.size _ _ (by rfl) (by rfl) (heap_alloc_new w1 _) (HB1.out.alloc (by omega) _) (by omega) 3 Try.infoShape (by rfl) (by rfl) (by exact one3 ..) ?_; intro W2 e2 hb2 hs2 ho2; obtain ⟨a0, a1, a2⟩ := cells3 e2))
  refine Calls.mono (HS.out _) ?_
  rintro e w3 ⟨rfl, hb⟩
  have HB3 : Hid (Below w.heap.size w w3) := to_call hb2 hb
  clear hb
  go_wp2_with fail
  go_ret2
  exact ⟨rfl, HB3.out⟩
set_option maxRecDepth 100000 in
set_option maxHeartbeats 1000000 in
theorem toldOf (c h k n i : Int) (x0 x1 x2 x3 x4 x5 x6 x7 x8 x9 x10 x11 x12 x13 : Value) (w : World) (hC : ∀ w, Calls Try.prog 7 #[.agg #[x0, x1, x2, x3, x4, x5, x6, x7, x8, x9, x10, x11, x12, x13], .agg #[.int .i64 c, .int .i64 h, .int .i64 k]] w fun e w' => e = .returned (.tuple #[.int .i64 n, .int .i64 0]) ∧ Below w.heap.size w w') (h0 : 0 ≤ i) (h1 : i < n) :
    Calls Try.prog 21 #[.agg #[x0, x1, x2, x3, x4, x5, x6, x7, x8, x9, x10, x11, x12, x13], .agg #[.int .i64 c, .int .i64 h, .int .i64 k], .int .i64 i] w fun e w' => e = .returned (.int .i64 0) ∧ Below w.heap.size w w' := by
  have HF : Hid _ := hC
  clear hC
  have d0 : decide (i < 0) = false := decide_eq_false (by omega)
  have d1 : decide (n ≤ i) = false := decide_eq_false (by omega)
  have e0 : ¬ i < 0 := by omega
  have e1 : ¬ n ≤ i := by omega
  go_enter Try.func21, Try.ntmps21
  go_wp2_with fail
  refine Calls.mono (HF.out _) ?_
  rintro e w1 ⟨rfl, hb⟩
  have HB1 : Hid (Below w.heap.size w w1) := to_call (((Below.refl _ w).alloc (Nat.le_refl _) _).alloc (by simp only [alloc_size]; omega) _) hb
  clear hb HF
  go_wp2_with fail
  go_ret
  exact ⟨rfl, HB1.out⟩
set_option maxRecDepth 100000 in
set_option maxHeartbeats 1000000 in
theorem haveOf (kd c h k i : Int) (x1 x2 x3 x4 x5 x6 x7 x8 x9 : Value) (wo bo zo yo : Option Addr) (wn wc bn bc zn zc yn yc : Nat) (w : World) (hk : 1 ≤ kd ∧ kd ≤ 6) (hk5 : (kd == 5) = false)
    (hL : ∀ w, Calls Try.prog 34 #[.agg #[.int .i64 kd, x1, x2, x3, x4, x5, x6, x7, x8, x9, .slice wo wn wc, .slice bo bn bc, .slice zo zn zc, .slice yo yn yc], .agg #[.int .i64 c, .int .i64 h, .int .i64 k]] w fun e w' => e = .returned (.tuple #[.int .i64 (wn : Int), .int .i64 (bn : Int), .int .i64 (zn : Int), .int .i64 (yn : Int), .int .i64 0]) ∧ Below w.heap.size w w')
    (hT : ∀ w, Calls Try.prog 21 #[.agg #[.int .i64 kd, x1, x2, x3, x4, x5, x6, x7, x8, x9, .slice wo wn wc, .slice bo bn bc, .slice zo zn zc, .slice yo yn yc], .agg #[.int .i64 c, .int .i64 h, .int .i64 k], .int .i64 i] w fun e w' => e = .returned (.int .i64 0) ∧ Below w.heap.size w w') :
    Calls Try.prog 25 #[.agg #[.int .i64 kd, x1, x2, x3, x4, x5, x6, x7, x8, x9, .slice wo wn wc, .slice bo bn bc, .slice zo zn zc, .slice yo yn yc], .agg #[.int .i64 c, .int .i64 h, .int .i64 k], .int .i64 i] w fun e w' => e = .returned (.int .i64 0) ∧ Below w.heap.size w w' := by
  have HF : Hid _ := hL
  have HT : Hid _ := hT
  have HL : Hid (∀ w, Calls Try.prog 16 #[.int .i64 kd] w fun e w' => e = .returned (.bool true) ∧ w' = w) := fun w => by
    have := linear_any kd w
    rw [decide_eq_true hk] at this
    exact this
  clear hL hT hk
  go_enter Try.func25, Try.ntmps25
  go_wp2_with fail
  refine Calls.mono (HF.out _) ?_
  rintro e w1 ⟨rfl, hb⟩
  have HB1 : Hid (Below w.heap.size w w1) := to_call (((Below.refl _ w).alloc (Nat.le_refl _) _).alloc (by simp only [alloc_size]; omega) _) hb
  have k0 := kept hb (alloc_kept (heap_alloc_new w _) _)
  have k1 := kept hb (heap_at _ _ (w.heap.size + 1) (by simp only [alloc_size]))
  have hsz := blk_lt k1
  obtain ⟨a0, a1, a2, a3, a4, a5, a6, a7, a8, a9, a10, a11, a12, a13⟩ := cells14 k0
  obtain ⟨b0, b1, b2⟩ := cells3 k1
  clear hb HF
  go_wp2_with fail
  refine Calls.mono (HL.out _) ?_
  rintro e wz ⟨rfl, hw⟩
  rw [hw]
  clear hw
  go_wp2_with (first | (refine wpList_load_row (by rfl) 30 _ (by rfl) w.heap.size _ (by rfl) k0 _ Try.underlying30 rfl 14 Try.infoLy (by rfl) ?_))
  refine Calls.mono (HT.out _) ?_
  rintro e w2 ⟨rfl, hb⟩
  have HB2 : Hid (Below w.heap.size w w2) := to_call HB1.out hb
  clear hb HT
  go_wp2_with fail
  go_ret
  exact ⟨rfl, HB2.out⟩
set_option maxRecDepth 100000 in
set_option maxHeartbeats 1000000 in
theorem rowFrom (c h k i : Int) (x0 x1 x2 x3 x4 x5 x6 x7 x8 x9 x10 x11 x12 x13 : Value) (cs : List Int) (ws : List Nat) (b : Nat) (w : World)
    (hH : ∀ w, Calls Try.prog 25 #[.agg #[x0, x1, x2, x3, x4, x5, x6, x7, x8, x9, x10, x11, x12, x13], .agg #[.int .i64 c, .int .i64 h, .int .i64 k], .int .i64 i] w fun e w' => e = .returned (.int .i64 0) ∧ Below w.heap.size w w')
    (hT : ∀ wx, Below w.heap.size w wx → Calls Try.prog 26 #[.agg #[x0, x1, x2, x3, x4, x5, x6, x7, x8, x9, x10, x11, x12, x13], .agg #[.int .i64 c, .int .i64 h, .int .i64 k], .int .i64 i] wx fun e w' => ∃ v1 v2, e = .returned (.agg #[v1, v2, .float .f64 b]) ∧ v1.oneCell' = true ∧ v2.oneCell' = true ∧ RowV w' wx.heap.size v1 v2 cs ws ∧ Below wx.heap.size wx w') :
    Calls Try.prog 9 #[.agg #[x0, x1, x2, x3, x4, x5, x6, x7, x8, x9, x10, x11, x12, x13], .agg #[.int .i64 c, .int .i64 h, .int .i64 k], .int .i64 i] w fun e w' => ∃ v1 v2, e = .returned (.tuple #[v1, v2, .float .f64 b, .int .i64 0]) ∧ RowV w' w.heap.size v1 v2 cs ws ∧ Below w.heap.size w w' := by
  have HH : Hid _ := hH
  have HT : Hid _ := hT
  clear hH hT
  go_enter Try.func9, Try.ntmps9
  go_wp2_with fail
  refine Calls.mono (HH.out _) ?_
  rintro e w1 ⟨rfl, hb⟩
  have HB1 : Hid (Below w.heap.size w w1) := to_call (((Below.refl _ w).alloc (Nat.le_refl _) _).alloc (by simp only [alloc_size]; omega) _) hb
  have k0 := kept hb (alloc_kept (heap_alloc_new w _) _)
  have k1 := kept hb (heap_at _ _ (w.heap.size + 1) (by simp only [alloc_size]))
  have K0 : Hid _ := k0
  obtain ⟨b0, b1, b2⟩ := cells3 k1
  clear hb HH k0 k1
  go_wp2_with (first | (refine wpList_load_row (by rfl) 30 _ (by rfl) w.heap.size _ (by rfl) K0.out _ Try.underlying30 rfl 14 Try.infoLy (by rfl) ?_))
  refine Calls.mono (HT.out _ HB1.out) ?_
  rintro e w2 ⟨v1, v2, rfl, p1, p2, ov, hb⟩
  have HB2 : Hid (Below w.heap.size w w2) := to_call HB1.out hb
  have hs2 := HB2.out.size
  have HV : Hid (RowV w2 w.heap.size v1 v2 cs ws) := ov.mono HB1.out.size
  clear hb ov HT
  go_upto_region 5 with (first | (refine wpList_store_row (by rfl) 71 _ _ (by rfl) w w.heap.size w2.heap.size _ _ (by rfl) (by rfl) (heap_alloc_new w2 _) (HB2.out.alloc (by omega) _) (by omega) 3 Try.infoRow (by rfl) (by rfl) (by exact one_row _ _ _ p1 p2) ?_; intro W9 e9 hb9 hs9 ho9))
  have q0 := cellOf e9 0 v1 rfl
  have q1 := cellOf e9 1 v2 rfl
  have q2 := cellOf e9 2 (.float .f64 b) rfl
  have HV9 : Hid (RowV W9 w.heap.size v1 v2 cs ws) := HV.out.keep fun k hk hv => (ho9 k (by omega)).trans (Below.heap_alloc w2 _ k hk)
  have HB9 : Hid _ := hb9
  clear hb9 hs9 ho9 e9 HV b0 b1 b2
  go_quiet (fail)
  go_wp2_with fail
  refine bodyPost_ret (res_tmp4 _ 6 7 8 9 (by kernel_rfl) _ _ _ _ _ _ (by rfl) (by rfl) (by rfl) (by rfl)) rfl ?_
  exact ⟨v1, v2, rfl, HV9.out.later (below_drewN (Below.refl _ _) _), below_drewN HB9.out _⟩
end Go.Proofs.Ytmbnbleahehdaaa
