import Derived.Test.YtmbnbleahehdaaaEI
namespace Go.Proofs.Ytmbnbleahehdaaa
open Go.RowKit
set_option linter.unusedVariables false

set_option maxRecDepth 100000 in
set_option maxHeartbeats 1000000 in
theorem rowOfDense (c h k i : Int) (x1 x2 x3 x4 x5 x6 x7 x8 x9 x10 x11 x12 x13 : Value) (cs : List Int) (ws : List Nat) (b : Nat) (w : World)
    (hT : ∀ wx, Below w.heap.size w wx → Calls Try.prog 35 #[.agg #[.int .i64 1, x1, x2, x3, x4, x5, x6, x7, x8, x9, x10, x11, x12, x13], .agg #[.int .i64 c, .int .i64 h, .int .i64 k], .int .i64 i] wx fun e w' => ∃ v1 v2, e = .returned (.agg #[v1, v2, .float .f64 b]) ∧ v1.oneCell' = true ∧ v2.oneCell' = true ∧ RowV w' wx.heap.size v1 v2 cs ws ∧ Below wx.heap.size wx w') :
    Calls Try.prog 26 #[.agg #[.int .i64 1, x1, x2, x3, x4, x5, x6, x7, x8, x9, x10, x11, x12, x13], .agg #[.int .i64 c, .int .i64 h, .int .i64 k], .int .i64 i] w fun e w' => ∃ v1 v2, e = .returned (.agg #[v1, v2, .float .f64 b]) ∧ v1.oneCell' = true ∧ v2.oneCell' = true ∧ RowV w' w.heap.size v1 v2 cs ws ∧ Below w.heap.size w w' := by
  have HT : Hid _ := hT
  clear hT
  go_enter Try.func26, Try.ntmps26
  go_wp2_with fail
  refine Calls.mono (HT.out _ ((((Below.refl _ w).alloc (Nat.le_refl _) _).alloc (by simp only [alloc_size]; omega) _).alloc (by simp only [alloc_size]; omega) _)) ?_
  rintro e w1 ⟨v1, v2, rfl, p1, p2, ov, hb⟩
  have k2 := kept hb (heap_at _ _ (w.heap.size + 1 + 1) (by simp only [alloc_size]))
  have HB1 : Hid (Below w.heap.size w w1) := to_call ((((Below.refl _ w).alloc (Nat.le_refl _) _).alloc (by simp only [alloc_size]; omega) _).alloc (by simp only [alloc_size]; omega) _) hb
  have HV : Hid (RowV w1 w.heap.size v1 v2 cs ws) := ov.mono (by simp only [alloc_size]; omega)
  have HK : Hid _ := k2
  clear k2 hb ov HT
  go_wp2_with (first
    | (refine wpList_store_row (by rfl) 71 _ _ (by rfl) w w.heap.size (w.heap.size + 1 + 1) _ _ (by rfl) (by rfl) HK.out HB1.out (by omega) 3 Try.infoRow (by rfl) (by rfl) (by exact one_row _ _ _ p1 p2) ?_; intro W9 e9 hb9 hs9 ho9))
  refine bodyPost_ret (res_one _ 6 71 (by kernel_rfl) _ _ (w.heap.size + 1 + 1) _ (by rfl) _ Try.underlying71 rfl 3 Try.infoRow rfl e9) rfl ?_
  refine ⟨v1, v2, rfl, p1, p2, HV.out.keep fun k hk hv => ho9 k fun e => ?_, hb9⟩
  rcases hv with hv | hv
  · exact own_ne HV.out.o1 HK.out (by decide) (e ▸ hv)
  · exact own_ne HV.out.o2 HK.out (by decide) (e ▸ hv)
set_option maxRecDepth 100000 in
set_option maxHeartbeats 1000000 in
theorem rowOfConv (c h k i : Int) (x1 x2 x3 x4 x5 x6 x7 x8 x9 x10 x11 x12 x13 : Value) (cs : List Int) (ws : List Nat) (b : Nat) (w : World)
    (hT : ∀ wx, Below w.heap.size w wx → Calls Try.prog 36 #[.agg #[.int .i64 2, x1, x2, x3, x4, x5, x6, x7, x8, x9, x10, x11, x12, x13], .agg #[.int .i64 c, .int .i64 h, .int .i64 k], .int .i64 i] wx fun e w' => ∃ v1 v2, e = .returned (.agg #[v1, v2, .float .f64 b]) ∧ v1.oneCell' = true ∧ v2.oneCell' = true ∧ RowV w' wx.heap.size v1 v2 cs ws ∧ Below wx.heap.size wx w') :
    Calls Try.prog 26 #[.agg #[.int .i64 2, x1, x2, x3, x4, x5, x6, x7, x8, x9, x10, x11, x12, x13], .agg #[.int .i64 c, .int .i64 h, .int .i64 k], .int .i64 i] w fun e w' => ∃ v1 v2, e = .returned (.agg #[v1, v2, .float .f64 b]) ∧ v1.oneCell' = true ∧ v2.oneCell' = true ∧ RowV w' w.heap.size v1 v2 cs ws ∧ Below w.heap.size w w' := by
  have HT : Hid _ := hT
  clear hT
  go_enter Try.func26, Try.ntmps26
  go_wp2_with fail
  refine Calls.mono (HT.out _ ((((Below.refl _ w).alloc (Nat.le_refl _) _).alloc (by simp only [alloc_size]; omega) _).alloc (by simp only [alloc_size]; omega) _)) ?_
  rintro e w1 ⟨v1, v2, rfl, p1, p2, ov, hb⟩
  have k2 := kept hb (heap_at _ _ (w.heap.size + 1 + 1) (by simp only [alloc_size]))
  have HB1 : Hid (Below w.heap.size w w1) := to_call ((((Below.refl _ w).alloc (Nat.le_refl _) _).alloc (by simp only [alloc_size]; omega) _).alloc (by simp only [alloc_size]; omega) _) hb
  have HV : Hid (RowV w1 w.heap.size v1 v2 cs ws) := ov.mono (by simp only [alloc_size]; omega)
  have HK : Hid _ := k2
  clear k2 hb ov HT
  go_wp2_with (first
    | (refine wpList_store_row (by rfl) 71 _ _ (by rfl) w w.heap.size (w.heap.size + 1 + 1) _ _ (by rfl) (by rfl) HK.out HB1.out (by omega) 3 Try.infoRow (by rfl) (by rfl) (by exact one_row _ _ _ p1 p2) ?_; intro W9 e9 hb9 hs9 ho9))
  refine bodyPost_ret (res_one _ 6 71 (by kernel_rfl) _ _ (w.heap.size + 1 + 1) _ (by rfl) _ Try.underlying71 rfl 3 Try.infoRow rfl e9) rfl ?_
  refine ⟨v1, v2, rfl, p1, p2, HV.out.keep fun k hk hv => ho9 k fun e => ?_, hb9⟩
  rcases hv with hv | hv
  · exact own_ne HV.out.o1 HK.out (by decide) (e ▸ hv)
  · exact own_ne HV.out.o2 HK.out (by decide) (e ▸ hv)
set_option maxRecDepth 100000 in
set_option maxHeartbeats 1000000 in
theorem rowOfScale (c h k i : Int) (x1 x2 x3 x4 x5 x6 x7 x8 x9 x10 x11 x12 x13 : Value) (cs : List Int) (ws : List Nat) (b : Nat) (w : World)
    (hT : ∀ wx, Below w.heap.size w wx → Calls Try.prog 37 #[.agg #[.int .i64 3, x1, x2, x3, x4, x5, x6, x7, x8, x9, x10, x11, x12, x13], .agg #[.int .i64 c, .int .i64 h, .int .i64 k], .int .i64 i] wx fun e w' => ∃ v1 v2, e = .returned (.agg #[v1, v2, .float .f64 b]) ∧ v1.oneCell' = true ∧ v2.oneCell' = true ∧ RowV w' wx.heap.size v1 v2 cs ws ∧ Below wx.heap.size wx w') :
    Calls Try.prog 26 #[.agg #[.int .i64 3, x1, x2, x3, x4, x5, x6, x7, x8, x9, x10, x11, x12, x13], .agg #[.int .i64 c, .int .i64 h, .int .i64 k], .int .i64 i] w fun e w' => ∃ v1 v2, e = .returned (.agg #[v1, v2, .float .f64 b]) ∧ v1.oneCell' = true ∧ v2.oneCell' = true ∧ RowV w' w.heap.size v1 v2 cs ws ∧ Below w.heap.size w w' := by
  have HT : Hid _ := hT
  clear hT
  go_enter Try.func26, Try.ntmps26
  go_wp2_with fail
  refine Calls.mono (HT.out _ ((((Below.refl _ w).alloc (Nat.le_refl _) _).alloc (by simp only [alloc_size]; omega) _).alloc (by simp only [alloc_size]; omega) _)) ?_
  rintro e w1 ⟨v1, v2, rfl, p1, p2, ov, hb⟩
  have k2 := kept hb (heap_at _ _ (w.heap.size + 1 + 1) (by simp only [alloc_size]))
  have HB1 : Hid (Below w.heap.size w w1) := to_call ((((Below.refl _ w).alloc (Nat.le_refl _) _).alloc (by simp only [alloc_size]; omega) _).alloc (by simp only [alloc_size]; omega) _) hb
  have HV : Hid (RowV w1 w.heap.size v1 v2 cs ws) := ov.mono (by simp only [alloc_size]; omega)
  have HK : Hid _ := k2
  clear k2 hb ov HT
  go_wp2_with (first
    | (refine wpList_store_row (by rfl) 71 _ _ (by rfl) w w.heap.size (w.heap.size + 1 + 1) _ _ (by rfl) (by rfl) HK.out HB1.out (by omega) 3 Try.infoRow (by rfl) (by rfl) (by exact one_row _ _ _ p1 p2) ?_; intro W9 e9 hb9 hs9 ho9))
  refine bodyPost_ret (res_one _ 6 71 (by kernel_rfl) _ _ (w.heap.size + 1 + 1) _ (by rfl) _ Try.underlying71 rfl 3 Try.infoRow rfl e9) rfl ?_
  refine ⟨v1, v2, rfl, p1, p2, HV.out.keep fun k hk hv => ho9 k fun e => ?_, hb9⟩
  rcases hv with hv | hv
  · exact own_ne HV.out.o1 HK.out (by decide) (e ▸ hv)
  · exact own_ne HV.out.o2 HK.out (by decide) (e ▸ hv)
set_option maxRecDepth 100000 in
set_option maxHeartbeats 1000000 in
theorem rowOfMean (c h k i : Int) (x1 x2 x3 x4 x5 x6 x7 x8 x9 x10 x11 x12 x13 : Value) (cs : List Int) (ws : List Nat) (b : Nat) (w : World)
    (hT : ∀ wx, Below w.heap.size w wx → Calls Try.prog 38 #[.agg #[.int .i64 4, x1, x2, x3, x4, x5, x6, x7, x8, x9, x10, x11, x12, x13], .agg #[.int .i64 c, .int .i64 h, .int .i64 k], .int .i64 i] wx fun e w' => ∃ v1 v2, e = .returned (.agg #[v1, v2, .float .f64 b]) ∧ v1.oneCell' = true ∧ v2.oneCell' = true ∧ RowV w' wx.heap.size v1 v2 cs ws ∧ Below wx.heap.size wx w') :
    Calls Try.prog 26 #[.agg #[.int .i64 4, x1, x2, x3, x4, x5, x6, x7, x8, x9, x10, x11, x12, x13], .agg #[.int .i64 c, .int .i64 h, .int .i64 k], .int .i64 i] w fun e w' => ∃ v1 v2, e = .returned (.agg #[v1, v2, .float .f64 b]) ∧ v1.oneCell' = true ∧ v2.oneCell' = true ∧ RowV w' w.heap.size v1 v2 cs ws ∧ Below w.heap.size w w' := by
  have HT : Hid _ := hT
  clear hT
  go_enter Try.func26, Try.ntmps26
  go_wp2_with fail
  refine Calls.mono (HT.out _ ((((Below.refl _ w).alloc (Nat.le_refl _) _).alloc (by simp only [alloc_size]; omega) _).alloc (by simp only [alloc_size]; omega) _)) ?_
  rintro e w1 ⟨v1, v2, rfl, p1, p2, ov, hb⟩
  have k2 := kept hb (heap_at _ _ (w.heap.size + 1 + 1) (by simp only [alloc_size]))
  have HB1 : Hid (Below w.heap.size w w1) := to_call ((((Below.refl _ w).alloc (Nat.le_refl _) _).alloc (by simp only [alloc_size]; omega) _).alloc (by simp only [alloc_size]; omega) _) hb
  have HV : Hid (RowV w1 w.heap.size v1 v2 cs ws) := ov.mono (by simp only [alloc_size]; omega)
  have HK : Hid _ := k2
  clear k2 hb ov HT
  go_wp2_with (first
    | (refine wpList_store_row (by rfl) 71 _ _ (by rfl) w w.heap.size (w.heap.size + 1 + 1) _ _ (by rfl) (by rfl) HK.out HB1.out (by omega) 3 Try.infoRow (by rfl) (by rfl) (by exact one_row _ _ _ p1 p2) ?_; intro W9 e9 hb9 hs9 ho9))
  refine bodyPost_ret (res_one _ 6 71 (by kernel_rfl) _ _ (w.heap.size + 1 + 1) _ (by rfl) _ Try.underlying71 rfl 3 Try.infoRow rfl e9) rfl ?_
  refine ⟨v1, v2, rfl, p1, p2, HV.out.keep fun k hk hv => ho9 k fun e => ?_, hb9⟩
  rcases hv with hv | hv
  · exact own_ne HV.out.o1 HK.out (by decide) (e ▸ hv)
  · exact own_ne HV.out.o2 HK.out (by decide) (e ▸ hv)
end Go.Proofs.Ytmbnbleahehdaaa
