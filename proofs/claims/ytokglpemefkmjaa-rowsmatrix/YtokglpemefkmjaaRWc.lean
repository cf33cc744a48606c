import Derived.Test.YtokglpemefkmjaaRWb4
namespace Go.Proofs.Ytokglpemefkmjaa
open Go.RowKit
set_option linter.unusedVariables false
set_option linter.unusedSimpArgs false
set_option maxRecDepth 100000 in
set_option maxHeartbeats 4000000 in
theorem windowsR_no (kd : Int) (n2 : ¬ kd = 2) (n4 : ¬ kd = 4) (n12 : ¬ kd = 12) (w : World) : Calls Try.prog 58 #[.int .i64 kd] w fun e w' => e = .returned (.bool false) ∧ w' = w := by
  have b2 : (kd == 2) = false := beq_eq_false_iff_ne.2 n2
  have b4 : (kd == 4) = false := beq_eq_false_iff_ne.2 n4
  have b12 : (kd == 12) = false := beq_eq_false_iff_ne.2 n12
  have m2 : decide (kd = 2) = false := decide_eq_false n2
  have m4 : decide (kd = 4) = false := decide_eq_false n4
  have m12 : decide (kd = 12) = false := decide_eq_false n12
  go_enter Try.func58, Try.ntmps58
  go_wp2_with fail
  go_ret
  exact ⟨rfl, rfl⟩
set_option maxRecDepth 100000 in
set_option maxHeartbeats 4000000 in
theorem windowsR4 (w : World) : Calls Try.prog 58 #[.int .i64 4] w fun e w' => e = .returned (.bool true) ∧ w' = w := by
  go_enter Try.func58, Try.ntmps58
  go_wp2_with fail
  go_ret
  exact ⟨rfl, rfl⟩
set_option maxRecDepth 100000 in
set_option maxHeartbeats 4000000 in
theorem windowsR12 (w : World) : Calls Try.prog 58 #[.int .i64 12] w fun e w' => e = .returned (.bool true) ∧ w' = w := by
  go_enter Try.func58, Try.ntmps58
  go_wp2_with fail
  go_ret
  exact ⟨rfl, rfl⟩
set_option maxRecDepth 100000 in
set_option maxHeartbeats 4000000 in
theorem boundsZ (kd o kh kw sh sw ph pw fr : Int) (n1 : ¬ kd = 1) (n2 : ¬ kd = 2) (n4 : ¬ kd = 4) (n5 : ¬ kd = 5) (n6 : ¬ kd = 6) (n12 : ¬ kd = 12) (a9 v1 v2 v3 v4 : Value) (w : World) :
    Calls Try.prog 51 #[.agg #[.int .i64 kd, .int .i64 o, .int .i64 kh, .int .i64 kw, .int .i64 sh, .int .i64 sw, .int .i64 ph, .int .i64 pw, .int .i64 fr, a9, v1, v2, v3, v4]] w fun e w' => e = .returned (.agg #[.int .i64 0, .int .i64 0, .int .i64 0, .int .i64 0, .int .i64 0, .int .i64 0, .int .i64 0, .int .i64 0, .int .i64 0, .int .i64 0, .int .i64 0, .int .i64 0, .int .i64 0, .int .i64 0, .int .i64 0, .int .i64 0]) ∧ Below w.heap.size w w' := by
  have HB : Hid (∀ x y z, Below w.heap.size w (((w.alloc x).alloc y).alloc z)) := fun x y z => (((Below.refl _ w).alloc (Nat.le_refl _) _).alloc (by simp only [alloc_size]; omega) _).alloc (by simp only [alloc_size]; omega) _
  have m1 : decide (kd = 1) = false := decide_eq_false n1
  have m2 : decide (kd = 2) = false := decide_eq_false n2
  have m4 : decide (kd = 4) = false := decide_eq_false n4
  have m5 : decide (kd = 5) = false := decide_eq_false n5
  have m6 : decide (kd = 6) = false := decide_eq_false n6
  have m12 : decide (kd = 12) = false := decide_eq_false n12
  go_enter Try.func51, Try.ntmps51
  go_wp2_with (first | (go_at_call 58; refine (windowsR_no kd n2 n4 n12 _).mono ?_; rintro e w1 ⟨rfl, rfl⟩))
  exact bodyPost_ret (res_one _ 2 105 (by kernel_rfl) _ _ (w.heap.size + 1) _ (by rfl) _ Try.underlying105 rfl 16 Try.infoB16 rfl (alloc_kept (heap_at _ _ (w.heap.size + 1) (by simp only [alloc_size])) _)) rfl ⟨rfl, HB.out _ _ _⟩
set_option maxRecDepth 100000 in
set_option maxHeartbeats 4000000 in
theorem boundsD (o kh kw sh sw ph pw fr : Int) (a9 v1 v2 v3 v4 : Value) (w : World) :
    Calls Try.prog 51 #[.agg #[.int .i64 1, .int .i64 o, .int .i64 kh, .int .i64 kw, .int .i64 sh, .int .i64 sw, .int .i64 ph, .int .i64 pw, .int .i64 fr, a9, v1, v2, v3, v4]] w fun e w' => e = .returned (.agg #[.int .i64 1, .int .i64 256, .int .i64 0, .int .i64 0, .int .i64 0, .int .i64 0, .int .i64 0, .int .i64 0, .int .i64 0, .int .i64 0, .int .i64 0, .int .i64 0, .int .i64 0, .int .i64 0, .int .i64 0, .int .i64 0]) ∧ Below w.heap.size w w' := by
  have HB : Hid (∀ x y z, Below w.heap.size w (((w.alloc x).alloc y).alloc z)) := fun x y z => (((Below.refl _ w).alloc (Nat.le_refl _) _).alloc (by simp only [alloc_size]; omega) _).alloc (by simp only [alloc_size]; omega) _
  go_enter Try.func51, Try.ntmps51
  go_wp2_with (first | (go_at_call 58; refine (windowsR_no 1 (by decide) (by decide) (by decide) _).mono ?_; rintro e w1 ⟨rfl, rfl⟩))
  exact bodyPost_ret (res_one _ 2 105 (by kernel_rfl) _ _ (w.heap.size + 1) _ (by rfl) _ Try.underlying105 rfl 16 Try.infoB16 rfl (alloc_kept (heap_at _ _ (w.heap.size + 1) (by simp only [alloc_size])) _)) rfl ⟨rfl, HB.out _ _ _⟩
set_option maxRecDepth 100000 in
set_option maxHeartbeats 4000000 in
theorem boundsA (o kh kw sh sw ph pw fr : Int) (a9 v1 v2 v3 v4 : Value) (w : World) :
    Calls Try.prog 51 #[.agg #[.int .i64 5, .int .i64 o, .int .i64 kh, .int .i64 kw, .int .i64 sh, .int .i64 sw, .int .i64 ph, .int .i64 pw, .int .i64 fr, a9, v1, v2, v3, v4]] w fun e w' => e = .returned (.agg #[.int .i64 0, .int .i64 0, .int .i64 0, .int .i64 0, .int .i64 0, .int .i64 0, .int .i64 0, .int .i64 0, .int .i64 0, .int .i64 0, .int .i64 0, .int .i64 0, .int .i64 0, .int .i64 0, .int .i64 0, .int .i64 64]) ∧ Below w.heap.size w w' := by
  have HB : Hid (∀ x y z, Below w.heap.size w (((w.alloc x).alloc y).alloc z)) := fun x y z => (((Below.refl _ w).alloc (Nat.le_refl _) _).alloc (by simp only [alloc_size]; omega) _).alloc (by simp only [alloc_size]; omega) _
  go_enter Try.func51, Try.ntmps51
  go_wp2_with (first | (go_at_call 58; refine (windowsR_no 5 (by decide) (by decide) (by decide) _).mono ?_; rintro e w1 ⟨rfl, rfl⟩))
  exact bodyPost_ret (res_one _ 2 105 (by kernel_rfl) _ _ (w.heap.size + 1) _ (by rfl) _ Try.underlying105 rfl 16 Try.infoB16 rfl (alloc_kept (heap_at _ _ (w.heap.size + 1) (by simp only [alloc_size])) _)) rfl ⟨rfl, HB.out _ _ _⟩
set_option maxRecDepth 100000 in
set_option maxHeartbeats 4000000 in
theorem boundsT (o kh kw sh sw ph pw fr : Int) (a9 v1 v2 v3 v4 : Value) (w : World) :
    Calls Try.prog 51 #[.agg #[.int .i64 6, .int .i64 o, .int .i64 kh, .int .i64 kw, .int .i64 sh, .int .i64 sw, .int .i64 ph, .int .i64 pw, .int .i64 fr, a9, v1, v2, v3, v4]] w fun e w' => e = .returned (.agg #[.int .i64 1, .int .i64 128, .int .i64 0, .int .i64 0, .int .i64 0, .int .i64 0, .int .i64 0, .int .i64 0, .int .i64 0, .int .i64 0, .int .i64 0, .int .i64 0, .int .i64 0, .int .i64 0, .int .i64 0, .int .i64 0]) ∧ Below w.heap.size w w' := by
  have HB : Hid (∀ x y z, Below w.heap.size w (((w.alloc x).alloc y).alloc z)) := fun x y z => (((Below.refl _ w).alloc (Nat.le_refl _) _).alloc (by simp only [alloc_size]; omega) _).alloc (by simp only [alloc_size]; omega) _
  go_enter Try.func51, Try.ntmps51
  go_wp2_with (first | (go_at_call 58; refine (windowsR_no 6 (by decide) (by decide) (by decide) _).mono ?_; rintro e w1 ⟨rfl, rfl⟩))
  exact bodyPost_ret (res_one _ 2 105 (by kernel_rfl) _ _ (w.heap.size + 1) _ (by rfl) _ Try.underlying105 rfl 16 Try.infoB16 rfl (alloc_kept (heap_at _ _ (w.heap.size + 1) (by simp only [alloc_size])) _)) rfl ⟨rfl, HB.out _ _ _⟩
def bCW2 (i : Nat) : Array Value := #[.int .i64 1, .int .i64 256, .int .i64 (if 1 < i then 1 else 0), .int .i64 (if 1 < i then 16 else 0), .int .i64 (if 2 < i then 1 else 0), .int .i64 (if 2 < i then 16 else 0), .int .i64 (if 3 < i then 1 else 0), .int .i64 (if 3 < i then 16 else 0), .int .i64 (if 4 < i then 1 else 0), .int .i64 (if 4 < i then 16 else 0), .int .i64 0, .int .i64 0, .int .i64 0, .int .i64 0, .int .i64 0, .int .i64 0]
set_option maxRecDepth 100000 in
set_option maxHeartbeats 4000000 in
theorem boundsW2 (o kh kw sh sw ph pw fr : Int) (kh' kw' : Int) (hk1 : IntKind.i64.wrap (kh - 1) = kh') (hk2 : IntKind.i64.wrap (kw - 1) = kw') (a9 v1 v2 v3 v4 : Value) (w : World) :
    Calls Try.prog 51 #[.agg #[.int .i64 2, .int .i64 o, .int .i64 kh, .int .i64 kw, .int .i64 sh, .int .i64 sw, .int .i64 ph, .int .i64 pw, .int .i64 fr, a9, v1, v2, v3, v4]] w fun e w' => e = .returned (.agg #[.int .i64 1, .int .i64 256, .int .i64 1, .int .i64 16, .int .i64 1, .int .i64 16, .int .i64 1, .int .i64 16, .int .i64 1, .int .i64 16, .int .i64 0, .int .i64 kh', .int .i64 0, .int .i64 kw', .int .i64 0, .int .i64 0]) ∧ Below w.heap.size w w' := by
  have HB : Hid (∀ x y z, Below w.heap.size w (((w.alloc x).alloc y).alloc z)) := fun x y z => (((Below.refl _ w).alloc (Nat.le_refl _) _).alloc (by simp only [alloc_size]; omega) _).alloc (by simp only [alloc_size]; omega) _
  go_enter Try.func51, Try.ntmps51
  go_wp2_with (first | (go_at_call 58; refine (windowsC _).mono ?_; rintro e w1 ⟨rfl, rfl⟩))
  go_loopg [4] 4 (fun g v wx => ∃ i : Nat, v = .int .i64 i ∧ (1 ≤ i ∧ i + g = 5) ∧ Hid (Below w.heap.size w wx) ∧ Hid (wx.heap[w.heap.size]? = some (.cells #[.int .i64 2, .int .i64 o, .int .i64 kh, .int .i64 kw, .int .i64 sh, .int .i64 sw, .int .i64 ph, .int .i64 pw, .int .i64 fr, a9, v1, v2, v3, v4] 55) ∧ wx.heap[w.heap.size + 1]? = some (.cells #[.int .i64 0, .int .i64 0, .int .i64 0, .int .i64 0, .int .i64 0, .int .i64 0, .int .i64 0, .int .i64 0, .int .i64 0, .int .i64 0, .int .i64 0, .int .i64 0, .int .i64 0, .int .i64 0, .int .i64 0, .int .i64 0] 105) ∧ wx.heap[w.heap.size + 1 + 1]? = some (.cells (bCW2 i) 105)))
  case atStart => exact ⟨1, rfl, ⟨by omega, by omega⟩, HB.out _ _ _, alloc_kept (alloc_kept (heap_alloc_new w _) _) _, alloc_kept (heap_at _ _ (w.heap.size + 1) (by simp only [alloc_size])) _, heap_at _ _ (w.heap.size + 1 + 1) (by simp only [alloc_size])⟩
  case round =>
    clear HB
    obtain ⟨i, rfl, hi, HB, HK⟩ := hrel
    have hlt := blk_lt HK.out.2.2
    obtain rfl | rfl | rfl | rfl | rfl : i = 1 ∨ i = 2 ∨ i = 3 ∨ i = 4 ∨ i = 5 := by omega
    · have E0 : wr.heap[w.heap.size + 1 + 1]? = some (.cells #[.int .i64 1, .int .i64 256, .int .i64 0, .int .i64 0, .int .i64 0, .int .i64 0, .int .i64 0, .int .i64 0, .int .i64 0, .int .i64 0, .int .i64 0, .int .i64 0, .int .i64 0, .int .i64 0, .int .i64 0, .int .i64 0] 105) := HK.out.2.2
      have hb0 := HB.out
      go_wp2_with (first | (refine wpList_store_at (by rfl) 104 _ _ (by rfl) w w.heap.size (w.heap.size + 1 + 1) 2 (.agg #[.int .i64 1, .int .i64 16]) _ #[.int .i64 1, .int .i64 256, .int .i64 1, .int .i64 16, .int .i64 0, .int .i64 0, .int .i64 0, .int .i64 0, .int .i64 0, .int .i64 0, .int .i64 0, .int .i64 0, .int .i64 0, .int .i64 0, .int .i64 0, .int .i64 0] 105 (by rfl) (by rfl) E0 hb0 (by omega) 2 Try.infoB2 (by rfl) (Nat.le_of_ble_eq_true rfl) (by exact one_int2 _ _) (by rfl) ?_; intro W5 e5 hb5 hs5 ho5))
      go_roundg 3
      case measure => omega
      case rel => exact ⟨2, rfl, ⟨by omega, by omega⟩, hb5, (ho5 _ (by omega)).trans HK.out.1, (ho5 _ (by omega)).trans HK.out.2.1, e5⟩
    · have E0 : wr.heap[w.heap.size + 1 + 1]? = some (.cells #[.int .i64 1, .int .i64 256, .int .i64 1, .int .i64 16, .int .i64 0, .int .i64 0, .int .i64 0, .int .i64 0, .int .i64 0, .int .i64 0, .int .i64 0, .int .i64 0, .int .i64 0, .int .i64 0, .int .i64 0, .int .i64 0] 105) := HK.out.2.2
      have hb0 := HB.out
      go_wp2_with (first | (refine wpList_store_at (by rfl) 104 _ _ (by rfl) w w.heap.size (w.heap.size + 1 + 1) 4 (.agg #[.int .i64 1, .int .i64 16]) _ #[.int .i64 1, .int .i64 256, .int .i64 1, .int .i64 16, .int .i64 1, .int .i64 16, .int .i64 0, .int .i64 0, .int .i64 0, .int .i64 0, .int .i64 0, .int .i64 0, .int .i64 0, .int .i64 0, .int .i64 0, .int .i64 0] 105 (by rfl) (by rfl) E0 hb0 (by omega) 2 Try.infoB2 (by rfl) (Nat.le_of_ble_eq_true rfl) (by exact one_int2 _ _) (by rfl) ?_; intro W5 e5 hb5 hs5 ho5))
      go_roundg 2
      case measure => omega
      case rel => exact ⟨3, rfl, ⟨by omega, by omega⟩, hb5, (ho5 _ (by omega)).trans HK.out.1, (ho5 _ (by omega)).trans HK.out.2.1, e5⟩
    · have E0 : wr.heap[w.heap.size + 1 + 1]? = some (.cells #[.int .i64 1, .int .i64 256, .int .i64 1, .int .i64 16, .int .i64 1, .int .i64 16, .int .i64 0, .int .i64 0, .int .i64 0, .int .i64 0, .int .i64 0, .int .i64 0, .int .i64 0, .int .i64 0, .int .i64 0, .int .i64 0] 105) := HK.out.2.2
      have hb0 := HB.out
      go_wp2_with (first | (refine wpList_store_at (by rfl) 104 _ _ (by rfl) w w.heap.size (w.heap.size + 1 + 1) 6 (.agg #[.int .i64 1, .int .i64 16]) _ #[.int .i64 1, .int .i64 256, .int .i64 1, .int .i64 16, .int .i64 1, .int .i64 16, .int .i64 1, .int .i64 16, .int .i64 0, .int .i64 0, .int .i64 0, .int .i64 0, .int .i64 0, .int .i64 0, .int .i64 0, .int .i64 0] 105 (by rfl) (by rfl) E0 hb0 (by omega) 2 Try.infoB2 (by rfl) (Nat.le_of_ble_eq_true rfl) (by exact one_int2 _ _) (by rfl) ?_; intro W5 e5 hb5 hs5 ho5))
      go_roundg 1
      case measure => omega
      case rel => exact ⟨4, rfl, ⟨by omega, by omega⟩, hb5, (ho5 _ (by omega)).trans HK.out.1, (ho5 _ (by omega)).trans HK.out.2.1, e5⟩
    · have E0 : wr.heap[w.heap.size + 1 + 1]? = some (.cells #[.int .i64 1, .int .i64 256, .int .i64 1, .int .i64 16, .int .i64 1, .int .i64 16, .int .i64 1, .int .i64 16, .int .i64 0, .int .i64 0, .int .i64 0, .int .i64 0, .int .i64 0, .int .i64 0, .int .i64 0, .int .i64 0] 105) := HK.out.2.2
      have hb0 := HB.out
      go_wp2_with (first | (refine wpList_store_at (by rfl) 104 _ _ (by rfl) w w.heap.size (w.heap.size + 1 + 1) 8 (.agg #[.int .i64 1, .int .i64 16]) _ #[.int .i64 1, .int .i64 256, .int .i64 1, .int .i64 16, .int .i64 1, .int .i64 16, .int .i64 1, .int .i64 16, .int .i64 1, .int .i64 16, .int .i64 0, .int .i64 0, .int .i64 0, .int .i64 0, .int .i64 0, .int .i64 0] 105 (by rfl) (by rfl) E0 hb0 (by omega) 2 Try.infoB2 (by rfl) (Nat.le_of_ble_eq_true rfl) (by exact one_int2 _ _) (by rfl) ?_; intro W5 e5 hb5 hs5 ho5))
      go_roundg 0
      case measure => omega
      case rel => exact ⟨5, rfl, ⟨by omega, by omega⟩, hb5, (ho5 _ (by omega)).trans HK.out.1, (ho5 _ (by omega)).trans HK.out.2.1, e5⟩
    · have E0 : wr.heap[w.heap.size + 1 + 1]? = some (.cells #[.int .i64 1, .int .i64 256, .int .i64 1, .int .i64 16, .int .i64 1, .int .i64 16, .int .i64 1, .int .i64 16, .int .i64 1, .int .i64 16, .int .i64 0, .int .i64 0, .int .i64 0, .int .i64 0, .int .i64 0, .int .i64 0] 105) := HK.out.2.2
      have hb0 := HB.out
      have a2 := cellOf HK.out.1 2 (.int .i64 kh) rfl
      have a3 := cellOf HK.out.1 3 (.int .i64 kw) rfl
      go_upto_region 16 with (first | (refine wpList_store_at (by rfl) 104 _ _ (by rfl) w w.heap.size (w.heap.size + 1 + 1) 10 (.agg #[.int .i64 0, .int .i64 kh']) _ #[.int .i64 1, .int .i64 256, .int .i64 1, .int .i64 16, .int .i64 1, .int .i64 16, .int .i64 1, .int .i64 16, .int .i64 1, .int .i64 16, .int .i64 0, .int .i64 kh', .int .i64 0, .int .i64 0, .int .i64 0, .int .i64 0] 105 (by rfl) (by rfl) E0 hb0 (by omega) 2 Try.infoB2 (by rfl) (Nat.le_of_ble_eq_true rfl) (by exact one_int2 _ _) (by rfl) ?_; intro W6 e6 hb6 hs6 ho6))
      have K6 := (ho6 _ (by omega)).trans HK.out.1
      have R6 := (ho6 _ (by omega)).trans HK.out.2.1
      have a3' := cellOf K6 3 (.int .i64 kw) rfl
      go_upto_region 17 with (first | (refine wpList_store_at (by rfl) 104 _ _ (by rfl) w w.heap.size (w.heap.size + 1 + 1) 12 (.agg #[.int .i64 0, .int .i64 kw']) _ #[.int .i64 1, .int .i64 256, .int .i64 1, .int .i64 16, .int .i64 1, .int .i64 16, .int .i64 1, .int .i64 16, .int .i64 1, .int .i64 16, .int .i64 0, .int .i64 kh', .int .i64 0, .int .i64 kw', .int .i64 0, .int .i64 0] 105 (by rfl) (by rfl) e6 hb6 (by omega) 2 Try.infoB2 (by rfl) (Nat.le_of_ble_eq_true rfl) (by exact one_int2 _ _) (by rfl) ?_; intro W7 e7 hb7 hs7 ho7))
      have R7 := (ho7 _ (by omega)).trans R6
      go_wp2_with (first
        | (refine wpList_load_row (by rfl) 105 _ (by rfl) (w.heap.size + 1 + 1) _ (by rfl) e7 _ Try.underlying105 rfl 16 Try.infoB16 (by rfl) ?_)
        | (refine wpList_store_row (by rfl) 105 _ _ (by rfl) w w.heap.size (w.heap.size + 1) _ _ (by rfl) (by rfl) R7 hb7 (by omega) 16 Try.infoB16 (by rfl) (by rfl) (by exact one16 ..) ?_; intro W9 e9 hb9 hs9 ho9))
      exact bodyPost_ret (res_one _ 2 105 (by kernel_rfl) _ _ (w.heap.size + 1) _ (by rfl) _ Try.underlying105 rfl 16 Try.infoB16 rfl e9) rfl ⟨rfl, hb9⟩
def bCW4 (i : Nat) : Array Value := #[.int .i64 0, .int .i64 0, .int .i64 (if 1 < i then 1 else 0), .int .i64 (if 1 < i then 16 else 0), .int .i64 (if 2 < i then 1 else 0), .int .i64 (if 2 < i then 16 else 0), .int .i64 (if 3 < i then 1 else 0), .int .i64 (if 3 < i then 16 else 0), .int .i64 (if 4 < i then 1 else 0), .int .i64 (if 4 < i then 16 else 0), .int .i64 0, .int .i64 0, .int .i64 0, .int .i64 0, .int .i64 0, .int .i64 0]
set_option maxRecDepth 100000 in
set_option maxHeartbeats 4000000 in
theorem boundsW4 (o kh kw sh sw ph pw fr : Int) (kh' kw' : Int) (hk1 : IntKind.i64.wrap (kh - 1) = kh') (hk2 : IntKind.i64.wrap (kw - 1) = kw') (a9 v1 v2 v3 v4 : Value) (w : World) :
    Calls Try.prog 51 #[.agg #[.int .i64 4, .int .i64 o, .int .i64 kh, .int .i64 kw, .int .i64 sh, .int .i64 sw, .int .i64 ph, .int .i64 pw, .int .i64 fr, a9, v1, v2, v3, v4]] w fun e w' => e = .returned (.agg #[.int .i64 0, .int .i64 0, .int .i64 1, .int .i64 16, .int .i64 1, .int .i64 16, .int .i64 1, .int .i64 16, .int .i64 1, .int .i64 16, .int .i64 0, .int .i64 kh', .int .i64 0, .int .i64 kw', .int .i64 0, .int .i64 0]) ∧ Below w.heap.size w w' := by
  have HB : Hid (∀ x y z, Below w.heap.size w (((w.alloc x).alloc y).alloc z)) := fun x y z => (((Below.refl _ w).alloc (Nat.le_refl _) _).alloc (by simp only [alloc_size]; omega) _).alloc (by simp only [alloc_size]; omega) _
  go_enter Try.func51, Try.ntmps51
  go_wp2_with (first | (go_at_call 58; refine (windowsR4 _).mono ?_; rintro e w1 ⟨rfl, rfl⟩))
  go_loopg [4] 4 (fun g v wx => ∃ i : Nat, v = .int .i64 i ∧ (1 ≤ i ∧ i + g = 5) ∧ Hid (Below w.heap.size w wx) ∧ Hid (wx.heap[w.heap.size]? = some (.cells #[.int .i64 4, .int .i64 o, .int .i64 kh, .int .i64 kw, .int .i64 sh, .int .i64 sw, .int .i64 ph, .int .i64 pw, .int .i64 fr, a9, v1, v2, v3, v4] 55) ∧ wx.heap[w.heap.size + 1]? = some (.cells #[.int .i64 0, .int .i64 0, .int .i64 0, .int .i64 0, .int .i64 0, .int .i64 0, .int .i64 0, .int .i64 0, .int .i64 0, .int .i64 0, .int .i64 0, .int .i64 0, .int .i64 0, .int .i64 0, .int .i64 0, .int .i64 0] 105) ∧ wx.heap[w.heap.size + 1 + 1]? = some (.cells (bCW4 i) 105)))
  case atStart => exact ⟨1, rfl, ⟨by omega, by omega⟩, HB.out _ _ _, alloc_kept (alloc_kept (heap_alloc_new w _) _) _, alloc_kept (heap_at _ _ (w.heap.size + 1) (by simp only [alloc_size])) _, heap_at _ _ (w.heap.size + 1 + 1) (by simp only [alloc_size])⟩
  case round =>
    clear HB
    obtain ⟨i, rfl, hi, HB, HK⟩ := hrel
    have hlt := blk_lt HK.out.2.2
    obtain rfl | rfl | rfl | rfl | rfl : i = 1 ∨ i = 2 ∨ i = 3 ∨ i = 4 ∨ i = 5 := by omega
    · have E0 : wr.heap[w.heap.size + 1 + 1]? = some (.cells #[.int .i64 0, .int .i64 0, .int .i64 0, .int .i64 0, .int .i64 0, .int .i64 0, .int .i64 0, .int .i64 0, .int .i64 0, .int .i64 0, .int .i64 0, .int .i64 0, .int .i64 0, .int .i64 0, .int .i64 0, .int .i64 0] 105) := HK.out.2.2
      have hb0 := HB.out
      go_wp2_with (first | (refine wpList_store_at (by rfl) 104 _ _ (by rfl) w w.heap.size (w.heap.size + 1 + 1) 2 (.agg #[.int .i64 1, .int .i64 16]) _ #[.int .i64 0, .int .i64 0, .int .i64 1, .int .i64 16, .int .i64 0, .int .i64 0, .int .i64 0, .int .i64 0, .int .i64 0, .int .i64 0, .int .i64 0, .int .i64 0, .int .i64 0, .int .i64 0, .int .i64 0, .int .i64 0] 105 (by rfl) (by rfl) E0 hb0 (by omega) 2 Try.infoB2 (by rfl) (Nat.le_of_ble_eq_true rfl) (by exact one_int2 _ _) (by rfl) ?_; intro W5 e5 hb5 hs5 ho5))
      go_roundg 3
      case measure => omega
      case rel => exact ⟨2, rfl, ⟨by omega, by omega⟩, hb5, (ho5 _ (by omega)).trans HK.out.1, (ho5 _ (by omega)).trans HK.out.2.1, e5⟩
    · have E0 : wr.heap[w.heap.size + 1 + 1]? = some (.cells #[.int .i64 0, .int .i64 0, .int .i64 1, .int .i64 16, .int .i64 0, .int .i64 0, .int .i64 0, .int .i64 0, .int .i64 0, .int .i64 0, .int .i64 0, .int .i64 0, .int .i64 0, .int .i64 0, .int .i64 0, .int .i64 0] 105) := HK.out.2.2
      have hb0 := HB.out
      go_wp2_with (first | (refine wpList_store_at (by rfl) 104 _ _ (by rfl) w w.heap.size (w.heap.size + 1 + 1) 4 (.agg #[.int .i64 1, .int .i64 16]) _ #[.int .i64 0, .int .i64 0, .int .i64 1, .int .i64 16, .int .i64 1, .int .i64 16, .int .i64 0, .int .i64 0, .int .i64 0, .int .i64 0, .int .i64 0, .int .i64 0, .int .i64 0, .int .i64 0, .int .i64 0, .int .i64 0] 105 (by rfl) (by rfl) E0 hb0 (by omega) 2 Try.infoB2 (by rfl) (Nat.le_of_ble_eq_true rfl) (by exact one_int2 _ _) (by rfl) ?_; intro W5 e5 hb5 hs5 ho5))
      go_roundg 2
      case measure => omega
      case rel => exact ⟨3, rfl, ⟨by omega, by omega⟩, hb5, (ho5 _ (by omega)).trans HK.out.1, (ho5 _ (by omega)).trans HK.out.2.1, e5⟩
    · have E0 : wr.heap[w.heap.size + 1 + 1]? = some (.cells #[.int .i64 0, .int .i64 0, .int .i64 1, .int .i64 16, .int .i64 1, .int .i64 16, .int .i64 0, .int .i64 0, .int .i64 0, .int .i64 0, .int .i64 0, .int .i64 0, .int .i64 0, .int .i64 0, .int .i64 0, .int .i64 0] 105) := HK.out.2.2
      have hb0 := HB.out
      go_wp2_with (first | (refine wpList_store_at (by rfl) 104 _ _ (by rfl) w w.heap.size (w.heap.size + 1 + 1) 6 (.agg #[.int .i64 1, .int .i64 16]) _ #[.int .i64 0, .int .i64 0, .int .i64 1, .int .i64 16, .int .i64 1, .int .i64 16, .int .i64 1, .int .i64 16, .int .i64 0, .int .i64 0, .int .i64 0, .int .i64 0, .int .i64 0, .int .i64 0, .int .i64 0, .int .i64 0] 105 (by rfl) (by rfl) E0 hb0 (by omega) 2 Try.infoB2 (by rfl) (Nat.le_of_ble_eq_true rfl) (by exact one_int2 _ _) (by rfl) ?_; intro W5 e5 hb5 hs5 ho5))
      go_roundg 1
      case measure => omega
      case rel => exact ⟨4, rfl, ⟨by omega, by omega⟩, hb5, (ho5 _ (by omega)).trans HK.out.1, (ho5 _ (by omega)).trans HK.out.2.1, e5⟩
    · have E0 : wr.heap[w.heap.size + 1 + 1]? = some (.cells #[.int .i64 0, .int .i64 0, .int .i64 1, .int .i64 16, .int .i64 1, .int .i64 16, .int .i64 1, .int .i64 16, .int .i64 0, .int .i64 0, .int .i64 0, .int .i64 0, .int .i64 0, .int .i64 0, .int .i64 0, .int .i64 0] 105) := HK.out.2.2
      have hb0 := HB.out
      go_wp2_with (first | (refine wpList_store_at (by rfl) 104 _ _ (by rfl) w w.heap.size (w.heap.size + 1 + 1) 8 (.agg #[.int .i64 1, .int .i64 16]) _ #[.int .i64 0, .int .i64 0, .int .i64 1, .int .i64 16, .int .i64 1, .int .i64 16, .int .i64 1, .int .i64 16, .int .i64 1, .int .i64 16, .int .i64 0, .int .i64 0, .int .i64 0, .int .i64 0, .int .i64 0, .int .i64 0] 105 (by rfl) (by rfl) E0 hb0 (by omega) 2 Try.infoB2 (by rfl) (Nat.le_of_ble_eq_true rfl) (by exact one_int2 _ _) (by rfl) ?_; intro W5 e5 hb5 hs5 ho5))
      go_roundg 0
      case measure => omega
      case rel => exact ⟨5, rfl, ⟨by omega, by omega⟩, hb5, (ho5 _ (by omega)).trans HK.out.1, (ho5 _ (by omega)).trans HK.out.2.1, e5⟩
    · have E0 : wr.heap[w.heap.size + 1 + 1]? = some (.cells #[.int .i64 0, .int .i64 0, .int .i64 1, .int .i64 16, .int .i64 1, .int .i64 16, .int .i64 1, .int .i64 16, .int .i64 1, .int .i64 16, .int .i64 0, .int .i64 0, .int .i64 0, .int .i64 0, .int .i64 0, .int .i64 0] 105) := HK.out.2.2
      have hb0 := HB.out
      have a2 := cellOf HK.out.1 2 (.int .i64 kh) rfl
      have a3 := cellOf HK.out.1 3 (.int .i64 kw) rfl
      go_upto_region 16 with (first | (refine wpList_store_at (by rfl) 104 _ _ (by rfl) w w.heap.size (w.heap.size + 1 + 1) 10 (.agg #[.int .i64 0, .int .i64 kh']) _ #[.int .i64 0, .int .i64 0, .int .i64 1, .int .i64 16, .int .i64 1, .int .i64 16, .int .i64 1, .int .i64 16, .int .i64 1, .int .i64 16, .int .i64 0, .int .i64 kh', .int .i64 0, .int .i64 0, .int .i64 0, .int .i64 0] 105 (by rfl) (by rfl) E0 hb0 (by omega) 2 Try.infoB2 (by rfl) (Nat.le_of_ble_eq_true rfl) (by exact one_int2 _ _) (by rfl) ?_; intro W6 e6 hb6 hs6 ho6))
      have K6 := (ho6 _ (by omega)).trans HK.out.1
      have R6 := (ho6 _ (by omega)).trans HK.out.2.1
      have a3' := cellOf K6 3 (.int .i64 kw) rfl
      go_upto_region 17 with (first | (refine wpList_store_at (by rfl) 104 _ _ (by rfl) w w.heap.size (w.heap.size + 1 + 1) 12 (.agg #[.int .i64 0, .int .i64 kw']) _ #[.int .i64 0, .int .i64 0, .int .i64 1, .int .i64 16, .int .i64 1, .int .i64 16, .int .i64 1, .int .i64 16, .int .i64 1, .int .i64 16, .int .i64 0, .int .i64 kh', .int .i64 0, .int .i64 kw', .int .i64 0, .int .i64 0] 105 (by rfl) (by rfl) e6 hb6 (by omega) 2 Try.infoB2 (by rfl) (Nat.le_of_ble_eq_true rfl) (by exact one_int2 _ _) (by rfl) ?_; intro W7 e7 hb7 hs7 ho7))
      have R7 := (ho7 _ (by omega)).trans R6
      go_wp2_with (first
        | (refine wpList_load_row (by rfl) 105 _ (by rfl) (w.heap.size + 1 + 1) _ (by rfl) e7 _ Try.underlying105 rfl 16 Try.infoB16 (by rfl) ?_)
        | (refine wpList_store_row (by rfl) 105 _ _ (by rfl) w w.heap.size (w.heap.size + 1) _ _ (by rfl) (by rfl) R7 hb7 (by omega) 16 Try.infoB16 (by rfl) (by rfl) (by exact one16 ..) ?_; intro W9 e9 hb9 hs9 ho9))
      exact bodyPost_ret (res_one _ 2 105 (by kernel_rfl) _ _ (w.heap.size + 1) _ (by rfl) _ Try.underlying105 rfl 16 Try.infoB16 rfl e9) rfl ⟨rfl, hb9⟩
def bCW12 (i : Nat) : Array Value := #[.int .i64 0, .int .i64 0, .int .i64 (if 1 < i then 1 else 0), .int .i64 (if 1 < i then 16 else 0), .int .i64 (if 2 < i then 1 else 0), .int .i64 (if 2 < i then 16 else 0), .int .i64 (if 3 < i then 1 else 0), .int .i64 (if 3 < i then 16 else 0), .int .i64 (if 4 < i then 1 else 0), .int .i64 (if 4 < i then 16 else 0), .int .i64 0, .int .i64 0, .int .i64 0, .int .i64 0, .int .i64 0, .int .i64 0]
set_option maxRecDepth 100000 in
set_option maxHeartbeats 4000000 in
theorem boundsW12 (o kh kw sh sw ph pw fr : Int) (kh' kw' : Int) (hk1 : IntKind.i64.wrap (kh - 1) = kh') (hk2 : IntKind.i64.wrap (kw - 1) = kw') (a9 v1 v2 v3 v4 : Value) (w : World) :
    Calls Try.prog 51 #[.agg #[.int .i64 12, .int .i64 o, .int .i64 kh, .int .i64 kw, .int .i64 sh, .int .i64 sw, .int .i64 ph, .int .i64 pw, .int .i64 fr, a9, v1, v2, v3, v4]] w fun e w' => e = .returned (.agg #[.int .i64 0, .int .i64 0, .int .i64 1, .int .i64 16, .int .i64 1, .int .i64 16, .int .i64 1, .int .i64 16, .int .i64 1, .int .i64 16, .int .i64 0, .int .i64 kh', .int .i64 0, .int .i64 kw', .int .i64 0, .int .i64 0]) ∧ Below w.heap.size w w' := by
  have HB : Hid (∀ x y z, Below w.heap.size w (((w.alloc x).alloc y).alloc z)) := fun x y z => (((Below.refl _ w).alloc (Nat.le_refl _) _).alloc (by simp only [alloc_size]; omega) _).alloc (by simp only [alloc_size]; omega) _
  go_enter Try.func51, Try.ntmps51
  go_wp2_with (first | (go_at_call 58; refine (windowsR12 _).mono ?_; rintro e w1 ⟨rfl, rfl⟩))
  go_loopg [4] 4 (fun g v wx => ∃ i : Nat, v = .int .i64 i ∧ (1 ≤ i ∧ i + g = 5) ∧ Hid (Below w.heap.size w wx) ∧ Hid (wx.heap[w.heap.size]? = some (.cells #[.int .i64 12, .int .i64 o, .int .i64 kh, .int .i64 kw, .int .i64 sh, .int .i64 sw, .int .i64 ph, .int .i64 pw, .int .i64 fr, a9, v1, v2, v3, v4] 55) ∧ wx.heap[w.heap.size + 1]? = some (.cells #[.int .i64 0, .int .i64 0, .int .i64 0, .int .i64 0, .int .i64 0, .int .i64 0, .int .i64 0, .int .i64 0, .int .i64 0, .int .i64 0, .int .i64 0, .int .i64 0, .int .i64 0, .int .i64 0, .int .i64 0, .int .i64 0] 105) ∧ wx.heap[w.heap.size + 1 + 1]? = some (.cells (bCW12 i) 105)))
  case atStart => exact ⟨1, rfl, ⟨by omega, by omega⟩, HB.out _ _ _, alloc_kept (alloc_kept (heap_alloc_new w _) _) _, alloc_kept (heap_at _ _ (w.heap.size + 1) (by simp only [alloc_size])) _, heap_at _ _ (w.heap.size + 1 + 1) (by simp only [alloc_size])⟩
  case round =>
    clear HB
    obtain ⟨i, rfl, hi, HB, HK⟩ := hrel
    have hlt := blk_lt HK.out.2.2
    obtain rfl | rfl | rfl | rfl | rfl : i = 1 ∨ i = 2 ∨ i = 3 ∨ i = 4 ∨ i = 5 := by omega
    · have E0 : wr.heap[w.heap.size + 1 + 1]? = some (.cells #[.int .i64 0, .int .i64 0, .int .i64 0, .int .i64 0, .int .i64 0, .int .i64 0, .int .i64 0, .int .i64 0, .int .i64 0, .int .i64 0, .int .i64 0, .int .i64 0, .int .i64 0, .int .i64 0, .int .i64 0, .int .i64 0] 105) := HK.out.2.2
      have hb0 := HB.out
      go_wp2_with (first | (refine wpList_store_at (by rfl) 104 _ _ (by rfl) w w.heap.size (w.heap.size + 1 + 1) 2 (.agg #[.int .i64 1, .int .i64 16]) _ #[.int .i64 0, .int .i64 0, .int .i64 1, .int .i64 16, .int .i64 0, .int .i64 0, .int .i64 0, .int .i64 0, .int .i64 0, .int .i64 0, .int .i64 0, .int .i64 0, .int .i64 0, .int .i64 0, .int .i64 0, .int .i64 0] 105 (by rfl) (by rfl) E0 hb0 (by omega) 2 Try.infoB2 (by rfl) (Nat.le_of_ble_eq_true rfl) (by exact one_int2 _ _) (by rfl) ?_; intro W5 e5 hb5 hs5 ho5))
      go_roundg 3
      case measure => omega
      case rel => exact ⟨2, rfl, ⟨by omega, by omega⟩, hb5, (ho5 _ (by omega)).trans HK.out.1, (ho5 _ (by omega)).trans HK.out.2.1, e5⟩
    · have E0 : wr.heap[w.heap.size + 1 + 1]? = some (.cells #[.int .i64 0, .int .i64 0, .int .i64 1, .int .i64 16, .int .i64 0, .int .i64 0, .int .i64 0, .int .i64 0, .int .i64 0, .int .i64 0, .int .i64 0, .int .i64 0, .int .i64 0, .int .i64 0, .int .i64 0, .int .i64 0] 105) := HK.out.2.2
      have hb0 := HB.out
      go_wp2_with (first | (refine wpList_store_at (by rfl) 104 _ _ (by rfl) w w.heap.size (w.heap.size + 1 + 1) 4 (.agg #[.int .i64 1, .int .i64 16]) _ #[.int .i64 0, .int .i64 0, .int .i64 1, .int .i64 16, .int .i64 1, .int .i64 16, .int .i64 0, .int .i64 0, .int .i64 0, .int .i64 0, .int .i64 0, .int .i64 0, .int .i64 0, .int .i64 0, .int .i64 0, .int .i64 0] 105 (by rfl) (by rfl) E0 hb0 (by omega) 2 Try.infoB2 (by rfl) (Nat.le_of_ble_eq_true rfl) (by exact one_int2 _ _) (by rfl) ?_; intro W5 e5 hb5 hs5 ho5))
      go_roundg 2
      case measure => omega
      case rel => exact ⟨3, rfl, ⟨by omega, by omega⟩, hb5, (ho5 _ (by omega)).trans HK.out.1, (ho5 _ (by omega)).trans HK.out.2.1, e5⟩
    · have E0 : wr.heap[w.heap.size + 1 + 1]? = some (.cells #[.int .i64 0, .int .i64 0, .int .i64 1, .int .i64 16, .int .i64 1, .int .i64 16, .int .i64 0, .int .i64 0, .int .i64 0, .int .i64 0, .int .i64 0, .int .i64 0, .int .i64 0, .int .i64 0, .int .i64 0, .int .i64 0] 105) := HK.out.2.2
      have hb0 := HB.out
      go_wp2_with (first | (refine wpList_store_at (by rfl) 104 _ _ (by rfl) w w.heap.size (w.heap.size + 1 + 1) 6 (.agg #[.int .i64 1, .int .i64 16]) _ #[.int .i64 0, .int .i64 0, .int .i64 1, .int .i64 16, .int .i64 1, .int .i64 16, .int .i64 1, .int .i64 16, .int .i64 0, .int .i64 0, .int .i64 0, .int .i64 0, .int .i64 0, .int .i64 0, .int .i64 0, .int .i64 0] 105 (by rfl) (by rfl) E0 hb0 (by omega) 2 Try.infoB2 (by rfl) (Nat.le_of_ble_eq_true rfl) (by exact one_int2 _ _) (by rfl) ?_; intro W5 e5 hb5 hs5 ho5))
      go_roundg 1
      case measure => omega
      case rel => exact ⟨4, rfl, ⟨by omega, by omega⟩, hb5, (ho5 _ (by omega)).trans HK.out.1, (ho5 _ (by omega)).trans HK.out.2.1, e5⟩
    · have E0 : wr.heap[w.heap.size + 1 + 1]? = some (.cells #[.int .i64 0, .int .i64 0, .int .i64 1, .int .i64 16, .int .i64 1, .int .i64 16, .int .i64 1, .int .i64 16, .int .i64 0, .int .i64 0, .int .i64 0, .int .i64 0, .int .i64 0, .int .i64 0, .int .i64 0, .int .i64 0] 105) := HK.out.2.2
      have hb0 := HB.out
      go_wp2_with (first | (refine wpList_store_at (by rfl) 104 _ _ (by rfl) w w.heap.size (w.heap.size + 1 + 1) 8 (.agg #[.int .i64 1, .int .i64 16]) _ #[.int .i64 0, .int .i64 0, .int .i64 1, .int .i64 16, .int .i64 1, .int .i64 16, .int .i64 1, .int .i64 16, .int .i64 1, .int .i64 16, .int .i64 0, .int .i64 0, .int .i64 0, .int .i64 0, .int .i64 0, .int .i64 0] 105 (by rfl) (by rfl) E0 hb0 (by omega) 2 Try.infoB2 (by rfl) (Nat.le_of_ble_eq_true rfl) (by exact one_int2 _ _) (by rfl) ?_; intro W5 e5 hb5 hs5 ho5))
      go_roundg 0
      case measure => omega
      case rel => exact ⟨5, rfl, ⟨by omega, by omega⟩, hb5, (ho5 _ (by omega)).trans HK.out.1, (ho5 _ (by omega)).trans HK.out.2.1, e5⟩
    · have E0 : wr.heap[w.heap.size + 1 + 1]? = some (.cells #[.int .i64 0, .int .i64 0, .int .i64 1, .int .i64 16, .int .i64 1, .int .i64 16, .int .i64 1, .int .i64 16, .int .i64 1, .int .i64 16, .int .i64 0, .int .i64 0, .int .i64 0, .int .i64 0, .int .i64 0, .int .i64 0] 105) := HK.out.2.2
      have hb0 := HB.out
      have a2 := cellOf HK.out.1 2 (.int .i64 kh) rfl
      have a3 := cellOf HK.out.1 3 (.int .i64 kw) rfl
      go_upto_region 16 with (first | (refine wpList_store_at (by rfl) 104 _ _ (by rfl) w w.heap.size (w.heap.size + 1 + 1) 10 (.agg #[.int .i64 0, .int .i64 kh']) _ #[.int .i64 0, .int .i64 0, .int .i64 1, .int .i64 16, .int .i64 1, .int .i64 16, .int .i64 1, .int .i64 16, .int .i64 1, .int .i64 16, .int .i64 0, .int .i64 kh', .int .i64 0, .int .i64 0, .int .i64 0, .int .i64 0] 105 (by rfl) (by rfl) E0 hb0 (by omega) 2 Try.infoB2 (by rfl) (Nat.le_of_ble_eq_true rfl) (by exact one_int2 _ _) (by rfl) ?_; intro W6 e6 hb6 hs6 ho6))
      have K6 := (ho6 _ (by omega)).trans HK.out.1
      have R6 := (ho6 _ (by omega)).trans HK.out.2.1
      have a3' := cellOf K6 3 (.int .i64 kw) rfl
      go_upto_region 17 with (first | (refine wpList_store_at (by rfl) 104 _ _ (by rfl) w w.heap.size (w.heap.size + 1 + 1) 12 (.agg #[.int .i64 0, .int .i64 kw']) _ #[.int .i64 0, .int .i64 0, .int .i64 1, .int .i64 16, .int .i64 1, .int .i64 16, .int .i64 1, .int .i64 16, .int .i64 1, .int .i64 16, .int .i64 0, .int .i64 kh', .int .i64 0, .int .i64 kw', .int .i64 0, .int .i64 0] 105 (by rfl) (by rfl) e6 hb6 (by omega) 2 Try.infoB2 (by rfl) (Nat.le_of_ble_eq_true rfl) (by exact one_int2 _ _) (by rfl) ?_; intro W7 e7 hb7 hs7 ho7))
      have R7 := (ho7 _ (by omega)).trans R6
      go_wp2_with (first
        | (refine wpList_load_row (by rfl) 105 _ (by rfl) (w.heap.size + 1 + 1) _ (by rfl) e7 _ Try.underlying105 rfl 16 Try.infoB16 (by rfl) ?_)
        | (refine wpList_store_row (by rfl) 105 _ _ (by rfl) w w.heap.size (w.heap.size + 1) _ _ (by rfl) (by rfl) R7 hb7 (by omega) 16 Try.infoB16 (by rfl) (by rfl) (by exact one16 ..) ?_; intro W9 e9 hb9 hs9 ho9))
      exact bodyPost_ret (res_one _ 2 105 (by kernel_rfl) _ _ (w.heap.size + 1) _ (by rfl) _ Try.underlying105 rfl 16 Try.infoB16 rfl e9) rfl ⟨rfl, hb9⟩
set_option maxRecDepth 100000 in
set_option maxHeartbeats 4000000 in
theorem refFields_any (kd g0 g1 g2 g3 g4 g5 g6 g7 l0 l1 l2 l3 l4 l5 l6 l7 m0 m1 m2 m3 m4 m5 m6 m7 : Int) (a9 v1 v2 v3 v4 : Value) (QF : Nat → Prop) (hQ : (QF 0 = (l0 ≤ g0 ∧ g0 ≤ m0)) ∧ (QF 1 = (l1 ≤ g1 ∧ g1 ≤ m1)) ∧ (QF 2 = (l2 ≤ g2 ∧ g2 ≤ m2)) ∧ (QF 3 = (l3 ≤ g3 ∧ g3 ≤ m3)) ∧ (QF 4 = (l4 ≤ g4 ∧ g4 ≤ m4)) ∧ (QF 5 = (l5 ≤ g5 ∧ g5 ≤ m5)) ∧ (QF 6 = (l6 ≤ g6 ∧ g6 ≤ m6)) ∧ (QF 7 = (l7 ≤ g7 ∧ g7 ≤ m7))) (hk : 1 ≤ kd ∧ kd ≤ 12)
    (hBd : ∀ w, Calls Try.prog 51 #[.agg #[.int .i64 kd, .int .i64 g0, .int .i64 g1, .int .i64 g2, .int .i64 g3, .int .i64 g4, .int .i64 g5, .int .i64 g6, .int .i64 g7, a9, v1, v2, v3, v4]] w fun e w' => e = .returned (.agg #[.int .i64 l0, .int .i64 m0, .int .i64 l1, .int .i64 m1, .int .i64 l2, .int .i64 m2, .int .i64 l3, .int .i64 m3, .int .i64 l4, .int .i64 m4, .int .i64 l5, .int .i64 m5, .int .i64 l6, .int .i64 m6, .int .i64 l7, .int .i64 m7]) ∧ Below w.heap.size w w')
    (hSl : ∀ w, Calls Try.prog 52 #[.agg #[.int .i64 kd, .int .i64 g0, .int .i64 g1, .int .i64 g2, .int .i64 g3, .int .i64 g4, .int .i64 g5, .int .i64 g6, .int .i64 g7, a9, v1, v2, v3, v4]] w fun e w' => ∃ s : Int, e = .returned (.int .i64 s) ∧ Below w.heap.size w w') (w : World) :
    Calls Try.prog 43 #[.agg #[.int .i64 kd, .int .i64 g0, .int .i64 g1, .int .i64 g2, .int .i64 g3, .int .i64 g4, .int .i64 g5, .int .i64 g6, .int .i64 g7, a9, v1, v2, v3, v4]] w fun e w' => ∃ f : Int, e = .returned (.int .i64 f) ∧ (f = 0 → ∀ j, j < 8 → QF j) ∧ Below w.heap.size w w' := by
  have HBd : Hid _ := hBd
  have HSl : Hid _ := hSl
  have HQF : Hid ((QF 0 = (l0 ≤ g0 ∧ g0 ≤ m0)) ∧ (QF 1 = (l1 ≤ g1 ∧ g1 ≤ m1)) ∧ (QF 2 = (l2 ≤ g2 ∧ g2 ≤ m2)) ∧ (QF 3 = (l3 ≤ g3 ∧ g3 ≤ m3)) ∧ (QF 4 = (l4 ≤ g4 ∧ g4 ≤ m4)) ∧ (QF 5 = (l5 ≤ g5 ∧ g5 ≤ m5)) ∧ (QF 6 = (l6 ≤ g6 ∧ g6 ≤ m6)) ∧ (QF 7 = (l7 ≤ g7 ∧ g7 ≤ m7))) := hQ
  have HKd : Hid (∀ x, Calls Try.prog 50 #[.int .i64 kd, .int .i64 1, .int .i64 12] x fun e w' => e = .returned (.bool true) ∧ w' = x) := fun x => by
    have := within_anyR kd 1 12 x
    rw [inB_true hk] at this
    exact this
  clear hBd hSl hk hQ
  have X0 : Below w.heap.size w ((w.alloc (.cells #[.int .i64 kd, .int .i64 g0, .int .i64 g1, .int .i64 g2, .int .i64 g3, .int .i64 g4, .int .i64 g5, .int .i64 g6, .int .i64 g7, a9, v1, v2, v3, v4] 55)).alloc (.cells #[.int .i64 g0, .int .i64 g1, .int .i64 g2, .int .i64 g3, .int .i64 g4, .int .i64 g5, .int .i64 g6, .int .i64 g7] 103)) := ((Below.refl _ w).alloc (Nat.le_refl _) _).alloc (by simp only [alloc_size]; omega) _
  go_enter Try.func43, Try.ntmps43
  go_wp2_with (first
    | (go_at_call 50; refine Calls.mono (HKd.out _) ?_; rintro e w2 ⟨rfl, rfl⟩))
  refine Calls.mono (HBd.out _) ?_
  rintro e w1 ⟨rfl, hb⟩
  have B1 : Hid (Below w.heap.size w w1) := to_call X0 hb
  have k0 := kept hb (alloc_kept (heap_alloc_new w _) _)
  have k1 := kept hb (heap_at _ _ (w.heap.size + 1) (by simp only [alloc_size]))
  have hsz := blk_lt k1
  clear hb X0 HBd HKd
  go_wp2_with fail
  go_loopg [5] 8 (fun g v wx => ∃ i : Nat, v = .int .i64 i ∧ i + g = 8 ∧ Hid (∀ j, j < i → QF j) ∧ Hid (Below w.heap.size w wx) ∧ Hid (wx.heap[w.heap.size]? = some (.cells #[.int .i64 kd, .int .i64 g0, .int .i64 g1, .int .i64 g2, .int .i64 g3, .int .i64 g4, .int .i64 g5, .int .i64 g6, .int .i64 g7, a9, v1, v2, v3, v4] 55) ∧ wx.heap[w.heap.size + 1]? = some (.cells #[.int .i64 g0, .int .i64 g1, .int .i64 g2, .int .i64 g3, .int .i64 g4, .int .i64 g5, .int .i64 g6, .int .i64 g7] 103) ∧ wx.heap[w1.heap.size]? = some (.cells #[.int .i64 l0, .int .i64 m0, .int .i64 l1, .int .i64 m1, .int .i64 l2, .int .i64 m2, .int .i64 l3, .int .i64 m3, .int .i64 l4, .int .i64 m4, .int .i64 l5, .int .i64 m5, .int .i64 l6, .int .i64 m6, .int .i64 l7, .int .i64 m7] 105)))
  case atStart => exact ⟨0, rfl, by omega, fun j hj => absurd hj (Nat.not_lt_zero _), B1.out.alloc B1.out.size _, alloc_kept k0 _, alloc_kept k1 _, heap_alloc_new w1 _⟩
  case round =>
    obtain ⟨i, rfl, hi, HQ, HB, HK⟩ := hrel
    obtain rfl | rfl | rfl | rfl | rfl | rfl | rfl | rfl | rfl : i = 0 ∨ i = 1 ∨ i = 2 ∨ i = 3 ∨ i = 4 ∨ i = 5 ∨ i = 6 ∨ i = 7 ∨ i = 8 := by omega
    · by_cases q : (l0 ≤ g0 ∧ g0 ≤ m0)
      · have HQ2 : Hid (∀ j, j < 1 → QF j) := fun j hj => by
          by_cases hji : j < 0
          · exact HQ.out j hji
          · obtain rfl : j = 0 := by omega
            exact Eq.mpr HQF.out.1 q
        have c0 := cellOf (W := wr.drew) HK.out.2.1 0 (.int .i64 g0) rfl
        have c1 := cellOf (W := wr.drew) HK.out.2.2 0 (.int .i64 l0) rfl
        have c2 := cellOf (W := wr.drew) HK.out.2.2 1 (.int .i64 m0) rfl
        have HH : Hid (∀ x, Calls Try.prog 50 #[.int .i64 g0, .int .i64 l0, .int .i64 m0] x fun e w' => e = .returned (.bool true) ∧ w' = x) := fun x => by
          have := within_anyR g0 l0 m0 x
          rw [inB_true q] at this
          exact this
        clear q
        go_upto_region 8 with fail
        go_region_held3 (fun w' => w'.cell? ⟨w.heap.size + 1, 0, none⟩ = some (.int .i64 g0) ∧ w'.cell? ⟨w1.heap.size, 0, none⟩ = some (.int .i64 l0) ∧ w'.cell? ⟨w1.heap.size, 1, none⟩ = some (.int .i64 m0)) (go_keep) (first | (go_at_call 50; refine Calls.mono (HH.out _) ?_; rintro e w2 ⟨rfl, rfl⟩))
        go_wp2
        go_roundg 7
        case measure => omega
        case rel => exact ⟨1, rfl, by omega, HQ2.out, HB.out.drew, HK.out.1, HK.out.2.1, HK.out.2.2⟩
      · have qf : inB l0 g0 m0 = false := by cases he : inB l0 g0 m0 with | false => rfl | true => exact absurd (inB_iff.1 he) q
        have c0 := cellOf (W := wr.drew) HK.out.2.1 0 (.int .i64 g0) rfl
        have c1 := cellOf (W := wr.drew) HK.out.2.2 0 (.int .i64 l0) rfl
        have c2 := cellOf (W := wr.drew) HK.out.2.2 1 (.int .i64 m0) rfl
        have HH : Hid (∀ x, Calls Try.prog 50 #[.int .i64 g0, .int .i64 l0, .int .i64 m0] x fun e w' => e = .returned (.bool false) ∧ w' = x) := fun x => by
          have := within_anyR g0 l0 m0 x
          rw [qf] at this
          exact this
        clear q qf
        go_upto_region 8 with fail
        go_region_held3 (fun w' => w'.cell? ⟨w.heap.size + 1, 0, none⟩ = some (.int .i64 g0) ∧ w'.cell? ⟨w1.heap.size, 0, none⟩ = some (.int .i64 l0) ∧ w'.cell? ⟨w1.heap.size, 1, none⟩ = some (.int .i64 m0)) (go_keep) (first | (go_at_call 50; refine Calls.mono (HH.out _) ?_; rintro e w2 ⟨rfl, rfl⟩))
        go_wp2
        go_ret
        exact ⟨62, rfl, fun h => absurd h (by decide), HB.out.drew⟩
    · by_cases q : (l1 ≤ g1 ∧ g1 ≤ m1)
      · have HQ2 : Hid (∀ j, j < 2 → QF j) := fun j hj => by
          by_cases hji : j < 1
          · exact HQ.out j hji
          · obtain rfl : j = 1 := by omega
            exact Eq.mpr HQF.out.2.1 q
        have c0 := cellOf (W := wr.drew) HK.out.2.1 1 (.int .i64 g1) rfl
        have c1 := cellOf (W := wr.drew) HK.out.2.2 2 (.int .i64 l1) rfl
        have c2 := cellOf (W := wr.drew) HK.out.2.2 3 (.int .i64 m1) rfl
        have HH : Hid (∀ x, Calls Try.prog 50 #[.int .i64 g1, .int .i64 l1, .int .i64 m1] x fun e w' => e = .returned (.bool true) ∧ w' = x) := fun x => by
          have := within_anyR g1 l1 m1 x
          rw [inB_true q] at this
          exact this
        clear q
        go_upto_region 8 with fail
        go_region_held3 (fun w' => w'.cell? ⟨w.heap.size + 1, 1, none⟩ = some (.int .i64 g1) ∧ w'.cell? ⟨w1.heap.size, 2, none⟩ = some (.int .i64 l1) ∧ w'.cell? ⟨w1.heap.size, 3, none⟩ = some (.int .i64 m1)) (go_keep) (first | (go_at_call 50; refine Calls.mono (HH.out _) ?_; rintro e w2 ⟨rfl, rfl⟩))
        go_wp2
        go_roundg 6
        case measure => omega
        case rel => exact ⟨2, rfl, by omega, HQ2.out, HB.out.drew, HK.out.1, HK.out.2.1, HK.out.2.2⟩
      · have qf : inB l1 g1 m1 = false := by cases he : inB l1 g1 m1 with | false => rfl | true => exact absurd (inB_iff.1 he) q
        have c0 := cellOf (W := wr.drew) HK.out.2.1 1 (.int .i64 g1) rfl
        have c1 := cellOf (W := wr.drew) HK.out.2.2 2 (.int .i64 l1) rfl
        have c2 := cellOf (W := wr.drew) HK.out.2.2 3 (.int .i64 m1) rfl
        have HH : Hid (∀ x, Calls Try.prog 50 #[.int .i64 g1, .int .i64 l1, .int .i64 m1] x fun e w' => e = .returned (.bool false) ∧ w' = x) := fun x => by
          have := within_anyR g1 l1 m1 x
          rw [qf] at this
          exact this
        clear q qf
        go_upto_region 8 with fail
        go_region_held3 (fun w' => w'.cell? ⟨w.heap.size + 1, 1, none⟩ = some (.int .i64 g1) ∧ w'.cell? ⟨w1.heap.size, 2, none⟩ = some (.int .i64 l1) ∧ w'.cell? ⟨w1.heap.size, 3, none⟩ = some (.int .i64 m1)) (go_keep) (first | (go_at_call 50; refine Calls.mono (HH.out _) ?_; rintro e w2 ⟨rfl, rfl⟩))
        go_wp2
        go_ret
        exact ⟨62, rfl, fun h => absurd h (by decide), HB.out.drew⟩
    · by_cases q : (l2 ≤ g2 ∧ g2 ≤ m2)
      · have HQ2 : Hid (∀ j, j < 3 → QF j) := fun j hj => by
          by_cases hji : j < 2
          · exact HQ.out j hji
          · obtain rfl : j = 2 := by omega
            exact Eq.mpr HQF.out.2.2.1 q
        have c0 := cellOf (W := wr.drew) HK.out.2.1 2 (.int .i64 g2) rfl
        have c1 := cellOf (W := wr.drew) HK.out.2.2 4 (.int .i64 l2) rfl
        have c2 := cellOf (W := wr.drew) HK.out.2.2 5 (.int .i64 m2) rfl
        have HH : Hid (∀ x, Calls Try.prog 50 #[.int .i64 g2, .int .i64 l2, .int .i64 m2] x fun e w' => e = .returned (.bool true) ∧ w' = x) := fun x => by
          have := within_anyR g2 l2 m2 x
          rw [inB_true q] at this
          exact this
        clear q
        go_upto_region 8 with fail
        go_region_held3 (fun w' => w'.cell? ⟨w.heap.size + 1, 2, none⟩ = some (.int .i64 g2) ∧ w'.cell? ⟨w1.heap.size, 4, none⟩ = some (.int .i64 l2) ∧ w'.cell? ⟨w1.heap.size, 5, none⟩ = some (.int .i64 m2)) (go_keep) (first | (go_at_call 50; refine Calls.mono (HH.out _) ?_; rintro e w2 ⟨rfl, rfl⟩))
        go_wp2
        go_roundg 5
        case measure => omega
        case rel => exact ⟨3, rfl, by omega, HQ2.out, HB.out.drew, HK.out.1, HK.out.2.1, HK.out.2.2⟩
      · have qf : inB l2 g2 m2 = false := by cases he : inB l2 g2 m2 with | false => rfl | true => exact absurd (inB_iff.1 he) q
        have c0 := cellOf (W := wr.drew) HK.out.2.1 2 (.int .i64 g2) rfl
        have c1 := cellOf (W := wr.drew) HK.out.2.2 4 (.int .i64 l2) rfl
        have c2 := cellOf (W := wr.drew) HK.out.2.2 5 (.int .i64 m2) rfl
        have HH : Hid (∀ x, Calls Try.prog 50 #[.int .i64 g2, .int .i64 l2, .int .i64 m2] x fun e w' => e = .returned (.bool false) ∧ w' = x) := fun x => by
          have := within_anyR g2 l2 m2 x
          rw [qf] at this
          exact this
        clear q qf
        go_upto_region 8 with fail
        go_region_held3 (fun w' => w'.cell? ⟨w.heap.size + 1, 2, none⟩ = some (.int .i64 g2) ∧ w'.cell? ⟨w1.heap.size, 4, none⟩ = some (.int .i64 l2) ∧ w'.cell? ⟨w1.heap.size, 5, none⟩ = some (.int .i64 m2)) (go_keep) (first | (go_at_call 50; refine Calls.mono (HH.out _) ?_; rintro e w2 ⟨rfl, rfl⟩))
        go_wp2
        go_ret
        exact ⟨62, rfl, fun h => absurd h (by decide), HB.out.drew⟩
    · by_cases q : (l3 ≤ g3 ∧ g3 ≤ m3)
      · have HQ2 : Hid (∀ j, j < 4 → QF j) := fun j hj => by
          by_cases hji : j < 3
          · exact HQ.out j hji
          · obtain rfl : j = 3 := by omega
            exact Eq.mpr HQF.out.2.2.2.1 q
        have c0 := cellOf (W := wr.drew) HK.out.2.1 3 (.int .i64 g3) rfl
        have c1 := cellOf (W := wr.drew) HK.out.2.2 6 (.int .i64 l3) rfl
        have c2 := cellOf (W := wr.drew) HK.out.2.2 7 (.int .i64 m3) rfl
        have HH : Hid (∀ x, Calls Try.prog 50 #[.int .i64 g3, .int .i64 l3, .int .i64 m3] x fun e w' => e = .returned (.bool true) ∧ w' = x) := fun x => by
          have := within_anyR g3 l3 m3 x
          rw [inB_true q] at this
          exact this
        clear q
        go_upto_region 8 with fail
        go_region_held3 (fun w' => w'.cell? ⟨w.heap.size + 1, 3, none⟩ = some (.int .i64 g3) ∧ w'.cell? ⟨w1.heap.size, 6, none⟩ = some (.int .i64 l3) ∧ w'.cell? ⟨w1.heap.size, 7, none⟩ = some (.int .i64 m3)) (go_keep) (first | (go_at_call 50; refine Calls.mono (HH.out _) ?_; rintro e w2 ⟨rfl, rfl⟩))
        go_wp2
        go_roundg 4
        case measure => omega
        case rel => exact ⟨4, rfl, by omega, HQ2.out, HB.out.drew, HK.out.1, HK.out.2.1, HK.out.2.2⟩
      · have qf : inB l3 g3 m3 = false := by cases he : inB l3 g3 m3 with | false => rfl | true => exact absurd (inB_iff.1 he) q
        have c0 := cellOf (W := wr.drew) HK.out.2.1 3 (.int .i64 g3) rfl
        have c1 := cellOf (W := wr.drew) HK.out.2.2 6 (.int .i64 l3) rfl
        have c2 := cellOf (W := wr.drew) HK.out.2.2 7 (.int .i64 m3) rfl
        have HH : Hid (∀ x, Calls Try.prog 50 #[.int .i64 g3, .int .i64 l3, .int .i64 m3] x fun e w' => e = .returned (.bool false) ∧ w' = x) := fun x => by
          have := within_anyR g3 l3 m3 x
          rw [qf] at this
          exact this
        clear q qf
        go_upto_region 8 with fail
        go_region_held3 (fun w' => w'.cell? ⟨w.heap.size + 1, 3, none⟩ = some (.int .i64 g3) ∧ w'.cell? ⟨w1.heap.size, 6, none⟩ = some (.int .i64 l3) ∧ w'.cell? ⟨w1.heap.size, 7, none⟩ = some (.int .i64 m3)) (go_keep) (first | (go_at_call 50; refine Calls.mono (HH.out _) ?_; rintro e w2 ⟨rfl, rfl⟩))
        go_wp2
        go_ret
        exact ⟨62, rfl, fun h => absurd h (by decide), HB.out.drew⟩
    · by_cases q : (l4 ≤ g4 ∧ g4 ≤ m4)
      · have HQ2 : Hid (∀ j, j < 5 → QF j) := fun j hj => by
          by_cases hji : j < 4
          · exact HQ.out j hji
          · obtain rfl : j = 4 := by omega
            exact Eq.mpr HQF.out.2.2.2.2.1 q
        have c0 := cellOf (W := wr.drew) HK.out.2.1 4 (.int .i64 g4) rfl
        have c1 := cellOf (W := wr.drew) HK.out.2.2 8 (.int .i64 l4) rfl
        have c2 := cellOf (W := wr.drew) HK.out.2.2 9 (.int .i64 m4) rfl
        have HH : Hid (∀ x, Calls Try.prog 50 #[.int .i64 g4, .int .i64 l4, .int .i64 m4] x fun e w' => e = .returned (.bool true) ∧ w' = x) := fun x => by
          have := within_anyR g4 l4 m4 x
          rw [inB_true q] at this
          exact this
        clear q
        go_upto_region 8 with fail
        go_region_held3 (fun w' => w'.cell? ⟨w.heap.size + 1, 4, none⟩ = some (.int .i64 g4) ∧ w'.cell? ⟨w1.heap.size, 8, none⟩ = some (.int .i64 l4) ∧ w'.cell? ⟨w1.heap.size, 9, none⟩ = some (.int .i64 m4)) (go_keep) (first | (go_at_call 50; refine Calls.mono (HH.out _) ?_; rintro e w2 ⟨rfl, rfl⟩))
        go_wp2
        go_roundg 3
        case measure => omega
        case rel => exact ⟨5, rfl, by omega, HQ2.out, HB.out.drew, HK.out.1, HK.out.2.1, HK.out.2.2⟩
      · have qf : inB l4 g4 m4 = false := by cases he : inB l4 g4 m4 with | false => rfl | true => exact absurd (inB_iff.1 he) q
        have c0 := cellOf (W := wr.drew) HK.out.2.1 4 (.int .i64 g4) rfl
        have c1 := cellOf (W := wr.drew) HK.out.2.2 8 (.int .i64 l4) rfl
        have c2 := cellOf (W := wr.drew) HK.out.2.2 9 (.int .i64 m4) rfl
        have HH : Hid (∀ x, Calls Try.prog 50 #[.int .i64 g4, .int .i64 l4, .int .i64 m4] x fun e w' => e = .returned (.bool false) ∧ w' = x) := fun x => by
          have := within_anyR g4 l4 m4 x
          rw [qf] at this
          exact this
        clear q qf
        go_upto_region 8 with fail
        go_region_held3 (fun w' => w'.cell? ⟨w.heap.size + 1, 4, none⟩ = some (.int .i64 g4) ∧ w'.cell? ⟨w1.heap.size, 8, none⟩ = some (.int .i64 l4) ∧ w'.cell? ⟨w1.heap.size, 9, none⟩ = some (.int .i64 m4)) (go_keep) (first | (go_at_call 50; refine Calls.mono (HH.out _) ?_; rintro e w2 ⟨rfl, rfl⟩))
        go_wp2
        go_ret
        exact ⟨62, rfl, fun h => absurd h (by decide), HB.out.drew⟩
    · by_cases q : (l5 ≤ g5 ∧ g5 ≤ m5)
      · have HQ2 : Hid (∀ j, j < 6 → QF j) := fun j hj => by
          by_cases hji : j < 5
          · exact HQ.out j hji
          · obtain rfl : j = 5 := by omega
            exact Eq.mpr HQF.out.2.2.2.2.2.1 q
        have c0 := cellOf (W := wr.drew) HK.out.2.1 5 (.int .i64 g5) rfl
        have c1 := cellOf (W := wr.drew) HK.out.2.2 10 (.int .i64 l5) rfl
        have c2 := cellOf (W := wr.drew) HK.out.2.2 11 (.int .i64 m5) rfl
        have HH : Hid (∀ x, Calls Try.prog 50 #[.int .i64 g5, .int .i64 l5, .int .i64 m5] x fun e w' => e = .returned (.bool true) ∧ w' = x) := fun x => by
          have := within_anyR g5 l5 m5 x
          rw [inB_true q] at this
          exact this
        clear q
        go_upto_region 8 with fail
        go_region_held3 (fun w' => w'.cell? ⟨w.heap.size + 1, 5, none⟩ = some (.int .i64 g5) ∧ w'.cell? ⟨w1.heap.size, 10, none⟩ = some (.int .i64 l5) ∧ w'.cell? ⟨w1.heap.size, 11, none⟩ = some (.int .i64 m5)) (go_keep) (first | (go_at_call 50; refine Calls.mono (HH.out _) ?_; rintro e w2 ⟨rfl, rfl⟩))
        go_wp2
        go_roundg 2
        case measure => omega
        case rel => exact ⟨6, rfl, by omega, HQ2.out, HB.out.drew, HK.out.1, HK.out.2.1, HK.out.2.2⟩
      · have qf : inB l5 g5 m5 = false := by cases he : inB l5 g5 m5 with | false => rfl | true => exact absurd (inB_iff.1 he) q
        have c0 := cellOf (W := wr.drew) HK.out.2.1 5 (.int .i64 g5) rfl
        have c1 := cellOf (W := wr.drew) HK.out.2.2 10 (.int .i64 l5) rfl
        have c2 := cellOf (W := wr.drew) HK.out.2.2 11 (.int .i64 m5) rfl
        have HH : Hid (∀ x, Calls Try.prog 50 #[.int .i64 g5, .int .i64 l5, .int .i64 m5] x fun e w' => e = .returned (.bool false) ∧ w' = x) := fun x => by
          have := within_anyR g5 l5 m5 x
          rw [qf] at this
          exact this
        clear q qf
        go_upto_region 8 with fail
        go_region_held3 (fun w' => w'.cell? ⟨w.heap.size + 1, 5, none⟩ = some (.int .i64 g5) ∧ w'.cell? ⟨w1.heap.size, 10, none⟩ = some (.int .i64 l5) ∧ w'.cell? ⟨w1.heap.size, 11, none⟩ = some (.int .i64 m5)) (go_keep) (first | (go_at_call 50; refine Calls.mono (HH.out _) ?_; rintro e w2 ⟨rfl, rfl⟩))
        go_wp2
        go_ret
        exact ⟨62, rfl, fun h => absurd h (by decide), HB.out.drew⟩
    · by_cases q : (l6 ≤ g6 ∧ g6 ≤ m6)
      · have HQ2 : Hid (∀ j, j < 7 → QF j) := fun j hj => by
          by_cases hji : j < 6
          · exact HQ.out j hji
          · obtain rfl : j = 6 := by omega
            exact Eq.mpr HQF.out.2.2.2.2.2.2.1 q
        have c0 := cellOf (W := wr.drew) HK.out.2.1 6 (.int .i64 g6) rfl
        have c1 := cellOf (W := wr.drew) HK.out.2.2 12 (.int .i64 l6) rfl
        have c2 := cellOf (W := wr.drew) HK.out.2.2 13 (.int .i64 m6) rfl
        have HH : Hid (∀ x, Calls Try.prog 50 #[.int .i64 g6, .int .i64 l6, .int .i64 m6] x fun e w' => e = .returned (.bool true) ∧ w' = x) := fun x => by
          have := within_anyR g6 l6 m6 x
          rw [inB_true q] at this
          exact this
        clear q
        go_upto_region 8 with fail
        go_region_held3 (fun w' => w'.cell? ⟨w.heap.size + 1, 6, none⟩ = some (.int .i64 g6) ∧ w'.cell? ⟨w1.heap.size, 12, none⟩ = some (.int .i64 l6) ∧ w'.cell? ⟨w1.heap.size, 13, none⟩ = some (.int .i64 m6)) (go_keep) (first | (go_at_call 50; refine Calls.mono (HH.out _) ?_; rintro e w2 ⟨rfl, rfl⟩))
        go_wp2
        go_roundg 1
        case measure => omega
        case rel => exact ⟨7, rfl, by omega, HQ2.out, HB.out.drew, HK.out.1, HK.out.2.1, HK.out.2.2⟩
      · have qf : inB l6 g6 m6 = false := by cases he : inB l6 g6 m6 with | false => rfl | true => exact absurd (inB_iff.1 he) q
        have c0 := cellOf (W := wr.drew) HK.out.2.1 6 (.int .i64 g6) rfl
        have c1 := cellOf (W := wr.drew) HK.out.2.2 12 (.int .i64 l6) rfl
        have c2 := cellOf (W := wr.drew) HK.out.2.2 13 (.int .i64 m6) rfl
        have HH : Hid (∀ x, Calls Try.prog 50 #[.int .i64 g6, .int .i64 l6, .int .i64 m6] x fun e w' => e = .returned (.bool false) ∧ w' = x) := fun x => by
          have := within_anyR g6 l6 m6 x
          rw [qf] at this
          exact this
        clear q qf
        go_upto_region 8 with fail
        go_region_held3 (fun w' => w'.cell? ⟨w.heap.size + 1, 6, none⟩ = some (.int .i64 g6) ∧ w'.cell? ⟨w1.heap.size, 12, none⟩ = some (.int .i64 l6) ∧ w'.cell? ⟨w1.heap.size, 13, none⟩ = some (.int .i64 m6)) (go_keep) (first | (go_at_call 50; refine Calls.mono (HH.out _) ?_; rintro e w2 ⟨rfl, rfl⟩))
        go_wp2
        go_ret
        exact ⟨62, rfl, fun h => absurd h (by decide), HB.out.drew⟩
    · by_cases q : (l7 ≤ g7 ∧ g7 ≤ m7)
      · have HQ2 : Hid (∀ j, j < 8 → QF j) := fun j hj => by
          by_cases hji : j < 7
          · exact HQ.out j hji
          · obtain rfl : j = 7 := by omega
            exact Eq.mpr HQF.out.2.2.2.2.2.2.2 q
        have c0 := cellOf (W := wr.drew) HK.out.2.1 7 (.int .i64 g7) rfl
        have c1 := cellOf (W := wr.drew) HK.out.2.2 14 (.int .i64 l7) rfl
        have c2 := cellOf (W := wr.drew) HK.out.2.2 15 (.int .i64 m7) rfl
        have HH : Hid (∀ x, Calls Try.prog 50 #[.int .i64 g7, .int .i64 l7, .int .i64 m7] x fun e w' => e = .returned (.bool true) ∧ w' = x) := fun x => by
          have := within_anyR g7 l7 m7 x
          rw [inB_true q] at this
          exact this
        clear q
        go_upto_region 8 with fail
        go_region_held3 (fun w' => w'.cell? ⟨w.heap.size + 1, 7, none⟩ = some (.int .i64 g7) ∧ w'.cell? ⟨w1.heap.size, 14, none⟩ = some (.int .i64 l7) ∧ w'.cell? ⟨w1.heap.size, 15, none⟩ = some (.int .i64 m7)) (go_keep) (first | (go_at_call 50; refine Calls.mono (HH.out _) ?_; rintro e w2 ⟨rfl, rfl⟩))
        go_wp2
        go_roundg 0
        case measure => omega
        case rel => exact ⟨8, rfl, by omega, HQ2.out, HB.out.drew, HK.out.1, HK.out.2.1, HK.out.2.2⟩
      · have qf : inB l7 g7 m7 = false := by cases he : inB l7 g7 m7 with | false => rfl | true => exact absurd (inB_iff.1 he) q
        have c0 := cellOf (W := wr.drew) HK.out.2.1 7 (.int .i64 g7) rfl
        have c1 := cellOf (W := wr.drew) HK.out.2.2 14 (.int .i64 l7) rfl
        have c2 := cellOf (W := wr.drew) HK.out.2.2 15 (.int .i64 m7) rfl
        have HH : Hid (∀ x, Calls Try.prog 50 #[.int .i64 g7, .int .i64 l7, .int .i64 m7] x fun e w' => e = .returned (.bool false) ∧ w' = x) := fun x => by
          have := within_anyR g7 l7 m7 x
          rw [qf] at this
          exact this
        clear q qf
        go_upto_region 8 with fail
        go_region_held3 (fun w' => w'.cell? ⟨w.heap.size + 1, 7, none⟩ = some (.int .i64 g7) ∧ w'.cell? ⟨w1.heap.size, 14, none⟩ = some (.int .i64 l7) ∧ w'.cell? ⟨w1.heap.size, 15, none⟩ = some (.int .i64 m7)) (go_keep) (first | (go_at_call 50; refine Calls.mono (HH.out _) ?_; rintro e w2 ⟨rfl, rfl⟩))
        go_wp2
        go_ret
        exact ⟨62, rfl, fun h => absurd h (by decide), HB.out.drew⟩
    · go_wp2_with (first
        | (refine wpList_load_row (by rfl) 55 _ (by rfl) w.heap.size _ (by rfl) HK.out.1 _ Try.underlying55 rfl 14 Try.infoRL (by rfl) ?_)
        | (go_at_call 52; refine Calls.mono (HSl.out _) ?_; rintro e w2 ⟨s, rfl, hb2⟩; have B2 : Hid (Below w.heap.size w w2) := to_call HB.out hb2; clear hb2))
      go_ret
      exact ⟨s, rfl, fun _ => HQ.out, B2.out⟩
theorem refFields_kind (kd g0 g1 g2 g3 g4 g5 g6 g7 : Int) (a9 v1 v2 v3 v4 : Value) (hk : ¬ (1 ≤ kd ∧ kd ≤ 12)) (w : World) :
    Calls Try.prog 43 #[.agg #[.int .i64 kd, .int .i64 g0, .int .i64 g1, .int .i64 g2, .int .i64 g3, .int .i64 g4, .int .i64 g5, .int .i64 g6, .int .i64 g7, a9, v1, v2, v3, v4]] w fun e w' => e = .returned (.int .i64 61) ∧ Below w.heap.size w w' := by
  have HKd : Hid (∀ x, Calls Try.prog 50 #[.int .i64 kd, .int .i64 1, .int .i64 12] x fun e w' => e = .returned (.bool false) ∧ w' = x) := fun x => by
    have := within_anyR kd 1 12 x
    rw [show inB 1 kd 12 = false by cases he : inB 1 kd 12 with | false => rfl | true => exact absurd (inB_iff.1 he) hk] at this
    exact this
  clear hk
  go_enter Try.func43, Try.ntmps43
  go_wp2_with (first
    | (go_at_call 50; refine Calls.mono (HKd.out _) ?_; rintro e w2 ⟨rfl, rfl⟩))
  go_ret
  exact ⟨rfl, (Below.refl _ w).alloc (Nat.le_refl _) _⟩
end Go.Proofs.Ytokglpemefkmjaa
