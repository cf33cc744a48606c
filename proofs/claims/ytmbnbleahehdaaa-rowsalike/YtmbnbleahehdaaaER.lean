import Derived.Test.YtmbnbleahehdaaaEQ
namespace Go.Proofs.Ytmbnbleahehdaaa
open Go.RowKit
set_option linter.unusedVariables false

theorem Try.infoB16 : (Try.prog.info? 104).map (·.size) = some 16 := by kernel_rfl
theorem Try.infoB2 : (Try.prog.info? 103).map (·.size) = some 2 := by kernel_rfl
set_option maxRecDepth 100000 in
set_option maxHeartbeats 1000000 in
theorem slopeDense (o kh kw sh sw ph pw fr : Int) (v1 v2 v3 v4 : Value) (w : World) :
    Calls Try.prog 49 #[.agg #[.int .i64 1, .int .i64 o, .int .i64 kh, .int .i64 kw, .int .i64 sh, .int .i64 sw, .int .i64 ph, .int .i64 pw, .int .i64 fr, .int .u64 0, v1, v2, v3, v4]] w fun e w' => e = .returned (.int .i64 0) ∧ Below w.heap.size w w' := by
  have HB : Hid (∀ x, Below w.heap.size w (w.alloc x)) := fun x => (Below.refl _ w).alloc (Nat.le_refl _) _
  go_enter Try.func49, Try.ntmps49
  go_wp2_with fail
  go_ret
  exact ⟨rfl, HB.out _⟩
set_option maxRecDepth 100000 in
set_option maxHeartbeats 1000000 in
theorem slopeConv (o kh kw sh sw ph pw fr : Int) (v1 v2 v3 v4 : Value) (w : World) :
    Calls Try.prog 49 #[.agg #[.int .i64 2, .int .i64 o, .int .i64 kh, .int .i64 kw, .int .i64 sh, .int .i64 sw, .int .i64 ph, .int .i64 pw, .int .i64 fr, .int .u64 0, v1, v2, v3, v4]] w fun e w' => e = .returned (.int .i64 0) ∧ Below w.heap.size w w' := by
  have HB : Hid (∀ x, Below w.heap.size w (w.alloc x)) := fun x => (Below.refl _ w).alloc (Nat.le_refl _) _
  go_enter Try.func49, Try.ntmps49
  go_wp2_with fail
  go_ret
  exact ⟨rfl, HB.out _⟩
set_option maxRecDepth 100000 in
theorem windowsD (w : World) : Calls Try.prog 55 #[.int .i64 1] w fun e w' => e = .returned (.bool false) ∧ w' = w := by
  go_enter Try.func55, Try.ntmps55
  go_wp2_with fail
  go_ret
  exact ⟨rfl, rfl⟩
set_option maxRecDepth 100000 in
theorem windowsC (w : World) : Calls Try.prog 55 #[.int .i64 2] w fun e w' => e = .returned (.bool true) ∧ w' = w := by
  go_enter Try.func55, Try.ntmps55
  go_wp2_with fail
  go_ret
  exact ⟨rfl, rfl⟩
set_option maxRecDepth 100000 in
set_option maxHeartbeats 2000000 in
theorem boundsDense (o kh kw sh sw ph pw fr : Int) (v1 v2 v3 v4 : Value) (w : World) :
    Calls Try.prog 48 #[.agg #[.int .i64 1, .int .i64 o, .int .i64 kh, .int .i64 kw, .int .i64 sh, .int .i64 sw, .int .i64 ph, .int .i64 pw, .int .i64 fr, .int .u64 0, v1, v2, v3, v4]] w fun e w' => e = .returned (.agg #[.int .i64 1, .int .i64 256, .int .i64 0, .int .i64 0, .int .i64 0, .int .i64 0, .int .i64 0, .int .i64 0, .int .i64 0, .int .i64 0, .int .i64 0, .int .i64 0, .int .i64 0, .int .i64 0, .int .i64 0, .int .i64 0]) ∧ Below w.heap.size w w' := by
  have HB : Hid (∀ x y z, Below w.heap.size w (((w.alloc x).alloc y).alloc z)) := fun x y z => (((Below.refl _ w).alloc (Nat.le_refl _) _).alloc (by simp only [alloc_size]; omega) _).alloc (by simp only [alloc_size]; omega) _
  go_enter Try.func48, Try.ntmps48
  go_wp2_with (first | (go_at_call 55; refine (windowsD _).mono ?_; rintro e w1 ⟨rfl, rfl⟩))
  exact bodyPost_ret (res_one _ 2 104 (by kernel_rfl) _ _ (w.heap.size + 1) _ (by rfl) _ Try.underlying104 rfl 16 Try.infoB16 rfl (alloc_kept (heap_at _ _ (w.heap.size + 1) (by simp only [alloc_size])) _)) rfl ⟨rfl, HB.out _ _ _⟩
def bC (i : Nat) : Array Value := #[.int .i64 1, .int .i64 256, .int .i64 (if 1 < i then 1 else 0), .int .i64 (if 1 < i then 16 else 0), .int .i64 (if 2 < i then 1 else 0), .int .i64 (if 2 < i then 16 else 0), .int .i64 (if 3 < i then 1 else 0), .int .i64 (if 3 < i then 16 else 0), .int .i64 (if 4 < i then 1 else 0), .int .i64 (if 4 < i then 16 else 0), .int .i64 0, .int .i64 0, .int .i64 0, .int .i64 0, .int .i64 0, .int .i64 0]
theorem one16 (y0 y1 y2 y3 y4 y5 y6 y7 y8 y9 y10 y11 y12 y13 y14 y15 : Int) : (#[.int .i64 y0, .int .i64 y1, .int .i64 y2, .int .i64 y3, .int .i64 y4, .int .i64 y5, .int .i64 y6, .int .i64 y7, .int .i64 y8, .int .i64 y9, .int .i64 y10, .int .i64 y11, .int .i64 y12, .int .i64 y13, .int .i64 y14, .int .i64 y15] : Array Value).all (·.oneCell') = true := by
  simp only [Array.all_eq_true_iff_forall_mem]
  intro v hv
  simp only [List.mem_toArray, List.mem_cons, List.not_mem_nil, or_false] at hv
  rcases hv with rfl | rfl | rfl | rfl | rfl | rfl | rfl | rfl | rfl | rfl | rfl | rfl | rfl | rfl | rfl | rfl <;> rfl
set_option maxRecDepth 100000 in
set_option maxHeartbeats 4000000 in
theorem boundsConv (o kh kw sh sw ph pw fr kh' kw' : Int) (hk1 : IntKind.i64.wrap (kh - 1) = kh') (hk2 : IntKind.i64.wrap (kw - 1) = kw') (v1 v2 v3 v4 : Value) (w : World) :
    Calls Try.prog 48 #[.agg #[.int .i64 2, .int .i64 o, .int .i64 kh, .int .i64 kw, .int .i64 sh, .int .i64 sw, .int .i64 ph, .int .i64 pw, .int .i64 fr, .int .u64 0, v1, v2, v3, v4]] w fun e w' => e = .returned (.agg #[.int .i64 1, .int .i64 256, .int .i64 1, .int .i64 16, .int .i64 1, .int .i64 16, .int .i64 1, .int .i64 16, .int .i64 1, .int .i64 16, .int .i64 0, .int .i64 kh', .int .i64 0, .int .i64 kw', .int .i64 0, .int .i64 0]) ∧ Below w.heap.size w w' := by
  have HB : Hid (∀ x y z, Below w.heap.size w (((w.alloc x).alloc y).alloc z)) := fun x y z => (((Below.refl _ w).alloc (Nat.le_refl _) _).alloc (by simp only [alloc_size]; omega) _).alloc (by simp only [alloc_size]; omega) _
  go_enter Try.func48, Try.ntmps48
  go_wp2_with (first | (go_at_call 55; refine (windowsC _).mono ?_; rintro e w1 ⟨rfl, rfl⟩))
  go_loopg [4] 4 (fun g v wx => ∃ i : Nat, v = .int .i64 i ∧ (1 ≤ i ∧ i + g = 5) ∧ Hid (Below w.heap.size w wx) ∧ Hid (wx.heap[w.heap.size]? = some (.cells #[.int .i64 2, .int .i64 o, .int .i64 kh, .int .i64 kw, .int .i64 sh, .int .i64 sw, .int .i64 ph, .int .i64 pw, .int .i64 fr, .int .u64 0, v1, v2, v3, v4] 56) ∧ wx.heap[w.heap.size + 1]? = some (.cells #[.int .i64 0, .int .i64 0, .int .i64 0, .int .i64 0, .int .i64 0, .int .i64 0, .int .i64 0, .int .i64 0, .int .i64 0, .int .i64 0, .int .i64 0, .int .i64 0, .int .i64 0, .int .i64 0, .int .i64 0, .int .i64 0] 104) ∧ wx.heap[w.heap.size + 1 + 1]? = some (.cells (bC i) 104)))
  case atStart => exact ⟨1, rfl, ⟨by omega, by omega⟩, HB.out _ _ _, alloc_kept (alloc_kept (heap_alloc_new w _) _) _, alloc_kept (heap_at _ _ (w.heap.size + 1) (by simp only [alloc_size])) _, heap_at _ _ (w.heap.size + 1 + 1) (by simp only [alloc_size])⟩
  case round =>
    clear HB
    obtain ⟨i, rfl, hi, HB, HK⟩ := hrel
    have hlt := blk_lt HK.out.2.2
    obtain rfl | rfl | rfl | rfl | rfl : i = 1 ∨ i = 2 ∨ i = 3 ∨ i = 4 ∨ i = 5 := by omega
    · have E0 : wr.heap[w.heap.size + 1 + 1]? = some (.cells #[.int .i64 1, .int .i64 256, .int .i64 0, .int .i64 0, .int .i64 0, .int .i64 0, .int .i64 0, .int .i64 0, .int .i64 0, .int .i64 0, .int .i64 0, .int .i64 0, .int .i64 0, .int .i64 0, .int .i64 0, .int .i64 0] 104) := HK.out.2.2
      have hb0 := HB.out
      go_wp2_with (first | (refine wpList_store_at (by rfl) 103 _ _ (by rfl) w w.heap.size (w.heap.size + 1 + 1) 2 (.agg #[.int .i64 1, .int .i64 16]) _ #[.int .i64 1, .int .i64 256, .int .i64 1, .int .i64 16, .int .i64 0, .int .i64 0, .int .i64 0, .int .i64 0, .int .i64 0, .int .i64 0, .int .i64 0, .int .i64 0, .int .i64 0, .int .i64 0, .int .i64 0, .int .i64 0] 104 (by rfl) (by rfl) E0 hb0 (by omega) 2 Try.infoB2 (by rfl) (Nat.le_of_ble_eq_true rfl) (by exact one_int2 _ _) (by rfl) ?_; intro W5 e5 hb5 hs5 ho5))
      go_roundg 3
      case measure => omega
      case rel => exact ⟨2, rfl, ⟨by omega, by omega⟩, hb5, (ho5 _ (by omega)).trans HK.out.1, (ho5 _ (by omega)).trans HK.out.2.1, e5⟩
    · have E0 : wr.heap[w.heap.size + 1 + 1]? = some (.cells #[.int .i64 1, .int .i64 256, .int .i64 1, .int .i64 16, .int .i64 0, .int .i64 0, .int .i64 0, .int .i64 0, .int .i64 0, .int .i64 0, .int .i64 0, .int .i64 0, .int .i64 0, .int .i64 0, .int .i64 0, .int .i64 0] 104) := HK.out.2.2
      have hb0 := HB.out
      go_wp2_with (first | (refine wpList_store_at (by rfl) 103 _ _ (by rfl) w w.heap.size (w.heap.size + 1 + 1) 4 (.agg #[.int .i64 1, .int .i64 16]) _ #[.int .i64 1, .int .i64 256, .int .i64 1, .int .i64 16, .int .i64 1, .int .i64 16, .int .i64 0, .int .i64 0, .int .i64 0, .int .i64 0, .int .i64 0, .int .i64 0, .int .i64 0, .int .i64 0, .int .i64 0, .int .i64 0] 104 (by rfl) (by rfl) E0 hb0 (by omega) 2 Try.infoB2 (by rfl) (Nat.le_of_ble_eq_true rfl) (by exact one_int2 _ _) (by rfl) ?_; intro W5 e5 hb5 hs5 ho5))
      go_roundg 2
      case measure => omega
      case rel => exact ⟨3, rfl, ⟨by omega, by omega⟩, hb5, (ho5 _ (by omega)).trans HK.out.1, (ho5 _ (by omega)).trans HK.out.2.1, e5⟩
    · have E0 : wr.heap[w.heap.size + 1 + 1]? = some (.cells #[.int .i64 1, .int .i64 256, .int .i64 1, .int .i64 16, .int .i64 1, .int .i64 16, .int .i64 0, .int .i64 0, .int .i64 0, .int .i64 0, .int .i64 0, .int .i64 0, .int .i64 0, .int .i64 0, .int .i64 0, .int .i64 0] 104) := HK.out.2.2
      have hb0 := HB.out
      go_wp2_with (first | (refine wpList_store_at (by rfl) 103 _ _ (by rfl) w w.heap.size (w.heap.size + 1 + 1) 6 (.agg #[.int .i64 1, .int .i64 16]) _ #[.int .i64 1, .int .i64 256, .int .i64 1, .int .i64 16, .int .i64 1, .int .i64 16, .int .i64 1, .int .i64 16, .int .i64 0, .int .i64 0, .int .i64 0, .int .i64 0, .int .i64 0, .int .i64 0, .int .i64 0, .int .i64 0] 104 (by rfl) (by rfl) E0 hb0 (by omega) 2 Try.infoB2 (by rfl) (Nat.le_of_ble_eq_true rfl) (by exact one_int2 _ _) (by rfl) ?_; intro W5 e5 hb5 hs5 ho5))
      go_roundg 1
      case measure => omega
      case rel => exact ⟨4, rfl, ⟨by omega, by omega⟩, hb5, (ho5 _ (by omega)).trans HK.out.1, (ho5 _ (by omega)).trans HK.out.2.1, e5⟩
    · have E0 : wr.heap[w.heap.size + 1 + 1]? = some (.cells #[.int .i64 1, .int .i64 256, .int .i64 1, .int .i64 16, .int .i64 1, .int .i64 16, .int .i64 1, .int .i64 16, .int .i64 0, .int .i64 0, .int .i64 0, .int .i64 0, .int .i64 0, .int .i64 0, .int .i64 0, .int .i64 0] 104) := HK.out.2.2
      have hb0 := HB.out
      go_wp2_with (first | (refine wpList_store_at (by rfl) 103 _ _ (by rfl) w w.heap.size (w.heap.size + 1 + 1) 8 (.agg #[.int .i64 1, .int .i64 16]) _ #[.int .i64 1, .int .i64 256, .int .i64 1, .int .i64 16, .int .i64 1, .int .i64 16, .int .i64 1, .int .i64 16, .int .i64 1, .int .i64 16, .int .i64 0, .int .i64 0, .int .i64 0, .int .i64 0, .int .i64 0, .int .i64 0] 104 (by rfl) (by rfl) E0 hb0 (by omega) 2 Try.infoB2 (by rfl) (Nat.le_of_ble_eq_true rfl) (by exact one_int2 _ _) (by rfl) ?_; intro W5 e5 hb5 hs5 ho5))
      go_roundg 0
      case measure => omega
      case rel => exact ⟨5, rfl, ⟨by omega, by omega⟩, hb5, (ho5 _ (by omega)).trans HK.out.1, (ho5 _ (by omega)).trans HK.out.2.1, e5⟩
    · have E0 : wr.heap[w.heap.size + 1 + 1]? = some (.cells #[.int .i64 1, .int .i64 256, .int .i64 1, .int .i64 16, .int .i64 1, .int .i64 16, .int .i64 1, .int .i64 16, .int .i64 1, .int .i64 16, .int .i64 0, .int .i64 0, .int .i64 0, .int .i64 0, .int .i64 0, .int .i64 0] 104) := HK.out.2.2
      have hb0 := HB.out
      have a2 := cellOf HK.out.1 2 (.int .i64 kh) rfl
      have a3 := cellOf HK.out.1 3 (.int .i64 kw) rfl
      go_upto_region 16 with (first | (refine wpList_store_at (by rfl) 103 _ _ (by rfl) w w.heap.size (w.heap.size + 1 + 1) 10 (.agg #[.int .i64 0, .int .i64 kh']) _ #[.int .i64 1, .int .i64 256, .int .i64 1, .int .i64 16, .int .i64 1, .int .i64 16, .int .i64 1, .int .i64 16, .int .i64 1, .int .i64 16, .int .i64 0, .int .i64 kh', .int .i64 0, .int .i64 0, .int .i64 0, .int .i64 0] 104 (by rfl) (by rfl) E0 hb0 (by omega) 2 Try.infoB2 (by rfl) (Nat.le_of_ble_eq_true rfl) (by exact one_int2 _ _) (by rfl) ?_; intro W6 e6 hb6 hs6 ho6))
      have K6 := (ho6 _ (by omega)).trans HK.out.1
      have R6 := (ho6 _ (by omega)).trans HK.out.2.1
      have a3' := cellOf K6 3 (.int .i64 kw) rfl
      go_upto_region 17 with (first | (refine wpList_store_at (by rfl) 103 _ _ (by rfl) w w.heap.size (w.heap.size + 1 + 1) 12 (.agg #[.int .i64 0, .int .i64 kw']) _ #[.int .i64 1, .int .i64 256, .int .i64 1, .int .i64 16, .int .i64 1, .int .i64 16, .int .i64 1, .int .i64 16, .int .i64 1, .int .i64 16, .int .i64 0, .int .i64 kh', .int .i64 0, .int .i64 kw', .int .i64 0, .int .i64 0] 104 (by rfl) (by rfl) e6 hb6 (by omega) 2 Try.infoB2 (by rfl) (Nat.le_of_ble_eq_true rfl) (by exact one_int2 _ _) (by rfl) ?_; intro W7 e7 hb7 hs7 ho7))
      have R7 := (ho7 _ (by omega)).trans R6
      go_wp2_with (first
        | (refine wpList_load_row (by rfl) 104 _ (by rfl) (w.heap.size + 1 + 1) _ (by rfl) e7 _ Try.underlying104 rfl 16 Try.infoB16 (by rfl) ?_)
        | (refine wpList_store_row (by rfl) 104 _ _ (by rfl) w w.heap.size (w.heap.size + 1) _ _ (by rfl) (by rfl) R7 hb7 (by omega) 16 Try.infoB16 (by rfl) (by rfl) (by exact one16 ..) ?_; intro W9 e9 hb9 hs9 ho9))
      exact bodyPost_ret (res_one _ 2 104 (by kernel_rfl) _ _ (w.heap.size + 1) _ (by rfl) _ Try.underlying104 rfl 16 Try.infoB16 rfl e9) rfl ⟨rfl, hb9⟩
end Go.Proofs.Ytmbnbleahehdaaa
