import Derived.Test.YtmbnbleahehdaaaER
import Derived.Deep.RegionHeld3
namespace Go.Proofs.Ytmbnbleahehdaaa
open Go.RowKit
set_option linter.unusedVariables false

theorem Try.infoRL : (Try.prog.info? 56).map (·.size) = some 14 := by kernel_rfl
theorem within_anyR (n lo hi : Int) (w : World) : Calls Try.prog 47 #[.int .i64 n, .int .i64 lo, .int .i64 hi] w fun e w' => e = .returned (.bool (inB lo n hi)) ∧ w' = w := by
  by_cases h1 : lo ≤ n
  · by_cases h2 : n ≤ hi
    · have e : inB lo n hi = true := inB_true ⟨h1, h2⟩
      rw [e]
      go_enter Try.func47, Try.ntmps47
      go_wp2_with fail
      go_ret
      exact ⟨rfl, rfl⟩
    · have e : inB lo n hi = false := by cases he : inB lo n hi with | false => rfl | true => exact absurd (inB_iff.1 he).2 h2
      rw [e]
      go_enter Try.func47, Try.ntmps47
      go_wp2_with fail
      go_ret
      exact ⟨rfl, rfl⟩
  · have e : inB lo n hi = false := by cases he : inB lo n hi with | false => rfl | true => exact absurd (inB_iff.1 he).1 h1
    rw [e]
    go_enter Try.func47, Try.ntmps47
    go_wp2_with fail
    go_ret
    exact ⟨rfl, rfl⟩
set_option maxRecDepth 100000 in
set_option maxHeartbeats 4000000 in
theorem refFields_ok (kd g0 g1 g2 g3 g4 g5 g6 g7 l0 l1 l2 l3 l4 l5 l6 l7 m0 m1 m2 m3 m4 m5 m6 m7 : Int) (a9 v1 v2 v3 v4 : Value) (hk : 1 ≤ kd ∧ kd ≤ 12) (q0 : l0 ≤ g0 ∧ g0 ≤ m0) (q1 : l1 ≤ g1 ∧ g1 ≤ m1) (q2 : l2 ≤ g2 ∧ g2 ≤ m2) (q3 : l3 ≤ g3 ∧ g3 ≤ m3) (q4 : l4 ≤ g4 ∧ g4 ≤ m4) (q5 : l5 ≤ g5 ∧ g5 ≤ m5) (q6 : l6 ≤ g6 ∧ g6 ≤ m6) (q7 : l7 ≤ g7 ∧ g7 ≤ m7)
    (hBd : ∀ w, Calls Try.prog 48 #[.agg #[.int .i64 kd, .int .i64 g0, .int .i64 g1, .int .i64 g2, .int .i64 g3, .int .i64 g4, .int .i64 g5, .int .i64 g6, .int .i64 g7, a9, v1, v2, v3, v4]] w fun e w' => e = .returned (.agg #[.int .i64 l0, .int .i64 m0, .int .i64 l1, .int .i64 m1, .int .i64 l2, .int .i64 m2, .int .i64 l3, .int .i64 m3, .int .i64 l4, .int .i64 m4, .int .i64 l5, .int .i64 m5, .int .i64 l6, .int .i64 m6, .int .i64 l7, .int .i64 m7]) ∧ Below w.heap.size w w')
    (hSl : ∀ w, Calls Try.prog 49 #[.agg #[.int .i64 kd, .int .i64 g0, .int .i64 g1, .int .i64 g2, .int .i64 g3, .int .i64 g4, .int .i64 g5, .int .i64 g6, .int .i64 g7, a9, v1, v2, v3, v4]] w fun e w' => e = .returned (.int .i64 0) ∧ Below w.heap.size w w') (w : World) :
    Calls Try.prog 41 #[.agg #[.int .i64 kd, .int .i64 g0, .int .i64 g1, .int .i64 g2, .int .i64 g3, .int .i64 g4, .int .i64 g5, .int .i64 g6, .int .i64 g7, a9, v1, v2, v3, v4]] w fun e w' => e = .returned (.int .i64 0) ∧ Below w.heap.size w w' := by
  have HBd : Hid _ := hBd
  have HSl : Hid _ := hSl
  have HKd : Hid (∀ x, Calls Try.prog 47 #[.int .i64 kd, .int .i64 1, .int .i64 12] x fun e w' => e = .returned (.bool true) ∧ w' = x) := fun x => by
    have := within_anyR kd 1 12 x
    rw [inB_true hk] at this
    exact this
  clear hBd hSl hk
  have X0 : Below w.heap.size w ((w.alloc (.cells #[.int .i64 kd, .int .i64 g0, .int .i64 g1, .int .i64 g2, .int .i64 g3, .int .i64 g4, .int .i64 g5, .int .i64 g6, .int .i64 g7, a9, v1, v2, v3, v4] 56)).alloc (.cells #[.int .i64 g0, .int .i64 g1, .int .i64 g2, .int .i64 g3, .int .i64 g4, .int .i64 g5, .int .i64 g6, .int .i64 g7] 102)) := ((Below.refl _ w).alloc (Nat.le_refl _) _).alloc (by simp only [alloc_size]; omega) _
  go_enter Try.func41, Try.ntmps41
  go_wp2_with (first
    | (go_at_call 47; refine Calls.mono (HKd.out _) ?_; rintro e w2 ⟨rfl, rfl⟩))
  refine Calls.mono (HBd.out _) ?_
  rintro e w1 ⟨rfl, hb⟩
  have B1 : Hid (Below w.heap.size w w1) := to_call X0 hb
  have k0 := kept hb (alloc_kept (heap_alloc_new w _) _)
  have k1 := kept hb (heap_at _ _ (w.heap.size + 1) (by simp only [alloc_size]))
  have hsz := blk_lt k1
  clear hb X0 HBd HKd
  go_wp2_with fail
  go_loopg [5] 8 (fun g v wx => ∃ i : Nat, v = .int .i64 i ∧ i + g = 8 ∧ Hid (Below w.heap.size w wx) ∧ Hid (wx.heap[w.heap.size]? = some (.cells #[.int .i64 kd, .int .i64 g0, .int .i64 g1, .int .i64 g2, .int .i64 g3, .int .i64 g4, .int .i64 g5, .int .i64 g6, .int .i64 g7, a9, v1, v2, v3, v4] 56) ∧ wx.heap[w.heap.size + 1]? = some (.cells #[.int .i64 g0, .int .i64 g1, .int .i64 g2, .int .i64 g3, .int .i64 g4, .int .i64 g5, .int .i64 g6, .int .i64 g7] 102) ∧ wx.heap[w1.heap.size]? = some (.cells #[.int .i64 l0, .int .i64 m0, .int .i64 l1, .int .i64 m1, .int .i64 l2, .int .i64 m2, .int .i64 l3, .int .i64 m3, .int .i64 l4, .int .i64 m4, .int .i64 l5, .int .i64 m5, .int .i64 l6, .int .i64 m6, .int .i64 l7, .int .i64 m7] 104)))
  case atStart => exact ⟨0, rfl, by omega, B1.out.alloc B1.out.size _, alloc_kept k0 _, alloc_kept k1 _, heap_alloc_new w1 _⟩
  case round =>
    obtain ⟨i, rfl, hi, HB, HK⟩ := hrel
    obtain rfl | rfl | rfl | rfl | rfl | rfl | rfl | rfl | rfl : i = 0 ∨ i = 1 ∨ i = 2 ∨ i = 3 ∨ i = 4 ∨ i = 5 ∨ i = 6 ∨ i = 7 ∨ i = 8 := by omega
    · have c0 := cellOf (W := wr.drew) HK.out.2.1 0 (.int .i64 g0) rfl
      have c1 := cellOf (W := wr.drew) HK.out.2.2 0 (.int .i64 l0) rfl
      have c2 := cellOf (W := wr.drew) HK.out.2.2 1 (.int .i64 m0) rfl
      have HH : Hid (∀ x, Calls Try.prog 47 #[.int .i64 g0, .int .i64 l0, .int .i64 m0] x fun e w' => e = .returned (.bool true) ∧ w' = x) := fun x => by
        have := within_anyR g0 l0 m0 x
        rw [inB_true q0] at this
        exact this
      clear q0 q1 q2 q3 q4 q5 q6 q7
      go_upto_region 8 with fail
      go_region_held3 (fun w' => w'.cell? ⟨w.heap.size + 1, 0, none⟩ = some (.int .i64 g0) ∧ w'.cell? ⟨w1.heap.size, 0, none⟩ = some (.int .i64 l0) ∧ w'.cell? ⟨w1.heap.size, 1, none⟩ = some (.int .i64 m0)) (go_keep) (first | (go_at_call 47; refine Calls.mono (HH.out _) ?_; rintro e w2 ⟨rfl, rfl⟩))
      go_wp2
      go_roundg 7
      case measure => omega
      case rel => exact ⟨1, rfl, by omega, HB.out.drew, HK.out.1, HK.out.2.1, HK.out.2.2⟩
    · have c0 := cellOf (W := wr.drew) HK.out.2.1 1 (.int .i64 g1) rfl
      have c1 := cellOf (W := wr.drew) HK.out.2.2 2 (.int .i64 l1) rfl
      have c2 := cellOf (W := wr.drew) HK.out.2.2 3 (.int .i64 m1) rfl
      have HH : Hid (∀ x, Calls Try.prog 47 #[.int .i64 g1, .int .i64 l1, .int .i64 m1] x fun e w' => e = .returned (.bool true) ∧ w' = x) := fun x => by
        have := within_anyR g1 l1 m1 x
        rw [inB_true q1] at this
        exact this
      clear q0 q1 q2 q3 q4 q5 q6 q7
      go_upto_region 8 with fail
      go_region_held3 (fun w' => w'.cell? ⟨w.heap.size + 1, 1, none⟩ = some (.int .i64 g1) ∧ w'.cell? ⟨w1.heap.size, 2, none⟩ = some (.int .i64 l1) ∧ w'.cell? ⟨w1.heap.size, 3, none⟩ = some (.int .i64 m1)) (go_keep) (first | (go_at_call 47; refine Calls.mono (HH.out _) ?_; rintro e w2 ⟨rfl, rfl⟩))
      go_wp2
      go_roundg 6
      case measure => omega
      case rel => exact ⟨2, rfl, by omega, HB.out.drew, HK.out.1, HK.out.2.1, HK.out.2.2⟩
    · have c0 := cellOf (W := wr.drew) HK.out.2.1 2 (.int .i64 g2) rfl
      have c1 := cellOf (W := wr.drew) HK.out.2.2 4 (.int .i64 l2) rfl
      have c2 := cellOf (W := wr.drew) HK.out.2.2 5 (.int .i64 m2) rfl
      have HH : Hid (∀ x, Calls Try.prog 47 #[.int .i64 g2, .int .i64 l2, .int .i64 m2] x fun e w' => e = .returned (.bool true) ∧ w' = x) := fun x => by
        have := within_anyR g2 l2 m2 x
        rw [inB_true q2] at this
        exact this
      clear q0 q1 q2 q3 q4 q5 q6 q7
      go_upto_region 8 with fail
      go_region_held3 (fun w' => w'.cell? ⟨w.heap.size + 1, 2, none⟩ = some (.int .i64 g2) ∧ w'.cell? ⟨w1.heap.size, 4, none⟩ = some (.int .i64 l2) ∧ w'.cell? ⟨w1.heap.size, 5, none⟩ = some (.int .i64 m2)) (go_keep) (first | (go_at_call 47; refine Calls.mono (HH.out _) ?_; rintro e w2 ⟨rfl, rfl⟩))
      go_wp2
      go_roundg 5
      case measure => omega
      case rel => exact ⟨3, rfl, by omega, HB.out.drew, HK.out.1, HK.out.2.1, HK.out.2.2⟩
    · have c0 := cellOf (W := wr.drew) HK.out.2.1 3 (.int .i64 g3) rfl
      have c1 := cellOf (W := wr.drew) HK.out.2.2 6 (.int .i64 l3) rfl
      have c2 := cellOf (W := wr.drew) HK.out.2.2 7 (.int .i64 m3) rfl
      have HH : Hid (∀ x, Calls Try.prog 47 #[.int .i64 g3, .int .i64 l3, .int .i64 m3] x fun e w' => e = .returned (.bool true) ∧ w' = x) := fun x => by
        have := within_anyR g3 l3 m3 x
        rw [inB_true q3] at this
        exact this
      clear q0 q1 q2 q3 q4 q5 q6 q7
      go_upto_region 8 with fail
      go_region_held3 (fun w' => w'.cell? ⟨w.heap.size + 1, 3, none⟩ = some (.int .i64 g3) ∧ w'.cell? ⟨w1.heap.size, 6, none⟩ = some (.int .i64 l3) ∧ w'.cell? ⟨w1.heap.size, 7, none⟩ = some (.int .i64 m3)) (go_keep) (first | (go_at_call 47; refine Calls.mono (HH.out _) ?_; rintro e w2 ⟨rfl, rfl⟩))
      go_wp2
      go_roundg 4
      case measure => omega
      case rel => exact ⟨4, rfl, by omega, HB.out.drew, HK.out.1, HK.out.2.1, HK.out.2.2⟩
    · have c0 := cellOf (W := wr.drew) HK.out.2.1 4 (.int .i64 g4) rfl
      have c1 := cellOf (W := wr.drew) HK.out.2.2 8 (.int .i64 l4) rfl
      have c2 := cellOf (W := wr.drew) HK.out.2.2 9 (.int .i64 m4) rfl
      have HH : Hid (∀ x, Calls Try.prog 47 #[.int .i64 g4, .int .i64 l4, .int .i64 m4] x fun e w' => e = .returned (.bool true) ∧ w' = x) := fun x => by
        have := within_anyR g4 l4 m4 x
        rw [inB_true q4] at this
        exact this
      clear q0 q1 q2 q3 q4 q5 q6 q7
      go_upto_region 8 with fail
      go_region_held3 (fun w' => w'.cell? ⟨w.heap.size + 1, 4, none⟩ = some (.int .i64 g4) ∧ w'.cell? ⟨w1.heap.size, 8, none⟩ = some (.int .i64 l4) ∧ w'.cell? ⟨w1.heap.size, 9, none⟩ = some (.int .i64 m4)) (go_keep) (first | (go_at_call 47; refine Calls.mono (HH.out _) ?_; rintro e w2 ⟨rfl, rfl⟩))
      go_wp2
      go_roundg 3
      case measure => omega
      case rel => exact ⟨5, rfl, by omega, HB.out.drew, HK.out.1, HK.out.2.1, HK.out.2.2⟩
    · have c0 := cellOf (W := wr.drew) HK.out.2.1 5 (.int .i64 g5) rfl
      have c1 := cellOf (W := wr.drew) HK.out.2.2 10 (.int .i64 l5) rfl
      have c2 := cellOf (W := wr.drew) HK.out.2.2 11 (.int .i64 m5) rfl
      have HH : Hid (∀ x, Calls Try.prog 47 #[.int .i64 g5, .int .i64 l5, .int .i64 m5] x fun e w' => e = .returned (.bool true) ∧ w' = x) := fun x => by
        have := within_anyR g5 l5 m5 x
        rw [inB_true q5] at this
        exact this
      clear q0 q1 q2 q3 q4 q5 q6 q7
      go_upto_region 8 with fail
      go_region_held3 (fun w' => w'.cell? ⟨w.heap.size + 1, 5, none⟩ = some (.int .i64 g5) ∧ w'.cell? ⟨w1.heap.size, 10, none⟩ = some (.int .i64 l5) ∧ w'.cell? ⟨w1.heap.size, 11, none⟩ = some (.int .i64 m5)) (go_keep) (first | (go_at_call 47; refine Calls.mono (HH.out _) ?_; rintro e w2 ⟨rfl, rfl⟩))
      go_wp2
      go_roundg 2
      case measure => omega
      case rel => exact ⟨6, rfl, by omega, HB.out.drew, HK.out.1, HK.out.2.1, HK.out.2.2⟩
    · have c0 := cellOf (W := wr.drew) HK.out.2.1 6 (.int .i64 g6) rfl
      have c1 := cellOf (W := wr.drew) HK.out.2.2 12 (.int .i64 l6) rfl
      have c2 := cellOf (W := wr.drew) HK.out.2.2 13 (.int .i64 m6) rfl
      have HH : Hid (∀ x, Calls Try.prog 47 #[.int .i64 g6, .int .i64 l6, .int .i64 m6] x fun e w' => e = .returned (.bool true) ∧ w' = x) := fun x => by
        have := within_anyR g6 l6 m6 x
        rw [inB_true q6] at this
        exact this
      clear q0 q1 q2 q3 q4 q5 q6 q7
      go_upto_region 8 with fail
      go_region_held3 (fun w' => w'.cell? ⟨w.heap.size + 1, 6, none⟩ = some (.int .i64 g6) ∧ w'.cell? ⟨w1.heap.size, 12, none⟩ = some (.int .i64 l6) ∧ w'.cell? ⟨w1.heap.size, 13, none⟩ = some (.int .i64 m6)) (go_keep) (first | (go_at_call 47; refine Calls.mono (HH.out _) ?_; rintro e w2 ⟨rfl, rfl⟩))
      go_wp2
      go_roundg 1
      case measure => omega
      case rel => exact ⟨7, rfl, by omega, HB.out.drew, HK.out.1, HK.out.2.1, HK.out.2.2⟩
    · have c0 := cellOf (W := wr.drew) HK.out.2.1 7 (.int .i64 g7) rfl
      have c1 := cellOf (W := wr.drew) HK.out.2.2 14 (.int .i64 l7) rfl
      have c2 := cellOf (W := wr.drew) HK.out.2.2 15 (.int .i64 m7) rfl
      have HH : Hid (∀ x, Calls Try.prog 47 #[.int .i64 g7, .int .i64 l7, .int .i64 m7] x fun e w' => e = .returned (.bool true) ∧ w' = x) := fun x => by
        have := within_anyR g7 l7 m7 x
        rw [inB_true q7] at this
        exact this
      clear q0 q1 q2 q3 q4 q5 q6 q7
      go_upto_region 8 with fail
      go_region_held3 (fun w' => w'.cell? ⟨w.heap.size + 1, 7, none⟩ = some (.int .i64 g7) ∧ w'.cell? ⟨w1.heap.size, 14, none⟩ = some (.int .i64 l7) ∧ w'.cell? ⟨w1.heap.size, 15, none⟩ = some (.int .i64 m7)) (go_keep) (first | (go_at_call 47; refine Calls.mono (HH.out _) ?_; rintro e w2 ⟨rfl, rfl⟩))
      go_wp2
      go_roundg 0
      case measure => omega
      case rel => exact ⟨8, rfl, by omega, HB.out.drew, HK.out.1, HK.out.2.1, HK.out.2.2⟩
    · go_wp2_with (first
        | (refine wpList_load_row (by rfl) 56 _ (by rfl) w.heap.size _ (by rfl) HK.out.1 _ Try.underlying56 rfl 14 Try.infoRL (by rfl) ?_)
        | (go_at_call 49; refine Calls.mono (HSl.out _) ?_; rintro e w2 ⟨rfl, hb2⟩; have B2 : Hid (Below w.heap.size w w2) := to_call HB.out hb2; clear hb2))
      go_ret
      exact ⟨rfl, B2.out⟩
end Go.Proofs.Ytmbnbleahehdaaa
