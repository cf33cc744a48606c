import Derived.Test.YtigaggkipmcgeaaZO
namespace Go.Proofs.Ytigaggkipmcgeaa
open Go.RowKit
set_option linter.unusedVariables false

set_option maxRecDepth 100000 in
set_option maxHeartbeats 2000000 in
theorem spanMakes_walk (lo : Nat) (hlo : lo < 18446744073709551616) (hi : Nat) (hhi : hi < 18446744073709551616) (w : World) :
    Calls Try.prog 6 #[.float .f64 lo, .float .f64 hi] w fun e w' => e = .returned (.bool true) ∧ Below w.heap.size w w' := by
  go_enter Try.func6, Try.ntmps6
  go_wp2_with fail
  refine Calls.mono (bits_any lo _) ?_
  rintro e w0 ⟨rfl, hw⟩
  rw [hw]; clear hw
  go_wp2_with fail
  refine Calls.mono (bits_any hi _) ?_
  rintro e w0 ⟨rfl, hw⟩
  rw [hw]; clear hw
  go_wp2_with fail
  refine Calls.mono (make_any lo hi hlo hhi _) ?_
  rintro e w1 ⟨rfl, b1⟩
  have B1 : Hid (Below w.heap.size w w1) := b1
  clear b1
  go_wp2_with fail
  refine Calls.mono (refMake_any lo hi hlo hhi _ 1074 rfl) ?_
  rintro e w2 ⟨r, rfl, rfl, b2⟩
  have B2 : Hid (Below w.heap.size w w2) := B1.out.trans (b2.mono B1.out.size)
  clear b2 B1
  go_wp2_with fail
  refine Calls.mono (same_any4 _ _ _ _) ?_
  rintro e w3 ⟨rfl, b3⟩
  have B3 : Hid (Below w.heap.size w w3) := B2.out.trans (b3.mono B2.out.size)
  clear b3 B2
  go_wp2_with fail
  refine Calls.mono (point_any lo hlo _) ?_
  rintro e w4 ⟨rfl, b4⟩
  have B4 : Hid (Below w.heap.size w w4) := B3.out.trans (b4.mono B3.out.size)
  clear b4 B3
  go_wp2_with fail
  refine Calls.mono (refMake_any lo lo hlo hlo _ 1074 rfl) ?_
  rintro e w5 ⟨r, rfl, rfl, b5⟩
  have B5 : Hid (Below w.heap.size w w5) := B4.out.trans (b5.mono B4.out.size)
  clear b5 B4
  go_wp2_with fail
  refine Calls.mono (same_any4 _ _ _ _) ?_
  rintro e w6 ⟨rfl, b6⟩
  have B6 : Hid (Below w.heap.size w w6) := B5.out.trans (b6.mono B5.out.size)
  clear b6 B5
  go_wp2_with fail
  refine Calls.mono (spStarted_any _) ?_
  rintro e w7 ⟨rfl, b7⟩
  have B7 : Hid (Below w.heap.size w w7) := B6.out.trans (b7.mono B6.out.size)
  clear b7 B6
  go_wp2_with fail
  go_ret
  exact ⟨rfl, B7.out⟩
end Go.Proofs.Ytigaggkipmcgeaa
