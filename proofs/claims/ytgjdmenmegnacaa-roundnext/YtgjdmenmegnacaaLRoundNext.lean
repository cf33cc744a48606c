import Derived.Test.YtgjdmenmegnacaaSD
namespace Go.Proofs.Ytgjdmenmegnacaa
open Go.RowKit
set_option linter.unusedVariables false

set_option maxHeartbeats 1000000 in
theorem roundNext_walk (d : Int) (d0 : -9223372036854775808 ≤ d) (d1 : d ≤ 9223372036854775807) (a : Nat) (ha : a < 18446744073709551616) (w : World) :
    Calls Try.prog 3 #[.int .i64 d, .float .f64 a] w fun e w' => e = .returned (.bool true) ∧ Below w.heap.size w w' := by
  generalize hq : decide (Fin a) = q
  have hqq : (q == q) = true := by simp
  go_enter Try.func3, Try.ntmps3
  go_wp2_with (first
    | (go_at_call 8; refine (number_any a ha _).mono ?_; rintro e w0 ⟨rfl, rfl⟩; rw [hq])
    | (go_at_call 10; refine (bits_any a _).mono ?_; rintro e w0 ⟨rfl, rfl⟩)
    | (go_at_call 9; refine (refNumber_any a ha _).mono ?_; rintro e w0 ⟨rfl, rfl⟩; rw [hq])
    | (go_at_call_of 11 (Value.int IntKind.i64 d); refine (one0_any d a 0 0 ha (by decide) d0 d1 _).mono ?_; rintro e w1 ⟨rfl, hb1⟩)
    | (go_at_call_of 11 (Value.int IntKind.i64 1); refine (one0_any 1 a 0 0 ha (by decide) (by decide) (by decide) _).mono ?_; rintro e w2 ⟨rfl, hb2⟩)
    | (go_at_call_of 11 (Value.int IntKind.i64 2); refine (one0_any 2 a 0 0 ha (by decide) (by decide) (by decide) _).mono ?_; rintro e w3 ⟨rfl, hb3⟩)
    | (go_at_call 12; refine (started_any _).mono ?_; rintro e w4 ⟨rfl, rfl⟩))
  all_goals (go_ret; exact ⟨rfl, (hb1.trans (hb2.mono hb1.size)).trans (hb3.mono (Nat.le_trans hb1.size hb2.size))⟩)
end Go.Proofs.Ytgjdmenmegnacaa
