import Derived.Test.YtepdhbhpiehigaaNM
namespace Go.Proofs.Ytepdhbhpiehigaa
open Go.RowKit
set_option linter.unusedVariables false

theorem roundScales_walk (d : Int) (d0 : -9223372036854775808 ≤ d) (d1 : d ≤ 9223372036854775807) (a : Nat) (ha : a < 18446744073709551616) (n : Int) (n0 : -9223372036854775808 ≤ n) (n1 : n ≤ 9223372036854775807) (w : World) :
    Calls Try.prog 7 #[.int .i64 d, .float .f64 a, .int .i64 n] w fun e w' => e = .returned (.bool true) ∧ Below w.heap.size w w' := by
  go_enter Try.func7, Try.ntmps7
  go_wp2_with (first
    | (go_at_call 11; refine (one5_any d a 0 n ha d0 d1 _).mono ?_; rintro e w1 ⟨rfl, hb1⟩)
    | (go_at_call 12; refine (started_any _).mono ?_; rintro e w2 ⟨rfl, rfl⟩))
  all_goals (go_ret; exact ⟨rfl, hb1⟩)
end Go.Proofs.Ytepdhbhpiehigaa
