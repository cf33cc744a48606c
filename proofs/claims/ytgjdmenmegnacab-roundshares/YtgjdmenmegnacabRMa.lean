import Derived.Test.YtgjdmenmegnacabRM
namespace Go.Proofs.Ytgjdmenmegnacab
open Go.RowKit
set_option linter.unusedVariables false

theorem asked1 {d : Int} {a b : Nat} {p : Nat × Bool} (c : ∀ w, Calls Try.prog 27 #[.int .i64 d, .float .f64 a, .float .f64 b] w fun e w' => e = .returned (.tuple #[.float .f64 p.1, .bool p.2]) ∧ w' = w) (w : World) :
    Calls Try.prog 10 #[.int .i64 1, .int .i64 d, .float .f64 a, .float .f64 b] w fun e w' => e = .returned (.tuple #[.float .f64 p.1, .bool p.2]) ∧ w' = w := by
  go_enter Try.func10, Try.ntmps10
  go_wp2_with (go_at_call 27; refine (c _).mono ?_; rintro e w' ⟨rfl, rfl⟩)
  go_ret2
  exact ⟨rfl, rfl⟩
theorem asked2 {d : Int} {a b : Nat} {p : Nat × Bool} (c : ∀ w, Calls Try.prog 34 #[.int .i64 d, .float .f64 a, .float .f64 b] w fun e w' => e = .returned (.tuple #[.float .f64 p.1, .bool p.2]) ∧ w' = w) (w : World) :
    Calls Try.prog 10 #[.int .i64 2, .int .i64 d, .float .f64 a, .float .f64 b] w fun e w' => e = .returned (.tuple #[.float .f64 p.1, .bool p.2]) ∧ w' = w := by
  go_enter Try.func10, Try.ntmps10
  go_wp2_with (go_at_call 34; refine (c _).mono ?_; rintro e w' ⟨rfl, rfl⟩)
  go_ret2
  exact ⟨rfl, rfl⟩
theorem asked3 {d : Int} {a b : Nat} {p : Nat × Bool} (c : ∀ w, Calls Try.prog 28 #[.int .i64 d, .float .f64 a, .float .f64 b] w fun e w' => e = .returned (.tuple #[.float .f64 p.1, .bool p.2]) ∧ w' = w) (w : World) :
    Calls Try.prog 10 #[.int .i64 3, .int .i64 d, .float .f64 a, .float .f64 b] w fun e w' => e = .returned (.tuple #[.float .f64 p.1, .bool p.2]) ∧ w' = w := by
  go_enter Try.func10, Try.ntmps10
  go_wp2_with (go_at_call 28; refine (c _).mono ?_; rintro e w' ⟨rfl, rfl⟩)
  go_ret2
  exact ⟨rfl, rfl⟩
end Go.Proofs.Ytgjdmenmegnacab
