import Derived.Test.YthopkbkcdkjmeaaGJc
namespace Go.Proofs.Ythopkbkcdkjmeaa
open Go.RowKit Go.Shelf
set_option linter.unusedVariables false
set_option linter.unusedSimpArgs false

theorem gt0_ord {u : Nat} (hu : Fin u) : (FloatKind.f64.format.order u 0 == some Ordering.gt) = decide (0 < srung u) := by
  have ho := order_rung (x := u) (y := 0) (Nat.le_of_lt hu) (by decide)
  have hs : srung 0 = 0 := by decide
  rw [f64_fmtJ, ho, hs]
  by_cases h : 0 < srung u
  · rw [Int.compare_eq_gt.2 h, decide_eq_true h]; rfl
  · rw [decide_eq_false h]
    by_cases h2 : srung u = 0
    · rw [Int.compare_eq_eq.2 h2]; rfl
    · rw [Int.compare_eq_lt.2 (by omega)]; rfl
end Go.Proofs.Ythopkbkcdkjmeaa


namespace Go.Proofs.Ythopkbkcdkjmeaa
open Go.RowKit Go.Shelf
set_option linter.unusedVariables false
set_option linter.unusedSimpArgs false

end Go.Proofs.Ythopkbkcdkjmeaa


namespace Go.Proofs.Ythopkbkcdkjmeaa
open Go.RowKit Go.Shelf
set_option linter.unusedVariables false
set_option linter.unusedSimpArgs false

end Go.Proofs.Ythopkbkcdkjmeaa


namespace Go.Proofs.Ythopkbkcdkjmeaa
open Go.RowKit Go.Shelf
set_option linter.unusedVariables false
set_option linter.unusedSimpArgs false

end Go.Proofs.Ythopkbkcdkjmeaa


namespace Go.Proofs.Ythopkbkcdkjmeaa
open Go.RowKit Go.Shelf
set_option linter.unusedVariables false
set_option linter.unusedSimpArgs false

end Go.Proofs.Ythopkbkcdkjmeaa


namespace Go.Proofs.Ythopkbkcdkjmeaa
open Go.RowKit Go.Shelf
set_option linter.unusedVariables false
set_option linter.unusedSimpArgs false

end Go.Proofs.Ythopkbkcdkjmeaa

