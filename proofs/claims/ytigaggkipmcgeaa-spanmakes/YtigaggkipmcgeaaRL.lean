import Derived.Test.YtigaggkipmcgeaaRK
namespace Go.Proofs.Ytigaggkipmcgeaa
open Go.RowKit
set_option linter.unusedVariables false

theorem ord_ne {x y : Nat} (hx : Fin x) (hy : Fin y) : (FloatKind.f64.format.order x y != some .eq) = !decide (srung x = srung y) := by
  rw [bne, f64_fmt, ord_eq (Nat.le_of_lt hx) (Nat.le_of_lt hy)]
theorem clip_neg (n : Int) : clip (-n) = -clip n := by unfold clip; omega
end Go.Proofs.Ytigaggkipmcgeaa
