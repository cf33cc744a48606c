import Derived.Test.YtfepcpkfbnpbjaaGreatJXd
import Derived.Test.YtfepcpkfbnpbjaaGreatMV
namespace Go.Proofs.YtfepcpkfbnpbjaaGreat
open Go.RowKit Go.Shelf
set_option linter.unusedVariables false
set_option linter.unusedSimpArgs false

end Go.Proofs.YtfepcpkfbnpbjaaGreat


namespace Go.Proofs.YtfepcpkfbnpbjaaGreat
open Go.RowKit Go.Shelf
set_option linter.unusedVariables false
set_option linter.unusedSimpArgs false

/-- What the document's Support tells. -/
structure SupD (u : ZD) (ds : List Nat) (r : Nat) (ok : Bool) : Prop where
  is : ((!u.bad && wholeB u) = true ∧ numN ds u.N = true ∧ ∀ a, a = 1074 → RndZ 1 (supV ds u.cs u.rs u.gs u.rn) (2 ^ a) (r, ok)) ∨ (((!u.bad && wholeB u) = false ∨ numN ds u.N = false) ∧ r = 0 ∧ ok = false)
end Go.Proofs.YtfepcpkfbnpbjaaGreat


namespace Go.Proofs.YtfepcpkfbnpbjaaGreat
open Go.RowKit Go.Shelf
set_option linter.unusedVariables false
set_option linter.unusedSimpArgs false
end Go.Proofs.YtfepcpkfbnpbjaaGreat

