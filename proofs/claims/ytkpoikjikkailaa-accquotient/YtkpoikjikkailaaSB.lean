import Derived.Test.YtkpoikjikkailaaMZ
namespace Go.Proofs.Ytkpoikjikkailaa
open Go.RowKit
set_option linter.unusedVariables false

/-- What the reference tells of a call. -/
def RefRes (ok : Prop) (d z : Int) (D : Nat) (w : World) (e' : Ending) (w' : World) : Prop := ∃ (p : Nat) (b : Bool), e' = .returned (.tuple #[.int .u64 (p : Int), .bool b]) ∧ (ok → RndZ d z D (p, b)) ∧ (¬ ok → (p, b) = (0, false)) ∧ Below w.heap.size w w'
end Go.Proofs.Ytkpoikjikkailaa
