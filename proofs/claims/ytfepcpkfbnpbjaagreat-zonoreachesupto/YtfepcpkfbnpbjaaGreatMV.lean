import Derived.Test.YtfepcpkfbnpbjaaGreatMU
import Derived.Test.YtfepcpkfbnpbjaaGreatMZ
namespace Go.Proofs.YtfepcpkfbnpbjaaGreat
open Go.RowKit
set_option linter.unusedVariables false

/-- Two numbers' variables, two blocks for what is told. -/
structure Six (w V : World) (R Q X Y S : Nat) (so : Obj) (nx ny : Bool) (ao bo : Option Addr) (len cap blen bcap : Nat) (ex ey : Int) (E : Nat) (z1 z2 : Int) : Prop where
  hx : V.heap[X]? = some (Obj.cells #[Value.bool nx, Value.slice ao len cap, Value.int IntKind.i64 ex] 50)
  hy : V.heap[Y]? = some (Obj.cells #[Value.bool ny, Value.slice bo blen bcap, Value.int IntKind.i64 ey] 50)
  hs : V.heap[S]? = some so
  hr : NumB V R
  hq : NumB V Q
  zx : NumZ V (.agg #[Value.bool nx, Value.slice ao len cap, Value.int IntKind.i64 ex]) E 1024 z1
  zy : NumZ V (.agg #[Value.bool ny, Value.slice bo blen bcap, Value.int IntKind.i64 ey]) E 1024 z2
  bel : Below w.heap.size w V
  base : w.heap.size ≤ R ∧ w.heap.size ≤ Q
  apart : R ≠ Q ∧ R ≠ X ∧ R ≠ Y ∧ Q ≠ X ∧ Q ≠ Y ∧ R ≠ S ∧ Q ≠ S
variable {w V : World} {R Q X Y S : Nat} {so : Obj} {nx ny : Bool} {ao bo : Option Addr} {len cap blen bcap : Nat} {ex ey : Int} {E : Nat} {z1 z2 : Int}
end Go.Proofs.YtfepcpkfbnpbjaaGreat


namespace Go.Proofs.YtfepcpkfbnpbjaaGreat
open Go.RowKit
set_option linter.unusedVariables false

/-- What the document's call gives. -/
def RefAns (w : World) (P : Nat × Nat × Bool → Prop) (e : Ending) (w' : World) : Prop := ∃ r : Nat × Nat × Bool, e = .returned (.agg #[.int .u64 (r.1 : Int), .int .u64 (r.2.1 : Int), .bool r.2.2]) ∧ P r ∧ Below w.heap.size w w'
end Go.Proofs.YtfepcpkfbnpbjaaGreat


namespace Go.Proofs.YtfepcpkfbnpbjaaGreat
open Go.RowKit
set_option linter.unusedVariables false

end Go.Proofs.YtfepcpkfbnpbjaaGreat


namespace Go.Proofs.YtfepcpkfbnpbjaaGreat
open Go.RowKit
set_option linter.unusedVariables false

end Go.Proofs.YtfepcpkfbnpbjaaGreat

