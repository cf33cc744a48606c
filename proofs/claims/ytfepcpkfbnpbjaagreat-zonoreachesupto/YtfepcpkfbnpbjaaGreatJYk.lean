import Derived.Test.YtfepcpkfbnpbjaaGreatJYc
import Derived.Laws.BytesString
namespace Go.Proofs.YtfepcpkfbnpbjaaGreat
open Go.RowKit Go.Shelf
set_option linter.unusedVariables false
set_option linter.unusedSimpArgs false

/-- Bytes as a string. -/
def strJ (xs : List Int) : ByteArray := ⟨(xs.map fun n => UInt8.ofNat n.toNat).toArray⟩
def inJ (xs : List Nat) : List Int := xs.map fun (x : Nat) => (x : Int)
end Go.Proofs.YtfepcpkfbnpbjaaGreat

