import Derived.Test.YtfepcpkfbnpbjaaGreatJYa
namespace Go.Proofs.YtfepcpkfbnpbjaaGreat
open Go.RowKit Go.Shelf
set_option linter.unusedVariables false
set_option linter.unusedSimpArgs false

/-- The k-th byte of a word. -/
def byN (u k : Nat) : Nat := u / 2 ^ (8 * k) % 256
/-- The first k bytes of a word. -/
def byL (u k : Nat) : List Nat := (List.range k).map (byN u)
/-- The bytes of numbers. -/
def byA (us : List Nat) : List Nat := us.flatMap fun u => byL u 8
def bJ (xs : List Nat) : List Value := xs.map fun (x : Nat) => Value.int .u8 (x : Int)
end Go.Proofs.YtfepcpkfbnpbjaaGreat

