import Derived.Test.YtjeghdmclmelfaaGreatJYa
namespace Go.Proofs.YtjeghdmclmelfaaGreat
open Go.RowKit Go.Shelf
set_option linter.unusedVariables false
set_option linter.unusedSimpArgs false
def byN (u k : Nat) : Nat := u / 2 ^ (8 * k) % 256
def byL (u k : Nat) : List Nat := (List.range k).map (byN u)
def byA (us : List Nat) : List Nat := us.flatMap fun u => byL u 8
def bJ (xs : List Nat) : List Value := xs.map fun (x : Nat) => Value.int .u8 (x : Int)
end Go.Proofs.YtjeghdmclmelfaaGreat
