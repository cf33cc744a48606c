import Derived.Test.YtogdfdhdmfkmaaaGreatJYa
namespace Go.Proofs.YtogdfdhdmfkmaaaGreat
open Go.RowKit Go.Shelf
set_option linter.unusedVariables false
set_option linter.unusedSimpArgs false

def bJ (xs : List Nat) : List Value := xs.map fun (x : Nat) => Value.int .u8 (x : Int)
theorem bJ_len (xs : List Nat) : (bJ xs).length = xs.length := List.length_map _
end Go.Proofs.YtogdfdhdmfkmaaaGreat

