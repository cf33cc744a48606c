import Derived.Test.YtfepcpkfbnpbjaaGreatJZy
namespace Go.Proofs.YtfepcpkfbnpbjaaGreat
open Go.RowKit Go.Shelf
set_option linter.unusedVariables false
set_option linter.unusedSimpArgs false

/-- The Ids 0 to n - 1. -/
def rgI (n : Nat) : List Int := (List.range n).map fun (k : Nat) => (k : Int)
/-- What New is asked to make, as lists alone. -/
def nwZ (cs : List Nat) (gs : List (List Nat)) : ZD := ⟨(cs.length : Int), none, cs.length, 0, none, gs.length, 0, none, gs.length, 0, none, cs.length, 0, false, cs, rgI gs.length, fun _ => (none, 0, 0), gs, List.replicate cs.length 0⟩
/-- What New tells. -/
def nwA (cs : List Nat) (gs : List (List Nat)) : ZD := if checkB (nwZ cs gs) then nwZ (cs.map plainM) (gs.map (·.map plainM)) else badZD
end Go.Proofs.YtfepcpkfbnpbjaaGreat

