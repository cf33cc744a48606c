import Derived.Test.YtjeghdmclmelfaaGreatJZy
namespace Go.Proofs.YtjeghdmclmelfaaGreat
open Go.RowKit Go.Shelf
set_option linter.unusedVariables false
set_option linter.unusedSimpArgs false
def rgI (n : Nat) : List Int := (List.range n).map fun (k : Nat) => (k : Int)
def nwZ (cs : List Nat) (gs : List (List Nat)) : ZD := ⟨(cs.length : Int), none, cs.length, 0, none, gs.length, 0, none, gs.length, 0, none, cs.length, 0, false, cs, rgI gs.length, fun _ => (none, 0, 0), gs, List.replicate cs.length 0⟩
def nwA (cs : List Nat) (gs : List (List Nat)) : ZD := if checkB (nwZ cs gs) then nwZ (cs.map plainM) (gs.map (·.map plainM)) else badZD
end Go.Proofs.YtjeghdmclmelfaaGreat
