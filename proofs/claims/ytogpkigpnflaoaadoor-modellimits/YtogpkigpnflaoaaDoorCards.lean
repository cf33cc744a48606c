/-
  DERIVED. GIVEN WITH THE SEED: THE CARDS: each row of YtogpkigpnflaoaaDoorRows.lean that lists a variable, with what it lists TIED to the program's text (the seventh form; the later family's looks); each row that meets fmt, with fmt's text TOLD by the authors' own Lean function (tested against real Go, not proved from fmt's source: count such statements apart). THE CARD IS WHAT COUNTS. Prove the row's statement (the work); the ties are given (YtogpkigpnflaoaaDoorTie.lean); close each card by the builder's one call (the guide's Derived/Test/ToyasCard.lean, 'card_holds'). Laid BY PROGRAM, IN A SANDBOX (cutbox-door.mjs). By AI agents, Wed Nov 11 2026. No macro, syntax, notation, axiom, sorry.
-/
import Derived.Test.YtogpkigpnflaoaaDoorRows
import GoSem.ClaimSeven
namespace Go.Proofs.YtogpkigpnflaoaaDoor
namespace Rows

/-- THE TIED CARD OF 'ambitlaw6.ModelLimits'. -/
def modelLimitsCard : Claim7 := { stood := { row := modelLimitsRow, standIns := [], harness := (true, "6fe89106d38f3b392a66131e054fb689aa02d99b2a6802f79814473cc4ddfdd9"), looks := false }, kinds := [], alts := [], laidByText := true, laidKinds := [.data, .pinned], laidTests := true, laidLooks := .later }
def ModelLimitsCardSaid : Prop := Claim7.holds Tryd.pinned (.plain (OpenSpec.ofChange modelLimitsSpec)) modelLimitsCard

/-- THE SECOND FORM's CARD OF 'ambitlaw6.ModelLimits'. -/
def modelLimitsUptoCard : Claim7 := { stood := { row := modelLimitsUptoRow, standIns := [], harness := (true, "6fe89106d38f3b392a66131e054fb689aa02d99b2a6802f79814473cc4ddfdd9"), looks := false }, kinds := [], alts := [], laidByText := true, laidKinds := [.data, .pinned], laidTests := true, laidLooks := .later }
def ModelLimitsUptoCardSaid : Prop := Claim7.holds Tryd.pinned (.plain (OpenSpec.upto modelLimitsSpec)) modelLimitsUptoCard
end Rows
end Go.Proofs.YtogpkigpnflaoaaDoor
