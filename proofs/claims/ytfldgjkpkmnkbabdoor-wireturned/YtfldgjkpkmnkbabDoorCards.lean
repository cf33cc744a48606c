/-
  DERIVED. GIVEN WITH THE SEED: THE CARDS: each row of YtfldgjkpkmnkbabDoorRows.lean that lists a variable, with what it lists TIED to the program's text (the seventh form; the later family's looks); each row that meets fmt, with fmt's text TOLD by the authors' own Lean function (tested against real Go, not proved from fmt's source: count such statements apart). THE CARD IS WHAT COUNTS. Prove the row's statement (the work); the ties are given (YtfldgjkpkmnkbabDoorTie.lean); close each card by the builder's one call (the guide's Derived/Test/ToyasCard.lean, 'card_holds'). Laid BY PROGRAM, IN A SANDBOX (cutbox-door.mjs). By AI agents, Wed Nov 11 2026. No macro, syntax, notation, axiom, sorry.
-/
import Derived.Test.YtfldgjkpkmnkbabDoorRows
import GoSem.ClaimSeven
namespace Go.Proofs.YtfldgjkpkmnkbabDoor
namespace Rows

/-- THE TIED CARD OF 'ambitlaw1.WireBack'. -/
def wireBackCard : Claim7 := { stood := { row := wireBackRow, standIns := [], harness := (true, "fe0dd97a2ce0c24ea270efc3ae84d79ed681fe703238716c0c8a224c3f469bed"), looks := false }, kinds := [], alts := [], laidByText := true, laidKinds := [.data, .pinned], laidTests := true, laidLooks := .later }
def WireBackCardSaid : Prop := Claim7.holds Tryd.pinned (.plain (OpenSpec.ofChange wireBackSpec)) wireBackCard

/-- THE TIED CARD OF 'ambitlaw1.WireUnlike'. -/
def wireUnlikeCard : Claim7 := { stood := { row := wireUnlikeRow, standIns := [], harness := (true, "fe0dd97a2ce0c24ea270efc3ae84d79ed681fe703238716c0c8a224c3f469bed"), looks := false }, kinds := [], alts := [], laidByText := true, laidKinds := [.data, .pinned], laidTests := true, laidLooks := .later }
def WireUnlikeCardSaid : Prop := Claim7.holds Tryd.pinned (.plain (OpenSpec.ofChange wireUnlikeSpec)) wireUnlikeCard

/-- THE TIED CARD OF 'ambitlaw1.WireTurned'. -/
def wireTurnedCard : Claim7 := { stood := { row := wireTurnedRow, standIns := [], harness := (true, "fe0dd97a2ce0c24ea270efc3ae84d79ed681fe703238716c0c8a224c3f469bed"), looks := false }, kinds := [], alts := [], laidByText := true, laidKinds := [.data, .pinned], laidTests := true, laidLooks := .later }
def WireTurnedCardSaid : Prop := Claim7.holds Tryd.pinned (.plain (OpenSpec.ofChange wireTurnedSpec)) wireTurnedCard

/-- THE TIED CARD OF 'ambitlaw1.WireJoined'. -/
def wireJoinedCard : Claim7 := { stood := { row := wireJoinedRow, standIns := [], harness := (true, "fe0dd97a2ce0c24ea270efc3ae84d79ed681fe703238716c0c8a224c3f469bed"), looks := false }, kinds := [], alts := [], laidByText := true, laidKinds := [.data, .pinned], laidTests := true, laidLooks := .later }
def WireJoinedCardSaid : Prop := Claim7.holds Tryd.pinned (.plain (OpenSpec.ofChange wireJoinedSpec)) wireJoinedCard

/-- THE TIED CARD OF 'ambitlaw1.WirePoints'. -/
def wirePointsCard : Claim7 := { stood := { row := wirePointsRow, standIns := [], harness := (true, "fe0dd97a2ce0c24ea270efc3ae84d79ed681fe703238716c0c8a224c3f469bed"), looks := false }, kinds := [], alts := [], laidByText := true, laidKinds := [.data, .pinned], laidTests := true, laidLooks := .later }
def WirePointsCardSaid : Prop := Claim7.holds Tryd.pinned (.plain (OpenSpec.ofChange wirePointsSpec)) wirePointsCard

/-- THE TIED CARD OF 'ambitlaw1.WireAgain'. -/
def wireAgainCard : Claim7 := { stood := { row := wireAgainRow, standIns := [], harness := (true, "fe0dd97a2ce0c24ea270efc3ae84d79ed681fe703238716c0c8a224c3f469bed"), looks := false }, kinds := [], alts := [], laidByText := true, laidKinds := [.data, .pinned], laidTests := true, laidLooks := .later }
def WireAgainCardSaid : Prop := Claim7.holds Tryd.pinned (.plain (OpenSpec.ofChange wireAgainSpec)) wireAgainCard

/-- THE SECOND FORM's CARD OF 'ambitlaw1.WireBack'. -/
def wireBackUptoCard : Claim7 := { stood := { row := wireBackUptoRow, standIns := [], harness := (true, "fe0dd97a2ce0c24ea270efc3ae84d79ed681fe703238716c0c8a224c3f469bed"), looks := false }, kinds := [], alts := [], laidByText := true, laidKinds := [.data, .pinned], laidTests := true, laidLooks := .later }
def WireBackUptoCardSaid : Prop := Claim7.holds Tryd.pinned (.plain (OpenSpec.upto wireBackSpec)) wireBackUptoCard

/-- THE SECOND FORM's CARD OF 'ambitlaw1.WireUnlike'. -/
def wireUnlikeUptoCard : Claim7 := { stood := { row := wireUnlikeUptoRow, standIns := [], harness := (true, "fe0dd97a2ce0c24ea270efc3ae84d79ed681fe703238716c0c8a224c3f469bed"), looks := false }, kinds := [], alts := [], laidByText := true, laidKinds := [.data, .pinned], laidTests := true, laidLooks := .later }
def WireUnlikeUptoCardSaid : Prop := Claim7.holds Tryd.pinned (.plain (OpenSpec.upto wireUnlikeSpec)) wireUnlikeUptoCard

/-- THE SECOND FORM's CARD OF 'ambitlaw1.WireTurned'. -/
def wireTurnedUptoCard : Claim7 := { stood := { row := wireTurnedUptoRow, standIns := [], harness := (true, "fe0dd97a2ce0c24ea270efc3ae84d79ed681fe703238716c0c8a224c3f469bed"), looks := false }, kinds := [], alts := [], laidByText := true, laidKinds := [.data, .pinned], laidTests := true, laidLooks := .later }
def WireTurnedUptoCardSaid : Prop := Claim7.holds Tryd.pinned (.plain (OpenSpec.upto wireTurnedSpec)) wireTurnedUptoCard

/-- THE SECOND FORM's CARD OF 'ambitlaw1.WireJoined'. -/
def wireJoinedUptoCard : Claim7 := { stood := { row := wireJoinedUptoRow, standIns := [], harness := (true, "fe0dd97a2ce0c24ea270efc3ae84d79ed681fe703238716c0c8a224c3f469bed"), looks := false }, kinds := [], alts := [], laidByText := true, laidKinds := [.data, .pinned], laidTests := true, laidLooks := .later }
def WireJoinedUptoCardSaid : Prop := Claim7.holds Tryd.pinned (.plain (OpenSpec.upto wireJoinedSpec)) wireJoinedUptoCard

/-- THE SECOND FORM's CARD OF 'ambitlaw1.WirePoints'. -/
def wirePointsUptoCard : Claim7 := { stood := { row := wirePointsUptoRow, standIns := [], harness := (true, "fe0dd97a2ce0c24ea270efc3ae84d79ed681fe703238716c0c8a224c3f469bed"), looks := false }, kinds := [], alts := [], laidByText := true, laidKinds := [.data, .pinned], laidTests := true, laidLooks := .later }
def WirePointsUptoCardSaid : Prop := Claim7.holds Tryd.pinned (.plain (OpenSpec.upto wirePointsSpec)) wirePointsUptoCard

/-- THE SECOND FORM's CARD OF 'ambitlaw1.WireAgain'. -/
def wireAgainUptoCard : Claim7 := { stood := { row := wireAgainUptoRow, standIns := [], harness := (true, "fe0dd97a2ce0c24ea270efc3ae84d79ed681fe703238716c0c8a224c3f469bed"), looks := false }, kinds := [], alts := [], laidByText := true, laidKinds := [.data, .pinned], laidTests := true, laidLooks := .later }
def WireAgainUptoCardSaid : Prop := Claim7.holds Tryd.pinned (.plain (OpenSpec.upto wireAgainSpec)) wireAgainUptoCard
end Rows
end Go.Proofs.YtfldgjkpkmnkbabDoor
