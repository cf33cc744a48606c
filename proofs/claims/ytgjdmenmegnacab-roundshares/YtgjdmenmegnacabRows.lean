/-
  No cell of these rows narrows 'for every input' (looked for: loops, veiled, ifaces, maps, wideKeys, modest, calm, conditions, laid).
  DERIVED. THE GIVEN ROWS OF THIS SEAT. 6 by the template 'for every input the law returns true; each argument reads behind the call as it read before'; 0 by the template 'total and deterministic' (their statements: YtgjdmenmegnacabTotals.lean).
  GIVEN WITH THE SEED: the statements are not yours to turn. If you find one false, say at which input.
  Laid BY PROGRAM, IN A SANDBOX (cutbox-rows.mjs): the forced cells as the released guide's own fill.sh prints them over the translation f8eec6f26c027d20… (all of the seat's roots in one cut). By AI agents, Wed Nov 11 2026. No macro, syntax, notation, axiom, sorry.
-/
import Derived.Test.YtgjdmenmegnacabChecked
import GoSem.Claim
import GoSem.ClaimJoined
import GoSem.ClaimMapViews
import Derived.JoinedTies
import Derived.KernelRfl
namespace Go.Proofs.Ytgjdmenmegnacab
/- THE CELL 'sum', in the pinned program and in every row, IS THE sha256 OF THE DUMP (.gsa) THAT YtgjdmenmegnacabProg.lean LOADS. Nothing in Lean hashes anything: it is a label: what it is worth is what the hold of that sum in a sandbox is worth. -/
noncomputable def Try.pinned : Pinned := { name := "ytgjdmenmegnacab", sum := "f8eec6f26c027d205fde91de7b027932b10519b6f1c81807f7b57acfd6fdcbb3", checked := Try.checked }
namespace Rows
def none {H : Type} : Left H := { results := [], args := [] }

/-- 'ambitlaw2.RoundHolds': WHATEVER THE INPUT: true; the input reads as it did. -/
def roundHoldsSpec : ChangeSpec := { name := "roundHolds", fn := fun _ => fun
  | [d1, d2, d3] => { results := [.lit (.bool true)], args := [d1, d2, d3] }
  | _ => none }
def roundHoldsRow : OpenClaim := { program := "ytgjdmenmegnacab", sum := "f8eec6f26c027d205fde91de7b027932b10519b6f1c81807f7b57acfd6fdcbb3", func := "ambit/ambitlaw2.RoundHolds", spec := "roundHolds", inPlace := ["math.Float64bits", "math.Float64frombits"], apart := false }
def RoundHoldsSaid : Prop := roundHoldsRow.holds Try.pinned (OpenSpec.ofChange roundHoldsSpec)

/-- ITS FALSE NEIGHBOUR: 'it returns false'. Refute it at one input. -/
def roundHoldsWrong : ChangeSpec := { name := "roundHolds", fn := fun _ => fun
  | [d1, d2, d3] => { results := [.lit (.bool false)], args := [d1, d2, d3] }
  | _ => none }
def RoundHoldsWrongFalsely : Prop := roundHoldsRow.holds Try.pinned (OpenSpec.ofChange roundHoldsWrong)

/-- 'ambitlaw2.RoundBound': WHATEVER THE INPUT: true; the input reads as it did. -/
def roundBoundSpec : ChangeSpec := { name := "roundBound", fn := fun _ => fun
  | [d1, d2, d3] => { results := [.lit (.bool true)], args := [d1, d2, d3] }
  | _ => none }
def roundBoundRow : OpenClaim := { program := "ytgjdmenmegnacab", sum := "f8eec6f26c027d205fde91de7b027932b10519b6f1c81807f7b57acfd6fdcbb3", func := "ambit/ambitlaw2.RoundBound", spec := "roundBound", inPlace := ["math.Float64bits", "math.Float64frombits"], apart := false }
def RoundBoundSaid : Prop := roundBoundRow.holds Try.pinned (OpenSpec.ofChange roundBoundSpec)

/-- ITS FALSE NEIGHBOUR: 'it returns false'. Refute it at one input. -/
def roundBoundWrong : ChangeSpec := { name := "roundBound", fn := fun _ => fun
  | [d1, d2, d3] => { results := [.lit (.bool false)], args := [d1, d2, d3] }
  | _ => none }
def RoundBoundWrongFalsely : Prop := roundBoundRow.holds Try.pinned (OpenSpec.ofChange roundBoundWrong)

/-- 'ambitlaw2.RoundShares': WHATEVER THE INPUT: true; the input reads as it did. -/
def roundSharesSpec : ChangeSpec := { name := "roundShares", fn := fun _ => fun
  | [d1, d2] => { results := [.lit (.bool true)], args := [d1, d2] }
  | _ => none }
def roundSharesRow : OpenClaim := { program := "ytgjdmenmegnacab", sum := "f8eec6f26c027d205fde91de7b027932b10519b6f1c81807f7b57acfd6fdcbb3", func := "ambit/ambitlaw2.RoundShares", spec := "roundShares", inPlace := ["math.Float64bits", "math.Float64frombits"], apart := false }
def RoundSharesSaid : Prop := roundSharesRow.holds Try.pinned (OpenSpec.ofChange roundSharesSpec)

/-- ITS FALSE NEIGHBOUR: 'it returns false'. Refute it at one input. -/
def roundSharesWrong : ChangeSpec := { name := "roundShares", fn := fun _ => fun
  | [d1, d2] => { results := [.lit (.bool false)], args := [d1, d2] }
  | _ => none }
def RoundSharesWrongFalsely : Prop := roundSharesRow.holds Try.pinned (OpenSpec.ofChange roundSharesWrong)

/-- 'ambitlaw2.RoundRises': WHATEVER THE INPUT: true; the input reads as it did. -/
def roundRisesSpec : ChangeSpec := { name := "roundRises", fn := fun _ => fun
  | [d1, d2, d3, d4, d5, d6, d7] => { results := [.lit (.bool true)], args := [d1, d2, d3, d4, d5, d6, d7] }
  | _ => none }
def roundRisesRow : OpenClaim := { program := "ytgjdmenmegnacab", sum := "f8eec6f26c027d205fde91de7b027932b10519b6f1c81807f7b57acfd6fdcbb3", func := "ambit/ambitlaw2.RoundRises", spec := "roundRises", inPlace := ["math.Float64bits", "math.Float64frombits"], apart := false }
def RoundRisesSaid : Prop := roundRisesRow.holds Try.pinned (OpenSpec.ofChange roundRisesSpec)

/-- ITS FALSE NEIGHBOUR: 'it returns false'. Refute it at one input. -/
def roundRisesWrong : ChangeSpec := { name := "roundRises", fn := fun _ => fun
  | [d1, d2, d3, d4, d5, d6, d7] => { results := [.lit (.bool false)], args := [d1, d2, d3, d4, d5, d6, d7] }
  | _ => none }
def RoundRisesWrongFalsely : Prop := roundRisesRow.holds Try.pinned (OpenSpec.ofChange roundRisesWrong)

/-- 'ambitlaw2.RoundParts': WHATEVER THE INPUT: true; the input reads as it did. -/
def roundPartsSpec : ChangeSpec := { name := "roundParts", fn := fun _ => fun
  | [d1, d2] => { results := [.lit (.bool true)], args := [d1, d2] }
  | _ => none }
def roundPartsRow : OpenClaim := { program := "ytgjdmenmegnacab", sum := "f8eec6f26c027d205fde91de7b027932b10519b6f1c81807f7b57acfd6fdcbb3", func := "ambit/ambitlaw2.RoundParts", spec := "roundParts", inPlace := ["math.Float64bits", "math.Float64frombits"], apart := false }
def RoundPartsSaid : Prop := roundPartsRow.holds Try.pinned (OpenSpec.ofChange roundPartsSpec)

/-- ITS FALSE NEIGHBOUR: 'it returns false'. Refute it at one input. -/
def roundPartsWrong : ChangeSpec := { name := "roundParts", fn := fun _ => fun
  | [d1, d2] => { results := [.lit (.bool false)], args := [d1, d2] }
  | _ => none }
def RoundPartsWrongFalsely : Prop := roundPartsRow.holds Try.pinned (OpenSpec.ofChange roundPartsWrong)

/-- 'ambitlaw3.AccPlays': WHATEVER THE INPUT: true; the input reads as it did. -/
def accPlaysSpec : ChangeSpec := { name := "accPlays", fn := fun _ => fun
  | [d] => { results := [.lit (.bool true)], args := [d] }
  | _ => none }
def accPlaysRow : OpenClaim := { program := "ytgjdmenmegnacab", sum := "f8eec6f26c027d205fde91de7b027932b10519b6f1c81807f7b57acfd6fdcbb3", func := "ambit/ambitlaw3.AccPlays", spec := "accPlays", inPlace := ["math.Float64bits", "math/bits.Add64", "math.Float64frombits", "math/bits.Sub64"], named := ["math/bits.divideError", "math/bits.overflowError"], apart := false }
def AccPlaysSaid : Prop := accPlaysRow.holds Try.pinned (OpenSpec.ofChange accPlaysSpec)

/-- ITS FALSE NEIGHBOUR: 'it returns false'. Refute it at one input. -/
def accPlaysWrong : ChangeSpec := { name := "accPlays", fn := fun _ => fun
  | [d] => { results := [.lit (.bool false)], args := [d] }
  | _ => none }
def AccPlaysWrongFalsely : Prop := accPlaysRow.holds Try.pinned (OpenSpec.ofChange accPlaysWrong)

/- THE SECOND FORM. 'bulk': how many values and letters a reading holds, each counted each time it is reached (what is shared counts as often as it is met; a slice's spare places count too). A statement '..UptoSaid' is the law's where the arguments, and the package variables that the reading takes, are together of bulk at most 1048576: NARROWER than '..Said'. Prove '..Said' where nothing that the law and all that it calls make is longer than what came in: it says more and counts as full. Else prove '..UptoSaid'. A law counts once. -/
mutual
def uptoBulk {H : Type} : DataW H → Nat
  | .lit (.string bytes) => bytes.length + 1
  | .lit _ => 1
  | .nil => 1
  | .ptr d => uptoBulk d + 1
  | .slice elems spare => uptoBulkAll elems + uptoBulkAll spare + 1
  | .agg parts => uptoBulkAll parts + 1
  | .iface _ d => uptoBulk d + 1
  | .map entries => uptoBulkEntries entries + 1
  | .held _ => 1
def uptoBulkAll {H : Type} : List (DataW H) → Nat
  | [] => 0
  | d :: r => uptoBulk d + uptoBulkAll r
def uptoBulkEntries {H : Type} : List (Lit × DataW H) → Nat
  | [] => 0
  | x :: r => uptoBulkEntry x + uptoBulkEntries r
def uptoBulkEntry {H : Type} : Lit × DataW H → Nat
  | (.string bytes, d) => bytes.length + uptoBulk d + 1
  | (_, d) => uptoBulk d + 1
 end
def uptoSmall : (H : Type) → List (DataW H) → Bool := fun _ ds => decide (uptoBulkAll ds ≤ 1048576)
def OpenSpec.upto (s : _root_.Go.ChangeSpec) : _root_.Go.OpenSpec := { _root_.Go.OpenSpec.ofChange s with cond := some uptoSmall }

/-- 'ambitlaw2.RoundHolds', WHERE WHAT IT READS IS OF BULK AT MOST 1048576: true; the input reads as it did. -/
def roundHoldsUptoRow : OpenClaim := { program := "ytgjdmenmegnacab", sum := "f8eec6f26c027d205fde91de7b027932b10519b6f1c81807f7b57acfd6fdcbb3", func := "ambit/ambitlaw2.RoundHolds", spec := "roundHolds", inPlace := ["math.Float64bits", "math.Float64frombits"], apart := false, narrowed := true }
def RoundHoldsUptoSaid : Prop := roundHoldsUptoRow.holds Try.pinned (OpenSpec.upto roundHoldsSpec)

/-- 'ambitlaw2.RoundBound', WHERE WHAT IT READS IS OF BULK AT MOST 1048576: true; the input reads as it did. -/
def roundBoundUptoRow : OpenClaim := { program := "ytgjdmenmegnacab", sum := "f8eec6f26c027d205fde91de7b027932b10519b6f1c81807f7b57acfd6fdcbb3", func := "ambit/ambitlaw2.RoundBound", spec := "roundBound", inPlace := ["math.Float64bits", "math.Float64frombits"], apart := false, narrowed := true }
def RoundBoundUptoSaid : Prop := roundBoundUptoRow.holds Try.pinned (OpenSpec.upto roundBoundSpec)

/-- 'ambitlaw2.RoundShares', WHERE WHAT IT READS IS OF BULK AT MOST 1048576: true; the input reads as it did. -/
def roundSharesUptoRow : OpenClaim := { program := "ytgjdmenmegnacab", sum := "f8eec6f26c027d205fde91de7b027932b10519b6f1c81807f7b57acfd6fdcbb3", func := "ambit/ambitlaw2.RoundShares", spec := "roundShares", inPlace := ["math.Float64bits", "math.Float64frombits"], apart := false, narrowed := true }
def RoundSharesUptoSaid : Prop := roundSharesUptoRow.holds Try.pinned (OpenSpec.upto roundSharesSpec)

/-- 'ambitlaw2.RoundRises', WHERE WHAT IT READS IS OF BULK AT MOST 1048576: true; the input reads as it did. -/
def roundRisesUptoRow : OpenClaim := { program := "ytgjdmenmegnacab", sum := "f8eec6f26c027d205fde91de7b027932b10519b6f1c81807f7b57acfd6fdcbb3", func := "ambit/ambitlaw2.RoundRises", spec := "roundRises", inPlace := ["math.Float64bits", "math.Float64frombits"], apart := false, narrowed := true }
def RoundRisesUptoSaid : Prop := roundRisesUptoRow.holds Try.pinned (OpenSpec.upto roundRisesSpec)

/-- 'ambitlaw2.RoundParts', WHERE WHAT IT READS IS OF BULK AT MOST 1048576: true; the input reads as it did. -/
def roundPartsUptoRow : OpenClaim := { program := "ytgjdmenmegnacab", sum := "f8eec6f26c027d205fde91de7b027932b10519b6f1c81807f7b57acfd6fdcbb3", func := "ambit/ambitlaw2.RoundParts", spec := "roundParts", inPlace := ["math.Float64bits", "math.Float64frombits"], apart := false, narrowed := true }
def RoundPartsUptoSaid : Prop := roundPartsUptoRow.holds Try.pinned (OpenSpec.upto roundPartsSpec)

/-- 'ambitlaw3.AccPlays', WHERE WHAT IT READS IS OF BULK AT MOST 1048576: true; the input reads as it did. -/
def accPlaysUptoRow : OpenClaim := { program := "ytgjdmenmegnacab", sum := "f8eec6f26c027d205fde91de7b027932b10519b6f1c81807f7b57acfd6fdcbb3", func := "ambit/ambitlaw3.AccPlays", spec := "accPlays", inPlace := ["math.Float64bits", "math/bits.Add64", "math.Float64frombits", "math/bits.Sub64"], named := ["math/bits.divideError", "math/bits.overflowError"], apart := false, narrowed := true }
def AccPlaysUptoSaid : Prop := accPlaysUptoRow.holds Try.pinned (OpenSpec.upto accPlaysSpec)

end Rows
end Go.Proofs.Ytgjdmenmegnacab
