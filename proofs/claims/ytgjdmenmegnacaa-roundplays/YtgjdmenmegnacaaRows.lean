/-
  No cell of these rows narrows 'for every input' (looked for: loops, veiled, ifaces, maps, wideKeys, modest, calm, conditions, laid).
  DERIVED. THE GIVEN ROWS OF THIS SEAT. 5 by the template 'for every input the law returns true; each argument reads behind the call as it read before'; 0 by the template 'total and deterministic' (their statements: YtgjdmenmegnacaaTotals.lean).
  GIVEN WITH THE SEED: the statements are not yours to turn. If you find one false, say at which input.
  Laid BY PROGRAM, IN A SANDBOX (cutbox-rows.mjs): the forced cells as the released guide's own fill.sh prints them over the translation efbca46067e18223… (all of the seat's roots in one cut). By AI agents, Wed Nov 11 2026. No macro, syntax, notation, axiom, sorry.
-/
import Derived.Test.YtgjdmenmegnacaaChecked
import GoSem.Claim
import GoSem.ClaimJoined
import GoSem.ClaimMapViews
import Derived.JoinedTies
import Derived.KernelRfl
namespace Go.Proofs.Ytgjdmenmegnacaa
/- THE CELL 'sum', in the pinned program and in every row, IS THE sha256 OF THE DUMP (.gsa) THAT YtgjdmenmegnacaaProg.lean LOADS. Nothing in Lean hashes anything: it is a label: what it is worth is what the hold of that sum in a sandbox is worth. -/
noncomputable def Try.pinned : Pinned := { name := "ytgjdmenmegnacaa", sum := "efbca46067e182234071ec341c1223dbf2c6d7a79cc24273989c7dbd0fcce327", checked := Try.checked }
namespace Rows
def none {H : Type} : Left H := { results := [], args := [] }

/-- 'ambitlaw2.RoundNext': WHATEVER THE INPUT: true; the input reads as it did. -/
def roundNextSpec : ChangeSpec := { name := "roundNext", fn := fun _ => fun
  | [d1, d2] => { results := [.lit (.bool true)], args := [d1, d2] }
  | _ => none }
def roundNextRow : OpenClaim := { program := "ytgjdmenmegnacaa", sum := "efbca46067e182234071ec341c1223dbf2c6d7a79cc24273989c7dbd0fcce327", func := "ambit/ambitlaw2.RoundNext", spec := "roundNext", inPlace := ["math.Float64bits", "math.Float64frombits"], apart := false }
def RoundNextSaid : Prop := roundNextRow.holds Try.pinned (OpenSpec.ofChange roundNextSpec)

/-- ITS FALSE NEIGHBOUR: 'it returns false'. Refute it at one input. -/
def roundNextWrong : ChangeSpec := { name := "roundNext", fn := fun _ => fun
  | [d1, d2] => { results := [.lit (.bool false)], args := [d1, d2] }
  | _ => none }
def RoundNextWrongFalsely : Prop := roundNextRow.holds Try.pinned (OpenSpec.ofChange roundNextWrong)

/-- 'ambitlaw2.RoundSums': WHATEVER THE INPUT: true; the input reads as it did. -/
def roundSumsSpec : ChangeSpec := { name := "roundSums", fn := fun _ => fun
  | [d1, d2, d3] => { results := [.lit (.bool true)], args := [d1, d2, d3] }
  | _ => none }
def roundSumsRow : OpenClaim := { program := "ytgjdmenmegnacaa", sum := "efbca46067e182234071ec341c1223dbf2c6d7a79cc24273989c7dbd0fcce327", func := "ambit/ambitlaw2.RoundSums", spec := "roundSums", inPlace := ["math.Float64bits", "math.Float64frombits"], apart := false }
def RoundSumsSaid : Prop := roundSumsRow.holds Try.pinned (OpenSpec.ofChange roundSumsSpec)

/-- ITS FALSE NEIGHBOUR: 'it returns false'. Refute it at one input. -/
def roundSumsWrong : ChangeSpec := { name := "roundSums", fn := fun _ => fun
  | [d1, d2, d3] => { results := [.lit (.bool false)], args := [d1, d2, d3] }
  | _ => none }
def RoundSumsWrongFalsely : Prop := roundSumsRow.holds Try.pinned (OpenSpec.ofChange roundSumsWrong)

/-- 'ambitlaw2.RoundProducts': WHATEVER THE INPUT: true; the input reads as it did. -/
def roundProductsSpec : ChangeSpec := { name := "roundProducts", fn := fun _ => fun
  | [d1, d2, d3] => { results := [.lit (.bool true)], args := [d1, d2, d3] }
  | _ => none }
def roundProductsRow : OpenClaim := { program := "ytgjdmenmegnacaa", sum := "efbca46067e182234071ec341c1223dbf2c6d7a79cc24273989c7dbd0fcce327", func := "ambit/ambitlaw2.RoundProducts", spec := "roundProducts", inPlace := ["math.Float64bits", "math.Float64frombits"], apart := false }
def RoundProductsSaid : Prop := roundProductsRow.holds Try.pinned (OpenSpec.ofChange roundProductsSpec)

/-- ITS FALSE NEIGHBOUR: 'it returns false'. Refute it at one input. -/
def roundProductsWrong : ChangeSpec := { name := "roundProducts", fn := fun _ => fun
  | [d1, d2, d3] => { results := [.lit (.bool false)], args := [d1, d2, d3] }
  | _ => none }
def RoundProductsWrongFalsely : Prop := roundProductsRow.holds Try.pinned (OpenSpec.ofChange roundProductsWrong)

/-- 'ambitlaw2.RoundQuotients': WHATEVER THE INPUT: true; the input reads as it did. -/
def roundQuotientsSpec : ChangeSpec := { name := "roundQuotients", fn := fun _ => fun
  | [d1, d2, d3] => { results := [.lit (.bool true)], args := [d1, d2, d3] }
  | _ => none }
def roundQuotientsRow : OpenClaim := { program := "ytgjdmenmegnacaa", sum := "efbca46067e182234071ec341c1223dbf2c6d7a79cc24273989c7dbd0fcce327", func := "ambit/ambitlaw2.RoundQuotients", spec := "roundQuotients", inPlace := ["math.Float64bits", "math.Float64frombits"], apart := false }
def RoundQuotientsSaid : Prop := roundQuotientsRow.holds Try.pinned (OpenSpec.ofChange roundQuotientsSpec)

/-- ITS FALSE NEIGHBOUR: 'it returns false'. Refute it at one input. -/
def roundQuotientsWrong : ChangeSpec := { name := "roundQuotients", fn := fun _ => fun
  | [d1, d2, d3] => { results := [.lit (.bool false)], args := [d1, d2, d3] }
  | _ => none }
def RoundQuotientsWrongFalsely : Prop := roundQuotientsRow.holds Try.pinned (OpenSpec.ofChange roundQuotientsWrong)

/-- 'ambitlaw2.RoundPlays': WHATEVER THE INPUT: true; the input reads as it did. -/
def roundPlaysSpec : ChangeSpec := { name := "roundPlays", fn := fun _ => fun
  | [d] => { results := [.lit (.bool true)], args := [d] }
  | _ => none }
def roundPlaysRow : OpenClaim := { program := "ytgjdmenmegnacaa", sum := "efbca46067e182234071ec341c1223dbf2c6d7a79cc24273989c7dbd0fcce327", func := "ambit/ambitlaw2.RoundPlays", spec := "roundPlays", inPlace := ["math.Float64bits", "math.Float64frombits"], apart := false }
def RoundPlaysSaid : Prop := roundPlaysRow.holds Try.pinned (OpenSpec.ofChange roundPlaysSpec)

/-- ITS FALSE NEIGHBOUR: 'it returns false'. Refute it at one input. -/
def roundPlaysWrong : ChangeSpec := { name := "roundPlays", fn := fun _ => fun
  | [d] => { results := [.lit (.bool false)], args := [d] }
  | _ => none }
def RoundPlaysWrongFalsely : Prop := roundPlaysRow.holds Try.pinned (OpenSpec.ofChange roundPlaysWrong)

/- THE SECOND FORM. 'bulk': how many values and letters a reading holds, each counted each time it is reached (what is shared counts as often as it is met; a slice's spare places count too). A statement '..UptoSaid' is the law's where the arguments, and the package variables that the reading takes, are together of bulk at most 1048576: NARROWER than '..Said'. Prove '..Said' where nothing that the law and all that it calls make is longer than what came in: it says more and counts as full. Else prove '..UptoSaid'. A law counts once. -/
mutual
def uptoBulk {H : Type} : DataW H → Nat
  | .lit (.string bytes) => bytes.length + 1
  | .lit _ => 1
  | .nil => 1
  | .ptr d => uptoBulk d + 1
  | .slice elems spare => uptoBulkAll elems + uptoBulkAll spare + 1
  | .agg parts => uptoBulkAll parts + 1
  | .iface _ d => uptoBulk d + 1
  | .map entries => uptoBulkEntries entries + 1
  | .held _ => 1
def uptoBulkAll {H : Type} : List (DataW H) → Nat
  | [] => 0
  | d :: r => uptoBulk d + uptoBulkAll r
def uptoBulkEntries {H : Type} : List (Lit × DataW H) → Nat
  | [] => 0
  | x :: r => uptoBulkEntry x + uptoBulkEntries r
def uptoBulkEntry {H : Type} : Lit × DataW H → Nat
  | (.string bytes, d) => bytes.length + uptoBulk d + 1
  | (_, d) => uptoBulk d + 1
 end
def uptoSmall : (H : Type) → List (DataW H) → Bool := fun _ ds => decide (uptoBulkAll ds ≤ 1048576)
def OpenSpec.upto (s : _root_.Go.ChangeSpec) : _root_.Go.OpenSpec := { _root_.Go.OpenSpec.ofChange s with cond := some uptoSmall }

/-- 'ambitlaw2.RoundNext', WHERE WHAT IT READS IS OF BULK AT MOST 1048576: true; the input reads as it did. -/
def roundNextUptoRow : OpenClaim := { program := "ytgjdmenmegnacaa", sum := "efbca46067e182234071ec341c1223dbf2c6d7a79cc24273989c7dbd0fcce327", func := "ambit/ambitlaw2.RoundNext", spec := "roundNext", inPlace := ["math.Float64bits", "math.Float64frombits"], apart := false, narrowed := true }
def RoundNextUptoSaid : Prop := roundNextUptoRow.holds Try.pinned (OpenSpec.upto roundNextSpec)

/-- 'ambitlaw2.RoundSums', WHERE WHAT IT READS IS OF BULK AT MOST 1048576: true; the input reads as it did. -/
def roundSumsUptoRow : OpenClaim := { program := "ytgjdmenmegnacaa", sum := "efbca46067e182234071ec341c1223dbf2c6d7a79cc24273989c7dbd0fcce327", func := "ambit/ambitlaw2.RoundSums", spec := "roundSums", inPlace := ["math.Float64bits", "math.Float64frombits"], apart := false, narrowed := true }
def RoundSumsUptoSaid : Prop := roundSumsUptoRow.holds Try.pinned (OpenSpec.upto roundSumsSpec)

/-- 'ambitlaw2.RoundProducts', WHERE WHAT IT READS IS OF BULK AT MOST 1048576: true; the input reads as it did. -/
def roundProductsUptoRow : OpenClaim := { program := "ytgjdmenmegnacaa", sum := "efbca46067e182234071ec341c1223dbf2c6d7a79cc24273989c7dbd0fcce327", func := "ambit/ambitlaw2.RoundProducts", spec := "roundProducts", inPlace := ["math.Float64bits", "math.Float64frombits"], apart := false, narrowed := true }
def RoundProductsUptoSaid : Prop := roundProductsUptoRow.holds Try.pinned (OpenSpec.upto roundProductsSpec)

/-- 'ambitlaw2.RoundQuotients', WHERE WHAT IT READS IS OF BULK AT MOST 1048576: true; the input reads as it did. -/
def roundQuotientsUptoRow : OpenClaim := { program := "ytgjdmenmegnacaa", sum := "efbca46067e182234071ec341c1223dbf2c6d7a79cc24273989c7dbd0fcce327", func := "ambit/ambitlaw2.RoundQuotients", spec := "roundQuotients", inPlace := ["math.Float64bits", "math.Float64frombits"], apart := false, narrowed := true }
def RoundQuotientsUptoSaid : Prop := roundQuotientsUptoRow.holds Try.pinned (OpenSpec.upto roundQuotientsSpec)

/-- 'ambitlaw2.RoundPlays', WHERE WHAT IT READS IS OF BULK AT MOST 1048576: true; the input reads as it did. -/
def roundPlaysUptoRow : OpenClaim := { program := "ytgjdmenmegnacaa", sum := "efbca46067e182234071ec341c1223dbf2c6d7a79cc24273989c7dbd0fcce327", func := "ambit/ambitlaw2.RoundPlays", spec := "roundPlays", inPlace := ["math.Float64bits", "math.Float64frombits"], apart := false, narrowed := true }
def RoundPlaysUptoSaid : Prop := roundPlaysUptoRow.holds Try.pinned (OpenSpec.upto roundPlaysSpec)

end Rows
end Go.Proofs.Ytgjdmenmegnacaa
