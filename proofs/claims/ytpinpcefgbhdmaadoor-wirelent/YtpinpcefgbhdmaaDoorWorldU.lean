import Derived.Test.YtpinpcefgbhdmaaDoorCards
import Derived.Test.YtpinpcefgbhdmaaDoorTie
import Derived.WalkKit
import Derived.ProofKit
import Derived.OpenShut
import Derived.ShutString
import Derived.ChangeOld
import Derived.Below
import Derived.Deep.DeepHandedRow
import Derived.Lib.LaidTab
import Derived.Test.YtpinpcefgbhdmaaDoorBase
namespace Go.Proofs.YtpinpcefgbhdmaaDoor
open Go.ChangeShapes Go.WideShapes Go.ChangeAt Go.RowKit
open Go.ChangeMaps (open_string shut_string)
set_option linter.unusedVariables false

theorem own : ownKnob Tryd.prog.godebug = none := by kernel_rfl
theorem laidOut : laidOutB Tryd.prog = true := by kernel_rfl

/-- The numbers of a flat datum, as cells. -/
def cellOf : DataW Unit → Value
  | .lit (.int k n) => .int k n
  | _ => undef
def cellsOne : DataW Unit → List Value
  | .agg ds => ds.map cellOf
  | d => [cellOf d]
def cellsTwo : DataW Unit → List Value
  | .agg ds => ds.flatMap cellsOne
  | d => [cellOf d]

/-- A slice of bytes that came in. -/
theorem rd_of_trod {P : Program} {H : Type} {enc : TypeId × Value → H} {W : World} {T E : TypeId} {a : Option Addr} {len cap : Nat} {d : DataW H} {p : List MemPlace}
    (hT : P.underlying T = some (.slice E)) (hE : P.underlying E = some (.int .u8)) (hc : P.cellsOf E = 1) (h : DataW.Trod enc P W 0 (fun _ => true) true T (.slice a len cap) d p) : ∃ zs, Rd W a len cap zs := by
  obtain ⟨fuel, hf⟩ := h
  rcases open_ints hT hE hc hf with ⟨hcs, _⟩ | ⟨x, l, c, zs, hcs, _, hl, hm, hz, _, hcell, hwz⟩
  · simp [Value.cells] at hcs
    obtain ⟨rfl, rfl, rfl⟩ := hcs
    exact ⟨[], rfl, Nat.le_refl _, by decide, Byt.nil, fun _ => rfl, .inl rfl⟩
  · simp [Value.cells] at hcs
    obtain ⟨rfl, rfl, rfl⟩ := hcs
    simp only [if_true] at hz
    refine ⟨zs.take len, by rw [List.length_take]; omega, hl, hm, fun y hy => bounds_u8 (hwz y (List.mem_of_mem_take hy)), (fun h => by cases h), ?_⟩
    by_cases h0 : len = 0
    · exact .inl h0
    · right
      obtain ⟨b, off, spot⟩ := x
      have hspot : spot = none := by simpa [Addr.add] using World.cell?_spot (hcell 0 (by omega))
      subst hspot
      refine ⟨b, off, rfl, fun j hj => ?_⟩
      have := hcell j (by omega)
      rw [Addr.add_lit] at this
      rw [this, List.getElem?_take, if_pos hj]
      simp

/-- A byte row out of the kit's view of it. -/
theorem rd_of_row {W : World} {a : Option Addr} {L C : Nat} {Z : List Int} (h1 : L ≤ C) (h2 : C ≤ maxLen) (h3 : Z.length = C) (h4 : ∀ n ∈ Z, (Lit.int .u8 n).wf = true) (h5 : a = none → C = 0)
    (h6 : ∀ a', a = some a' → ∀ c, c < C → W.cell? (a'.add c) = some (.int .u8 (Z.getD c 0))) : Rd W a L C (Z.take L) := by
  refine ⟨by rw [List.length_take]; omega, h1, h2, fun y hy => bounds_u8 (h4 y (List.mem_of_mem_take hy)), h5, ?_⟩
  by_cases h0 : L = 0
  · exact .inl h0
  · right
    cases a with
    | none => have := h5 rfl; omega
    | some x =>
      obtain ⟨b, off, spot⟩ := x
      have hspot : spot = none := by simpa [Addr.add] using World.cell?_spot (h6 _ rfl 0 (by omega))
      subst hspot
      refine ⟨b, off, rfl, fun j hj => ?_⟩
      have := h6 _ rfl j (by omega)
      rw [Addr.add_lit] at this
      rw [this, List.getElem?_take, if_pos hj]
      simp

def withCells (cs : List Value) : Obj → Obj
  | .cells _ t frozen => .cells cs.toArray t frozen
  | o => o

end Go.Proofs.YtpinpcefgbhdmaaDoor
