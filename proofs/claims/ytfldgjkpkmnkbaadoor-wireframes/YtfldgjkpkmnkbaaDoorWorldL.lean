import Derived.Test.YtfldgjkpkmnkbaaDoorWorldU
import Derived.Test.YtfldgjkpkmnkbaaDoorSum
import Derived.Deep.Matrix
namespace Go.Proofs.YtfldgjkpkmnkbaaDoor
open Go.ChangeShapes Go.WideShapes Go.ChangeAt Go.RowKit
set_option linter.unusedVariables false

/-- A slice of slices of bytes that came in. -/
theorem rdL_of_trod {P : Program} {H : Type} {enc : TypeId × Value → H} {W : World} {T E Q : TypeId} {a : Option Addr} {len cap : Nat} {d : DataW H} {p : List MemPlace}
    (hT : P.underlying T = some (.slice E)) (hE : P.underlying E = some (.slice Q)) (hQ : P.underlying Q = some (.int .u8)) (hc : P.cellsOf E = 1) (hq : P.cellsOf Q = 1) (h : DataW.Trod enc P W 0 (fun _ => true) true T (.slice a len cap) d p) :
    ∃ pss, RdL W a len pss ∧ len ≤ cap := by
  obtain ⟨fuel, hf⟩ := h
  rcases Deep.open_int_rows hT hE hQ hc hq hf with ⟨hcs, _⟩ | ⟨x, l, c, A, L, C, Z, hcs, _, hl, hm, _, hrow⟩
  · simp [Value.cells] at hcs
    obtain ⟨rfl, rfl, rfl⟩ := hcs
    exact ⟨[], ⟨rfl, by decide, .inl rfl⟩, Nat.le_refl _⟩
  · simp [Value.cells] at hcs
    obtain ⟨rfl, rfl, rfl⟩ := hcs
    refine ⟨(List.range len).map fun r => (Z r).take (L r), ⟨by simp, by simp only [maxLen] at hm; omega, ?_⟩, hl⟩
    by_cases h0 : len = 0
    · exact .inl h0
    · right
      obtain ⟨b, off, spot⟩ := x
      have hspot : spot = none := by simpa [Addr.add] using World.cell?_spot (hrow 0 (by omega)).1
      subst hspot
      refine ⟨b, off, rfl, fun j hj => ?_⟩
      obtain ⟨g1, g2, g3, g4, g5, g6, g7⟩ := hrow j (by omega)
      rw [Addr.add_lit] at g1
      refine ⟨A j, L j, C j, g1, ?_⟩
      have e : ((List.range len).map fun r => (Z r).take (L r))[j]?.getD [] = (Z j).take (L j) := by simp [hj]
      rw [e]
      exact rd_of_row g2 g3 g4 g5 g6 (fun a' ha c hc => (g7 a' ha).2 c hc)
end Go.Proofs.YtfldgjkpkmnkbaaDoor
