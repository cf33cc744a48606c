import Derived.Test.YtogdfdhdmfkmaaaGreatJZx
import Derived.Deep.Slices
import Derived.OpenShut
import Derived.Lib.SmallJoins
import Derived.ChangeSame
namespace Go.Proofs.YtogdfdhdmfkmaaaGreat
open Go.ChangeShapes Go.WideShapes Go.ChangeAt Go.RowKit Go.Joins Go.Deep
set_option linter.unusedVariables false

theorem intsB_open {P : Program} {H : Type} {enc : TypeId × Value → H} {W : World} {T E : TypeId} {fuel : Nat} {cs : List Value} {x : DataW H × List MemPlace}
    (hT : P.underlying T = some (.slice E)) (hE : P.underlying E = some (.int .i64)) (hc : P.cellsOf E = 1) (h : DataW.trod enc P W 0 (fun _ => true) true fuel T cs = some x) :
    ∃ ao len cap is, cs = [.slice ao len cap] ∧ RdIs W ao len cap is ∧ (ao = none → len = 0 ∧ cap = 0) ∧ len ≤ Rows.uptoBulk x.1 ∧ (∀ i ∈ is, -9223372036854775808 ≤ i ∧ i ≤ 9223372036854775807) := by
  rcases open_slice1 hT hc h with ⟨hcs, _⟩ | ⟨a, len, cap, m, n, V, D, Pl, hcs, _, hl, hm, hmm, hxx, hx⟩
  · exact ⟨none, 0, 0, [], hcs, ⟨rfl, Nat.zero_le _, .inl rfl⟩, fun _ => ⟨rfl, rfl⟩, Nat.zero_le _, fun i hi => (by cases hi)⟩
  · simp only [if_true] at hmm
    subst hmm
    have hv : ∀ i, i < m → ∃ u, V i = .int .i64 u := by
      intro i hi
      obtain ⟨u, hu, _, _⟩ := DataW.trod_int hE (hx i hi).2
      simp only [List.cons.injEq, and_true] at hu
      exact ⟨u, hu⟩
    have hbk : len ≤ Rows.uptoBulk x.1 := by
      rw [hxx]
      have := (bulkJ_slice ((List.range len).map D) ((List.range (m - len)).map fun j => D (len + j))).1
      rw [List.length_map, List.length_range] at this
      exact this
    have hbd : ∀ i ∈ (List.range len).map fun i => inOfJ (V i), -9223372036854775808 ≤ i ∧ i ≤ 9223372036854775807 := by
      intro i hi
      obtain ⟨k, hk, rfl⟩ := List.mem_map.1 hi
      have hk' : k < len := List.mem_range.1 hk
      obtain ⟨u, hu, _, hwf⟩ := DataW.trod_int hE (hx k (by omega)).2
      simp only [List.cons.injEq, and_true] at hu
      rw [hu]
      have h2 : (decide ((-9223372036854775808 : Int) ≤ u) && decide (u ≤ 9223372036854775807)) = true := hwf
      simpa [inOfJ] using h2
    refine ⟨some a, len, m, (List.range len).map fun i => inOfJ (V i), hcs, ⟨by simp, Nat.le_trans hl hm, ?_⟩, (fun h => by cases h), hbk, hbd⟩
    by_cases h0 : len = 0
    · exact .inl h0
    · right
      obtain ⟨b, off, spot⟩ := a
      have hspot : spot = none := by simpa [Addr.add] using World.cell?_spot (hx 0 (by omega)).1
      subst hspot
      refine ⟨b, off, rfl, fun j hj => ?_⟩
      have g := (hx j (by omega)).1
      obtain ⟨y, hy⟩ := hv j (by omega)
      rw [Addr.add_lit, hy] at g
      rw [g]
      simp [hj, hy, inOfJ]
end Go.Proofs.YtogdfdhdmfkmaaaGreat
