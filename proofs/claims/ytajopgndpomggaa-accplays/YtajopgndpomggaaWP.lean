import Derived.Test.YtajopgndpomggaaWN
import Derived.Test.YtajopgndpomggaaFlat
import Derived.OpenShut
namespace Go.Proofs.Ytajopgndpomggaa
open Go.ChangeShapes Go.WideShapes
set_option linter.unusedVariables false

theorem u64_bounds {n : Int} (h : (Lit.int .u64 n).wf = true) : 0 ≤ n ∧ n < 18446744073709551616 := by
  have h2 : (decide ((0 : Int) ≤ n) && decide (n ≤ 18446744073709551615)) = true := h
  simp at h2
  omega
def numOfV : Value → Nat
  | .int _ n => n.toNat
  | _ => 0
/-- A slice of uint64 that came in. -/
theorem rdU_of_trod {P : Program} {H : Type} {enc : TypeId × Value → H} {W : World} {T E : TypeId} {a : Option Addr} {len cap : Nat} {d : DataW H} {p : List MemPlace}
    (hT : P.underlying T = some (.slice E)) (hE : P.underlying E = some (.int .u64)) (ce : P.cellsOf E = 1) (h : DataW.Trod enc P W 0 (fun _ => true) true T (.slice a len cap) d p) : ∃ xs, RdU W a len cap xs := by
  obtain ⟨fuel, hf⟩ := h
  rcases Deep.open_slice1 hT ce hf with ⟨hcs, _⟩ | ⟨x, l, c, m, n, V, D, Pl, hcs, hb, hl, hm, hmm, _, hcell⟩
  · simp [Value.cells] at hcs
    obtain ⟨rfl, rfl, rfl⟩ := hcs
    exact ⟨[], rfl, Nat.le_refl _, by decide, fun _ h => (by cases h), fun _ => rfl, .inl rfl⟩
  · simp [Value.cells] at hcs
    obtain ⟨rfl, rfl, rfl⟩ := hcs
    simp only [if_true] at hmm
    subst hmm
    have key : ∀ j, j < m → W.cell? (x.add j) = some (.int .u64 ((numOfV (V j) : Nat) : Int)) ∧ numOfV (V j) < 18446744073709551616 := by
      intro j hj
      obtain ⟨h1, h2⟩ := hcell j hj
      obtain ⟨k, e, _, hw⟩ := DataW.trod_int hE h2
      simp only [List.cons.injEq, and_true] at e
      have hbd := u64_bounds hw
      rw [h1, e]
      show some (Value.int .u64 k) = some (.int .u64 ((k.toNat : Nat) : Int)) ∧ k.toNat < _
      exact ⟨by rw [show ((k.toNat : Nat) : Int) = k by omega], by omega⟩
    refine ⟨(List.range len).map (fun j => numOfV (V j)), by simp, hl, hm, ?_, (fun h => by cases h), ?_⟩
    · intro u hu
      obtain ⟨j, hj, rfl⟩ := List.mem_map.1 hu
      exact (key j (by have := List.mem_range.1 hj; omega)).2
    · by_cases h0 : len = 0
      · exact .inl h0
      · right
        obtain ⟨b, off, spot⟩ := x
        have hspot : spot = none := by
          obtain ⟨h1, _⟩ := hcell 0 (by omega)
          simpa [Addr.add] using World.cell?_spot h1
        subst hspot
        refine ⟨b, off, rfl, fun j hj => ?_⟩
        have := (key j (by omega)).1
        rw [Addr.add_lit] at this
        rw [this]
        simp [hj]
end Go.Proofs.Ytajopgndpomggaa
