import Derived.Test.YtnjjichanfpbhaaGreatZU
namespace Go.Proofs.YtnjjichanfpbhaaGreat
open Go.RowKit
set_option linter.unusedVariables false

theorem hasB_good {lo hi x : Nat} {b : Bool} (hg : Good lo hi b) : hasB lo hi x = decide (Fin x ∧ fval lo ≤ fval x ∧ fval x ≤ fval hi) := by
  have k1 : frung lo ≤ infK := Nat.le_of_lt hg.2.1
  have k2 : frung hi ≤ infK := Nat.le_of_lt hg.2.2.1
  have s1 := srung_le lo x
  have s2 := srung_le x hi
  unfold hasB leF
  rw [← Bool.decide_and]
  congr 1; apply propext
  constructor
  · rintro ⟨⟨_, a, b⟩, _, _, c⟩
    refine ⟨?_, s1.1 b, s2.1 c⟩
    have f1 : frung lo < infK := hg.2.1
    have f2 : frung hi < infK := hg.2.2.1
    have e : ∀ y, (srung y = (frung y : Int) ∨ srung y = -(frung y : Int)) := fun y => by unfold srung; split <;> simp
    have e1 := e lo; have e2 := e x; have e3 := e hi
    unfold Fin
    omega
  · rintro ⟨a, b, c⟩
    have : frung x ≤ infK := Nat.le_of_lt a
    exact ⟨⟨k1, this, s1.2 b⟩, this, k2, s2.2 c⟩
theorem sgi_le (z : Int) : sgi z ≤ 0 ↔ z ≤ 0 := by
  unfold sgi; split
  · omega
  · split <;> omega
end Go.Proofs.YtnjjichanfpbhaaGreat
