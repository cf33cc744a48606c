import Derived.Test.YtbjnkefjlaplkaaPur
namespace Go.Proofs.Ytbjnkefjlaplkaa
set_option linter.unusedVariables false

theorem RndZ.of_ratio {d V V' : Int} {D D' : Nat} {p : Nat × Bool} (h : RndZ d V D p) (hD' : 0 < D') (he : V * (D' : Int) = V' * (D : Int)) : RndZ d V' D' p := by
  have hD := (let ⟨_, hR, _⟩ := h; hR.pos)
  have h1 := h.rescale D' hD'
  rw [he, Nat.mul_comm] at h1
  obtain ⟨R, hR, hp⟩ := h1
  have e1 : (V' * (D : Int)).natAbs = V'.natAbs * D := by rw [Int.natAbs_mul, Int.natAbs_natCast]
  have e2 : decide (V' * (D : Int) < 0) = decide (V' < 0) := by
    have hc' : (0 : Int) < D := by omega
    congr 1; apply propext
    constructor
    · intro h; rcases Int.lt_or_le V' 0 with g | g
      · exact g
      · have := Int.mul_nonneg g (Int.le_of_lt hc'); omega
    · intro h; exact Int.mul_neg_of_neg_of_pos h hc'
  rw [e1] at hR hp
  rw [e2] at hp
  exact ⟨R, hR.unscale D, by rw [hp]; exact tellK_scale _ _ _ _ _ _ hD⟩
end Go.Proofs.Ytbjnkefjlaplkaa

