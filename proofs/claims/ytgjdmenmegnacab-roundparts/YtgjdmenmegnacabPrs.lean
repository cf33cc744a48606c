import Derived.Test.YtgjdmenmegnacabPrq
namespace Go.Proofs.Ytgjdmenmegnacab
open Ieee
set_option linter.unusedVariables false

/-- The rungs of a product and of its scaled one: t twos apart. -/
theorem prod_rungs {N X D R R' : Nat} {n : Int} (hD : 0 < D) (hX0 : X = 0 ∨ 4503599627370496 ≤ X) (hrel : N * 2 ^ (-n).toNat = X * 2 ^ n.toNat * D) (hR : Fl N D R) (hR' : Fl X 1 R') (hK : nearK N D R < infK) :
    ∃ j, rmag j * 2 ^ n.toNat = rmag (nearK N D R) * 2 ^ (-n).toNat ∧ (rmag (nearK X 1 R') = rmag j ∨ (n ≤ 0 ∧ R < 4503599627370496 ∧ X ≠ 0)) := by
  have hp1 := Nat.two_pow_pos n.toNat
  have hp2 := Nat.two_pow_pos (-n).toNat
  by_cases hx : X = 0
  · rw [hx, Nat.zero_mul, Nat.zero_mul] at hrel
    have hN : N = 0 := by rcases Nat.mul_eq_zero.1 hrel with h | h <;> omega
    subst hN hx
    have e1 := fl_zero hR
    have e2 := fl_zero hR'
    subst e1 e2
    have k1 : nearK 0 D 0 = 0 := nearK_exact (by rw [rmag_zero, Nat.zero_mul]) hD
    have k2 : nearK 0 1 0 = 0 := nearK_exact (by rw [rmag_zero]) (by decide)
    exact ⟨0, by rw [k1, rmag_zero, Nat.zero_mul, Nat.zero_mul], .inl (by rw [k2])⟩
  · have hX : 4503599627370496 ≤ X := by omega
    have hR52 : 4503599627370496 ≤ R' := by
      have h1 : rmag 4503599627370496 = 4503599627370496 := (fl_small (R := 4503599627370495) (by omega)).2
      have h2 := hR'.2
      rw [Nat.mul_one] at h2
      have := lt_of_rmag (show rmag 4503599627370496 < rmag (R' + 1) by omega)
      omega
    have hh52 : 4503599627370496 ≤ nearK X 1 R' := by rcases nearK_cases X 1 R' with h | h <;> omega
    by_cases hn : 0 ≤ n
    · obtain ⟨t, ht⟩ : ∃ t : Nat, n.toNat = t := ⟨_, rfl⟩
      have hz : (-n).toNat = 0 := by omega
      rw [ht, hz, Nat.pow_zero, Nat.mul_one] at hrel
      obtain ⟨s1, s2⟩ := fl_shift t hR' hR52
      have s3 := s1.scale D hD
      rw [Nat.one_mul, ← hrel] at s3
      have e := hR.uniq s3
      have s4 := nearK_scale (X * 2 ^ t) 1 (R' + t * 4503599627370496) D hD
      rw [Nat.one_mul, ← hrel, ← e, e, s2] at s4
      rw [← e] at s4
      refine ⟨nearK X 1 R', ?_, .inl rfl⟩
      rw [s4, ht, hz, Nat.pow_zero, Nat.mul_one, rmag_shift t hh52]
    · obtain ⟨t, ht⟩ : ∃ t : Nat, (-n).toNat = t := ⟨_, rfl⟩
      have hz : n.toNat = 0 := by omega
      rw [ht, hz, Nat.pow_zero, Nat.mul_one] at hrel
      obtain ⟨j, hj⟩ := rung_up (nearK N D R) t
      refine ⟨j, by rw [ht, hz, Nat.pow_zero, Nat.mul_one, hj], ?_⟩
      by_cases hRn : 4503599627370496 ≤ R
      · left
        obtain ⟨s1, s2⟩ := fl_shift t hR hRn
        rw [hrel] at s1 s2
        have s3 := hR'.scale D hD
        rw [Nat.one_mul] at s3
        have e := s3.uniq s1
        have s4 := nearK_scale X 1 R' D hD
        rw [Nat.one_mul, e, s2] at s4
        have hK52 : 4503599627370496 ≤ nearK N D R := by rcases nearK_cases N D R with h | h <;> omega
        rw [e, ← s4, rmag_shift t hK52, hj]
      · right; exact ⟨by omega, by omega, hx⟩
end Go.Proofs.Ytgjdmenmegnacab
