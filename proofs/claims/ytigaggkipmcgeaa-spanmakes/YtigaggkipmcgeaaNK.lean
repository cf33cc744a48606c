import Derived.Test.YtigaggkipmcgeaaNJ
namespace Go.Proofs.Ytigaggkipmcgeaa
open Go.RowKit
set_option linter.unusedVariables false

def clip5 (n : Int) : Int := min (max n (-5000)) 5000
theorem far_same {d : Int} {neg : Bool} {a : Nat} {n : Int} {p q : Nat × Bool} (ha : a < infK) (h1 : Rnd d neg (rmag a * 2 ^ (clip n).toNat) (2 ^ (-(clip n)).toNat) p) (h2 : Rnd d neg (rmag a * 2 ^ (clip5 n).toNat) (2 ^ (-(clip5 n)).toNat) q) : p = q := by
  by_cases hn : -2200 ≤ n ∧ n ≤ 2200
  · have e : clip5 n = clip n := by unfold clip clip5; omega
    rw [e] at h2
    exact h1.uniq h2
  · rcases Nat.eq_zero_or_pos a with h0 | h0
    · subst h0
      rw [rmag_zero, Nat.zero_mul] at h1 h2
      obtain ⟨R, hR, rfl⟩ := h1
      obtain ⟨S, hS, rfl⟩ := h2
      have e1 := fl_zero hR
      have e2 := fl_zero hS
      subst e1 e2
      have := rnd_exact (d := d) (neg := neg) (k := 0) (D := 2 ^ (-(clip n)).toNat) (by decide) ⟨0, by rw [rmag_zero, Nat.zero_mul]; exact hR, rfl⟩
      have k2 := rnd_exact (d := d) (neg := neg) (k := 0) (D := 2 ^ (-(clip5 n)).toNat) (by decide) ⟨0, by rw [rmag_zero, Nat.zero_mul]; exact hS, rfl⟩
      rw [rmag_zero, Nat.zero_mul] at this k2
      rw [this, k2]
    · have hra : 1 ≤ rmag a := by have := le_rmag a; omega
      obtain ⟨e, he⟩ : ∃ e : Nat, e = 2046 := ⟨_, rfl⟩
      have hinf := rmag_inf he
      by_cases hp : 2200 < n
      · have big : ∀ c : Int, 2200 ≤ c → rmag infK * 2 ^ (-c).toNat ≤ rmag a * 2 ^ c.toNat := by
          intro c hc
          rw [show (-c).toNat = 0 by omega, Nat.pow_zero, Nat.mul_one, hinf, show (4503599627370496 : Nat) = 2 ^ 52 by decide, ← Nat.pow_add]
          have h3 : 2 ^ (52 + e) ≤ 2 ^ c.toNat := Nat.pow_le_pow_right (by omega) (by omega)
          have h4 : 1 * 2 ^ c.toNat ≤ rmag a * 2 ^ c.toNat := Nat.mul_le_mul_right _ hra
          omega
        rw [rnd_big h1 (big _ (by unfold clip; omega)), rnd_big h2 (big _ (by unfold clip5; omega))]
      · have hra2 : rmag a < rmag infK := rmag_lt ha
        have small : ∀ c : Int, c ≤ -2200 → 0 < rmag a * 2 ^ c.toNat ∧ 2 * (rmag a * 2 ^ c.toNat) < 2 ^ (-c).toNat := by
          intro c hc
          rw [show c.toNat = 0 by omega, Nat.pow_zero, Nat.mul_one]
          refine ⟨by omega, ?_⟩
          have h3 : 2 ^ (53 + e) ≤ 2 ^ (-c).toNat := Nat.pow_le_pow_right (by omega) (by omega)
          rw [Nat.pow_add, show (2 : Nat) ^ 53 = 9007199254740992 by decide] at h3
          omega
        have s1 := small (clip n) (by unfold clip; omega)
        have s2 := small (clip5 n) (by unfold clip5; omega)
        rw [rnd_small h1 s1.1 s1.2, rnd_small h2 s2.1 s2.2]
end Go.Proofs.Ytigaggkipmcgeaa
