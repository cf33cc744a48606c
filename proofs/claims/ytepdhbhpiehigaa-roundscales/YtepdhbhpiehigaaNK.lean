import Derived.Test.YtepdhbhpiehigaaNJ
namespace Go.Proofs.Ytepdhbhpiehigaa
open Go.RowKit
set_option linter.unusedVariables false

theorem Rnd.of_eq {d : Int} {neg : Bool} {n D n' D' : Nat} {p : Nat × Bool} (h : Rnd d neg n D p) (hD' : 0 < D') (he : n * D' = n' * D) : Rnd d neg n' D' p := by
  obtain ⟨R, hR, rfl⟩ := h
  have hD := hR.pos
  have h1 := hR.scale D' hD'
  rw [he, Nat.mul_comm D D'] at h1
  refine ⟨R, h1.unscale D, ?_⟩
  rw [← tellK_scale d neg n D R D' hD', he, Nat.mul_comm D D', tellK_scale _ _ _ _ _ _ hD]
theorem ofM_val {u : Nat} (hf : Fin u) : ofM u * 2 ^ (ofE u + 1074).toNat = rmag (frung u) ∧ -1074 ≤ ofE u ∧ ofE u ≤ 971 ∧ bl (ofM u) ≤ 53 ∧ (ofM u = 0 ↔ frung u = 0) := by
  unfold Fin infK at hf
  have hbl : ∀ m : Nat, m < 9007199254740992 → bl m ≤ 53 := by
    intro m hm
    rcases Nat.eq_zero_or_pos m with h0 | h0
    · rw [h0, bl_zero]; omega
    · have h3 := bl_spec (m := m) (by omega)
      rcases Nat.lt_or_ge 53 (bl m) with h4 | h4
      · have : 2 ^ 53 ≤ 2 ^ (bl m - 1) := Nat.pow_le_pow_right (by omega) (by omega)
        have h53 : (2 : Nat) ^ 53 = 9007199254740992 := by decide
        omega
      · exact h4
  unfold ofM ofE
  by_cases h : frung u < 4503599627370496
  · rw [if_pos h, if_pos h]
    refine ⟨?_, by omega, by omega, hbl _ (by omega), Iff.rfl⟩
    unfold rmag; rw [if_pos h, show ((-1074 : Int) + 1074).toNat = 0 from rfl, Nat.pow_zero, Nat.mul_one]
  · rw [if_neg h, if_neg h]
    refine ⟨?_, by omega, by omega, hbl _ (by omega), by omega⟩
    unfold rmag; rw [if_neg h]; congr 2; omega
/-- Beyond every number. -/
theorem rnd_big {d : Int} {neg : Bool} {n D : Nat} {p : Nat × Bool} (h : Rnd d neg n D p) (hb : rmag infK * D ≤ n) : p = if d = 0 ∨ (d = 1 ∧ neg = false) ∨ (d = 2 ∧ neg = true) then (0, false) else if d = 1 ∨ d = 2 then (sgnK neg (infK - 1), true) else (0, false) := by
  obtain ⟨R, hR, rfl⟩ := h
  have h1 : infK < R + 1 := lt_of_rmag (Nat.lt_of_mul_lt_mul_right (Nat.lt_of_le_of_lt hb hR.2))
  have h2 : infK ≤ nearK n D R := le_nearK hR hb
  have h3 : infK ≤ upK n D R := by unfold upK; split <;> omega
  unfold tellK
  rw [if_neg (show ¬ (nearK n D R < infK) by omega), if_neg (show ¬ (upK n D R < infK) by omega), Nat.min_eq_right (by omega)]
  by_cases e0 : d = 0
  · simp [e0]
  · by_cases e1 : d = 1
    · subst e1; cases neg <;> simp
    · by_cases e2 : d = 2
      · subst e2; cases neg <;> simp
      · simp [e0, e1, e2]
/-- Below half of the least number. -/
theorem rnd_small {d : Int} {neg : Bool} {n D : Nat} {p : Nat × Bool} (h : Rnd d neg n D p) (hn : 0 < n) (hb : 2 * n < D) : p = if d = 0 then (0, true) else if (d = 1 ∧ neg = false) ∨ (d = 2 ∧ neg = true) then (sgnK neg 1, true) else if d = 1 ∨ d = 2 then (0, true) else (0, false) := by
  obtain ⟨R, hR, rfl⟩ := h
  have h0 : Fl n D 0 := ⟨by rw [rmag_zero, Nat.zero_mul]; omega, by rw [show rmag (0 + 1) = 1 by decide, Nat.one_mul]; omega⟩
  have hr := hR.uniq h0
  subst hr
  have h1 : nearK n D 0 = 0 := by
    unfold nearK; rw [if_pos (.inl (by rw [rmag_zero, show rmag (0 + 1) = 1 by decide, Nat.zero_add, Nat.one_mul]; exact hb))]
  have h2 : upK n D 0 = 1 := by unfold upK; rw [if_neg (by rw [rmag_zero, Nat.zero_mul]; omega)]
  have hi : 1 < infK := by decide
  have hs : ∀ g, sgnK g 0 = 0 := fun g => by unfold sgnK; simp
  unfold tellK
  rw [h1, h2, if_pos (show 0 < infK by omega), if_pos hi, Nat.zero_min, hs]

def clip5 (n : Int) : Int := min (max n (-5000)) 5000
theorem far_same {d : Int} {neg : Bool} {a : Nat} {n : Int} {p q : Nat × Bool} (ha : a < infK) (h1 : Rnd d neg (rmag a * 2 ^ (clip n).toNat) (2 ^ (-(clip n)).toNat) p) (h2 : Rnd d neg (rmag a * 2 ^ (clip5 n).toNat) (2 ^ (-(clip5 n)).toNat) q) : p = q := by
  by_cases hn : -2200 ≤ n ∧ n ≤ 2200
  · have e : clip5 n = clip n := by unfold clip clip5; omega
    rw [e] at h2
    exact h1.uniq h2
  · rcases Nat.eq_zero_or_pos a with h0 | h0
    · subst h0
      rw [rmag_zero, Nat.zero_mul] at h1 h2
      obtain ⟨R, hR, rfl⟩ := h1
      obtain ⟨S, hS, rfl⟩ := h2
      have e1 := fl_zero hR
      have e2 := fl_zero hS
      subst e1 e2
      have := rnd_exact (d := d) (neg := neg) (k := 0) (D := 2 ^ (-(clip n)).toNat) (by decide) ⟨0, by rw [rmag_zero, Nat.zero_mul]; exact hR, rfl⟩
      have k2 := rnd_exact (d := d) (neg := neg) (k := 0) (D := 2 ^ (-(clip5 n)).toNat) (by decide) ⟨0, by rw [rmag_zero, Nat.zero_mul]; exact hS, rfl⟩
      rw [rmag_zero, Nat.zero_mul] at this k2
      rw [this, k2]
    · have hra : 1 ≤ rmag a := by have := le_rmag a; omega
      obtain ⟨e, he⟩ : ∃ e : Nat, e = 2046 := ⟨_, rfl⟩
      have hinf := rmag_inf he
      by_cases hp : 2200 < n
      · have big : ∀ c : Int, 2200 ≤ c → rmag infK * 2 ^ (-c).toNat ≤ rmag a * 2 ^ c.toNat := by
          intro c hc
          rw [show (-c).toNat = 0 by omega, Nat.pow_zero, Nat.mul_one, hinf, show (4503599627370496 : Nat) = 2 ^ 52 by decide, ← Nat.pow_add]
          have h3 : 2 ^ (52 + e) ≤ 2 ^ c.toNat := Nat.pow_le_pow_right (by omega) (by omega)
          have h4 : 1 * 2 ^ c.toNat ≤ rmag a * 2 ^ c.toNat := Nat.mul_le_mul_right _ hra
          omega
        rw [rnd_big h1 (big _ (by unfold clip; omega)), rnd_big h2 (big _ (by unfold clip5; omega))]
      · have hra2 : rmag a < rmag infK := rmag_lt ha
        have small : ∀ c : Int, c ≤ -2200 → 0 < rmag a * 2 ^ c.toNat ∧ 2 * (rmag a * 2 ^ c.toNat) < 2 ^ (-c).toNat := by
          intro c hc
          rw [show c.toNat = 0 by omega, Nat.pow_zero, Nat.mul_one]
          refine ⟨by omega, ?_⟩
          have h3 : 2 ^ (53 + e) ≤ 2 ^ (-c).toNat := Nat.pow_le_pow_right (by omega) (by omega)
          rw [Nat.pow_add, show (2 : Nat) ^ 53 = 9007199254740992 by decide] at h3
          omega
        have s1 := small (clip n) (by unfold clip; omega)
        have s2 := small (clip5 n) (by unfold clip5; omega)
        rw [rnd_small h1 s1.1 s1.2, rnd_small h2 s2.1 s2.2]
end Go.Proofs.Ytepdhbhpiehigaa
