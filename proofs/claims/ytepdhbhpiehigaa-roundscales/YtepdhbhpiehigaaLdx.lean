import Derived.Test.YtepdhbhpiehigaaBitz
namespace Go.Proofs.Ytepdhbhpiehigaa
open Ieee
set_option linter.unusedVariables false

theorem norm_frac {x y ee Eb f : Nat} (h : Norm x y ee Eb f) (n X : Int) (hX : X = n - ee + Eb - 1) :
    ((4503599627370496 + f) * 2 ^ X.toNat) * 2 ^ (-n).toNat = (rmag (frung x) * 2 ^ n.toNat) * 2 ^ (-X).toNat := by
  have hv := h.val
  have he := h.eb0
  refine Nat.eq_of_mul_eq_mul_right (Nat.two_pow_pos ee) ?_
  rw [show rmag (frung x) * 2 ^ n.toNat * 2 ^ (-X).toNat * 2 ^ ee = (rmag (frung x) * 2 ^ ee) * (2 ^ n.toNat * 2 ^ (-X).toNat) by
    rw [Nat.mul_assoc, Nat.mul_assoc, Nat.mul_assoc]; congr 1; rw [← Nat.mul_assoc, Nat.mul_comm]]
  rw [hv, Nat.mul_assoc, Nat.mul_assoc, Nat.mul_assoc, ← Nat.pow_add, ← Nat.pow_add, ← Nat.pow_add, ← Nat.pow_add]
  congr 2
  omega
/-- What is asked of a power: the nearest to x 2^n. -/
def Pow (x : Nat) (n : Int) (r : Nat) : Prop := Rn (fneg x) (rmag (frung x) * 2 ^ n.toNat) (2 ^ (-n).toNat) r
theorem Pow.of {x y ee Eb f : Nat} (h : Norm x y ee Eb f) {n X : Int} (hX : X = n - ee + Eb - 1) {r : Nat} (hr : Rn (fneg x) ((4503599627370496 + f) * 2 ^ X.toNat) (2 ^ (-X).toNat) r) : Pow x n r :=
  hr.of_eq (Nat.two_pow_pos _) (Nat.two_pow_pos _) (norm_frac h n X hX)
theorem pow_zero {x : Nat} (hx : x < 18446744073709551616) (h : frung x = 0) (n : Int) : Pow x n x := by
  unfold Pow
  rw [h, rmag_zero, Nat.zero_mul]
  have := Rn.exact (fneg x) 0 (2 ^ (-n).toNat) (Nat.two_pow_pos _)
  rw [rmag_zero, Nat.zero_mul, Nat.zero_min] at this
  have e := word_parts hx
  rw [h] at e
  rw [← e] at this
  exact this
theorem pow_under {x y ee Eb f : Nat} (h : Norm x y ee Eb f) {n X : Int} (hX : X = n - ee + Eb - 1) (hb : X < -53) : Pow x n (double.word (fneg x) 0) := by
  refine Pow.of h hX ⟨0, ⟨?_, ?_⟩, ?_⟩
  · rw [rmag_zero, Nat.zero_mul]; exact Nat.zero_le _
  · have h1 := h.f1
    rw [show X.toNat = 0 by omega, Nat.pow_zero, Nat.mul_one, show rmag (0 + 1) = 1 by decide, Nat.one_mul]
    have h2 : 2 ^ 54 ≤ 2 ^ (-X).toNat := Nat.pow_le_pow_right (by omega) (by omega)
    have h3 : (2 : Nat) ^ 54 = 18014398509481984 := by decide
    omega
  · unfold nearK
    have h1 := h.f1
    rw [show X.toNat = 0 by omega, Nat.pow_zero, Nat.mul_one, show rmag (0 + 1) = 1 by decide, rmag_zero, Nat.zero_add, Nat.one_mul]
    have h2 : 2 ^ 54 ≤ 2 ^ (-X).toNat := Nat.pow_le_pow_right (by omega) (by omega)
    have h3 : (2 : Nat) ^ 54 = 18014398509481984 := by decide
    rw [if_pos (.inl (by omega)), Nat.zero_min]
theorem pow_over {x y ee Eb f : Nat} (h : Norm x y ee Eb f) {n X : Int} (hX : X = n - ee + Eb - 1) (hb : 2045 < X) : Pow x n (double.word (fneg x) infK) := by
  obtain ⟨e, he⟩ : ∃ e : Nat, e = 2046 := ⟨_, rfl⟩
  obtain ⟨R, hR⟩ := Fl.some ((4503599627370496 + f) * 2 ^ X.toNat) (2 ^ (-X).toNat) (Nat.two_pow_pos _)
  refine Pow.of h hX ⟨R, hR, ?_⟩
  have : infK ≤ nearK ((4503599627370496 + f) * 2 ^ X.toNat) (2 ^ (-X).toNat) R := by
    refine le_nearK hR ?_
    rw [rmag_inf he, show (-X).toNat = 0 by omega, Nat.pow_zero, Nat.mul_one]
    exact Nat.mul_le_mul (by omega) (Nat.pow_le_pow_right (by omega) (by omega))
  rw [Nat.min_eq_right this]
theorem pow_exact {x y ee Eb f : Nat} (h : Norm x y ee Eb f) {n X : Int} (hX : X = n - ee + Eb - 1) (h0 : 0 ≤ X) (h1 : X ≤ 2045) : Pow x n (double.word (fneg x) ((X.toNat + 1) * 4503599627370496 + f)) := by
  have hf := h.f1
  have hr := rmag_form X.toNat (4503599627370496 + f) (.inr (by omega)) (by omega)
  have e : X.toNat * 4503599627370496 + (4503599627370496 + f) = (X.toNat + 1) * 4503599627370496 + f := by omega
  rw [e] at hr
  have := Rn.exact (fneg x) ((X.toNat + 1) * 4503599627370496 + f) (2 ^ (-X).toNat) (Nat.two_pow_pos _)
  rw [hr, show (-X).toNat = 0 by omega, Nat.pow_zero, Nat.mul_one, Nat.min_eq_left (by unfold infK; omega)] at this
  refine Pow.of h hX ?_
  rw [show (-X).toNat = 0 by omega, Nat.pow_zero]
  exact this
theorem rung_m53 {e E : Nat} (he : e = 969) (hE : E = 1021) : rmag 4368491638549381120 = 2 ^ E := by
  have h := rmag_form e 4503599627370496 (.inr (Nat.le_refl _)) (by omega)
  rw [show e * 4503599627370496 + 4503599627370496 = 4368491638549381120 by omega] at h
  rw [h, show (4503599627370496 : Nat) = 2 ^ 52 by decide, ← Nat.pow_add, show 52 + e = E by omega]
theorem pow_small {x y ee Eb f : Nat} (h : Norm x y ee Eb f) {n X : Int} (hX : X = n - ee + Eb - 1) (h0 : -53 ≤ X) (h1 : X < 0) :
    ∃ r, double.mul 4368491638549381120 (double.word (fneg x) ((X + 54).toNat * 4503599627370496 + f)) = some r ∧ Pow x n r ∧ r < 18446744073709551616 := by
  have hf := h.f1
  have hw := word_rung (fneg x) (k := (X + 54).toNat * 4503599627370496 + f) (by omega)
  obtain ⟨E, hE⟩ : ∃ e : Nat, e = 1074 := ⟨_, rfl⟩
  obtain ⟨e, he⟩ : ∃ e : Nat, e = 969 := ⟨_, rfl⟩
  obtain ⟨E', hE'⟩ : ∃ e : Nat, e = 1021 := ⟨_, rfl⟩
  obtain ⟨r, hr, hR⟩ := mul_fin (a := 4368491638549381120) (b := double.word (fneg x) ((X + 54).toNat * 4503599627370496 + f)) hE (by unfold Fin; decide) (by unfold Fin infK; rw [hw.1]; omega)
  refine ⟨r, hr, ?_, by obtain ⟨_, _, _, _, hl⟩ := hR.rung; exact hl⟩
  rw [hw.1, hw.2.1, show fneg 4368491638549381120 = false by decide, Bool.false_xor, show frung 4368491638549381120 = 4368491638549381120 by decide, rung_m53 he hE'] at hR
  have hz := rmag_form (X + 53).toNat (4503599627370496 + f) (.inr (by omega)) (by omega)
  rw [show (X + 53).toNat * 4503599627370496 + (4503599627370496 + f) = (X + 54).toNat * 4503599627370496 + f by omega] at hz
  rw [hz] at hR
  refine Pow.of h hX (hR.of_eq (Nat.two_pow_pos _) (Nat.two_pow_pos _) ?_)
  rw [show X.toNat = 0 by omega, Nat.pow_zero, Nat.mul_one, Nat.mul_left_comm, Nat.mul_assoc, ← Nat.pow_add, ← Nat.pow_add]
  congr 2
  omega
end Go.Proofs.Ytepdhbhpiehigaa
