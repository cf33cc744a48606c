import Derived.Test.YtepdhbhpiehigaaRK
namespace Go.Proofs.Ytepdhbhpiehigaa
open Go.RowKit
set_option linter.unusedVariables false

theorem sgn_parts (neg : Bool) {k : Nat} (h : k < infK) : frung (sgnK neg k) = k ∧ sgnK neg k < 18446744073709551616 ∧ (k ≠ 0 → fneg (sgnK neg k) = neg) ∧ srung (sgnK neg k) = (if neg then -(k : Int) else k) := by
  have hi : infK = 9218868437227405312 := rfl
  by_cases h0 : k = 0
  · subst h0
    have : sgnK neg 0 = 0 := by unfold sgnK; simp
    rw [this]
    refine ⟨rfl, by decide, fun h => absurd rfl h, ?_⟩
    cases neg <;> rfl
  · have hw := word_rung neg (k := k) (by omega)
    have e : sgnK neg k = Ieee.double.word neg k := by
      unfold sgnK Ieee.Format.word
      rw [dbl_sign]
      cases neg <;> simp
      omega
    rw [e]
    refine ⟨hw.1, hw.2.2, fun _ => hw.2.1, ?_⟩
    unfold srung; rw [hw.1, hw.2.1]
theorem tell_fin {d : Int} {neg : Bool} {n D : Nat} {p : Nat × Bool} (h : Rnd d neg n D p) : Fin p.1 ∧ p.1 < 18446744073709551616 := by
  obtain ⟨R, hR, rfl⟩ := h
  have h0 : Fin 0 ∧ 0 < 18446744073709551616 := by decide
  have hk : ∀ k, k < infK → Fin (sgnK neg k) ∧ sgnK neg k < 18446744073709551616 := fun k hk => by
    have := sgn_parts neg hk
    exact ⟨by unfold Fin; rw [this.1]; exact hk, this.2.1⟩
  have hi : 0 < infK := by decide
  unfold tellK
  split
  · split
    · exact hk _ (by assumption)
    · exact h0
  · split
    · split
      · exact hk _ (by assumption)
      · exact h0
    · split
      · exact hk _ (by omega)
      · exact h0
/-- An exact one is told by each direction. -/
theorem rnd_exact {d : Int} {neg : Bool} {k D : Nat} {p : Nat × Bool} (hk : k < infK) (h : Rnd d neg (rmag k * D) D p) : p = if d = 0 ∨ d = 1 ∨ d = 2 then (sgnK neg k, true) else (0, false) := by
  obtain ⟨R, hR, rfl⟩ := h
  have hD := hR.pos
  have hRk := hR.uniq (Fl.exact k D hD)
  rw [hRk]
  have h1 : nearK (rmag k * D) D k = k := nearK_exact rfl hD
  have h2 : upK (rmag k * D) D k = k := by unfold upK; rw [if_pos rfl]
  unfold tellK
  rw [h1, h2, if_pos hk, Nat.min_eq_left (by omega)]
  by_cases e0 : d = 0
  · simp [e0]
  · by_cases e1 : d = 1
    · subst e1; cases neg <;> simp
    · by_cases e2 : d = 2
      · subst e2; cases neg <;> simp
      · simp [e0, e1, e2]
/-- What is told alike up and down is exact. -/
theorem rnd_both {neg : Bool} {n D : Nat} {p q : Nat} (h1 : Rnd 1 neg n D (p, true)) (h2 : Rnd 2 neg n D (q, true)) (he : srung p = srung q) : ∃ k, k < infK ∧ n = rmag k * D ∧ p = sgnK neg k := by
  obtain ⟨R, hR, e1⟩ := h1
  obtain ⟨R', hR', e2⟩ := h2
  obtain rfl := hR.uniq hR'
  have hi : 0 < infK := by decide
  have hu : upK n D R = if n = rmag R * D then R else R + 1 := rfl
  cases neg
  · have t1 : tellK 1 false n D R = if upK n D R < infK then (sgnK false (upK n D R), true) else (0, false) := by unfold tellK; simp
    have t2 : tellK 2 false n D R = (sgnK false (min R (infK - 1)), true) := by unfold tellK; simp
    rw [t1] at e1
    rw [t2] at e2
    by_cases hlt : upK n D R < infK
    · rw [if_pos hlt] at e1
      cases e1; cases e2
      have a := (sgn_parts false hlt).2.2.2
      have b := (sgn_parts false (k := min R (infK - 1)) (by omega)).2.2.2
      rw [a, b] at he
      simp only [Bool.false_eq_true, if_false] at he
      by_cases hx : n = rmag R * D
      · rw [if_pos hx] at hu
        exact ⟨R, by omega, hx, by rw [hu]⟩
      · rw [if_neg hx] at hu; omega
    · rw [if_neg hlt] at e1; cases e1
  · have t1 : tellK 1 true n D R = (sgnK true (min R (infK - 1)), true) := by unfold tellK; simp
    have t2 : tellK 2 true n D R = if upK n D R < infK then (sgnK true (upK n D R), true) else (0, false) := by unfold tellK; simp
    rw [t1] at e1
    rw [t2] at e2
    by_cases hlt : upK n D R < infK
    · rw [if_pos hlt] at e2
      cases e1; cases e2
      have a := (sgn_parts true hlt).2.2.2
      have b := (sgn_parts true (k := min R (infK - 1)) (by omega)).2.2.2
      rw [a, b] at he
      simp only [if_true] at he
      by_cases hx : n = rmag R * D
      · rw [if_pos hx] at hu
        exact ⟨R, by omega, hx, by rw [show min R (infK - 1) = R by omega]⟩
      · rw [if_neg hx] at hu; omega
    · rw [if_neg hlt] at e2; cases e2
theorem ord_ne {x y : Nat} (hx : Fin x) (hy : Fin y) : (FloatKind.f64.format.order x y != some .eq) = !decide (srung x = srung y) := by
  rw [bne, f64_fmt, ord_eq (Nat.le_of_lt hx) (Nat.le_of_lt hy)]
theorem clip_neg (n : Int) : clip (-n) = -clip n := by unfold clip; omega
end Go.Proofs.Ytepdhbhpiehigaa
