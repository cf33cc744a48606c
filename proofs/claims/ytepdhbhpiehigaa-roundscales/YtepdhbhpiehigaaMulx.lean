import Derived.Test.YtepdhbhpiehigaaLdx
namespace Go.Proofs.Ytepdhbhpiehigaa
open Ieee
set_option linter.unusedVariables false

/-- x is fr 2^ex, fr near 1. -/
structure Frx (x fr : Nat) (M ex : Int) : Prop where
  sc : ∀ c, c = 1021 → Sc c M fr
  full : Full M
  sgn : fneg fr = fneg x
  rel : rmag (frung x) * 4503599627370496 = M.natAbs * 2 ^ (ex + 1073).toNat
  lo : -1073 ≤ ex
  hi : ex ≤ 1024

theorem frx_zero {x : Nat} (hx : x < 18446744073709551616) (h : frung x = 0) : Frx x x 0 0 := by
  refine ⟨fun c _ => ⟨by unfold Fin; rw [h]; decide, hx, ?_⟩, .inl rfl, rfl, ?_, by omega, by omega⟩
  · unfold fval; rw [h, rmag_zero, Int.zero_mul]; cases fneg x <;> rfl
  · rw [h, rmag_zero, Nat.zero_mul, Int.natAbs_zero, Nat.zero_mul]
theorem frx_norm {x y ee Eb f : Nat} (hN : Norm x y ee Eb f) : Frx x (double.word (fneg x) (1022 * 4503599627370496 + f)) (if fneg x then -((4503599627370496 + f : Nat) : Int) else ((4503599627370496 + f : Nat) : Int)) ((Eb : Int) - ee - 1022) := by
  have hf := hN.f1
  have hw := word_rung (fneg x) (k := 1022 * 4503599627370496 + f) (by omega)
  have e1 := hN.eb0
  have e2 := hN.eb1
  refine ⟨fun c hc => ⟨?_, hw.2.2, ?_⟩, ?_, hw.2.1, ?_, ?_, ?_⟩
  · unfold Fin infK; rw [hw.1]; omega
  · unfold fval
    rw [hw.1, hw.2.1]
    have hr := rmag_form c (4503599627370496 + f) (.inr (by omega)) (by omega)
    rw [show c * 4503599627370496 + (4503599627370496 + f) = 1022 * 4503599627370496 + f by omega] at hr
    rw [hr, Int.natCast_mul, Int.natCast_pow]
    cases fneg x
    · simp only [Bool.false_eq_true, if_false]; rfl
    · simp only [if_true, Int.neg_mul]; rfl
  · right; cases fneg x <;> simp <;> omega
  · have hv := hN.val
    have ha : (if fneg x then -((4503599627370496 + f : Nat) : Int) else ((4503599627370496 + f : Nat) : Int)).natAbs = 4503599627370496 + f := by cases fneg x <;> simp <;> omega
    rw [ha]
    rcases hN.e52 with h | h
    · subst h
      rw [Nat.pow_zero, Nat.mul_one] at hv
      rw [hv, Nat.mul_assoc, show (4503599627370496 : Nat) = 2 ^ 52 by decide, ← Nat.pow_add]
      congr 2; omega
    · subst h
      rw [show (2 : Nat) ^ 52 = 4503599627370496 by decide] at hv
      rw [hv]
      congr 2; omega
  · rcases hN.e52 with h | h <;> omega
  · rcases hN.e52 with h | h <;> omega

/-- A difference has the sign that it has. -/
theorem sub_sign {x y : Nat} (hx : Fin x) (hy : Fin y) : ∃ r, double.sub x y = some r ∧ frung r ≤ infK ∧ r < 18446744073709551616 ∧ (0 < srung r ↔ fval y < fval x) ∧ (srung r < 0 ↔ fval x < fval y) := by
  obtain ⟨r, hr, g, hg, hs⟩ := sub_fin hx hy
  obtain ⟨R, hR, h1, h2, hl⟩ := hg.rung
  refine ⟨r, hr, by rw [h1]; exact Nat.min_le_right .., hl, ?_, ?_⟩
  all_goals
    unfold srung
    rw [h1, h2]
    have hi : 0 < infK := by decide
    by_cases h0 : fval x - fval y = 0
    · have hz : nearK (fval x - fval y).natAbs 1 R = 0 := by
        have := near_one (j := 0) hR (by rw [h0]; rfl)
        rw [h0] at this
        rw [h0]
        exact rmag_inj (by rw [this]; rfl)
      rw [hz]
      cases g <;> simp <;> omega
    · have hp : 1 ≤ nearK (fval x - fval y).natAbs 1 R := le_nearK hR (by rw [show rmag 1 = 1 by decide]; omega)
      rw [hs h0]
      generalize nearK (fval x - fval y).natAbs 1 R = k at *
      generalize infK = I at *
      by_cases hn : fval x - fval y < 0 <;> simp [hn] <;> omega

theorem near_two {n D R : Nat} (h : Fl n D R) : rmag (nearK n D R) * D ≤ 2 * n := by
  unfold nearK
  by_cases h1 : 2 * n < (rmag R + rmag (R + 1)) * D ∨ (2 * n = (rmag R + rmag (R + 1)) * D ∧ R % 2 = 0)
  · rw [if_pos h1]; have := h.1; omega
  · rw [if_neg h1, Nat.add_mul] at *; omega

theorem word_fval (g : Bool) {k : Nat} (hk : k < infK) : fval (double.word g k) = (if g then -(rmag k : Int) else (rmag k : Int)) ∧ Fin (double.word g k) := by
  have hw := word_rung g (k := k) (by have : infK = 9218868437227405312 := rfl; omega)
  refine ⟨?_, by unfold Fin; rw [hw.1]; exact hk⟩
  unfold fval; rw [hw.1, hw.2.1]

/-- The signs of what is left where the nearest word is not finite. -/
theorem sides_inf {neg : Bool} {n D near rest : Nat} (hR : Rn neg n D near) (hi : frung near = infK) (hr : frung rest = infK) (hn : fneg rest = !neg) : Sides neg n D near rest := by
  have hp : 0 < infK := by decide
  refine ⟨by omega, ?_, ?_⟩
  all_goals
    unfold srung Away Toward
    rw [hr, hn, hi]
    generalize infK = I at *
    cases neg <;> simp <;> omega

/-- WHAT A SCALED COPY TELLS: v' (exact, v by a power of 2), p' a copy of the nearest word p, high the nearest word to v', low what is left of v' then. -/
theorem sides_scaled {neg : Bool} {n D p : Nat} {v' : Nat} {j R' : Nat} {high p' d low rest : Nat} {L : Int}
    (hR : Rn neg n D p) (hfin : Fin p) (hcmp1 : rmag (frung p) * D < n ↔ rmag j < v') (hcmp2 : n < rmag (frung p) * D ↔ v' < rmag j)
    (hR' : Fl v' 1 R') (hh : fval high = (if neg then -(rmag (nearK v' 1 R') : Int) else rmag (nearK v' 1 R'))) (hp' : fval p' = (if neg then -(rmag j : Int) else rmag j))
    (hhf : Fin high) (hpf : Fin p') (hd : double.sub high p' = some d) (hlow : fval low = (if neg then -((v' : Int) - rmag (nearK v' 1 R')) else (v' : Int) - rmag (nearK v' 1 R'))) (hlf : Fin low)
    (hrest : rest = if srung d = 0 then low else d) : Sides neg n D p rest := by
  obtain ⟨d', hd', hdi, hdl, hdp, hdn⟩ := sub_sign hhf hpf
  rw [hd] at hd'
  cases hd'
  have hup : v' < rmag j → nearK v' 1 R' ≤ j := fun h => nearK_le hR' (by omega)
  have hdn' : rmag j < v' → j ≤ nearK v' 1 R' := fun h => le_nearK hR' (by omega)
  have mup : v' ≤ rmag j → rmag (nearK v' 1 R') ≤ rmag j := fun h => rmag_le (nearK_le hR' (by omega))
  have mdn : rmag j ≤ v' → rmag j ≤ rmag (nearK v' 1 R') := fun h => rmag_le (le_nearK hR' (by omega))
  have hne : frung p ≠ infK := by unfold Fin at hfin; omega
  have hlt : frung p < infK := hfin
  rw [hh, hp'] at hdp hdn
  unfold Fin at hlf
  subst hrest
  by_cases h0 : srung d = 0
  · rw [if_pos h0]
    have he : rmag (nearK v' 1 R') = rmag j := by
      cases neg <;> simp only [Bool.false_eq_true, if_false, if_true] at hdp hdn <;> omega
    refine ⟨by omega, ?_, ?_⟩
    · rw [srung_pos, hlow]
      unfold Away Toward
      rw [hcmp1, hcmp2]
      cases neg <;> simp [hlt, hne] <;> omega
    · rw [srung_neg, hlow]
      unfold Away Toward
      rw [hcmp1, hcmp2]
      cases neg <;> simp [hlt, hne] <;> omega
  · rw [if_neg h0]
    refine ⟨hdi, ?_, ?_⟩
    · rw [hdp]
      unfold Away Toward
      rw [hcmp1, hcmp2]
      cases neg <;> simp only [Bool.false_eq_true, if_false, if_true] at hdp hdn ⊢ <;> simp [hlt, hne] <;> omega
    · rw [hdn]
      unfold Away Toward
      rw [hcmp1, hcmp2]
      cases neg <;> simp only [Bool.false_eq_true, if_false, if_true] at hdp hdn ⊢ <;> simp [hlt, hne] <;> omega
end Go.Proofs.Ytepdhbhpiehigaa
