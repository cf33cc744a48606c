import Derived.Test.YtepdhbhpiehigaaMuly
namespace Go.Proofs.Ytepdhbhpiehigaa
open Ieee
set_option linter.unusedVariables false

theorem scale_all {a r b' : Nat} {n : Int} (hfa : Fin a) (hr : Pow a n r) (hb1 : Fin r → Pow r (-n) b') (hb2 : frung r = infK → b' = r) :
    ∃ d, double.sub a b' = some d ∧ d < 18446744073709551616 ∧ Sides (fneg a) (rmag (frung a) * 2 ^ n.toNat) (2 ^ (-n).toNat) r d := by
  have hrr := hr
  unfold Pow at hrr
  obtain ⟨R, hR, h1, h2, hl⟩ := hrr.rung
  have hfa' : frung a < infK := hfa
  by_cases hf : Fin r
  · have hff : frung r < infK := hf
    rw [Nat.min_eq_left (by omega)] at h1
    have hp := hb1 hf
    have hj : ∃ j, rmag j * 2 ^ n.toNat = rmag (frung r) * 2 ^ (-n).toNat := by
      by_cases hn0 : n ≤ 0
      · obtain ⟨m, e, hm, hm1, _⟩ := rung_form (frung r)
        obtain ⟨j, hj⟩ := rung_some m (e + (-n).toNat) (by omega)
        exact ⟨j, by rw [hj, hm, show n.toNat = 0 by omega, Nat.pow_zero, Nat.mul_one, Nat.pow_add, Nat.mul_assoc]⟩
      · obtain ⟨m, e, hm, hm1, _⟩ := rung_form (frung a)
        obtain ⟨i, hi⟩ := rung_some m (e + n.toNat) (by omega)
        have hv : rmag (frung a) * 2 ^ n.toNat = rmag i := by rw [hi, hm, Nat.mul_assoc, ← Nat.pow_add]
        have hD : 2 ^ (-n).toNat = 1 := by rw [show (-n).toNat = 0 by omega, Nat.pow_zero]
        rw [hD] at hR h1 ⊢
        have := near_one hR hv.symm
        rw [← h1] at this
        exact ⟨frung a, by rw [this, Nat.mul_one]⟩
    obtain ⟨j, hj⟩ := hj
    have pos1 : 0 < 2 ^ (-n).toNat := Nat.two_pow_pos _
    have pos2 : 0 < 2 ^ n.toNat := Nat.two_pow_pos _
    have c1 : rmag (frung r) * 2 ^ (-n).toNat < rmag (frung a) * 2 ^ n.toNat ↔ rmag j < rmag (frung a) := by rw [← hj, Nat.mul_lt_mul_right pos2]
    have c2 : rmag (frung a) * 2 ^ n.toNat < rmag (frung r) * 2 ^ (-n).toNat ↔ rmag (frung a) < rmag j := by rw [← hj, Nat.mul_lt_mul_right pos2]
    have hw : b' = double.word (fneg a) (min j infK) := by
      unfold Pow at hp
      rw [h2, show (- -n).toNat = n.toNat by rw [Int.neg_neg], ← hj] at hp
      exact hp.uniq (Rn.exact (fneg a) j (2 ^ n.toNat) pos2)
    have hne : frung r ≠ infK := by omega
    by_cases hji : j < infK
    · rw [Nat.min_eq_left (by omega)] at hw
      have hbv := word_fval (fneg a) hji
      rw [← hw] at hbv
      obtain ⟨d, hd, hdi, hdl, hdp, hdn⟩ := sub_sign hfa hbv.2
      refine ⟨d, hd, hdl, hdi, ?_, ?_⟩
      · rw [hdp, hbv.1]
        unfold Away Toward fval
        rw [c1, c2]
        cases fneg a <;> simp [hff, hne] <;> omega
      · rw [hdn, hbv.1]
        unfold Away Toward fval
        rw [c1, c2]
        cases fneg a <;> simp [hff, hne] <;> omega
    · rw [Nat.min_eq_right (by omega)] at hw
      have hbi := inf_word (fneg a)
      rw [← hw] at hbi
      have hs := sub_inf_r hbi.1 hfa
      rw [hbi.2] at hs
      have hwi := inf_word (!fneg a)
      have hlt : rmag (frung a) < rmag j := rmag_lt (by omega)
      have hp : 0 < infK := by decide
      refine ⟨_, hs, (word_rung (!fneg a) (k := infK) (by decide)).2.2, Nat.le_of_eq hwi.1, ?_, ?_⟩
      all_goals
        unfold srung Away Toward
        rw [hwi.1, hwi.2, c1, c2]
        generalize infK = I at *
        cases fneg a <;> simp [hff, hne] <;> omega
  · have hi : frung r = infK := by
      unfold Fin at hf
      have := Nat.min_le_right (nearK (rmag (frung a) * 2 ^ n.toNat) (2 ^ (-n).toNat) R) infK
      omega
    rw [hb2 hi]
    have hs := sub_inf_r hi hfa
    have hwi := inf_word (!fneg r)
    exact ⟨_, hs, (word_rung (!fneg r) (k := infK) (by decide)).2.2, sides_inf hrr hi hwi.1 (by rw [hwi.2, h2])⟩
end Go.Proofs.Ytepdhbhpiehigaa
