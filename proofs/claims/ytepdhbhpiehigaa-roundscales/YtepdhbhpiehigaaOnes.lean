import Derived.Test.YtepdhbhpiehigaaSums
namespace Go.Proofs.Ytepdhbhpiehigaa
open Ieee
set_option linter.unusedVariables false

theorem rung_one {e E : Nat} (he : e = 1022) (hE : E = 1074) : rmag 4607182418800017408 = 2 ^ E := by
  have h := rmag_form e 4503599627370496 (.inr (Nat.le_refl _)) (by omega)
  rw [show e * 4503599627370496 + 4503599627370496 = 4607182418800017408 by omega] at h
  have h2 : 4503599627370496 * 2 ^ e = 2 ^ E := by
    rw [show (4503599627370496 : Nat) = 2 ^ 52 by decide, ← Nat.pow_add, show 52 + e = E by omega]
  rw [h, h2]

theorem mul_unit {g : Bool} {x : Nat} (hx : x < 18446744073709551616) (hn : frung x ≤ infK) : double.mul (double.word g 4607182418800017408) x = some (double.word (g ^^ fneg x) (frung x)) := by
  have hw := word_rung g (k := 4607182418800017408) (by decide)
  rcases Nat.lt_or_eq_of_le hn with h | h
  · obtain ⟨e, he⟩ : ∃ e : Nat, e = 1022 := ⟨_, rfl⟩
    obtain ⟨E, hE⟩ : ∃ e : Nat, e = 1074 := ⟨_, rfl⟩
    obtain ⟨r, hr, hR⟩ := mul_fin (a := double.word g 4607182418800017408) (b := x) hE (by unfold Fin; rw [hw.1]; decide) h
    rw [hr, hw.1, hw.2.1, rung_one he hE, Nat.mul_comm] at *
    have := (Rn.exact (g ^^ fneg x) (frung x) (2 ^ E) (Nat.two_pow_pos _))
    rw [Nat.min_eq_left (Nat.le_of_lt h)] at this
    rw [hR.uniq this]
  · obtain ⟨m, p, h1, -, -, h4, h5⟩ := read_fin (x := double.word g 4607182418800017408) (by rw [hw.1]; decide)
    have hm : m ≠ 0 := by
      intro h0; subst h0
      rcases h5 with h5 | h5
      · subst h5
        have : double.read (double.word g 4607182418800017408) ≠ Datum.number (fneg (double.word g 4607182418800017408)) 0 (-1074) := by cases g <;> decide
        exact this h1
      · omega
    unfold Format.mul
    rw [h1, read_inf h]
    simp only [Datum.product, hm, if_false, Option.map_some, Format.write]
    rw [h, hw.2.1, Bool.xor_comm, dbl_inf]
theorem mul_one_l {x : Nat} (hx : x < 18446744073709551616) (hn : frung x ≤ infK) : double.mul 4607182418800017408 x = some x := by
  have := mul_unit (g := false) hx hn
  rw [Bool.false_xor, ← word_parts hx] at this
  exact this
theorem mul_neg_l {x : Nat} (hx : x < 18446744073709551616) (hn : frung x ≤ infK) : double.mul 13830554455654793216 x = some (fopp x) := by
  have h := mul_unit (g := true) hx hn
  have hp := fopp_parts hx
  have e : fopp x = double.word (true ^^ fneg x) (frung x) := by
    have := word_parts hp.2.2
    rw [hp.1, hp.2.1] at this
    rw [Bool.true_xor]; exact this
  rw [e]; exact h
theorem above_lt {a : Nat} (h : a < 18446744073709551616) (hn : frung a ≤ infK) (hh : ¬ (fneg a = false ∧ frung a = infK)) : aboveM a < 18446744073709551616 ∧ frung (aboveM a) ≤ infK := by
  have hi : infK = 9218868437227405312 := rfl
  by_cases h0 : frung a = 0
  · rw [above_zero h0]; exact ⟨by decide, by decide⟩
  · cases hb : fneg a
    · have hlt : frung a < infK := by
        rcases Nat.lt_or_eq_of_le hn with h1 | h1
        · exact h1
        · exact absurd ⟨hb, h1⟩ hh
      rw [above_pos h hlt hb]
      have := word_rung false (k := frung a + 1) (by omega)
      exact ⟨this.2.2, by rw [this.1]; omega⟩
    · rw [above_neg h (by omega) hb]
      have := word_rung true (k := frung a - 1) (by omega)
      exact ⟨this.2.2, by rw [this.1]; omega⟩
/-- The Sides of a word in hand keep 'above' from the upper end. -/
theorem Sides.up_ok {neg : Bool} {n D near rest : Nat} (hn : Rn neg n D near) (hs : Sides neg n D near rest) (h : 0 < srung rest) : ¬ (fneg near = false ∧ frung near = infK) := by
  rintro ⟨h1, h2⟩
  obtain ⟨R, _, _, h3, _⟩ := hn.rung
  rw [h1] at h3
  subst h3
  have := hs.pos.1 h
  unfold Away at this
  simp [h2] at this
theorem Sides.down_ok {neg : Bool} {n D near rest : Nat} (hn : Rn neg n D near) (hs : Sides neg n D near rest) (h : srung rest < 0) : ¬ (fneg (fopp near) = false ∧ frung (fopp near) = infK) := by
  rintro ⟨h1, h2⟩
  obtain ⟨R, _, _, h3, hlt⟩ := hn.rung
  have hp := fopp_parts hlt
  rw [hp.2.1, h3] at h1
  rw [hp.1] at h2
  have : neg = true := by cases neg <;> simp_all
  subst this
  have := hs.neg.1 h
  unfold Away at this
  simp [h2] at this
end Go.Proofs.Ytepdhbhpiehigaa
