import Derived.Test.YtepdhbhpiehigaaProds
namespace Go.Proofs.Ytepdhbhpiehigaa
open Ieee
set_option linter.unusedVariables false

/-- The exponent's field taken out of a word. -/
theorem and_field {y : Nat} (hy : y < 18446744073709551616) : y &&& 9227875636482146303 = y / 9223372036854775808 * 9223372036854775808 + y % 4503599627370496 := by
  have h1 : (y &&& 9227875636482146303) % 2 ^ 52 = y % 2 ^ 52 := by
    rw [Nat.and_mod_two_pow, show 9227875636482146303 % 2 ^ 52 = 2 ^ 52 - 1 by decide, Nat.and_two_pow_sub_one_eq_mod, Nat.mod_mod]
  have h2 : (y &&& 9227875636482146303) / 2 ^ 52 = y / 2 ^ 52 &&& 2048 := by
    rw [Nat.and_div_two_pow]
  have key : ∀ a, a < 4096 → a &&& 2048 = a / 2048 * 2048 := by
    intro a ha
    have h1 : (a &&& 2048) % 2 ^ 11 = 0 := by rw [Nat.and_mod_two_pow, show 2048 % 2 ^ 11 = 0 by decide, Nat.and_zero]
    have h2 : (a &&& 2048) / 2 ^ 11 = a / 2 ^ 11 &&& 1 := by rw [Nat.and_div_two_pow]
    have hp : (2 : Nat) ^ 11 = 2048 := by decide
    rw [hp] at h1 h2
    have h3 : a / 2048 = 0 ∨ a / 2048 = 1 := by omega
    rcases h3 with h3 | h3
    · rw [h3] at h2 ⊢; have : (0 &&& 1 : Nat) = 0 := by decide
      omega
    · rw [h3] at h2 ⊢; have : (1 &&& 1 : Nat) = 1 := by decide
      omega
  have hp : (2 : Nat) ^ 52 = 4503599627370496 := by decide
  rw [hp] at h1 h2
  rw [key _ (by omega)] at h2
  omega
theorem or_field {s k f : Nat} (hs : s < 2) (hk : k < 2048) (hf : f < 4503599627370496) : (s * 9223372036854775808 + f) ||| (k * 4503599627370496) = s * 9223372036854775808 + k * 4503599627370496 + f := by
  have hp : (2 : Nat) ^ 52 = 4503599627370496 := by decide
  have h1 : ((s * 9223372036854775808 + f) ||| (k * 4503599627370496)) % 2 ^ 52 = f := by
    rw [Nat.or_mod_two_pow, hp, show (s * 9223372036854775808 + f) % 4503599627370496 = f by omega, show k * 4503599627370496 % 4503599627370496 = 0 by omega, Nat.or_zero]
  have h2 : ((s * 9223372036854775808 + f) ||| (k * 4503599627370496)) / 2 ^ 52 = s * 2048 + k := by
    rw [Nat.or_div_two_pow, hp, show (s * 9223372036854775808 + f) / 4503599627370496 = s * 2048 by omega, show k * 4503599627370496 / 4503599627370496 = k by omega]
    have := Nat.two_pow_add_eq_or_of_lt (i := 11) (b := k) (by omega) s
    rw [show (2 : Nat) ^ 11 = 2048 by decide] at this
    rw [Nat.mul_comm]
    omega
  rw [hp] at h1 h2
  omega
theorem and_2047 {y : Nat} : y &&& 2047 = y % 2048 := by
  have := Nat.and_two_pow_sub_one_eq_mod y 11
  rw [show (2 : Nat) ^ 11 - 1 = 2047 by decide, show (2 : Nat) ^ 11 = 2048 by decide] at this
  exact this
theorem and_sign {y : Nat} (hy : y < 18446744073709551616) : y &&& 9223372036854775808 = y / 9223372036854775808 * 9223372036854775808 := by
  have h1 : (y &&& 9223372036854775808) % 2 ^ 63 = 0 := by
    rw [Nat.and_mod_two_pow, show 9223372036854775808 % 2 ^ 63 = 0 by decide, Nat.and_zero]
  have h2 : (y &&& 9223372036854775808) / 2 ^ 63 = y / 2 ^ 63 &&& 1 := by
    rw [Nat.and_div_two_pow]
  have hp : (2 : Nat) ^ 63 = 9223372036854775808 := by decide
  rw [hp] at h1 h2
  have h3 : y / 9223372036854775808 = 0 ∨ y / 9223372036854775808 = 1 := by omega
  rcases h3 with h3 | h3
  · rw [h3] at h2 ⊢; have : (0 &&& 1 : Nat) = 0 := by decide
    omega
  · rw [h3] at h2 ⊢; have : (1 &&& 1 : Nat) = 1 := by decide
    omega

/-- A normal word beside x: x's value without what was shifted. -/
structure Norm (x y ee Eb f : Nat) : Prop where
  lt : y < 18446744073709551616
  sgn : fneg y = fneg x
  word : frung y = Eb * 4503599627370496 + f
  eb0 : 1 ≤ Eb
  eb1 : Eb ≤ 2046
  f1 : f < 4503599627370496
  val : rmag (frung x) * 2 ^ ee = (4503599627370496 + f) * 2 ^ (Eb - 1)
  e52 : ee = 0 ∨ ee = 52

theorem norm_same {x : Nat} (hx : x < 18446744073709551616) (hf : Fin x) (hn : 4503599627370496 ≤ frung x) : Norm x x 0 (frung x / 4503599627370496) (frung x % 4503599627370496) := by
  unfold Fin infK at hf
  refine ⟨hx, rfl, by omega, by omega, by omega, by omega, ?_, .inl rfl⟩
  rw [Nat.pow_zero, Nat.mul_one]
  have h := rmag_form (frung x / 4503599627370496 - 1) (4503599627370496 + frung x % 4503599627370496) (.inr (by omega)) (by omega)
  rw [show (frung x / 4503599627370496 - 1) * 4503599627370496 + (4503599627370496 + frung x % 4503599627370496) = frung x by omega] at h
  exact h
theorem rung_p52 {e E : Nat} (he : e = 1074) (hE : E = 1074) : Sc E 4503599627370496 4841369599423283200 := by
  have hr : frung 4841369599423283200 = 4841369599423283200 := by decide
  refine ⟨by unfold Fin; rw [hr]; decide, by decide, ?_⟩
  have hn : fneg 4841369599423283200 = false := by decide
  have h := rmag_form e 4503599627370496 (.inr (Nat.le_refl _)) (by omega)
  rw [show e * 4503599627370496 + 4503599627370496 = 4841369599423283200 by omega] at h
  have hv := fval_signs 4841369599423283200
  unfold fval
  obtain rfl : e = E := by omega
  rw [hn, hr, h, Int.natCast_mul, Int.natCast_pow]
  rfl
theorem norm_sub {x : Nat} (hx : x < 18446744073709551616) (hf : frung x < 4503599627370496) (h0 : frung x ≠ 0) : ∃ y Eb f, double.mul x 4841369599423283200 = some y ∧ Norm x y 52 Eb f := by
  obtain ⟨E, hE⟩ : ∃ e : Nat, e = 1074 := ⟨_, rfl⟩
  have hfx : Fin x := by unfold Fin infK; omega
  have hm : rmag (frung x) = frung x := by unfold rmag; rw [if_pos hf]
  have hsx : Sc 0 (fval x) x := ⟨hfx, hx, by rw [Int.pow_zero, Int.mul_one]⟩
  have hab : (fval x).natAbs = frung x := by rw [fval_abs, hm]
  obtain ⟨y, hy, hyS⟩ := sc_mul_exact (t := 52) (b' := 0) hE (by omega) hsx (rung_p52 hE hE) (by rw [Int.natAbs_mul]; exact ⟨(fval x).natAbs, by rw [Nat.mul_comm]; rfl⟩) (by rw [Int.natAbs_mul, hab]; show frung x * 4503599627370496 ≤ 9007199254740992 * 4503599627370496; omega) (by omega)
  have hyv : fval y = fval x * 4503599627370496 := by have := hyS.2.2; rw [Int.pow_zero, Int.mul_one] at this; exact this
  have hyr : rmag (frung y) = frung x * 4503599627370496 := by rw [← fval_abs, hyv, Int.natAbs_mul, hab]; rfl
  have hge : 4503599627370496 ≤ frung y := by
    refine le_of_rmag ?_
    rw [hyr, show rmag 4503599627370496 = 4503599627370496 by decide]
    omega
  have hsg : fneg y = fneg x := by
    have sx := fval_signs x
    have sy := fval_signs y
    have hp : 0 < frung x := by omega
    cases h1 : fneg x <;> cases h2 : fneg y
    · rfl
    · have := sx.2 h1; have := sy.1 h2; omega
    · have := sx.1 h1; have := sy.2 h2; omega
    · rfl
  have hN := norm_same hyS.2.1 hyS.1 hge
  refine ⟨y, _, _, hy, ⟨hyS.2.1, hsg, hN.word, hN.eb0, hN.eb1, hN.f1, ?_, .inr rfl⟩⟩
  have := hN.val
  rw [Nat.pow_zero, Nat.mul_one, hyr] at this
  rw [hm, ← this]
end Go.Proofs.Ytepdhbhpiehigaa
