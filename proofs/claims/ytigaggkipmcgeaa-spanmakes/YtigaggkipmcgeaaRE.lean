import Derived.Test.YtigaggkipmcgeaaRD
import Derived.Test.YtigaggkipmcgeaaPur
namespace Go.Proofs.Ytigaggkipmcgeaa
open Go.RowKit
set_option linter.unusedVariables false

theorem isNaN_any (u : Nat) (hn : frung u ≤ infK) (w : World) : Calls Try.prog 140 #[.float .f64 u] w fun e w' => e = .returned (.bool false) ∧ w' = w := by
  have hE : (FloatKind.f64.format.order u u != some .eq) = false := by
    have h : (FloatKind.f64.format.order u u == some .eq) = true := by rw [f64_fmt, ord_eq hn hn]; simp
    rw [bne, h]; rfl
  go_enter Try.func140, Try.ntmps140
  go_wp2
  go_ret
  exact ⟨rfl, rfl⟩
theorem frung_twice (u : Nat) : frung (frung u) = frung u ∧ srung (frung u) = frung u ∧ frung u < 18446744073709551616 := by
  have h1 : frung (frung u) = frung u := by unfold frung; omega
  refine ⟨h1, ?_, by unfold frung; omega⟩
  unfold srung fneg; rw [h1]
  have : frung u / 9223372036854775808 = 0 := by unfold frung; omega
  rw [this]; rfl
theorem isInf_any (u : Nat) (hu : u < 18446744073709551616) (hn : Fin u) (w : World) : Calls Try.prog 139 #[.float .f64 u, .int .i64 0] w fun e w' => e = .returned (.bool false) ∧ w' = w := by
  have hE : (FloatKind.f64.format.order (frung u) 9218868437227405311 == some .gt) = false := by
    unfold Fin infK at hn
    have ht := frung_twice u
    rw [f64_fmt, ord_gt (by rw [ht.1]; unfold infK; omega) (by decide), ht.2.1, show srung 9218868437227405311 = 9218868437227405311 by decide]
    apply decide_eq_false; omega
  go_enter Try.func139, Try.ntmps139
  go_wp2_with (go_at_call 131; refine (abs_any u hu _).mono ?_; rintro e w' ⟨rfl, rfl⟩)
  go_ret
  exact ⟨rfl, rfl⟩
theorem isInf_inf (u : Nat) (hu : u < 18446744073709551616) (hn : frung u = infK) (w : World) : Calls Try.prog 139 #[.float .f64 u, .int .i64 0] w fun e w' => e = .returned (.bool true) ∧ w' = w := by
  have hE : (FloatKind.f64.format.order (frung u) 9218868437227405311 == some .gt) = true := by
    have ht := frung_twice u
    rw [f64_fmt, ord_gt (by rw [ht.1, hn]; exact Nat.le_refl _) (by decide), ht.2.1, hn]
    decide
  go_enter Try.func139, Try.ntmps139
  go_wp2_with (go_at_call 131; refine (abs_any u hu _).mono ?_; rintro e w' ⟨rfl, rfl⟩)
  go_ret
  exact ⟨rfl, rfl⟩
theorem inf_up (w : World) : Calls Try.prog 143 #[.int .i64 1] w fun e w' => e = .returned (.float .f64 (Ieee.double.word false infK)) ∧ w' = w := by
  have hcf := call_from
  go_enter Try.func143, Try.ntmps143
  go_wp2
  go_ret
  exact ⟨rfl, rfl⟩
theorem inf_down (w : World) : Calls Try.prog 143 #[.int .i64 (-1)] w fun e w' => e = .returned (.float .f64 (Ieee.double.word true infK)) ∧ w' = w := by
  have hcf := call_from
  go_enter Try.func143, Try.ntmps143
  go_wp2
  go_ret
  exact ⟨rfl, rfl⟩
theorem copysign_any (u : Nat) (hu : u < 18446744073709551616) (w : World) : Calls Try.prog 142 #[.float .f64 0, .float .f64 u] w fun e w' => e = .returned (.float .f64 (Ieee.double.word (fneg u) 0)) ∧ w' = w := by
  have hcb := call_bits
  have hcf := call_from
  have h := u64_and_nat u 9223372036854775808 hu (by decide)
  rw [show ((9223372036854775808 : Nat) : Int) = 9223372036854775808 from rfl, and_sign hu] at h
  go_enter Try.func142, Try.ntmps142
  go_wp2
  go_ret
  refine ⟨?_, rfl⟩
  have h0 : bits .andNot .u64 0 9223372036854775808 = 0 := by decide
  have h1 := u64_or_nat 0 (u / 9223372036854775808 * 9223372036854775808) (by decide) (by omega)
  rw [Nat.zero_or] at h1
  have h2 : (bits .or .u64 (bits .andNot .u64 0 9223372036854775808) ((u : Int) / 9223372036854775808 * 9223372036854775808)).toNat = Ieee.double.word (fneg u) 0 := by
    rw [h0, show (u : Int) / 9223372036854775808 * 9223372036854775808 = ((u / 9223372036854775808 * 9223372036854775808 : Nat) : Int) by omega, show (0 : Int) = ((0 : Nat) : Int) from rfl, h1, Int.toNat_natCast]
    unfold Ieee.Format.word fneg
    rw [dbl_sign]
    have h3 : u / 9223372036854775808 = 0 ∨ u / 9223372036854775808 = 1 := by omega
    rcases h3 with h3 | h3 <;> rw [h3] <;> rfl
  rw [← h2]
  rfl
theorem normalize_same (u : Nat) (hu : u < 18446744073709551616) (hn : frung u ≤ infK) (h : 4503599627370496 ≤ frung u) (w : World) : Calls Try.prog 141 #[.float .f64 u] w fun e w' => e = .returned (.tuple #[.float .f64 u, .int .i64 0]) ∧ w' = w := by
  have hE : (FloatKind.f64.format.order (frung u) 4503599627370496 == some .lt) = false := by
    have ht := frung_twice u
    rw [f64_fmt, ord_lt (by rw [ht.1]; exact hn) (by decide), ht.2.1, show srung 4503599627370496 = 4503599627370496 by decide]
    apply decide_eq_false; omega
  go_enter Try.func141, Try.ntmps141
  go_wp2_with (go_at_call 131; refine (abs_any u hu _).mono ?_; rintro e w' ⟨rfl, rfl⟩)
  go_ret2
  exact ⟨rfl, rfl⟩
theorem normalize_sub (u y : Nat) (hu : u < 18446744073709551616) (h : frung u < 4503599627370496) (hy : Ieee.double.mul u 4841369599423283200 = some y) (w : World) : Calls Try.prog 141 #[.float .f64 u] w fun e w' => e = .returned (.tuple #[.float .f64 y, .int .i64 (-52)]) ∧ w' = w := by
  have hE : (FloatKind.f64.format.order (frung u) 4503599627370496 == some .lt) = true := by
    have ht := frung_twice u
    rw [f64_fmt, ord_lt (by rw [ht.1]; unfold infK; omega) (by decide), ht.2.1, show srung 4503599627370496 = 4503599627370496 by decide]
    apply decide_eq_true; omega
  have hm := run_mul hy
  go_enter Try.func141, Try.ntmps141
  go_wp2_with (go_at_call 131; refine (abs_any u hu _).mono ?_; rintro e w' ⟨rfl, rfl⟩)
  go_ret2
  exact ⟨rfl, rfl⟩
/-- A number that is not nought is made normal. -/
theorem normalize_any (u : Nat) (hu : u < 18446744073709551616) (hf : Fin u) (h0 : frung u ≠ 0) : ∃ y ee Eb f, Norm u y ee Eb f ∧ ∀ w, Calls Try.prog 141 #[.float .f64 u] w fun e w' => e = .returned (.tuple #[.float .f64 y, .int .i64 (-(ee : Int))]) ∧ w' = w := by
  by_cases h : frung u < 4503599627370496
  · obtain ⟨y, Eb, f, hy, hN⟩ := norm_sub hu h h0
    exact ⟨y, 52, Eb, f, hN, fun w => normalize_sub u y hu h hy w⟩
  · exact ⟨u, 0, _, _, norm_same hu hf (by omega), fun w => normalize_same u hu (Nat.le_of_lt hf) (by omega) w⟩
end Go.Proofs.Ytigaggkipmcgeaa
