import Derived.Test.YtcpbccckjlnkaaaChecked
import Derived.Test.YtcpbccckjlnkaaaPur
import Derived.WalkKit
import Derived.WalkSmall
import Derived.WalkLawsBesides
import Derived.Lib.EndianBits
import Derived.Laws.Bits128
import Derived.Laws.BitsAll
import Derived.Deep.QuietTactic
import Derived.Deep.RegionWith
import Derived.Deep.DeepCutAuto
namespace Go.Proofs.Ytcpbccckjlnkaaa
open Go.RowKit
set_option linter.unusedVariables false

theorem call_bits (u : Nat) (w : World) : (callFunc 49 #[.float .f64 u]).run Try.prog w = .ok (.value (.int .u64 u)) w := by kernel_rfl
theorem call_from (n : Int) (w : World) : (callFunc 60 #[.int .u64 n]).run Try.prog w = .ok (.value (.float .f64 n.toNat)) w := by kernel_rfl

theorem bits_any (u : Nat) (w : World) : Calls Try.prog 32 #[.float .f64 u] w fun e w' => e = .returned (.int .u64 u) ∧ w' = w := by
  have hcb := call_bits
  go_enter Try.func32, Try.ntmps32
  go_wp2
  go_ret
  exact ⟨rfl, rfl⟩
theorem abs_any (u : Nat) (hu : u < 18446744073709551616) (w : World) : Calls Try.prog 38 #[.float .f64 u] w fun e w' => e = .returned (.float .f64 (frung u)) ∧ w' = w := by
  have hcb := call_bits
  have hcf := call_from
  have HE : Hid _ := u64_andNot_nat u 9223372036854775808 hu (by decide)
  go_enter Try.func38, Try.ntmps38
  go_wp2
  go_ret
  refine ⟨?_, rfl⟩
  have h := HE.out
  rw [show ((9223372036854775808 : Nat) : Int) = 9223372036854775808 from rfl] at h
  rw [h, Int.toNat_natCast, show 18446744073709551615 - 9223372036854775808 = 2 ^ 63 - 1 by decide, Nat.and_two_pow_sub_one_eq_mod]
  rfl

/-- What an order tells. -/
theorem ord_le {x y : Nat} : (Ieee.double.order x y == some .lt || Ieee.double.order x y == some .eq) = decide (frung x ≤ infK ∧ frung y ≤ infK ∧ srung x ≤ srung y) := by
  by_cases hx : frung x ≤ infK
  · by_cases hy : frung y ≤ infK
    · rw [order_rung hx hy, icmp]
      by_cases h1 : srung x < srung y
      · have : srung x ≤ srung y := by omega
        simp [h1, hx, hy, this]
      · by_cases h2 : srung x = srung y
        · simp [h2, hx, hy]
        · have : ¬ srung x ≤ srung y := by omega
          simp [h1, h2, this]
    · rw [order_nan (.inr (by omega))]; simp [hy]
  · rw [order_nan (.inl (by omega))]; simp [hx]
theorem ord_lt {x y : Nat} (hx : frung x ≤ infK) (hy : frung y ≤ infK) : (Ieee.double.order x y == some .lt) = decide (srung x < srung y) := by
  rw [order_rung hx hy, icmp]
  by_cases h1 : srung x < srung y
  · simp [h1]
  · by_cases h2 : srung x = srung y <;> simp [h1, h2]
theorem ord_gt {x y : Nat} (hx : frung x ≤ infK) (hy : frung y ≤ infK) : (Ieee.double.order x y == some .gt) = decide (srung y < srung x) := by
  rw [order_rung hx hy, icmp]
  by_cases h1 : srung x < srung y
  · have : ¬ srung y < srung x := by omega
    simp [h1, this]
  · by_cases h2 : srung x = srung y
    · simp [h2]
    · have : srung y < srung x := by omega
      simp [h1, h2, this]
theorem ord_eq {x y : Nat} (hx : frung x ≤ infK) (hy : frung y ≤ infK) : (Ieee.double.order x y == some .eq) = decide (srung x = srung y) := by
  rw [order_rung hx hy, icmp]
  by_cases h1 : srung x < srung y
  · have : ¬ srung x = srung y := by omega
    simp [h1, this]
  · by_cases h2 : srung x = srung y <;> simp [h1, h2]
theorem f64_fmt : FloatKind.f64.format = Ieee.double := rfl

theorem number_any (u : Nat) (hu : u < 18446744073709551616) (w : World) : Calls Try.prog 48 #[.float .f64 u] w fun e w' => e = .returned (.bool (decide (Fin u))) ∧ w' = w := by
  have hE : (FloatKind.f64.format.order (frung u) 9218868437227405311 == some .lt || FloatKind.f64.format.order (frung u) 9218868437227405311 == some .eq) = decide (Fin u) := by
    rw [f64_fmt, ord_le]
    have h1 : frung (frung u) = frung u := by unfold frung; omega
    have h2 : srung (frung u) = frung u := by
      unfold srung fneg; rw [h1]
      have : frung u / 9223372036854775808 = 0 := by unfold frung; omega
      rw [this]; rfl
    have h3 : srung 9218868437227405311 = 9218868437227405311 := by decide
    have h4 : frung 9218868437227405311 = 9218868437227405311 := by decide
    rw [h1, h2, h3, h4]
    unfold Fin infK
    congr 1
    apply propext
    omega
  have HE : Hid _ := hE
  clear hE
  go_enter Try.func48, Try.ntmps48
  go_wp2_with (go_at_call 38; refine (abs_any u hu _).mono ?_; rintro e w' ⟨rfl, rfl⟩)
  go_ret
  exact ⟨by rw [← HE.out]; rfl, rfl⟩

end Go.Proofs.Ytcpbccckjlnkaaa


namespace Go.Proofs.Ytcpbccckjlnkaaa
open Go.RowKit
set_option linter.unusedVariables false

theorem run_mul {x y r : Nat} (h : Ieee.double.mul x y = some r) : ∀ t w, (binOp .mul t (.float .f64 x) (.float .f64 y)).run Try.prog w = .ok (.float .f64 r) w := fun t w => run_float_arith w .mul t .f64 x y r h
theorem run_sub {x y r : Nat} (h : Ieee.double.sub x y = some r) : ∀ t w, (binOp .sub t (.float .f64 x) (.float .f64 y)).run Try.prog w = .ok (.float .f64 r) w := fun t w => run_float_arith w .sub t .f64 x y r h
end Go.Proofs.Ytcpbccckjlnkaaa


namespace Go.Proofs.Ytcpbccckjlnkaaa
open Go.RowKit
set_option linter.unusedVariables false

end Go.Proofs.Ytcpbccckjlnkaaa


namespace Go.Proofs.Ytcpbccckjlnkaaa
open Go.RowKit
set_option linter.unusedVariables false

end Go.Proofs.Ytcpbccckjlnkaaa


namespace Go.Proofs.Ytcpbccckjlnkaaa
open Go.RowKit
set_option linter.unusedVariables false

theorem isNaN_any (u : Nat) (hn : frung u ≤ infK) (w : World) : Calls Try.prog 76 #[.float .f64 u] w fun e w' => e = .returned (.bool false) ∧ w' = w := by
  have hE : (FloatKind.f64.format.order u u != some .eq) = false := by
    have h : (FloatKind.f64.format.order u u == some .eq) = true := by rw [f64_fmt, ord_eq hn hn]; simp
    rw [bne, h]; rfl
  go_enter Try.func76, Try.ntmps76
  go_wp2
  go_ret
  exact ⟨rfl, rfl⟩
theorem frung_twice (u : Nat) : frung (frung u) = frung u ∧ srung (frung u) = frung u ∧ frung u < 18446744073709551616 := by
  have h1 : frung (frung u) = frung u := by unfold frung; omega
  refine ⟨h1, ?_, by unfold frung; omega⟩
  unfold srung fneg; rw [h1]
  have : frung u / 9223372036854775808 = 0 := by unfold frung; omega
  rw [this]; rfl
theorem isInf_any (u : Nat) (hu : u < 18446744073709551616) (hn : Fin u) (w : World) : Calls Try.prog 75 #[.float .f64 u, .int .i64 0] w fun e w' => e = .returned (.bool false) ∧ w' = w := by
  have hE : (FloatKind.f64.format.order (frung u) 9218868437227405311 == some .gt) = false := by
    unfold Fin infK at hn
    have ht := frung_twice u
    rw [f64_fmt, ord_gt (by rw [ht.1]; unfold infK; omega) (by decide), ht.2.1, show srung 9218868437227405311 = 9218868437227405311 by decide]
    apply decide_eq_false; omega
  go_enter Try.func75, Try.ntmps75
  go_wp2_with (go_at_call 38; refine (abs_any u hu _).mono ?_; rintro e w' ⟨rfl, rfl⟩)
  go_ret
  exact ⟨rfl, rfl⟩
theorem isInf_inf (u : Nat) (hu : u < 18446744073709551616) (hn : frung u = infK) (w : World) : Calls Try.prog 75 #[.float .f64 u, .int .i64 0] w fun e w' => e = .returned (.bool true) ∧ w' = w := by
  have hE : (FloatKind.f64.format.order (frung u) 9218868437227405311 == some .gt) = true := by
    have ht := frung_twice u
    rw [f64_fmt, ord_gt (by rw [ht.1, hn]; exact Nat.le_refl _) (by decide), ht.2.1, hn]
    decide
  go_enter Try.func75, Try.ntmps75
  go_wp2_with (go_at_call 38; refine (abs_any u hu _).mono ?_; rintro e w' ⟨rfl, rfl⟩)
  go_ret
  exact ⟨rfl, rfl⟩
theorem inf_up (w : World) : Calls Try.prog 79 #[.int .i64 1] w fun e w' => e = .returned (.float .f64 (Ieee.double.word false infK)) ∧ w' = w := by
  have hcf := call_from
  go_enter Try.func79, Try.ntmps79
  go_wp2
  go_ret
  exact ⟨rfl, rfl⟩
theorem inf_down (w : World) : Calls Try.prog 79 #[.int .i64 (-1)] w fun e w' => e = .returned (.float .f64 (Ieee.double.word true infK)) ∧ w' = w := by
  have hcf := call_from
  go_enter Try.func79, Try.ntmps79
  go_wp2
  go_ret
  exact ⟨rfl, rfl⟩
theorem copysign_any (u : Nat) (hu : u < 18446744073709551616) (w : World) : Calls Try.prog 78 #[.float .f64 0, .float .f64 u] w fun e w' => e = .returned (.float .f64 (Ieee.double.word (fneg u) 0)) ∧ w' = w := by
  have hcb := call_bits
  have hcf := call_from
  have h := u64_and_nat u 9223372036854775808 hu (by decide)
  rw [show ((9223372036854775808 : Nat) : Int) = 9223372036854775808 from rfl, and_sign hu] at h
  go_enter Try.func78, Try.ntmps78
  go_wp2
  go_ret
  refine ⟨?_, rfl⟩
  have h0 : bits .andNot .u64 0 9223372036854775808 = 0 := by decide
  have h1 := u64_or_nat 0 (u / 9223372036854775808 * 9223372036854775808) (by decide) (by omega)
  rw [Nat.zero_or] at h1
  have h2 : (bits .or .u64 (bits .andNot .u64 0 9223372036854775808) ((u : Int) / 9223372036854775808 * 9223372036854775808)).toNat = Ieee.double.word (fneg u) 0 := by
    rw [h0, show (u : Int) / 9223372036854775808 * 9223372036854775808 = ((u / 9223372036854775808 * 9223372036854775808 : Nat) : Int) by omega, show (0 : Int) = ((0 : Nat) : Int) from rfl, h1, Int.toNat_natCast]
    unfold Ieee.Format.word fneg
    rw [dbl_sign]
    have h3 : u / 9223372036854775808 = 0 ∨ u / 9223372036854775808 = 1 := by omega
    rcases h3 with h3 | h3 <;> rw [h3] <;> rfl
  rw [← h2]
  rfl
theorem normalize_same (u : Nat) (hu : u < 18446744073709551616) (hn : frung u ≤ infK) (h : 4503599627370496 ≤ frung u) (w : World) : Calls Try.prog 77 #[.float .f64 u] w fun e w' => e = .returned (.tuple #[.float .f64 u, .int .i64 0]) ∧ w' = w := by
  have hE : (FloatKind.f64.format.order (frung u) 4503599627370496 == some .lt) = false := by
    have ht := frung_twice u
    rw [f64_fmt, ord_lt (by rw [ht.1]; exact hn) (by decide), ht.2.1, show srung 4503599627370496 = 4503599627370496 by decide]
    apply decide_eq_false; omega
  go_enter Try.func77, Try.ntmps77
  go_wp2_with (go_at_call 38; refine (abs_any u hu _).mono ?_; rintro e w' ⟨rfl, rfl⟩)
  go_ret2
  exact ⟨rfl, rfl⟩
theorem normalize_sub (u y : Nat) (hu : u < 18446744073709551616) (h : frung u < 4503599627370496) (hy : Ieee.double.mul u 4841369599423283200 = some y) (w : World) : Calls Try.prog 77 #[.float .f64 u] w fun e w' => e = .returned (.tuple #[.float .f64 y, .int .i64 (-52)]) ∧ w' = w := by
  have hE : (FloatKind.f64.format.order (frung u) 4503599627370496 == some .lt) = true := by
    have ht := frung_twice u
    rw [f64_fmt, ord_lt (by rw [ht.1]; unfold infK; omega) (by decide), ht.2.1, show srung 4503599627370496 = 4503599627370496 by decide]
    apply decide_eq_true; omega
  have hm := run_mul hy
  go_enter Try.func77, Try.ntmps77
  go_wp2_with (go_at_call 38; refine (abs_any u hu _).mono ?_; rintro e w' ⟨rfl, rfl⟩)
  go_ret2
  exact ⟨rfl, rfl⟩
/-- A number that is not nought is made normal. -/
theorem normalize_any (u : Nat) (hu : u < 18446744073709551616) (hf : Fin u) (h0 : frung u ≠ 0) : ∃ y ee Eb f, Norm u y ee Eb f ∧ ∀ w, Calls Try.prog 77 #[.float .f64 u] w fun e w' => e = .returned (.tuple #[.float .f64 y, .int .i64 (-(ee : Int))]) ∧ w' = w := by
  by_cases h : frung u < 4503599627370496
  · obtain ⟨y, Eb, f, hy, hN⟩ := norm_sub hu h h0
    exact ⟨y, 52, Eb, f, hN, fun w => normalize_sub u y hu h hy w⟩
  · exact ⟨u, 0, _, _, norm_same hu hf (by omega), fun w => normalize_same u hu (Nat.le_of_lt hf) (by omega) w⟩
end Go.Proofs.Ytcpbccckjlnkaaa

namespace Go.Proofs.Ytcpbccckjlnkaaa
open Go.RowKit
set_option linter.unusedVariables false

theorem i64_and2047 (n : Nat) (hn : n < 9223372036854775808) : bits .and .i64 (n : Int) 2047 = ((n % 2048 : Nat) : Int) := by
  have h2047 : (BitVec.ofInt 64 2047).toNat = 2 ^ 11 - 1 := by decide
  have key : (BitVec.ofInt 64 n &&& BitVec.ofInt 64 2047).toNat = ((n : Int) % ((2 ^ 64 : Nat) : Int)).toNat % 2 ^ 11 := by
    rw [BitVec.toNat_and, BitVec.toNat_ofInt, h2047, Nat.and_two_pow_sub_one_eq_mod]
  show IntKind.i64.wrap ((BitVec.ofInt 64 n &&& BitVec.ofInt 64 2047).toNat : Nat) = _
  rw [key, IntKind.wrap_i64]
  omega

/-- The fields of a normal word, as the text takes them. -/
theorem field_of {x y ee Eb f : Nat} (hN : Norm x y ee Eb f) : bits .and .i64 ((y : Int) / 4503599627370496) 2047 = Eb := by
  have h1 := hN.word
  have h2 := hN.lt
  have h3 := hN.eb1
  have h4 := hN.f1
  unfold frung at h1
  rw [show (y : Int) / 4503599627370496 = ((y / 4503599627370496 : Nat) : Int) by omega, i64_and2047 _ (by omega)]
  omega
theorem fields_set {x y ee Eb f : Nat} (hN : Norm x y ee Eb f) {k : Nat} (hk : k < 2048) : (bits .or .u64 (bits .andNot .u64 (y : Int) 9218868437227405312) ((k * 4503599627370496 : Nat) : Int)).toNat = Ieee.double.word (fneg x) (k * 4503599627370496 + f) := by
  have h1 := hN.word
  have h2 := hN.lt
  have h3 := hN.eb1
  have h4 := hN.f1
  have h5 := hN.sgn
  unfold frung at h1
  have ha := u64_andNot_nat y 9218868437227405312 h2 (by decide)
  rw [show ((9218868437227405312 : Nat) : Int) = 9218868437227405312 from rfl] at ha
  rw [ha, show 18446744073709551615 - 9218868437227405312 = 9227875636482146303 by decide, and_field h2, show y % 4503599627370496 = f by omega]
  rw [u64_or_nat _ _ (by omega) (by omega), Int.toNat_natCast, or_field (by omega) hk h4]
  unfold Ieee.Format.word
  rw [← h5, dbl_sign]
  unfold fneg
  have h6 : y / 9223372036854775808 = 0 ∨ y / 9223372036854775808 = 1 := by omega
  rcases h6 with h6 | h6 <;> rw [h6] <;> simp <;> omega

theorem ord_zero {x : Nat} (hf : Fin x) (h0 : frung x ≠ 0) : (FloatKind.f64.format.order x 0 == some .eq) = false := by
  rw [f64_fmt, ord_eq (Nat.le_of_lt hf) (by decide)]
  apply decide_eq_false
  unfold srung; rw [show (if fneg 0 = true then -(frung 0 : Int) else (frung 0 : Int)) = 0 by decide]; split <;> omega
theorem ldexp_exact {x y ee Eb f : Nat} (n X : Int) (hx : x < 18446744073709551616) (hf : Fin x) (h0 : frung x ≠ 0) (hN : Norm x y ee Eb f) (hcall : ∀ w, Calls Try.prog 77 #[.float .f64 x] w fun e w' => e = .returned (.tuple #[.float .f64 y, .int .i64 (-(ee : Int))]) ∧ w' = w)
    (hn : -1000000 ≤ n ∧ n ≤ 1000000) (hX : X = n - ee + Eb - 1) (hX0 : 0 ≤ X) (hX1 : X ≤ 2045) (w : World) :
    Calls Try.prog 73 #[.float .f64 x, .int .i64 n] w fun e w' => e = .returned (.float .f64 (Ieee.double.word (fneg x) ((X.toNat + 1) * 4503599627370496 + f))) ∧ w' = w := by
  have hcb := call_bits
  have hcf := call_from
  have hE := ord_zero hf h0
  have he1 := hN.eb0
  have he2 := hN.eb1
  have he3 := hN.e52
  have he4 := hN.lt
  have hfd := field_of hN
  have hS := fields_set hN (k := X.toNat + 1) (by omega)
  rw [show (((X.toNat + 1) * 4503599627370496 : Nat) : Int) = (n + -↑ee + (↑Eb - 1023) + 1023) * 4503599627370496 by omega] at hS
  have hw := word_rung (fneg x) (k := (X.toNat + 1) * 4503599627370496 + f) (by have := hN.f1; omega)
  have hm := run_mul (mul_one_l hw.2.2 (by rw [hw.1]; have := hN.f1; unfold infK; omega))
  clear hw
  have hb0 : 0 ≤ n - ee + Eb - 1 := by omega
  have hb1 : n - ee + Eb - 1 ≤ 2045 := by omega
  generalize Ieee.double.word (fneg x) ((X.toNat + 1) * 4503599627370496 + f) = W at *
  clear hX hX0 hX1
  go_enter Try.func73, Try.ntmps73
  go_wp2_with (first
    | (go_at_call 75; refine (isInf_any x hx hf _).mono ?_; rintro e w' ⟨rfl, rfl⟩)
    | (go_at_call 76; refine (isNaN_any x (Nat.le_of_lt hf) _).mono ?_; rintro e w' ⟨rfl, rfl⟩)
    | (go_at_call 77; refine (hcall _).mono ?_; rintro e w' ⟨rfl, rfl⟩))
  go_ret
  exact ⟨rfl, rfl⟩
theorem ldexp_small {x y ee Eb f : Nat} (n X : Int) (hx : x < 18446744073709551616) (hf : Fin x) (h0 : frung x ≠ 0) (hN : Norm x y ee Eb f) (hcall : ∀ w, Calls Try.prog 77 #[.float .f64 x] w fun e w' => e = .returned (.tuple #[.float .f64 y, .int .i64 (-(ee : Int))]) ∧ w' = w)
    (hn : -1000000 ≤ n ∧ n ≤ 1000000) (hX : X = n - ee + Eb - 1) (hX0 : -53 ≤ X) (hX1 : X < 0) {r : Nat} (hr : Ieee.double.mul 4368491638549381120 (Ieee.double.word (fneg x) ((X + 54).toNat * 4503599627370496 + f)) = some r) (w : World) :
    Calls Try.prog 73 #[.float .f64 x, .int .i64 n] w fun e w' => e = .returned (.float .f64 (r)) ∧ w' = w := by
  have hcb := call_bits
  have hcf := call_from
  have hE := ord_zero hf h0
  have he1 := hN.eb0
  have he2 := hN.eb1
  have he3 := hN.e52
  have he4 := hN.lt
  have hfd := field_of hN
  have hS := fields_set hN (k := (X + 54).toNat) (by omega)
  rw [show (((X + 54).toNat * 4503599627370496 : Nat) : Int) = (n + -↑ee + (↑Eb - 1023) + 53 + 1023) * 4503599627370496 by omega] at hS
  have hm := run_mul hr
  have hb0 : -53 ≤ n - ee + Eb - 1 := by omega
  have hb1 : n - ee + Eb - 1 < 0 := by omega
  generalize Ieee.double.word (fneg x) ((X + 54).toNat * 4503599627370496 + f) = W at *
  clear hX hX0 hX1 hr
  go_enter Try.func73, Try.ntmps73
  go_wp2_with (first
    | (go_at_call 75; refine (isInf_any x hx hf _).mono ?_; rintro e w' ⟨rfl, rfl⟩)
    | (go_at_call 76; refine (isNaN_any x (Nat.le_of_lt hf) _).mono ?_; rintro e w' ⟨rfl, rfl⟩)
    | (go_at_call 77; refine (hcall _).mono ?_; rintro e w' ⟨rfl, rfl⟩))
  go_ret
  exact ⟨rfl, rfl⟩
theorem ldexp_under {x y ee Eb f : Nat} (n X : Int) (hx : x < 18446744073709551616) (hf : Fin x) (h0 : frung x ≠ 0) (hN : Norm x y ee Eb f) (hcall : ∀ w, Calls Try.prog 77 #[.float .f64 x] w fun e w' => e = .returned (.tuple #[.float .f64 y, .int .i64 (-(ee : Int))]) ∧ w' = w)
    (hn : -1000000 ≤ n ∧ n ≤ 1000000) (hX : X = n - ee + Eb - 1) (hX0 : X < -53) (w : World) :
    Calls Try.prog 73 #[.float .f64 x, .int .i64 n] w fun e w' => e = .returned (.float .f64 (Ieee.double.word (fneg x) 0)) ∧ w' = w := by
  have hcb := call_bits
  have hcf := call_from
  have hE := ord_zero hf h0
  have he1 := hN.eb0
  have he2 := hN.eb1
  have he3 := hN.e52
  have he4 := hN.lt
  have hfd := field_of hN
  have hsg := hN.sgn
  go_enter Try.func73, Try.ntmps73
  go_wp2_with (first
    | (go_at_call 75; refine (isInf_any x hx hf _).mono ?_; rintro e w' ⟨rfl, rfl⟩)
    | (go_at_call 76; refine (isNaN_any x (Nat.le_of_lt hf) _).mono ?_; rintro e w' ⟨rfl, rfl⟩)
    | (go_at_call 78; refine (copysign_any y he4 _).mono ?_; rintro e w' ⟨rfl, rfl⟩; rw [hsg])
    | (go_at_call 77; refine (hcall _).mono ?_; rintro e w' ⟨rfl, rfl⟩))
  go_ret
  exact ⟨rfl, rfl⟩
theorem ord_neg {y : Nat} (hy : frung y ≤ infK) (h0 : frung y ≠ 0) : (FloatKind.f64.format.order y 0 == some .lt) = fneg y := by
  rw [f64_fmt, ord_lt hy (by decide), show srung 0 = 0 by decide]
  unfold srung
  cases fneg y <;> simp <;> omega
theorem ldexp_over_neg {x y ee Eb f : Nat} (n X : Int) (hx : x < 18446744073709551616) (hf : Fin x) (h0 : frung x ≠ 0) (hN : Norm x y ee Eb f) (hcall : ∀ w, Calls Try.prog 77 #[.float .f64 x] w fun e w' => e = .returned (.tuple #[.float .f64 y, .int .i64 (-(ee : Int))]) ∧ w' = w)
    (hn : -1000000 ≤ n ∧ n ≤ 1000000) (hX : X = n - ee + Eb - 1) (hX0 : 2045 < X) (hneg : fneg x = true) (w : World) :
    Calls Try.prog 73 #[.float .f64 x, .int .i64 n] w fun e w' => e = .returned (.float .f64 (Ieee.double.word (fneg x) infK)) ∧ w' = w := by
  have hcb := call_bits
  have hcf := call_from
  have hE := ord_zero hf h0
  have he1 := hN.eb0
  have he2 := hN.eb1
  have he3 := hN.e52
  have he4 := hN.lt
  have hfd := field_of hN
  have hlt : (FloatKind.f64.format.order y 0 == some .lt) = true := by
    have h1 := hN.word
    have h2 := hN.f1
    rw [ord_neg (by rw [h1]; unfold infK; omega) (by rw [h1]; omega), hN.sgn, hneg]
  rw [hneg]
  go_enter Try.func73, Try.ntmps73
  go_wp2_with (first
    | (go_at_call 75; refine (isInf_any x hx hf _).mono ?_; rintro e w' ⟨rfl, rfl⟩)
    | (go_at_call 76; refine (isNaN_any x (Nat.le_of_lt hf) _).mono ?_; rintro e w' ⟨rfl, rfl⟩)
    | (go_at_call 79; refine (inf_down _).mono ?_; rintro e w' ⟨rfl, rfl⟩)
    | (go_at_call 77; refine (hcall _).mono ?_; rintro e w' ⟨rfl, rfl⟩))
  go_ret
  exact ⟨rfl, rfl⟩
theorem ldexp_over_pos {x y ee Eb f : Nat} (n X : Int) (hx : x < 18446744073709551616) (hf : Fin x) (h0 : frung x ≠ 0) (hN : Norm x y ee Eb f) (hcall : ∀ w, Calls Try.prog 77 #[.float .f64 x] w fun e w' => e = .returned (.tuple #[.float .f64 y, .int .i64 (-(ee : Int))]) ∧ w' = w)
    (hn : -1000000 ≤ n ∧ n ≤ 1000000) (hX : X = n - ee + Eb - 1) (hX0 : 2045 < X) (hneg : fneg x = false) (w : World) :
    Calls Try.prog 73 #[.float .f64 x, .int .i64 n] w fun e w' => e = .returned (.float .f64 (Ieee.double.word (fneg x) infK)) ∧ w' = w := by
  have hcb := call_bits
  have hcf := call_from
  have hE := ord_zero hf h0
  have he1 := hN.eb0
  have he2 := hN.eb1
  have he3 := hN.e52
  have he4 := hN.lt
  have hfd := field_of hN
  have hlt : (FloatKind.f64.format.order y 0 == some .lt) = false := by
    have h1 := hN.word
    have h2 := hN.f1
    rw [ord_neg (by rw [h1]; unfold infK; omega) (by rw [h1]; omega), hN.sgn, hneg]
  rw [hneg]
  go_enter Try.func73, Try.ntmps73
  go_wp2_with (first
    | (go_at_call 75; refine (isInf_any x hx hf _).mono ?_; rintro e w' ⟨rfl, rfl⟩)
    | (go_at_call 76; refine (isNaN_any x (Nat.le_of_lt hf) _).mono ?_; rintro e w' ⟨rfl, rfl⟩)
    | (go_at_call 79; refine (inf_up _).mono ?_; rintro e w' ⟨rfl, rfl⟩)
    | (go_at_call 77; refine (hcall _).mono ?_; rintro e w' ⟨rfl, rfl⟩))
  go_ret
  exact ⟨rfl, rfl⟩
theorem ldexp_zero (x : Nat) (n : Int) (h0 : frung x = 0) (w : World) : Calls Try.prog 73 #[.float .f64 x, .int .i64 n] w fun e w' => e = .returned (.float .f64 x) ∧ w' = w := by
  have hE : (FloatKind.f64.format.order x 0 == some .eq) = true := by
    rw [f64_fmt, ord_eq (by rw [h0]; exact Nat.zero_le _) (by decide)]
    apply decide_eq_true
    unfold srung; rw [show (if fneg 0 = true then -(frung 0 : Int) else (frung 0 : Int)) = 0 by decide, h0]; split <;> rfl
  go_enter Try.func73, Try.ntmps73
  go_wp2
  go_ret
  exact ⟨rfl, rfl⟩
theorem ldexp_inf (x : Nat) (n : Int) (hx : x < 18446744073709551616) (h0 : frung x = infK) (w : World) : Calls Try.prog 73 #[.float .f64 x, .int .i64 n] w fun e w' => e = .returned (.float .f64 x) ∧ w' = w := by
  have hE : (FloatKind.f64.format.order x 0 == some .eq) = false := by
    rw [f64_fmt, ord_eq (Nat.le_of_eq h0) (by decide)]
    apply decide_eq_false
    unfold srung; rw [show (if fneg 0 = true then -(frung 0 : Int) else (frung 0 : Int)) = 0 by decide, h0]; unfold infK; split <;> omega
  go_enter Try.func73, Try.ntmps73
  go_wp2_with (go_at_call 75; refine (isInf_inf x hx h0 _).mono ?_; rintro e w' ⟨rfl, rfl⟩)
  go_ret
  exact ⟨rfl, rfl⟩
/-- Ldexp: the nearest number to x 2^n; nought and infinities stay. -/
theorem ldexp_any (x : Nat) (n : Int) (hx : x < 18446744073709551616) (hn : -1000000 ≤ n ∧ n ≤ 1000000) (hf : frung x ≤ infK) : ∃ r, (Fin x → Pow x n r) ∧ (frung x = infK → r = x) ∧ r < 18446744073709551616 ∧
    ∀ w, Calls Try.prog 65 #[.float .f64 x, .int .i64 n] w fun e w' => e = .returned (.float .f64 r) ∧ w' = w := by
  have key : ∃ r, (Fin x → Pow x n r) ∧ (frung x = infK → r = x) ∧ r < 18446744073709551616 ∧ ∀ w, Calls Try.prog 73 #[.float .f64 x, .int .i64 n] w fun e w' => e = .returned (.float .f64 r) ∧ w' = w := by
    rcases Nat.lt_or_eq_of_le hf with hf | hf
    · have hni : frung x = infK → ∀ r, r = x := fun h => by omega
      by_cases h0 : frung x = 0
      · exact ⟨x, fun _ => pow_zero hx h0 n, fun _ => rfl, hx, fun w => ldexp_zero x n h0 w⟩
      · obtain ⟨y, ee, Eb, f, hN, hcall⟩ := normalize_any x hx hf h0
        have hf1 := hN.f1
        by_cases h1 : n - ee + Eb - 1 < -53
        · exact ⟨_, fun _ => pow_under hN rfl h1, fun h => hni h _, (word_rung (fneg x) (k := 0) (by decide)).2.2, fun w => ldexp_under n _ hx hf h0 hN hcall hn rfl h1 w⟩
        · by_cases h2 : 2045 < n - ee + Eb - 1
          · refine ⟨_, fun _ => pow_over hN rfl h2, fun h => hni h _, (word_rung (fneg x) (k := infK) (by decide)).2.2, fun w => ?_⟩
            cases hb : fneg x
            · have := ldexp_over_pos n _ hx hf h0 hN hcall hn rfl h2 hb w
              rw [hb] at this; exact this
            · have := ldexp_over_neg n _ hx hf h0 hN hcall hn rfl h2 hb w
              rw [hb] at this; exact this
          · by_cases h3 : n - ee + Eb - 1 < 0
            · obtain ⟨r, hr, hp, hl⟩ := pow_small hN (n := n) rfl (by omega) h3
              exact ⟨r, fun _ => hp, fun h => hni h _, hl, fun w => ldexp_small n _ hx hf h0 hN hcall hn rfl (by omega) h3 hr w⟩
            · exact ⟨_, fun _ => pow_exact hN rfl (by omega) (by omega), fun h => hni h _, (word_rung (fneg x) (by omega)).2.2, fun w => ldexp_exact n _ hx hf h0 hN hcall hn rfl (by omega) (by omega) w⟩
    · exact ⟨x, fun h => by unfold Fin at h; omega, fun _ => rfl, hx, fun w => ldexp_inf x n hx hf w⟩
  obtain ⟨r, h1, h2, h3, h4⟩ := key
  refine ⟨r, h1, h2, h3, fun w => ?_⟩
  go_enter Try.func65, Try.ntmps65
  go_wp2_with (go_at_call 73; refine (h4 _).mono ?_; rintro e w' ⟨rfl, rfl⟩)
  go_ret
  exact ⟨rfl, rfl⟩
end Go.Proofs.Ytcpbccckjlnkaaa


namespace Go.Proofs.Ytcpbccckjlnkaaa
open Go.RowKit
set_option linter.unusedVariables false

end Go.Proofs.Ytcpbccckjlnkaaa


namespace Go.Proofs.Ytcpbccckjlnkaaa
open Go.RowKit
set_option linter.unusedVariables false

end Go.Proofs.Ytcpbccckjlnkaaa


namespace Go.Proofs.Ytcpbccckjlnkaaa
open Go.RowKit
set_option linter.unusedVariables false

end Go.Proofs.Ytcpbccckjlnkaaa


namespace Go.Proofs.Ytcpbccckjlnkaaa
open Go.RowKit
set_option linter.unusedVariables false

end Go.Proofs.Ytcpbccckjlnkaaa


namespace Go.Proofs.Ytcpbccckjlnkaaa
open Go.RowKit
set_option linter.unusedVariables false

end Go.Proofs.Ytcpbccckjlnkaaa


namespace Go.Proofs.Ytcpbccckjlnkaaa
open Go.RowKit
set_option linter.unusedVariables false

end Go.Proofs.Ytcpbccckjlnkaaa


namespace Go.Proofs.Ytcpbccckjlnkaaa
open Go.RowKit
set_option linter.unusedVariables false

end Go.Proofs.Ytcpbccckjlnkaaa


namespace Go.Proofs.Ytcpbccckjlnkaaa
open Go.RowKit
set_option linter.unusedVariables false

end Go.Proofs.Ytcpbccckjlnkaaa

