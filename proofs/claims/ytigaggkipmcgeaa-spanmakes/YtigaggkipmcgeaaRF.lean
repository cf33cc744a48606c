import Derived.Test.YtigaggkipmcgeaaRE
namespace Go.Proofs.Ytigaggkipmcgeaa
open Go.RowKit
set_option linter.unusedVariables false

theorem i64_and2047 (n : Nat) (hn : n < 9223372036854775808) : bits .and .i64 (n : Int) 2047 = ((n % 2048 : Nat) : Int) := by
  have h2047 : (BitVec.ofInt 64 2047).toNat = 2 ^ 11 - 1 := by decide
  have key : (BitVec.ofInt 64 n &&& BitVec.ofInt 64 2047).toNat = ((n : Int) % ((2 ^ 64 : Nat) : Int)).toNat % 2 ^ 11 := by
    rw [BitVec.toNat_and, BitVec.toNat_ofInt, h2047, Nat.and_two_pow_sub_one_eq_mod]
  show IntKind.i64.wrap ((BitVec.ofInt 64 n &&& BitVec.ofInt 64 2047).toNat : Nat) = _
  rw [key, IntKind.wrap_i64]
  omega

/-- The fields of a normal word, as the text takes them. -/
theorem field_of {x y ee Eb f : Nat} (hN : Norm x y ee Eb f) : bits .and .i64 ((y : Int) / 4503599627370496) 2047 = Eb := by
  have h1 := hN.word
  have h2 := hN.lt
  have h3 := hN.eb1
  have h4 := hN.f1
  unfold frung at h1
  rw [show (y : Int) / 4503599627370496 = ((y / 4503599627370496 : Nat) : Int) by omega, i64_and2047 _ (by omega)]
  omega
theorem field_u {x y ee Eb f : Nat} (hN : Norm x y ee Eb f) : bits .and .u64 ((y : Int) / 4503599627370496) 2047 = Eb := by
  have h1 := hN.word
  have h2 := hN.lt
  have h3 := hN.eb1
  have h4 := hN.f1
  unfold frung at h1
  have := u64_and_nat (y / 4503599627370496) 2047 (by omega) (by decide)
  rw [show (y : Int) / 4503599627370496 = ((y / 4503599627370496 : Nat) : Int) by omega]
  rw [show ((2047 : Nat) : Int) = 2047 from rfl] at this
  rw [this, and_2047]
  omega
theorem fields_set {x y ee Eb f : Nat} (hN : Norm x y ee Eb f) {k : Nat} (hk : k < 2048) : (bits .or .u64 (bits .andNot .u64 (y : Int) 9218868437227405312) ((k * 4503599627370496 : Nat) : Int)).toNat = Ieee.double.word (fneg x) (k * 4503599627370496 + f) := by
  have h1 := hN.word
  have h2 := hN.lt
  have h3 := hN.eb1
  have h4 := hN.f1
  have h5 := hN.sgn
  unfold frung at h1
  have ha := u64_andNot_nat y 9218868437227405312 h2 (by decide)
  rw [show ((9218868437227405312 : Nat) : Int) = 9218868437227405312 from rfl] at ha
  rw [ha, show 18446744073709551615 - 9218868437227405312 = 9227875636482146303 by decide, and_field h2, show y % 4503599627370496 = f by omega]
  rw [u64_or_nat _ _ (by omega) (by omega), Int.toNat_natCast, or_field (by omega) hk h4]
  unfold Ieee.Format.word
  rw [← h5, dbl_sign]
  unfold fneg
  have h6 : y / 9223372036854775808 = 0 ∨ y / 9223372036854775808 = 1 := by omega
  rcases h6 with h6 | h6 <;> rw [h6] <;> simp <;> omega

theorem ord_zero {x : Nat} (hf : Fin x) (h0 : frung x ≠ 0) : (FloatKind.f64.format.order x 0 == some .eq) = false := by
  rw [f64_fmt, ord_eq (Nat.le_of_lt hf) (by decide)]
  apply decide_eq_false
  unfold srung; rw [show (if fneg 0 = true then -(frung 0 : Int) else (frung 0 : Int)) = 0 by decide]; split <;> omega
theorem ldexp_exact {x y ee Eb f : Nat} (n X : Int) (hx : x < 18446744073709551616) (hf : Fin x) (h0 : frung x ≠ 0) (hN : Norm x y ee Eb f) (hcall : ∀ w, Calls Try.prog 141 #[.float .f64 x] w fun e w' => e = .returned (.tuple #[.float .f64 y, .int .i64 (-(ee : Int))]) ∧ w' = w)
    (hn : -1000000 ≤ n ∧ n ≤ 1000000) (hX : X = n - ee + Eb - 1) (hX0 : 0 ≤ X) (hX1 : X ≤ 2045) (w : World) :
    Calls Try.prog 128 #[.float .f64 x, .int .i64 n] w fun e w' => e = .returned (.float .f64 (Ieee.double.word (fneg x) ((X.toNat + 1) * 4503599627370496 + f))) ∧ w' = w := by
  have hcb := call_bits
  have hcf := call_from
  have hE := ord_zero hf h0
  have he1 := hN.eb0
  have he2 := hN.eb1
  have he3 := hN.e52
  have he4 := hN.lt
  have hfd := field_of hN
  have hS := fields_set hN (k := X.toNat + 1) (by omega)
  rw [show (((X.toNat + 1) * 4503599627370496 : Nat) : Int) = (n + -↑ee + (↑Eb - 1023) + 1023) * 4503599627370496 by omega] at hS
  have hw := word_rung (fneg x) (k := (X.toNat + 1) * 4503599627370496 + f) (by have := hN.f1; omega)
  have hm := run_mul (mul_one_l hw.2.2 (by rw [hw.1]; have := hN.f1; unfold infK; omega))
  clear hw
  have hb0 : 0 ≤ n - ee + Eb - 1 := by omega
  have hb1 : n - ee + Eb - 1 ≤ 2045 := by omega
  generalize Ieee.double.word (fneg x) ((X.toNat + 1) * 4503599627370496 + f) = W at *
  clear hX hX0 hX1
  go_enter Try.func128, Try.ntmps128
  go_wp2_with (first
    | (go_at_call 139; refine (isInf_any x hx hf _).mono ?_; rintro e w' ⟨rfl, rfl⟩)
    | (go_at_call 140; refine (isNaN_any x (Nat.le_of_lt hf) _).mono ?_; rintro e w' ⟨rfl, rfl⟩)
    | (go_at_call 141; refine (hcall _).mono ?_; rintro e w' ⟨rfl, rfl⟩))
  go_ret
  exact ⟨rfl, rfl⟩
theorem ldexp_small {x y ee Eb f : Nat} (n X : Int) (hx : x < 18446744073709551616) (hf : Fin x) (h0 : frung x ≠ 0) (hN : Norm x y ee Eb f) (hcall : ∀ w, Calls Try.prog 141 #[.float .f64 x] w fun e w' => e = .returned (.tuple #[.float .f64 y, .int .i64 (-(ee : Int))]) ∧ w' = w)
    (hn : -1000000 ≤ n ∧ n ≤ 1000000) (hX : X = n - ee + Eb - 1) (hX0 : -53 ≤ X) (hX1 : X < 0) {r : Nat} (hr : Ieee.double.mul 4368491638549381120 (Ieee.double.word (fneg x) ((X + 54).toNat * 4503599627370496 + f)) = some r) (w : World) :
    Calls Try.prog 128 #[.float .f64 x, .int .i64 n] w fun e w' => e = .returned (.float .f64 (r)) ∧ w' = w := by
  have hcb := call_bits
  have hcf := call_from
  have hE := ord_zero hf h0
  have he1 := hN.eb0
  have he2 := hN.eb1
  have he3 := hN.e52
  have he4 := hN.lt
  have hfd := field_of hN
  have hS := fields_set hN (k := (X + 54).toNat) (by omega)
  rw [show (((X + 54).toNat * 4503599627370496 : Nat) : Int) = (n + -↑ee + (↑Eb - 1023) + 53 + 1023) * 4503599627370496 by omega] at hS
  have hm := run_mul hr
  have hb0 : -53 ≤ n - ee + Eb - 1 := by omega
  have hb1 : n - ee + Eb - 1 < 0 := by omega
  generalize Ieee.double.word (fneg x) ((X + 54).toNat * 4503599627370496 + f) = W at *
  clear hX hX0 hX1 hr
  go_enter Try.func128, Try.ntmps128
  go_wp2_with (first
    | (go_at_call 139; refine (isInf_any x hx hf _).mono ?_; rintro e w' ⟨rfl, rfl⟩)
    | (go_at_call 140; refine (isNaN_any x (Nat.le_of_lt hf) _).mono ?_; rintro e w' ⟨rfl, rfl⟩)
    | (go_at_call 141; refine (hcall _).mono ?_; rintro e w' ⟨rfl, rfl⟩))
  go_ret
  exact ⟨rfl, rfl⟩
theorem ldexp_under {x y ee Eb f : Nat} (n X : Int) (hx : x < 18446744073709551616) (hf : Fin x) (h0 : frung x ≠ 0) (hN : Norm x y ee Eb f) (hcall : ∀ w, Calls Try.prog 141 #[.float .f64 x] w fun e w' => e = .returned (.tuple #[.float .f64 y, .int .i64 (-(ee : Int))]) ∧ w' = w)
    (hn : -1000000 ≤ n ∧ n ≤ 1000000) (hX : X = n - ee + Eb - 1) (hX0 : X < -53) (w : World) :
    Calls Try.prog 128 #[.float .f64 x, .int .i64 n] w fun e w' => e = .returned (.float .f64 (Ieee.double.word (fneg x) 0)) ∧ w' = w := by
  have hcb := call_bits
  have hcf := call_from
  have hE := ord_zero hf h0
  have he1 := hN.eb0
  have he2 := hN.eb1
  have he3 := hN.e52
  have he4 := hN.lt
  have hfd := field_of hN
  have hsg := hN.sgn
  go_enter Try.func128, Try.ntmps128
  go_wp2_with (first
    | (go_at_call 139; refine (isInf_any x hx hf _).mono ?_; rintro e w' ⟨rfl, rfl⟩)
    | (go_at_call 140; refine (isNaN_any x (Nat.le_of_lt hf) _).mono ?_; rintro e w' ⟨rfl, rfl⟩)
    | (go_at_call 142; refine (copysign_any y he4 _).mono ?_; rintro e w' ⟨rfl, rfl⟩; rw [hsg])
    | (go_at_call 141; refine (hcall _).mono ?_; rintro e w' ⟨rfl, rfl⟩))
  go_ret
  exact ⟨rfl, rfl⟩
theorem ord_neg {y : Nat} (hy : frung y ≤ infK) (h0 : frung y ≠ 0) : (FloatKind.f64.format.order y 0 == some .lt) = fneg y := by
  rw [f64_fmt, ord_lt hy (by decide), show srung 0 = 0 by decide]
  unfold srung
  cases fneg y <;> simp <;> omega
theorem ldexp_over_neg {x y ee Eb f : Nat} (n X : Int) (hx : x < 18446744073709551616) (hf : Fin x) (h0 : frung x ≠ 0) (hN : Norm x y ee Eb f) (hcall : ∀ w, Calls Try.prog 141 #[.float .f64 x] w fun e w' => e = .returned (.tuple #[.float .f64 y, .int .i64 (-(ee : Int))]) ∧ w' = w)
    (hn : -1000000 ≤ n ∧ n ≤ 1000000) (hX : X = n - ee + Eb - 1) (hX0 : 2045 < X) (hneg : fneg x = true) (w : World) :
    Calls Try.prog 128 #[.float .f64 x, .int .i64 n] w fun e w' => e = .returned (.float .f64 (Ieee.double.word (fneg x) infK)) ∧ w' = w := by
  have hcb := call_bits
  have hcf := call_from
  have hE := ord_zero hf h0
  have he1 := hN.eb0
  have he2 := hN.eb1
  have he3 := hN.e52
  have he4 := hN.lt
  have hfd := field_of hN
  have hlt : (FloatKind.f64.format.order y 0 == some .lt) = true := by
    have h1 := hN.word
    have h2 := hN.f1
    rw [ord_neg (by rw [h1]; unfold infK; omega) (by rw [h1]; omega), hN.sgn, hneg]
  rw [hneg]
  go_enter Try.func128, Try.ntmps128
  go_wp2_with (first
    | (go_at_call 139; refine (isInf_any x hx hf _).mono ?_; rintro e w' ⟨rfl, rfl⟩)
    | (go_at_call 140; refine (isNaN_any x (Nat.le_of_lt hf) _).mono ?_; rintro e w' ⟨rfl, rfl⟩)
    | (go_at_call 143; refine (inf_down _).mono ?_; rintro e w' ⟨rfl, rfl⟩)
    | (go_at_call 141; refine (hcall _).mono ?_; rintro e w' ⟨rfl, rfl⟩))
  go_ret
  exact ⟨rfl, rfl⟩
theorem ldexp_over_pos {x y ee Eb f : Nat} (n X : Int) (hx : x < 18446744073709551616) (hf : Fin x) (h0 : frung x ≠ 0) (hN : Norm x y ee Eb f) (hcall : ∀ w, Calls Try.prog 141 #[.float .f64 x] w fun e w' => e = .returned (.tuple #[.float .f64 y, .int .i64 (-(ee : Int))]) ∧ w' = w)
    (hn : -1000000 ≤ n ∧ n ≤ 1000000) (hX : X = n - ee + Eb - 1) (hX0 : 2045 < X) (hneg : fneg x = false) (w : World) :
    Calls Try.prog 128 #[.float .f64 x, .int .i64 n] w fun e w' => e = .returned (.float .f64 (Ieee.double.word (fneg x) infK)) ∧ w' = w := by
  have hcb := call_bits
  have hcf := call_from
  have hE := ord_zero hf h0
  have he1 := hN.eb0
  have he2 := hN.eb1
  have he3 := hN.e52
  have he4 := hN.lt
  have hfd := field_of hN
  have hlt : (FloatKind.f64.format.order y 0 == some .lt) = false := by
    have h1 := hN.word
    have h2 := hN.f1
    rw [ord_neg (by rw [h1]; unfold infK; omega) (by rw [h1]; omega), hN.sgn, hneg]
  rw [hneg]
  go_enter Try.func128, Try.ntmps128
  go_wp2_with (first
    | (go_at_call 139; refine (isInf_any x hx hf _).mono ?_; rintro e w' ⟨rfl, rfl⟩)
    | (go_at_call 140; refine (isNaN_any x (Nat.le_of_lt hf) _).mono ?_; rintro e w' ⟨rfl, rfl⟩)
    | (go_at_call 143; refine (inf_up _).mono ?_; rintro e w' ⟨rfl, rfl⟩)
    | (go_at_call 141; refine (hcall _).mono ?_; rintro e w' ⟨rfl, rfl⟩))
  go_ret
  exact ⟨rfl, rfl⟩
theorem ldexp_zero (x : Nat) (n : Int) (h0 : frung x = 0) (w : World) : Calls Try.prog 128 #[.float .f64 x, .int .i64 n] w fun e w' => e = .returned (.float .f64 x) ∧ w' = w := by
  have hE : (FloatKind.f64.format.order x 0 == some .eq) = true := by
    rw [f64_fmt, ord_eq (by rw [h0]; exact Nat.zero_le _) (by decide)]
    apply decide_eq_true
    unfold srung; rw [show (if fneg 0 = true then -(frung 0 : Int) else (frung 0 : Int)) = 0 by decide, h0]; split <;> rfl
  go_enter Try.func128, Try.ntmps128
  go_wp2
  go_ret
  exact ⟨rfl, rfl⟩
theorem ldexp_inf (x : Nat) (n : Int) (hx : x < 18446744073709551616) (h0 : frung x = infK) (w : World) : Calls Try.prog 128 #[.float .f64 x, .int .i64 n] w fun e w' => e = .returned (.float .f64 x) ∧ w' = w := by
  have hE : (FloatKind.f64.format.order x 0 == some .eq) = false := by
    rw [f64_fmt, ord_eq (Nat.le_of_eq h0) (by decide)]
    apply decide_eq_false
    unfold srung; rw [show (if fneg 0 = true then -(frung 0 : Int) else (frung 0 : Int)) = 0 by decide, h0]; unfold infK; split <;> omega
  go_enter Try.func128, Try.ntmps128
  go_wp2_with (go_at_call 139; refine (isInf_inf x hx h0 _).mono ?_; rintro e w' ⟨rfl, rfl⟩)
  go_ret
  exact ⟨rfl, rfl⟩
/-- Ldexp: the nearest number to x 2^n; nought and infinities stay. -/
theorem ldexp_any (x : Nat) (n : Int) (hx : x < 18446744073709551616) (hn : -1000000 ≤ n ∧ n ≤ 1000000) (hf : frung x ≤ infK) : ∃ r, (Fin x → Pow x n r) ∧ (frung x = infK → r = x) ∧ r < 18446744073709551616 ∧
    ∀ w, Calls Try.prog 108 #[.float .f64 x, .int .i64 n] w fun e w' => e = .returned (.float .f64 r) ∧ w' = w := by
  have key : ∃ r, (Fin x → Pow x n r) ∧ (frung x = infK → r = x) ∧ r < 18446744073709551616 ∧ ∀ w, Calls Try.prog 128 #[.float .f64 x, .int .i64 n] w fun e w' => e = .returned (.float .f64 r) ∧ w' = w := by
    rcases Nat.lt_or_eq_of_le hf with hf | hf
    · have hni : frung x = infK → ∀ r, r = x := fun h => by omega
      by_cases h0 : frung x = 0
      · exact ⟨x, fun _ => pow_zero hx h0 n, fun _ => rfl, hx, fun w => ldexp_zero x n h0 w⟩
      · obtain ⟨y, ee, Eb, f, hN, hcall⟩ := normalize_any x hx hf h0
        have hf1 := hN.f1
        by_cases h1 : n - ee + Eb - 1 < -53
        · exact ⟨_, fun _ => pow_under hN rfl h1, fun h => hni h _, (word_rung (fneg x) (k := 0) (by decide)).2.2, fun w => ldexp_under n _ hx hf h0 hN hcall hn rfl h1 w⟩
        · by_cases h2 : 2045 < n - ee + Eb - 1
          · refine ⟨_, fun _ => pow_over hN rfl h2, fun h => hni h _, (word_rung (fneg x) (k := infK) (by decide)).2.2, fun w => ?_⟩
            cases hb : fneg x
            · have := ldexp_over_pos n _ hx hf h0 hN hcall hn rfl h2 hb w
              rw [hb] at this; exact this
            · have := ldexp_over_neg n _ hx hf h0 hN hcall hn rfl h2 hb w
              rw [hb] at this; exact this
          · by_cases h3 : n - ee + Eb - 1 < 0
            · obtain ⟨r, hr, hp, hl⟩ := pow_small hN (n := n) rfl (by omega) h3
              exact ⟨r, fun _ => hp, fun h => hni h _, hl, fun w => ldexp_small n _ hx hf h0 hN hcall hn rfl (by omega) h3 hr w⟩
            · exact ⟨_, fun _ => pow_exact hN rfl (by omega) (by omega), fun h => hni h _, (word_rung (fneg x) (by omega)).2.2, fun w => ldexp_exact n _ hx hf h0 hN hcall hn rfl (by omega) (by omega) w⟩
    · exact ⟨x, fun h => by unfold Fin at h; omega, fun _ => rfl, hx, fun w => ldexp_inf x n hx hf w⟩
  obtain ⟨r, h1, h2, h3, h4⟩ := key
  refine ⟨r, h1, h2, h3, fun w => ?_⟩
  go_enter Try.func108, Try.ntmps108
  go_wp2_with (go_at_call 128; refine (h4 _).mono ?_; rintro e w' ⟨rfl, rfl⟩)
  go_ret
  exact ⟨rfl, rfl⟩
end Go.Proofs.Ytigaggkipmcgeaa
