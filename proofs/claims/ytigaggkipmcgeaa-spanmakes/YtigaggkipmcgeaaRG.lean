import Derived.Test.YtigaggkipmcgeaaRF
import Derived.Test.YtigaggkipmcgeaaPur
namespace Go.Proofs.Ytigaggkipmcgeaa
open Go.RowKit
set_option linter.unusedVariables false

theorem frexp_zero (x : Nat) (h0 : frung x = 0) (w : World) : Calls Try.prog 147 #[.float .f64 x] w fun e w' => e = .returned (.tuple #[.float .f64 x, .int .i64 0]) ∧ w' = w := by
  have hE : (FloatKind.f64.format.order x 0 == some .eq) = true := by
    rw [f64_fmt, ord_eq (by rw [h0]; exact Nat.zero_le _) (by decide)]
    apply decide_eq_true
    unfold srung; rw [show (if fneg 0 = true then -(frung 0 : Int) else (frung 0 : Int)) = 0 by decide, h0]; split <;> rfl
  go_enter Try.func147, Try.ntmps147
  go_wp2
  go_ret2
  exact ⟨rfl, rfl⟩
theorem frexp_norm {x y ee Eb f : Nat} (hx : x < 18446744073709551616) (hf : Fin x) (h0 : frung x ≠ 0) (hN : Norm x y ee Eb f) (hcall : ∀ w, Calls Try.prog 141 #[.float .f64 x] w fun e w' => e = .returned (.tuple #[.float .f64 y, .int .i64 (-(ee : Int))]) ∧ w' = w) (w : World) :
    Calls Try.prog 147 #[.float .f64 x] w fun e w' => e = .returned (.tuple #[.float .f64 (Ieee.double.word (fneg x) (1022 * 4503599627370496 + f)), .int .i64 ((Eb : Int) - ee - 1022)]) ∧ w' = w := by
  have hcb := call_bits
  have hcf := call_from
  have hE := ord_zero hf h0
  have he1 := hN.eb0
  have he2 := hN.eb1
  have he3 := hN.e52
  have he4 := hN.lt
  have hfd := field_u hN
  have hS := fields_set hN (k := 1022) (by omega)
  generalize Ieee.double.word (fneg x) (1022 * 4503599627370496 + f) = W at *
  rw [show ((1022 * 4503599627370496 : Nat) : Int) = 4602678819172646912 from rfl] at hS
  go_enter Try.func147, Try.ntmps147
  go_wp2_with (first
    | (go_at_call 139; refine (isInf_any x hx hf _).mono ?_; rintro e w' ⟨rfl, rfl⟩)
    | (go_at_call 140; refine (isNaN_any x (Nat.le_of_lt hf) _).mono ?_; rintro e w' ⟨rfl, rfl⟩)
    | (go_at_call 141; refine (hcall _).mono ?_; rintro e w' ⟨rfl, rfl⟩))
  go_ret2
  refine ⟨?_, rfl⟩
  rw [show (Eb : Int) - ee - 1022 = -↑ee + (↑Eb - 1023 + 1) by omega]
  rfl
theorem frexp_any (x : Nat) (hx : x < 18446744073709551616) (hf : Fin x) : ∃ fr M ex, Frx x fr M ex ∧ fr < 18446744073709551616 ∧ ∀ w, Calls Try.prog 144 #[.float .f64 x] w fun e w' => e = .returned (.tuple #[.float .f64 fr, .int .i64 ex]) ∧ w' = w := by
  have key : ∃ fr M ex, Frx x fr M ex ∧ fr < 18446744073709551616 ∧ ∀ w, Calls Try.prog 147 #[.float .f64 x] w fun e w' => e = .returned (.tuple #[.float .f64 fr, .int .i64 ex]) ∧ w' = w := by
    by_cases h0 : frung x = 0
    · exact ⟨x, 0, 0, frx_zero hx h0, hx, fun w => frexp_zero x h0 w⟩
    · obtain ⟨y, ee, Eb, f, hN, hcall⟩ := normalize_any x hx hf h0
      have hf1 := hN.f1
      exact ⟨_, _, _, frx_norm hN, (word_rung (fneg x) (by omega)).2.2, fun w => frexp_norm hx hf h0 hN hcall w⟩
  obtain ⟨fr, M, ex, h1, h2, h3⟩ := key
  refine ⟨fr, M, ex, h1, h2, fun w => ?_⟩
  go_enter Try.func144, Try.ntmps144
  go_wp2_with (go_at_call 147; refine (h3 _).mono ?_; rintro e w' ⟨rfl, rfl⟩)
  go_ret2
  exact ⟨rfl, rfl⟩

theorem splitter_sc (E : Nat) (hE : E = 1074) : Sc E 134217729 4728779608772575232 := by
  have hr : frung 4728779608772575232 = 4728779608772575232 := by decide
  have hn : fneg 4728779608772575232 = false := by decide
  refine ⟨by unfold Fin; rw [hr]; decide, by decide, ?_⟩
  obtain ⟨e, he⟩ : ∃ e : Nat, e = 1049 := ⟨_, rfl⟩
  have h := rmag_form e 4503599660924928 (.inr (by decide)) (by decide)
  rw [show e * 4503599627370496 + 4503599660924928 = 4728779608772575232 by omega] at h
  have h2 : 4503599660924928 * 2 ^ e = 134217729 * 2 ^ E := by
    rw [show (4503599660924928 : Nat) = 134217729 * 2 ^ 25 by decide, Nat.mul_assoc, ← Nat.pow_add, show 25 + e = E by omega]
  unfold fval
  rw [hn, hr, h, h2, Int.natCast_mul, Int.natCast_pow]
  rfl

theorem halves_any {a u l : Nat} (h : Halv a 4728779608772575232 u l) (w : World) : Calls Try.prog 148 #[.float .f64 a] w fun e w' => e = .returned (.tuple #[.float .f64 u, .float .f64 l]) ∧ w' = w := by
  obtain ⟨a1, a2, h1, h2, h3, h4⟩ := h
  have r1 := run_mul h1
  have r2 := run_sub h2
  have r3 := run_sub h3
  have r4 := run_sub h4
  clear h1 h2 h3 h4
  go_enter Try.func148, Try.ntmps148
  go_wp2
  go_ret2
  exact ⟨rfl, rfl⟩
theorem product_any {a b high low : Nat} (h : Prd a b 4728779608772575232 high low) (w : World) : Calls Try.prog 145 #[.float .f64 a, .float .f64 b] w fun e w' => e = .returned (.tuple #[.float .f64 high, .float .f64 low]) ∧ w' = w := by
  obtain ⟨au, al, bu, bl, p1, l1, p2, l2, p3, l3, p4, hh, ha, hb, h1, h2, h3, h4, h5, h6, h7, h8⟩ := h
  have r0 := run_mul hh
  have r1 := run_mul h1
  have r2 := run_sub h2
  have r3 := run_mul h3
  have r4 := run_sub h4
  have r5 := run_mul h5
  have r6 := run_sub h6
  have r7 := run_mul h7
  have r8 := run_sub h8
  have HA : Hid _ := ha
  have HB : Hid _ := hb
  clear hh h1 h2 h3 h4 h5 h6 h7 h8 ha hb
  go_enter Try.func145, Try.ntmps145
  go_wp2_with (first
    | (go_at_call_of 148 (Value.float FloatKind.f64 a); refine (halves_any HA.out _).mono ?_; rintro e w' ⟨rfl, rfl⟩)
    | (go_at_call_of 148 (Value.float FloatKind.f64 b); refine (halves_any HB.out _).mono ?_; rintro e w' ⟨rfl, rfl⟩))
  go_ret2
  exact ⟨rfl, rfl⟩
theorem ord_zero_ne {d : Nat} (h : frung d ≤ infK) : (FloatKind.f64.format.order d 0 != some .eq) = !decide (srung d = 0) := by
  rw [bne, f64_fmt, ord_eq h (by decide)]
  rfl
theorem productRest_any {a b p fa fb p' high low d : Nat} {ea eb : Int} (ba : -1073 ≤ ea ∧ ea ≤ 1024) (bb : -1073 ≤ eb ∧ eb ≤ 1024) (hab : a ≠ b → True)
    (ca : ∀ w, Calls Try.prog 144 #[.float .f64 a] w fun e w' => e = .returned (.tuple #[.float .f64 fa, .int .i64 ea]) ∧ w' = w)
    (cb : ∀ w, Calls Try.prog 144 #[.float .f64 b] w fun e w' => e = .returned (.tuple #[.float .f64 fb, .int .i64 eb]) ∧ w' = w)
    (cl : ∀ w, Calls Try.prog 108 #[.float .f64 p, .int .i64 (-(ea + eb))] w fun e w' => e = .returned (.float .f64 p') ∧ w' = w)
    (hP : Prd fa fb 4728779608772575232 high low) (hd : Ieee.double.sub high p' = some d) (hdi : frung d ≤ infK) (w : World) :
    Calls Try.prog 136 #[.float .f64 a, .float .f64 b, .float .f64 p] w fun e w' => e = .returned (.tuple #[.float .f64 (if srung d = 0 then low else d), .int .i64 (ea + eb)]) ∧ w' = w := by
  have rd := run_sub hd
  have hE := ord_zero_ne hdi
  have HP : Hid _ := hP
  obtain ⟨b1, b2⟩ := ba
  obtain ⟨b3, b4⟩ := bb
  clear hd hP
  by_cases h0 : srung d = 0
  · simp only [h0, decide_true, Bool.not_true] at hE
    rw [if_pos h0]
    go_enter Try.func136, Try.ntmps136
    go_wp2_with (first
      | (go_at_call_of 144 (Value.float FloatKind.f64 a); refine (ca _).mono ?_; rintro e w' ⟨rfl, rfl⟩)
      | (go_at_call_of 144 (Value.float FloatKind.f64 b); refine (cb _).mono ?_; rintro e w' ⟨rfl, rfl⟩)
      | (go_at_call 145; refine (product_any HP.out _).mono ?_; rintro e w' ⟨rfl, rfl⟩)
      | (go_at_call 108; refine (cl _).mono ?_; rintro e w' ⟨rfl, rfl⟩))
    all_goals (go_ret2; exact ⟨rfl, rfl⟩)
  · simp only [h0, decide_false, Bool.not_false] at hE
    rw [if_neg h0]
    go_enter Try.func136, Try.ntmps136
    go_wp2_with (first
      | (go_at_call_of 144 (Value.float FloatKind.f64 a); refine (ca _).mono ?_; rintro e w' ⟨rfl, rfl⟩)
      | (go_at_call_of 144 (Value.float FloatKind.f64 b); refine (cb _).mono ?_; rintro e w' ⟨rfl, rfl⟩)
      | (go_at_call 145; refine (product_any HP.out _).mono ?_; rintro e w' ⟨rfl, rfl⟩)
      | (go_at_call 108; refine (cl _).mono ?_; rintro e w' ⟨rfl, rfl⟩))
    all_goals (go_ret2; exact ⟨rfl, rfl⟩)
end Go.Proofs.Ytigaggkipmcgeaa
