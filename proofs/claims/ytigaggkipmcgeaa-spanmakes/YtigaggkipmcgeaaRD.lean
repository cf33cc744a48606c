import Derived.Test.YtigaggkipmcgeaaRC
import Derived.Test.YtigaggkipmcgeaaPur
namespace Go.Proofs.Ytigaggkipmcgeaa
open Go.RowKit
set_option linter.unusedVariables false

/-- The sum of two numbers, and what the text reckons on the way. -/
theorem sum_all {a b : Nat} (hfa : Fin a) (hfb : Fin b) : ∃ s x y t r g, Ieee.double.add a b = some s ∧ (x, y) = (if frung a < frung b then (b, a) else (a, b)) ∧ Ieee.double.sub s x = some t ∧ Ieee.double.sub y t = some r ∧
    Rn g (fval a + fval b).natAbs 1 s ∧ (fval a + fval b ≠ 0 → g = decide (fval a + fval b < 0)) ∧ Sides g (fval a + fval b).natAbs 1 s r ∧ r < 18446744073709551616 ∧ (Fin s → Fin r ∧ fval r = fval a + fval b - fval s) := by
  obtain ⟨s, hs, g, hg, hsg⟩ := add_fin hfa hfb
  obtain ⟨R, hR, hf1, hf2, hslt⟩ := hg.rung
  have key : ∀ x y, Fin x → Fin y → frung y ≤ frung x → fval x + fval y = fval a + fval b → Ieee.double.add x y = some s → ∃ t r, Ieee.double.sub s x = some t ∧ Ieee.double.sub y t = some r ∧ Sides g (fval a + fval b).natAbs 1 s r ∧ (Fin s → Fin r ∧ fval r = fval a + fval b - fval s) := by
    intro x y hx hy hle hsum hadd
    by_cases hf : Fin s
    · obtain ⟨t, r, h1, h2, h3, h4⟩ := sum_rest hx hy hle hadd hf
      rw [hsum] at h4
      exact ⟨t, r, h1, h2, sum_sides hg hsg (.inl ⟨hf, h3, h4⟩), fun _ => ⟨h3, h4⟩⟩
    · have hi : frung s = infK := by unfold Fin at hf; have := Nat.min_le_right (nearK (fval a + fval b).natAbs 1 R) infK; omega
      obtain ⟨t, r, h1, h2, h3, h4⟩ := sum_rest_inf hx hy hi
      exact ⟨t, r, h1, h2, sum_sides hg hsg (.inr ⟨hi, h3, h4⟩), fun h => absurd h hf⟩
  by_cases h : frung a < frung b
  · have hcomm : Ieee.double.add b a = some s := by
      obtain ⟨s', hs', g', hg', hsg'⟩ := add_fin hfb hfa
      have e : fval b + fval a = fval a + fval b := Int.add_comm ..
      rw [e] at hg' hsg'
      by_cases h0 : fval a + fval b = 0
      · exfalso
        have h1 := fval_abs a
        have h2 := fval_abs b
        have h3 := rmag_lt h
        omega
      · have hgg : g' = g := by rw [hsg h0, hsg' h0]
        subst hgg
        rw [hs', hg'.uniq hg]
    obtain ⟨t, r, h1, h2, h3, h4⟩ := key b a hfb hfa (by omega) (Int.add_comm ..) hcomm
    exact ⟨s, b, a, t, r, g, hs, by rw [if_pos h], h1, h2, hg, hsg, h3, Ieee.Format.sub_lt _ h2, h4⟩
  · obtain ⟨t, r, h1, h2, h3, h4⟩ := key a b hfa hfb (by omega) rfl hs
    exact ⟨s, a, b, t, r, g, hs, by rw [if_neg h], h1, h2, hg, hsg, h3, Ieee.Format.sub_lt _ h2, h4⟩

theorem add_any (d : Int) (a b : Nat) (ha : a < 18446744073709551616) (hb : b < 18446744073709551616) : ∃ p, (Fin a → Fin b → RndZ d (fval a + fval b) 1 p) ∧ (¬ (Fin a ∧ Fin b) → p = (0, false)) ∧
    ∀ w, Calls Try.prog 121 #[.int .i64 d, .float .f64 a, .float .f64 b] w fun e w' => e = .returned (.tuple #[.float .f64 p.1, .bool p.2]) ∧ w' = w := by
  by_cases hf : Fin a ∧ Fin b
  · obtain ⟨hfa, hfb⟩ := hf
    obtain ⟨s, x, y, t, r, g, hs, hxy, h1, h2, hg, hsg, hS, hr, _⟩ := sum_all hfa hfb
    refine ⟨toldM d s r, fun _ _ => (told_rnd d hg hS).toZ hsg, fun h => absurd ⟨hfa, hfb⟩ h, fun w => ?_⟩
    have ra := run_add hs
    have H1 : Hid _ := h1
    have H2 : Hid _ := h2
    have HS : Hid _ := hS
    have HG : Hid _ := hg
    have HX : Hid _ := hxy
    have hda : decide (Fin a) = true := decide_eq_true hfa
    have hdb : decide (Fin b) = true := decide_eq_true hfb
    clear h1 h2 hS hg hxy hsg hs
    go_enter Try.func121, Try.ntmps121
    go_wp2_with (first
      | (go_at_call_of 116 (Value.float FloatKind.f64 a); refine (number_any a ha _).mono ?_; rintro e w' ⟨rfl, rfl⟩; rw [hda])
      | (go_at_call_of 116 (Value.float FloatKind.f64 b); refine (number_any b hb _).mono ?_; rintro e w' ⟨rfl, rfl⟩; rw [hdb])
      | (go_at_call 138; refine (sumRest_any ha hb HX.out H1.out H2.out hfa hfb _).mono ?_; rintro e w' ⟨rfl, rfl⟩)
      | (go_at_call 117; refine (told_any d HG.out HS.out hr _).mono ?_; rintro e w' ⟨rfl, rfl⟩))
    all_goals (go_ret2; exact ⟨rfl, rfl⟩)
  · refine ⟨(0, false), fun h1 h2 => absurd ⟨h1, h2⟩ hf, fun _ => rfl, fun w => ?_⟩
    by_cases hfa : Fin a
    · have hda : decide (Fin a) = true := decide_eq_true hfa
      have hdb : decide (Fin b) = false := decide_eq_false (fun h => hf ⟨hfa, h⟩)
      go_enter Try.func121, Try.ntmps121
      go_wp2_with (first
        | (go_at_call_of 116 (Value.float FloatKind.f64 a); refine (number_any a ha _).mono ?_; rintro e w' ⟨rfl, rfl⟩; rw [hda])
        | (go_at_call_of 116 (Value.float FloatKind.f64 b); refine (number_any b hb _).mono ?_; rintro e w' ⟨rfl, rfl⟩; rw [hdb]))
      all_goals (go_ret2; exact ⟨rfl, rfl⟩)
    · have hda : decide (Fin a) = false := decide_eq_false hfa
      go_enter Try.func121, Try.ntmps121
      go_wp2_with (first
        | (go_at_call_of 116 (Value.float FloatKind.f64 a); refine (number_any a ha _).mono ?_; rintro e w' ⟨rfl, rfl⟩; rw [hda]))
      all_goals (go_ret2; exact ⟨rfl, rfl⟩)
end Go.Proofs.Ytigaggkipmcgeaa
