import Derived.Test.YtepdhbhpiehigaaRC
namespace Go.Proofs.Ytepdhbhpiehigaa
open Go.RowKit
set_option linter.unusedVariables false

/-- What is told of the real V / D (units of 2^-1074). -/
def RndZ (d : Int) (V : Int) (D : Nat) (p : Nat × Bool) : Prop := Rnd d (decide (V < 0)) V.natAbs D p
theorem fl_zero {D R : Nat} (h : Fl 0 D R) : R = 0 := by
  have h1 := h.1
  have h2 := le_rmag R
  rcases Nat.eq_zero_or_pos R with h0 | h0
  · exact h0
  · have : 0 < rmag R * D := Nat.mul_pos (by omega) h.pos
    omega
theorem tell_zero (d : Int) (g g' : Bool) (D : Nat) (hD : 0 < D) : tellK d g 0 D 0 = tellK d g' 0 D 0 := by
  have h1 : nearK 0 D 0 = 0 := nearK_exact (by rw [rmag_zero, Nat.zero_mul]) hD
  have h2 : upK 0 D 0 = 0 := by unfold upK; rw [rmag_zero, Nat.zero_mul, if_pos rfl]
  have h3 : ∀ g, sgnK g 0 = 0 := fun g => by unfold sgnK; simp
  have h4 : min 0 (infK - 1) = 0 := Nat.zero_min _
  have h5 : 0 < infK := by decide
  unfold tellK
  rw [h1, h2, h4, h3, h3, if_pos h5]
  by_cases e0 : d = 0
  · simp [e0]
  · by_cases e1 : d = 1
    · subst e1; cases g <;> cases g' <;> simp
    · by_cases e2 : d = 2
      · subst e2; cases g <;> cases g' <;> simp
      · simp [e0, e1, e2]
theorem Rnd.toZ {d : Int} {g : Bool} {V : Int} {D : Nat} {p : Nat × Bool} (h : Rnd d g V.natAbs D p) (hg : V ≠ 0 → g = decide (V < 0)) : RndZ d V D p := by
  by_cases h0 : V = 0
  · subst h0
    obtain ⟨R, h1, rfl⟩ := h
    have hz : Int.natAbs 0 = 0 := rfl
    rw [hz] at h1 ⊢
    have := fl_zero h1
    subst this
    exact ⟨0, h1, tell_zero _ _ _ _ h1.pos⟩
  · rw [hg h0] at h; exact h
theorem RndZ.uniq {d : Int} {V : Int} {D : Nat} {p q : Nat × Bool} (h : RndZ d V D p) (h' : RndZ d V D q) : p = q := Rnd.uniq h h'

/-- The sum of two numbers, and what the text reckons on the way. -/
theorem sum_all {a b : Nat} (hfa : Fin a) (hfb : Fin b) : ∃ s x y t r g, Ieee.double.add a b = some s ∧ (x, y) = (if frung a < frung b then (b, a) else (a, b)) ∧ Ieee.double.sub s x = some t ∧ Ieee.double.sub y t = some r ∧
    Rn g (fval a + fval b).natAbs 1 s ∧ (fval a + fval b ≠ 0 → g = decide (fval a + fval b < 0)) ∧ Sides g (fval a + fval b).natAbs 1 s r ∧ r < 18446744073709551616 ∧ (Fin s → Fin r ∧ fval r = fval a + fval b - fval s) := by
  obtain ⟨s, hs, g, hg, hsg⟩ := add_fin hfa hfb
  obtain ⟨R, hR, hf1, hf2, hslt⟩ := hg.rung
  have key : ∀ x y, Fin x → Fin y → frung y ≤ frung x → fval x + fval y = fval a + fval b → Ieee.double.add x y = some s → ∃ t r, Ieee.double.sub s x = some t ∧ Ieee.double.sub y t = some r ∧ Sides g (fval a + fval b).natAbs 1 s r ∧ (Fin s → Fin r ∧ fval r = fval a + fval b - fval s) := by
    intro x y hx hy hle hsum hadd
    by_cases hf : Fin s
    · obtain ⟨t, r, h1, h2, h3, h4⟩ := sum_rest hx hy hle hadd hf
      rw [hsum] at h4
      exact ⟨t, r, h1, h2, sum_sides hg hsg (.inl ⟨hf, h3, h4⟩), fun _ => ⟨h3, h4⟩⟩
    · have hi : frung s = infK := by unfold Fin at hf; have := Nat.min_le_right (nearK (fval a + fval b).natAbs 1 R) infK; omega
      obtain ⟨t, r, h1, h2, h3, h4⟩ := sum_rest_inf hx hy hi
      exact ⟨t, r, h1, h2, sum_sides hg hsg (.inr ⟨hi, h3, h4⟩), fun h => absurd h hf⟩
  by_cases h : frung a < frung b
  · have hcomm : Ieee.double.add b a = some s := by
      obtain ⟨s', hs', g', hg', hsg'⟩ := add_fin hfb hfa
      have e : fval b + fval a = fval a + fval b := Int.add_comm ..
      rw [e] at hg' hsg'
      by_cases h0 : fval a + fval b = 0
      · exfalso
        have h1 := fval_abs a
        have h2 := fval_abs b
        have h3 := rmag_lt h
        omega
      · have hgg : g' = g := by rw [hsg h0, hsg' h0]
        subst hgg
        rw [hs', hg'.uniq hg]
    obtain ⟨t, r, h1, h2, h3, h4⟩ := key b a hfb hfa (by omega) (Int.add_comm ..) hcomm
    exact ⟨s, b, a, t, r, g, hs, by rw [if_pos h], h1, h2, hg, hsg, h3, Ieee.Format.sub_lt _ h2, h4⟩
  · obtain ⟨t, r, h1, h2, h3, h4⟩ := key a b hfa hfb (by omega) rfl hs
    exact ⟨s, a, b, t, r, g, hs, by rw [if_neg h], h1, h2, hg, hsg, h3, Ieee.Format.sub_lt _ h2, h4⟩

theorem add_any (d : Int) (a b : Nat) (ha : a < 18446744073709551616) (hb : b < 18446744073709551616) : ∃ p, (Fin a → Fin b → RndZ d (fval a + fval b) 1 p) ∧ (¬ (Fin a ∧ Fin b) → p = (0, false)) ∧
    ∀ w, Calls Try.prog 22 #[.int .i64 d, .float .f64 a, .float .f64 b] w fun e w' => e = .returned (.tuple #[.float .f64 p.1, .bool p.2]) ∧ w' = w := by
  by_cases hf : Fin a ∧ Fin b
  · obtain ⟨hfa, hfb⟩ := hf
    obtain ⟨s, x, y, t, r, g, hs, hxy, h1, h2, hg, hsg, hS, hr, _⟩ := sum_all hfa hfb
    refine ⟨toldM d s r, fun _ _ => (told_rnd d hg hS).toZ hsg, fun h => absurd ⟨hfa, hfb⟩ h, fun w => ?_⟩
    have ra := run_add hs
    have H1 : Hid _ := h1
    have H2 : Hid _ := h2
    have HS : Hid _ := hS
    have HG : Hid _ := hg
    have HX : Hid _ := hxy
    have hda : decide (Fin a) = true := decide_eq_true hfa
    have hdb : decide (Fin b) = true := decide_eq_true hfb
    clear h1 h2 hS hg hxy hsg hs
    go_enter Try.func22, Try.ntmps22
    go_wp2_with (first
      | (go_at_call_of 8 (Value.float FloatKind.f64 a); refine (number_any a ha _).mono ?_; rintro e w' ⟨rfl, rfl⟩; rw [hda])
      | (go_at_call_of 8 (Value.float FloatKind.f64 b); refine (number_any b hb _).mono ?_; rintro e w' ⟨rfl, rfl⟩; rw [hdb])
      | (go_at_call 34; refine (sumRest_any ha hb HX.out H1.out H2.out hfa hfb _).mono ?_; rintro e w' ⟨rfl, rfl⟩)
      | (go_at_call 42; refine (told_any d HG.out HS.out hr _).mono ?_; rintro e w' ⟨rfl, rfl⟩))
    all_goals (go_ret2; exact ⟨rfl, rfl⟩)
  · refine ⟨(0, false), fun h1 h2 => absurd ⟨h1, h2⟩ hf, fun _ => rfl, fun w => ?_⟩
    by_cases hfa : Fin a
    · have hda : decide (Fin a) = true := decide_eq_true hfa
      have hdb : decide (Fin b) = false := decide_eq_false (fun h => hf ⟨hfa, h⟩)
      go_enter Try.func22, Try.ntmps22
      go_wp2_with (first
        | (go_at_call_of 8 (Value.float FloatKind.f64 a); refine (number_any a ha _).mono ?_; rintro e w' ⟨rfl, rfl⟩; rw [hda])
        | (go_at_call_of 8 (Value.float FloatKind.f64 b); refine (number_any b hb _).mono ?_; rintro e w' ⟨rfl, rfl⟩; rw [hdb]))
      all_goals (go_ret2; exact ⟨rfl, rfl⟩)
    · have hda : decide (Fin a) = false := decide_eq_false hfa
      go_enter Try.func22, Try.ntmps22
      go_wp2_with (first
        | (go_at_call_of 8 (Value.float FloatKind.f64 a); refine (number_any a ha _).mono ?_; rintro e w' ⟨rfl, rfl⟩; rw [hda]))
      all_goals (go_ret2; exact ⟨rfl, rfl⟩)
end Go.Proofs.Ytepdhbhpiehigaa
