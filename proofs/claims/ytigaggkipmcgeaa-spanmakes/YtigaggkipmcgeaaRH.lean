import Derived.Test.YtigaggkipmcgeaaRG
import Derived.Test.YtigaggkipmcgeaaPur
namespace Go.Proofs.Ytigaggkipmcgeaa
open Go.RowKit
set_option linter.unusedVariables false

theorem mul_any (d : Int) (a b : Nat) (ha : a < 18446744073709551616) (hb : b < 18446744073709551616) : ∃ p, (Fin a → Fin b → ∀ E, E = 1074 → Rnd d (fneg a ^^ fneg b) (rmag (frung a) * rmag (frung b)) (2 ^ E) p) ∧ (¬ (Fin a ∧ Fin b) → p = (0, false)) ∧
    ∀ w, Calls Try.prog 119 #[.int .i64 d, .float .f64 a, .float .f64 b] w fun e w' => e = .returned (.tuple #[.float .f64 p.1, .bool p.2]) ∧ w' = w := by
  by_cases hf : Fin a ∧ Fin b
  · obtain ⟨hfa, hfb⟩ := hf
    obtain ⟨E, hE⟩ : ∃ E : Nat, E = 1074 := ⟨_, rfl⟩
    obtain ⟨p, hp, hRp⟩ := mul_fin hE hfa hfb
    obtain ⟨R, _, hp1, _, hpl⟩ := hRp.rung
    have hpi : frung p ≤ infK := by rw [hp1]; exact Nat.min_le_right ..
    obtain ⟨fa, A, ea, Fa, hla, ca⟩ := frexp_any a ha hfa
    obtain ⟨fb, B, eb, Fb, hlb, cb⟩ := frexp_any b hb hfb
    have l1 := Fa.lo
    have l2 := Fa.hi
    have l3 := Fb.lo
    have l4 := Fb.hi
    obtain ⟨p', hw1, hw2, hpl', cl⟩ := ldexp_any p (-(ea + eb)) hpl (by omega) hpi
    obtain ⟨high, low, dd, hP, hd, hdi, hdl, hll, hli, hRn, hS⟩ := mul_all hfa hfb Fa Fb splitter_sc hp hw1 hw2 hpl hE
    have cr := fun w => productRest_any (p := p) (hdi := hdi) (ba := ⟨l1, l2⟩) (bb := ⟨l3, l4⟩) (hab := fun _ => trivial) ca cb cl hP hd w
    have hrl : (if srung dd = 0 then low else dd) < 18446744073709551616 := by split <;> assumption
    generalize (if srung dd = 0 then low else dd) = rest at *
    refine ⟨toldM d p rest, fun _ _ E' hE' => by rw [show E' = E by omega]; exact told_rnd d hRn hS, fun h => absurd ⟨hfa, hfb⟩ h, fun w => ?_⟩
    have rm := run_mul hp
    have HS : Hid _ := hS
    have HG : Hid _ := hRn
    have hda : decide (Fin a) = true := decide_eq_true hfa
    have hdb : decide (Fin b) = true := decide_eq_true hfb
    clear hS hRn hd hP hw1 hw2 Fa Fb hRp hp ca cb cl
    go_enter Try.func119, Try.ntmps119
    go_wp2_with (first
      | (go_at_call_of 116 (Value.float FloatKind.f64 a); refine (number_any a ha _).mono ?_; rintro e w' ⟨rfl, rfl⟩; rw [hda])
      | (go_at_call_of 116 (Value.float FloatKind.f64 b); refine (number_any b hb _).mono ?_; rintro e w' ⟨rfl, rfl⟩; rw [hdb])
      | (go_at_call 136; refine (cr _).mono ?_; rintro e w' ⟨rfl, rfl⟩)
      | (go_at_call 117; refine (told_any d HG.out HS.out hrl _).mono ?_; rintro e w' ⟨rfl, rfl⟩))
    all_goals (go_ret2; exact ⟨rfl, rfl⟩)
  · refine ⟨(0, false), fun h1 h2 => absurd ⟨h1, h2⟩ hf, fun _ => rfl, fun w => ?_⟩
    by_cases hfa : Fin a
    · have hda : decide (Fin a) = true := decide_eq_true hfa
      have hdb : decide (Fin b) = false := decide_eq_false (fun h => hf ⟨hfa, h⟩)
      go_enter Try.func119, Try.ntmps119
      go_wp2_with (first
        | (go_at_call_of 116 (Value.float FloatKind.f64 a); refine (number_any a ha _).mono ?_; rintro e w' ⟨rfl, rfl⟩; rw [hda])
        | (go_at_call_of 116 (Value.float FloatKind.f64 b); refine (number_any b hb _).mono ?_; rintro e w' ⟨rfl, rfl⟩; rw [hdb]))
      all_goals (go_ret2; exact ⟨rfl, rfl⟩)
    · have hda : decide (Fin a) = false := decide_eq_false hfa
      go_enter Try.func119, Try.ntmps119
      go_wp2_with (first
        | (go_at_call_of 116 (Value.float FloatKind.f64 a); refine (number_any a ha _).mono ?_; rintro e w' ⟨rfl, rfl⟩; rw [hda]))
      all_goals (go_ret2; exact ⟨rfl, rfl⟩)
end Go.Proofs.Ytigaggkipmcgeaa
