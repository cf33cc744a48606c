import Derived.Test.YtgjdmenmegnacaaRH
namespace Go.Proofs.Ytgjdmenmegnacaa
open Go.RowKit
set_option linter.unusedVariables false

/-- A power of 2 is followed no farther than this. -/
theorem scale_any (d : Int) (a : Nat) (n : Int) (ha : a < 18446744073709551616) : ∃ p, (Fin a → Rnd d (fneg a) (rmag (frung a) * 2 ^ (clip n).toNat) (2 ^ (-(clip n)).toNat) p) ∧ (¬ Fin a → p = (0, false)) ∧
    ∀ w, Calls Try.prog 30 #[.int .i64 d, .float .f64 a, .int .i64 n] w fun e w' => e = .returned (.tuple #[.float .f64 p.1, .bool p.2]) ∧ w' = w := by
  by_cases hfa : Fin a
  · have hc1 : -2200 ≤ clip n ∧ clip n ≤ 2200 := by unfold clip; omega
    obtain ⟨r, hr1, hr2, hrl, cr⟩ := ldexp_any a (clip n) ha (by omega) (Nat.le_of_lt hfa)
    have hp := hr1 hfa
    have hri : frung r ≤ infK := by
      unfold Pow at hp
      obtain ⟨_, _, h, _⟩ := hp.rung
      rw [h]; exact Nat.min_le_right ..
    obtain ⟨b', hb1, hb2, hbl, cb⟩ := ldexp_any r (-(clip n)) hrl (by omega) hri
    obtain ⟨dd, hd, hdl, hS⟩ := scale_all hfa hp hb1 hb2
    unfold Pow at hp
    refine ⟨toldM d r dd, fun _ => told_rnd d hp hS, fun h => absurd hfa h, fun w => ?_⟩
    have rs := run_sub hd
    have HS : Hid _ := hS
    have HG : Hid _ := hp
    have hda : decide (Fin a) = true := decide_eq_true hfa
    have hcl : (if 2200 < (if n < -2200 then -2200 else n) then (2200 : Int) else (if n < -2200 then -2200 else n)) = clip n := by unfold clip; omega
    clear hS hp hd hr1 hr2 hb1 hb2
    go_enter Try.func30, Try.ntmps30
    go_wp2_with (first
      | (go_at_call 8; refine (number_any a ha _).mono ?_; rintro e w' ⟨rfl, rfl⟩; rw [hda])
      | (go_at_call_of 39 (Value.float FloatKind.f64 a); refine (cr _).mono ?_; rintro e w' ⟨rfl, rfl⟩)
      | (go_at_call_of 39 (Value.float FloatKind.f64 r); refine (cb _).mono ?_; rintro e w' ⟨rfl, rfl⟩)
      | (go_at_call 42; refine (told_any d HG.out HS.out hdl _).mono ?_; rintro e w' ⟨rfl, rfl⟩))
    all_goals (go_ret2; exact ⟨rfl, rfl⟩)
  · refine ⟨(0, false), fun h1 => absurd h1 hfa, fun _ => rfl, fun w => ?_⟩
    have hda : decide (Fin a) = false := decide_eq_false hfa
    go_enter Try.func30, Try.ntmps30
    go_wp2_with (first
      | (go_at_call_of 8 (Value.float FloatKind.f64 a); refine (number_any a ha _).mono ?_; rintro e w' ⟨rfl, rfl⟩; rw [hda]))
    all_goals (go_ret2; exact ⟨rfl, rfl⟩)
end Go.Proofs.Ytgjdmenmegnacaa
