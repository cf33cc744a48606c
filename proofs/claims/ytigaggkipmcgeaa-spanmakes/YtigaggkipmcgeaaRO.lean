import Derived.Test.YtigaggkipmcgeaaRL
namespace Go.Proofs.Ytigaggkipmcgeaa
open Go.RowKit
set_option linter.unusedVariables false

def sideOf (d : Int) : Int := if d = 1 then 1 else if d = 2 then -1 else 0
set_option maxRecDepth 100000 in
theorem next_any (d : Int) (a : Nat) (ha : a < 18446744073709551616) : ∃ p, (Fin a → RndZ d (fval a * 64 + sideOf d) 64 p) ∧ (¬ Fin a → p = (0, false)) ∧
    ∀ w, Calls Try.prog 84 #[.int .i64 d, .float .f64 a] w fun e w' => e = .returned (.tuple #[.float .f64 p.1, .bool p.2]) ∧ w' = w := by
  have r1 : srung 4607182418800017408 = 4607182418800017408 := by decide
  have r2 : srung 13830554455654793216 = -4607182418800017408 := by decide
  have r0 : srung 0 = 0 := by decide
  have n1 : frung 4607182418800017408 ≤ infK := by decide
  have n2 : frung 13830554455654793216 ≤ infK := by decide
  have n0 : frung 0 ≤ infK := by decide
  by_cases hf : Fin a
  · have hdf : decide (Fin a) = true := decide_eq_true hf
    have hfi : frung a < infK := hf
    have hup : ∀ x, 0 < srung x → ¬ (fneg a = false ∧ frung a = infK) := fun _ _ c => by omega
    have hdn : ∀ x, srung x < 0 → ¬ (fneg (fopp a) = false ∧ frung (fopp a) = infK) := fun _ _ c => by rw [(fopp_parts ha).1] at c; omega
    by_cases h1 : d = 1
    · subst h1
      refine ⟨toldM 1 a 4607182418800017408, fun _ => next_rnd 1 1 (.inl rfl) _ ha hf n1 (by rw [r1]; decide) (by rw [r1]; decide), fun h => absurd hf h, fun w => ?_⟩
      have H1 : Hid _ := told_core 1 ha (by omega) n1 (hup _) (hdn _) (by decide)
      clear r1 r2 r0 n1 n2 n0 hup hdn
      go_enter Try.func84, Try.ntmps84
      go_wp2_with (first
        | (go_at_call 116; refine (number_any a ha _).mono ?_; rintro e w' ⟨rfl, rfl⟩; rw [hdf])
        | (go_at_call 117; refine (H1.out _).mono ?_; rintro e w' ⟨rfl, rfl⟩))
      all_goals (go_ret2; exact ⟨rfl, rfl⟩)
    by_cases h2 : d = 2
    · subst h2
      refine ⟨toldM 2 a 13830554455654793216, fun _ => next_rnd 2 (-1) (.inr (.inl rfl)) _ ha hf n2 (by rw [r2]; decide) (by rw [r2]; decide), fun h => absurd hf h, fun w => ?_⟩
      have H1 : Hid _ := told_core 2 ha (by omega) n2 (hup _) (hdn _) (by decide)
      clear r1 r2 r0 n1 n2 n0 hup hdn h1
      go_enter Try.func84, Try.ntmps84
      go_wp2_with (first
        | (go_at_call 116; refine (number_any a ha _).mono ?_; rintro e w' ⟨rfl, rfl⟩; rw [hdf])
        | (go_at_call 117; refine (H1.out _).mono ?_; rintro e w' ⟨rfl, rfl⟩))
      all_goals (go_ret2; exact ⟨rfl, rfl⟩)
    have hs : sideOf d = 0 := by unfold sideOf; rw [if_neg h1, if_neg h2]
    refine ⟨toldM d a 0, fun _ => by rw [hs]; exact next_rnd d 0 (.inr (.inr rfl)) _ ha hf n0 (by rw [r0]; decide) (by rw [r0]; decide), fun h => absurd hf h, fun w => ?_⟩
    have H1 : Hid _ := told_core d ha (by omega) n0 (hup _) (hdn _) (by decide)
    have t1 : (d == 1) = false := by rw [beq_eq_false_iff_ne]; exact h1
    have t2 : (d == 2) = false := by rw [beq_eq_false_iff_ne]; exact h2
    clear r1 r2 r0 n1 n2 n0 hup hdn hs h1 h2
    go_enter Try.func84, Try.ntmps84
    go_wp2_with (first
      | (go_at_call 116; refine (number_any a ha _).mono ?_; rintro e w' ⟨rfl, rfl⟩; rw [hdf])
      | (go_at_call 117; refine (H1.out _).mono ?_; rintro e w' ⟨rfl, rfl⟩))
    all_goals (go_ret2; exact ⟨rfl, rfl⟩)
  · have hdf : decide (Fin a) = false := decide_eq_false hf
    refine ⟨(0, false), fun h => absurd h hf, fun _ => rfl, fun w => ?_⟩
    clear r1 r2 r0 n1 n2 n0
    go_enter Try.func84, Try.ntmps84
    go_wp2_with (first
      | (go_at_call 116; refine (number_any a ha _).mono ?_; rintro e w' ⟨rfl, rfl⟩; rw [hdf]))
    all_goals (go_ret2; exact ⟨rfl, rfl⟩)
end Go.Proofs.Ytigaggkipmcgeaa
