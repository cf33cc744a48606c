import Derived.Test.YtkbafeghlfajhaaWD
namespace Go.Proofs.Ytkbafeghlfajhaa
open Go.RowKit
set_option linter.unusedVariables false

theorem len64_zero (w : World) : Calls Try.prog 70 #[.int .u64 0] w fun e w' => e = .returned (.int .i64 0) ∧ w' = w := by
  have h := Try.bits_Len64 0 w (by omega) (by omega)
  exact h
theorem ldexp_nought (n : Int) (hn : -1000000 ≤ n ∧ n ≤ 1000000) (w : World) : Calls Try.prog 72 #[.float .f64 0, .int .i64 n] w fun e w' => e = .returned (.float .f64 0) ∧ w' = w := by
  obtain ⟨r, h1, h2, h3, h4⟩ := ldexp_any 0 n (by omega) hn (by decide)
  have h5 := (h1 (by unfold Fin; decide))
  have h6 := pow_zero (x := 0) (by omega) (by decide) n
  unfold Pow at h5 h6
  have h7 := h5.uniq h6
  subst h7
  exact h4 w
set_option maxRecDepth 100000 in
set_option maxHeartbeats 4000000 in
theorem told_zero (d : Int) (neg : Bool) (w : World) :
    Calls Try.prog 47 #[.int .i64 d, .bool neg, .int .u64 0, .int .i64 0, .bool false] w fun e w' => ∃ u b, e = .returned (.tuple #[.float .f64 u, .bool b]) ∧ (∀ D, 0 < D → Rnd d neg 0 D (u, b)) ∧ w' = w.drew := by
  have hcv : ∀ w, (convert 36 44 (.int .u64 0)).run Try.prog w = .ok (.float .f64 0) w := fun w => by kernel_rfl
  have hgt : (FloatKind.f64.format.order 0 9218868437227405311 == some .gt) = false := by decide
  have hsb : ∀ t w, (binOp .sub t (.float .f64 0) (.float .f64 0)).run Try.prog w = .ok (.float .f64 0) w := run_sub (by decide)
  have o0 : oppD 0 = 0 := rfl
  have o1 : oppD 1 = 2 := rfl
  have o2 : oppD 2 = 1 := rfl
  by_cases hd : d = 0 ∨ d = 1 ∨ d = 2
  · have HR : Hid (∀ D, 0 < D → Rnd d neg 0 D (0, true)) := fun D hD => rnd_nought d neg D hD hd
    rcases hd with rfl | rfl | rfl <;> cases neg
    all_goals
      go_enter Try.func47, Try.ntmps47
      go_wp2_with (first | (go_at_call 70; refine (len64_zero _).mono ?_; rintro e' w' ⟨rfl, rfl⟩))
      go_region
      go_wp2_with (first | (go_at_call 71; refine (opposite_any _ _).mono ?_; rintro e' w' ⟨rfl, rfl⟩) | (go_at_call 72; refine (ldexp_nought _ (by omega) _).mono ?_; rintro e' w' ⟨rfl, rfl⟩))
      go_ret2
      exact ⟨_, _, rfl, HR.out, rfl⟩
  · have HR : Hid (∀ D, 0 < D → Rnd d neg 0 D (0, false)) := fun D hD => rnd_none d neg 0 D hD hd
    have n0 : (d == 0) = false := by simp; omega
    have n1 : (d == 1) = false := by simp; omega
    have n2 : (d == 2) = false := by simp; omega
    have o0 : oppD d = d := by unfold oppD; rw [if_neg (by omega), if_neg (by omega)]
    cases neg
    all_goals
      go_enter Try.func47, Try.ntmps47
      go_wp2_with (first | (go_at_call 70; refine (len64_zero _).mono ?_; rintro e' w' ⟨rfl, rfl⟩))
      go_region
      go_wp2_with (first | (go_at_call 71; refine (opposite_any _ _).mono ?_; rintro e' w' ⟨rfl, rfl⟩))
      go_ret2
      exact ⟨_, _, rfl, HR.out, rfl⟩
end Go.Proofs.Ytkbafeghlfajhaa
