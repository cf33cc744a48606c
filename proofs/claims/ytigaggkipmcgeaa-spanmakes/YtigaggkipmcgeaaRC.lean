import Derived.Test.YtigaggkipmcgeaaRB
import Derived.Deep.QuietTactic
import Derived.Deep.RegionWith
import Derived.Deep.DeepCutAuto
namespace Go.Proofs.Ytigaggkipmcgeaa
open Go.RowKit
set_option linter.unusedVariables false

/-- The rest of a sum, as the text reckons it: x is the greater one. -/
theorem sumRest_any {a b s x y t r : Nat} (ha : a < 18446744073709551616) (hb : b < 18446744073709551616) (hx : (x, y) = if frung a < frung b then (b, a) else (a, b)) (h1 : Ieee.double.sub s x = some t) (h2 : Ieee.double.sub y t = some r)
    (hfa : Fin a) (hfb : Fin b) (w : World) :
    Calls Try.prog 138 #[.float .f64 a, .float .f64 b, .float .f64 s] w fun e w' => e = .returned (.float .f64 r) ∧ w' = w := by
  have r1 := run_sub h1
  have r2 := run_sub h2
  have hsm : ∀ u : Nat, frung (frung u) = frung u ∧ srung (frung u) = frung u := by
    intro u
    have h1 : frung (frung u) = frung u := by unfold frung; omega
    refine ⟨h1, ?_⟩
    unfold srung fneg; rw [h1]
    have : frung u / 9223372036854775808 = 0 := by unfold frung; omega
    rw [this]; rfl
  have hle : (FloatKind.f64.format.order (frung a) (frung b) == some .lt) = decide (frung a < frung b) := by
    unfold Fin at hfa hfb
    rw [f64_fmt, ord_lt (by rw [(hsm a).1]; omega) (by rw [(hsm b).1]; omega), (hsm a).2, (hsm b).2]
    congr 1; apply propext; omega
  clear hsm
  by_cases h : frung a < frung b
  · rw [if_pos h] at hx
    simp only [Prod.mk.injEq] at hx
    obtain ⟨rfl, rfl⟩ := hx
    simp only [h, decide_true] at hle
    clear h
    go_enter Try.func138, Try.ntmps138
    go_wp2_with (first
      | (go_at_call_of 131 (Value.float FloatKind.f64 y); refine (abs_any y ha _).mono ?_; rintro e w' ⟨rfl, rfl⟩)
      | (go_at_call_of 131 (Value.float FloatKind.f64 x); refine (abs_any x hb _).mono ?_; rintro e w' ⟨rfl, rfl⟩))
    all_goals (go_ret; exact ⟨rfl, rfl⟩)
  · rw [if_neg h] at hx
    simp only [Prod.mk.injEq] at hx
    obtain ⟨rfl, rfl⟩ := hx
    simp only [h, decide_false] at hle
    clear h
    go_enter Try.func138, Try.ntmps138
    go_wp2_with (first
      | (go_at_call_of 131 (Value.float FloatKind.f64 x); refine (abs_any x ha _).mono ?_; rintro e w' ⟨rfl, rfl⟩)
      | (go_at_call_of 131 (Value.float FloatKind.f64 y); refine (abs_any y hb _).mono ?_; rintro e w' ⟨rfl, rfl⟩))
    all_goals (go_ret; exact ⟨rfl, rfl⟩)
end Go.Proofs.Ytigaggkipmcgeaa
