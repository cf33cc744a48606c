import Derived.Test.YtigaggkipmcgeaaRL
import Derived.Test.YtigaggkipmcgeaaPur
import Derived.Deep.RegionHeld3
import Derived.BigRegion
namespace Go.Proofs.Ytigaggkipmcgeaa
open Go.RowKit
set_option linter.unusedVariables false

theorem f64_fmt' : FloatKind.f64.format = Ieee.double := rfl
theorem min2_run {P : Program} {x y : Nat} (hx : frung x ≤ infK) (hy : frung y ≤ infK) : ∃ r, (r = x ∨ r = y) ∧ srung r = min (srung x) (srung y) ∧ ∀ w, (Builtin.min2 (.float .f64 x) (.float .f64 y)).run P w = .ok (.float .f64 r) w := by
  have ho := order_rung hx hy
  by_cases h1 : srung x < srung y
  · rw [Int.compare_eq_lt.2 h1] at ho
    refine ⟨x, .inl rfl, by omega, fun w => ?_⟩
    unfold Builtin.min2; simp only [f64_fmt', ho]; rfl
  · by_cases h2 : srung x = srung y
    · rw [Int.compare_eq_eq.2 h2] at ho
      refine ⟨if (FloatKind.f64.decode x).neg then x else y, ?_, ?_, fun w => ?_⟩
      · split <;> simp
      · split <;> omega
      · unfold Builtin.min2; simp only [f64_fmt', ho]; rfl
    · rw [Int.compare_eq_gt.2 (by omega)] at ho
      refine ⟨y, .inr rfl, by omega, fun w => ?_⟩
      unfold Builtin.min2; simp only [f64_fmt', ho]; rfl
theorem max2_run {P : Program} {x y : Nat} (hx : frung x ≤ infK) (hy : frung y ≤ infK) : ∃ r, (r = x ∨ r = y) ∧ srung r = max (srung x) (srung y) ∧ ∀ w, (Builtin.max2 (.float .f64 x) (.float .f64 y)).run P w = .ok (.float .f64 r) w := by
  have ho := order_rung hx hy
  by_cases h1 : srung x < srung y
  · rw [Int.compare_eq_lt.2 h1] at ho
    refine ⟨y, .inr rfl, by omega, fun w => ?_⟩
    unfold Builtin.max2; simp only [f64_fmt', ho]; rfl
  · by_cases h2 : srung x = srung y
    · rw [Int.compare_eq_eq.2 h2] at ho
      refine ⟨if (FloatKind.f64.decode x).neg then y else x, ?_, ?_, fun w => ?_⟩
      · split <;> simp
      · split <;> omega
      · unfold Builtin.max2; simp only [f64_fmt', ho]; rfl
    · rw [Int.compare_eq_gt.2 (by omega)] at ho
      refine ⟨x, .inl rfl, by omega, fun w => ?_⟩
      unfold Builtin.max2; simp only [f64_fmt', ho]; rfl
theorem run_min {P : Program} {x y : Nat} (hx : frung x ≤ infK) (hy : frung y ≤ infK) : ∃ r, (r = x ∨ r = y) ∧ srung r = min (srung x) (srung y) ∧ ∀ ts t w, (Builtin.min_ ts t #[.float .f64 x, .float .f64 y]).run P w = .ok (.float .f64 r) w := by
  obtain ⟨r, h1, h2, h3⟩ := min2_run (P := P) hx hy
  refine ⟨r, h1, h2, fun ts t w => ?_⟩
  unfold Builtin.min_
  simp [h3]
theorem run_max {P : Program} {x y : Nat} (hx : frung x ≤ infK) (hy : frung y ≤ infK) : ∃ r, (r = x ∨ r = y) ∧ srung r = max (srung x) (srung y) ∧ ∀ ts t w, (Builtin.max_ ts t #[.float .f64 x, .float .f64 y]).run P w = .ok (.float .f64 r) w := by
  obtain ⟨r, h1, h2, h3⟩ := max2_run (P := P) hx hy
  refine ⟨r, h1, h2, fun ts t w => ?_⟩
  unfold Builtin.max_
  simp [h3]
theorem run_max3 {P : Program} {x y z : Nat} (hx : frung x ≤ infK) (hy : frung y ≤ infK) (hz : frung z ≤ infK) : ∃ r, (r = x ∨ r = y ∨ r = z) ∧ srung r = max (max (srung x) (srung y)) (srung z) ∧ ∀ ts t w, (Builtin.max_ ts t #[.float .f64 x, .float .f64 y, .float .f64 z]).run P w = .ok (.float .f64 r) w := by
  obtain ⟨s, h1, h2, h3⟩ := max2_run (P := P) hx hy
  obtain ⟨r, k1, k2, k3⟩ := max2_run (P := P) (x := s) (y := z) (by rcases h1 with rfl | rfl <;> assumption) hz
  refine ⟨r, by rcases k1 with rfl | rfl; (rcases h1 with rfl | rfl <;> simp); simp, by rw [k2, h2], fun ts t w => ?_⟩
  unfold Builtin.max_
  simp [h3, k3]
end Go.Proofs.Ytigaggkipmcgeaa
