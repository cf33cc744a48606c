import Derived.Test.YthopkbkcdkjmeaaMR
import Derived.Test.YthopkbkcdkjmeaaPur
import Derived.Deep.RegionHeld3
import Derived.BigRegion
import Derived.Test.YthopkbkcdkjmeaaMQ
import Derived.Shelf.Abstract
namespace Go.Proofs.Ythopkbkcdkjmeaa
open Go.RowKit
set_option linter.unusedVariables false

theorem f64_fmt' : FloatKind.f64.format = Ieee.double := rfl
theorem max2_run {P : Program} {x y : Nat} (hx : frung x ≤ infK) (hy : frung y ≤ infK) : ∃ r, (r = x ∨ r = y) ∧ srung r = max (srung x) (srung y) ∧ ∀ w, (Builtin.max2 (.float .f64 x) (.float .f64 y)).run P w = .ok (.float .f64 r) w := by
  have ho := order_rung hx hy
  by_cases h1 : srung x < srung y
  · rw [Int.compare_eq_lt.2 h1] at ho
    refine ⟨y, .inr rfl, by omega, fun w => ?_⟩
    unfold Builtin.max2; simp only [f64_fmt', ho]; rfl
  · by_cases h2 : srung x = srung y
    · rw [Int.compare_eq_eq.2 h2] at ho
      refine ⟨if (FloatKind.f64.decode x).neg then y else x, ?_, ?_, fun w => ?_⟩
      · split <;> simp
      · split <;> omega
      · unfold Builtin.max2; simp only [f64_fmt', ho]; rfl
    · rw [Int.compare_eq_gt.2 (by omega)] at ho
      refine ⟨x, .inl rfl, by omega, fun w => ?_⟩
      unfold Builtin.max2; simp only [f64_fmt', ho]; rfl
theorem run_max {P : Program} {x y : Nat} (hx : frung x ≤ infK) (hy : frung y ≤ infK) : ∃ r, (r = x ∨ r = y) ∧ srung r = max (srung x) (srung y) ∧ ∀ ts t w, (Builtin.max_ ts t #[.float .f64 x, .float .f64 y]).run P w = .ok (.float .f64 r) w := by
  obtain ⟨r, h1, h2, h3⟩ := max2_run (P := P) hx hy
  refine ⟨r, h1, h2, fun ts t w => ?_⟩
  unfold Builtin.max_
  simp [h3]
end Go.Proofs.Ythopkbkcdkjmeaa


namespace Go.Proofs.Ythopkbkcdkjmeaa
open Go.RowKit
set_option linter.unusedVariables false

def AllGood (F : Nat → Nat × Nat × Bool) (n : Nat) : Prop := ∀ j, j < n → Good (F j).1 (F j).2.1 (F j).2.2
instance (F : Nat → Nat × Nat × Bool) (n : Nat) : Decidable (AllGood F n) := inferInstanceAs (Decidable (∀ j, j < n → Good (F j).1 (F j).2.1 (F j).2.2))

theorem run_store_f : ∀ (W : World) (a : Addr) (x : Nat), (store a (.float .f64 x)).run Try.prog W = stored Try.prog W a (.float .f64 x) .plain := fun W a x => run_store Try.prog W a _ .plain rfl
end Go.Proofs.Ythopkbkcdkjmeaa


namespace Go.Proofs.Ythopkbkcdkjmeaa
open Go.RowKit
set_option linter.unusedVariables false

theorem AllGood.succ {F : Nat → Nat × Nat × Bool} {k : Nat} (h : AllGood F k) (hg : Good (F k).1 (F k).2.1 (F k).2.2) : AllGood F (k + 1) := by
  intro j hj
  rcases Nat.lt_or_ge j k with h1 | h1
  · exact h j h1
  · obtain rfl : j = k := by omega
    exact hg
end Go.Proofs.Ythopkbkcdkjmeaa


namespace Go.Proofs.Ythopkbkcdkjmeaa
open Go.RowKit
set_option linter.unusedVariables false

end Go.Proofs.Ythopkbkcdkjmeaa


namespace Go.Proofs.Ythopkbkcdkjmeaa
open Go.RowKit
set_option linter.unusedVariables false

def two (a b : Nat × Nat × Bool) (j : Nat) : Nat × Nat × Bool := if j = 0 then a else b
theorem next_plain {x : Nat} (hx : x < 18446744073709551616) (hf : Fin x) (w : World) :
    Calls Try.prog 45 #[.int .i64 0, .float .f64 x] w fun e w' => e = .returned (.tuple #[.float .f64 (plainM x), .bool true]) ∧ w' = w := by
  obtain ⟨p, h1, -, c⟩ := next_any 0 x hx
  have h := h1 hf
  rw [show sideOf 0 = 0 from rfl, Int.add_zero] at h
  have := canon_rnd (D := 64) hx hf (by decide) (.inl rfl) h
  subst this
  exact c w
end Go.Proofs.Ythopkbkcdkjmeaa

