import Derived.Test.YtbjnkefjlaplkaaGYa
import Derived.Test.YtbjnkefjlaplkaaJZy
import Derived.Test.YtbjnkefjlaplkaaGJi
import Derived.Test.YtbjnkefjlaplkaaGJd
import Derived.Test.YtbjnkefjlaplkaaGJh
namespace Go.Proofs.Ytbjnkefjlaplkaa
open Go.RowKit Go.Shelf
set_option linter.unusedVariables false
open Ieee

theorem zr_fin64 {w : World} {z : ZD} (h : ZR w z) : (∀ x ∈ z.cs, x < 18446744073709551616) ∧ (∀ x ∈ z.rs, x < 18446744073709551616) ∧ ∀ l ∈ z.gs, ∀ x ∈ l, x < 18446744073709551616 := by
  refine ⟨h.c.lt, h.r.lt, fun l hl => ?_⟩
  obtain ⟨j, hj, rfl⟩ := List.getElem_of_mem hl
  have h1 := h.g.each j (by rw [← h.g.length]; exact hj)
  rw [List.getElem?_eq_getElem hj] at h1
  exact h1.lt
theorem good_eq {u z : ZD} (hb : u.bad = z.bad) (hc : checkB u = checkB z) : (!u.bad && wholeB u) = (!z.bad && wholeB z) := by
  unfold checkB at hc
  rw [hb] at hc ⊢
  cases h : z.bad with
  | true => rfl
  | false =>
    rw [h] at hc
    simpa using hc
end Go.Proofs.Ytbjnkefjlaplkaa

