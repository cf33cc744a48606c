import Derived.Test.YthopkbkcdkjmeaaGJh
namespace Go.Proofs.Ythopkbkcdkjmeaa
open Go.RowKit Go.Shelf
set_option linter.unusedVariables false
set_option linter.unusedSimpArgs false

theorem oneI : ∀ (x : Value), x.oneCell' = true → ∀ u ∈ [x], u.oneCell' = true := by
  intro x hx u hu
  simp only [List.mem_cons, List.not_mem_nil, or_false] at hu
  subst hu
  exact hx
/-- What came in: nil lists have no room; nothing is longer than the bulk. -/
structure ZW (z : ZD) : Prop where
  c : z.co = none → z.cn = 0 ∧ z.cc = 0
  i : z.io = none → z.dn = 0 ∧ z.dc = 0
  r : z.ro = none → z.rn = 0 ∧ z.rc = 0
  col : ∀ k, k < z.gn → (z.gv k).1 = none → (z.gv k).2.1 = 0 ∧ (z.gv k).2.2 = 0
  cl : z.cn ≤ 1050000
  il : z.dn ≤ 1050000
  gl : z.gn ≤ 1050000
  rl : z.rn ≤ 1050000
  coll : ∀ k, k < z.gn → (z.gv k).2.1 ≤ 1050000
end Go.Proofs.Ythopkbkcdkjmeaa


namespace Go.Proofs.Ythopkbkcdkjmeaa
open Go.RowKit Go.Shelf
set_option linter.unusedVariables false
set_option linter.unusedSimpArgs false

end Go.Proofs.Ythopkbkcdkjmeaa

