import Derived.Test.YtbjnkefjlaplkaaGJb
import Derived.Test.YtbjnkefjlaplkaaMS
namespace Go.Proofs.Ytbjnkefjlaplkaa
open Go.RowKit
set_option linter.unusedVariables false
set_option linter.unusedSimpArgs false

def one1 (c : Nat) : Option Int := prodO (some 0) c 4607182418800017408 0
/-- The span around a number. -/
def AroR (c : Nat) (o : Option Int) (r : Nat × Nat × Bool) : Prop := ∃ lo low hi high, RndO 2 (joinO (one1 c) o true) lo low ∧ RndO 1 (joinO (one1 c) o false) hi high ∧ r = (if low && high then makeS lo hi else (0, 0, true))
end Go.Proofs.Ytbjnkefjlaplkaa


namespace Go.Proofs.Ytbjnkefjlaplkaa
open Go.RowKit
set_option linter.unusedVariables false
set_option linter.unusedSimpArgs false

end Go.Proofs.Ytbjnkefjlaplkaa


namespace Go.Proofs.Ytbjnkefjlaplkaa
open Go.RowKit
set_option linter.unusedVariables false
set_option linter.unusedSimpArgs false

end Go.Proofs.Ytbjnkefjlaplkaa


namespace Go.Proofs.Ytbjnkefjlaplkaa
open Go.RowKit
set_option linter.unusedVariables false
set_option linter.unusedSimpArgs false

theorem drop_eqI {is js : List Int} {k : Nat} (h1 : k < is.length) (h2 : k < js.length) : decide (is.drop k = js.drop k) = (decide (is[k]?.getD 0 = js[k]?.getD 0) && decide (is.drop (k + 1) = js.drop (k + 1))) := by
  rw [List.drop_eq_getElem_cons h1, List.drop_eq_getElem_cons h2, List.getElem?_eq_getElem h1, List.getElem?_eq_getElem h2]
  simp only [List.cons.injEq, Option.getD_some, Bool.decide_and]
end Go.Proofs.Ytbjnkefjlaplkaa


namespace Go.Proofs.Ytbjnkefjlaplkaa
open Go.RowKit Go.Shelf
set_option linter.unusedVariables false
set_option linter.unusedSimpArgs false

theorem neq_ord {u v : Nat} (hu : Fin u) (hv : Fin v) : (FloatKind.f64.format.order u v == some Ordering.eq) = decide (srung u = srung v) := by
  have ho := order_rung (x := u) (y := v) (Nat.le_of_lt hu) (Nat.le_of_lt hv)
  rw [f64_fmtJ, ho]
  by_cases h : srung u = srung v
  · rw [Int.compare_eq_eq.2 h, decide_eq_true h]; rfl
  · rw [decide_eq_false h]
    by_cases h2 : srung u < srung v
    · rw [Int.compare_eq_lt.2 h2]; rfl
    · rw [Int.compare_eq_gt.2 (by omega)]; rfl
theorem neq_ordN {u v : Nat} (hu : Fin u) (hv : Fin v) : (FloatKind.f64.format.order u v != some Ordering.eq) = !decide (srung u = srung v) := by
  rw [← neq_ord hu hv]; rfl
def sameL (us vs : List Nat) : Bool := decide (us.map srung = vs.map srung)
end Go.Proofs.Ytbjnkefjlaplkaa


namespace Go.Proofs.Ytbjnkefjlaplkaa
open Go.RowKit Go.Shelf
set_option linter.unusedVariables false
set_option linter.unusedSimpArgs false

end Go.Proofs.Ytbjnkefjlaplkaa


namespace Go.Proofs.Ytbjnkefjlaplkaa
open Go.RowKit Go.Shelf
set_option linter.unusedVariables false
set_option linter.unusedSimpArgs false

def zRow (z : ZD) : Array Value := #[.int .i64 z.N, .slice z.co z.cn z.cc, .slice z.io z.dn z.dc, .slice z.go z.gn z.gc, .slice z.ro z.rn z.rc, .bool z.bad]
end Go.Proofs.Ytbjnkefjlaplkaa

