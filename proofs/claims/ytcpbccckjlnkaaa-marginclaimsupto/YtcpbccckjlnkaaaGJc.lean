import Derived.Test.YtcpbccckjlnkaaaGJb
import Derived.Test.YtcpbccckjlnkaaaMS
namespace Go.Proofs.Ytcpbccckjlnkaaa
open Go.RowKit
set_option linter.unusedVariables false
set_option linter.unusedSimpArgs false

end Go.Proofs.Ytcpbccckjlnkaaa


namespace Go.Proofs.Ytcpbccckjlnkaaa
open Go.RowKit
set_option linter.unusedVariables false
set_option linter.unusedSimpArgs false

end Go.Proofs.Ytcpbccckjlnkaaa


namespace Go.Proofs.Ytcpbccckjlnkaaa
open Go.RowKit
set_option linter.unusedVariables false
set_option linter.unusedSimpArgs false

end Go.Proofs.Ytcpbccckjlnkaaa


namespace Go.Proofs.Ytcpbccckjlnkaaa
open Go.RowKit
set_option linter.unusedVariables false
set_option linter.unusedSimpArgs false

end Go.Proofs.Ytcpbccckjlnkaaa


namespace Go.Proofs.Ytcpbccckjlnkaaa
open Go.RowKit Go.Shelf
set_option linter.unusedVariables false
set_option linter.unusedSimpArgs false

theorem neq_ord {u v : Nat} (hu : Fin u) (hv : Fin v) : (FloatKind.f64.format.order u v == some Ordering.eq) = decide (srung u = srung v) := by
  have ho := order_rung (x := u) (y := v) (Nat.le_of_lt hu) (Nat.le_of_lt hv)
  rw [f64_fmtJ, ho]
  by_cases h : srung u = srung v
  · rw [Int.compare_eq_eq.2 h, decide_eq_true h]; rfl
  · rw [decide_eq_false h]
    by_cases h2 : srung u < srung v
    · rw [Int.compare_eq_lt.2 h2]; rfl
    · rw [Int.compare_eq_gt.2 (by omega)]; rfl
theorem neq_ordN {u v : Nat} (hu : Fin u) (hv : Fin v) : (FloatKind.f64.format.order u v != some Ordering.eq) = !decide (srung u = srung v) := by
  rw [← neq_ord hu hv]; rfl
end Go.Proofs.Ytcpbccckjlnkaaa


namespace Go.Proofs.Ytcpbccckjlnkaaa
open Go.RowKit Go.Shelf
set_option linter.unusedVariables false
set_option linter.unusedSimpArgs false

end Go.Proofs.Ytcpbccckjlnkaaa


namespace Go.Proofs.Ytcpbccckjlnkaaa
open Go.RowKit Go.Shelf
set_option linter.unusedVariables false
set_option linter.unusedSimpArgs false

def zRow (z : ZD) : Array Value := #[.int .i64 z.N, .slice z.co z.cn z.cc, .slice z.io z.dn z.dc, .slice z.go z.gn z.gc, .slice z.ro z.rn z.rc, .bool z.bad]
end Go.Proofs.Ytcpbccckjlnkaaa

