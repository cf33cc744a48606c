import Derived.Test.YtcpbccckjlnkaaaMT
namespace Go.Proofs.Ytcpbccckjlnkaaa
open Go.RowKit
set_option linter.unusedVariables false

theorem blk_lt {W : World} {B : Nat} {o : Obj} (h : W.heap[B]? = some o) : B < W.heap.size := by
  rcases Nat.lt_or_ge B W.heap.size with c | c
  · exact c
  · rw [Array.getElem?_eq_none c] at h; cases h
end Go.Proofs.Ytcpbccckjlnkaaa


namespace Go.Proofs.Ytcpbccckjlnkaaa
open Go.RowKit
set_option linter.unusedVariables false

end Go.Proofs.Ytcpbccckjlnkaaa


namespace Go.Proofs.Ytcpbccckjlnkaaa
open Go.RowKit
set_option linter.unusedVariables false

end Go.Proofs.Ytcpbccckjlnkaaa


namespace Go.Proofs.Ytcpbccckjlnkaaa
open Go.RowKit
set_option linter.unusedVariables false

end Go.Proofs.Ytcpbccckjlnkaaa

