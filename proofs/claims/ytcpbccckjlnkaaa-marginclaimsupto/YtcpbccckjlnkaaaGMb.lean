import Derived.Test.YtcpbccckjlnkaaaGMa
import Derived.Test.YtcpbccckjlnkaaaGJk
import Derived.Test.YtcpbccckjlnkaaaJXd
import Derived.Test.YtcpbccckjlnkaaaNCc
import Derived.Test.YtcpbccckjlnkaaaJXs
import Derived.Test.YtcpbccckjlnkaaaGXb
import Derived.Test.YtcpbccckjlnkaaaJXu
namespace Go.Proofs.Ytcpbccckjlnkaaa
open Go.RowKit Go.Shelf
set_option linter.unusedVariables false
set_option linter.unusedSimpArgs false

end Go.Proofs.Ytcpbccckjlnkaaa


namespace Go.Proofs.Ytcpbccckjlnkaaa
open Go.RowKit Go.Shelf
set_option linter.unusedVariables false
set_option linter.unusedSimpArgs false

end Go.Proofs.Ytcpbccckjlnkaaa


namespace Go.Proofs.Ytcpbccckjlnkaaa
open Go.RowKit Go.Shelf
set_option linter.unusedVariables false
set_option linter.unusedSimpArgs false

theorem rdU_own {W : World} {base : Nat} {v : Value} {us : List Nat} (h : W.ownsRow base 67 1 v us.length (uJ us)) : ∃ ao c, v = .slice ao us.length c ∧ RdUs W ao us.length c us := by
  obtain ⟨ao, cap, h1, h2, h3⟩ := owns_slice h
  refine ⟨ao, cap, h1, rfl, h2, ?_⟩
  rcases h3 with h0 | ⟨g, rfl, hc⟩
  · exact .inl h0
  · refine .inr ⟨g, 0, rfl, fun j hj => ?_⟩
    rw [Nat.zero_add, hc j hj]
    unfold uJ
    rw [List.getElem?_map, List.getElem?_eq_getElem hj]
    rfl
end Go.Proofs.Ytcpbccckjlnkaaa


namespace Go.Proofs.Ytcpbccckjlnkaaa
open Go.RowKit Go.Shelf
set_option linter.unusedVariables false
set_option linter.unusedSimpArgs false

end Go.Proofs.Ytcpbccckjlnkaaa

