import Derived.Test.YtcpbccckjlnkaaaGJg
import Derived.Test.YtcpbccckjlnkaaaGJd
namespace Go.Proofs.Ytcpbccckjlnkaaa
open Go.RowKit Go.Shelf
set_option linter.unusedVariables false
set_option linter.unusedSimpArgs false

theorem owns_monoJ {w : World} {E : TypeId} {base b size n : Nat} {v : Value} {xs : List Value} (h : w.ownsRow base E size v n xs) (hb : b ≤ base) : w.ownsRow b E size v n xs := by
  refine ⟨h.1, ?_⟩
  rcases h.2 with h2 | ⟨g, cap, cur, hv, hg, r⟩
  · exact .inl h2
  · exact .inr ⟨g, cap, cur, hv, Nat.le_trans hb hg, r⟩
end Go.Proofs.Ytcpbccckjlnkaaa

