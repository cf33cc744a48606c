import Derived.Test.YtcpbccckjlnkaaaMR
import Derived.Test.YtcpbccckjlnkaaaPur
import Derived.Deep.RegionHeld3
import Derived.BigRegion
import Derived.Test.YtcpbccckjlnkaaaMQ
import Derived.Shelf.Abstract
namespace Go.Proofs.Ytcpbccckjlnkaaa
open Go.RowKit
set_option linter.unusedVariables false

end Go.Proofs.Ytcpbccckjlnkaaa


namespace Go.Proofs.Ytcpbccckjlnkaaa
open Go.RowKit
set_option linter.unusedVariables false

def AllGood (F : Nat → Nat × Nat × Bool) (n : Nat) : Prop := ∀ j, j < n → Good (F j).1 (F j).2.1 (F j).2.2
instance (F : Nat → Nat × Nat × Bool) (n : Nat) : Decidable (AllGood F n) := inferInstanceAs (Decidable (∀ j, j < n → Good (F j).1 (F j).2.1 (F j).2.2))

end Go.Proofs.Ytcpbccckjlnkaaa


namespace Go.Proofs.Ytcpbccckjlnkaaa
open Go.RowKit
set_option linter.unusedVariables false

theorem AllGood.succ {F : Nat → Nat × Nat × Bool} {k : Nat} (h : AllGood F k) (hg : Good (F k).1 (F k).2.1 (F k).2.2) : AllGood F (k + 1) := by
  intro j hj
  rcases Nat.lt_or_ge j k with h1 | h1
  · exact h j h1
  · obtain rfl : j = k := by omega
    exact hg
end Go.Proofs.Ytcpbccckjlnkaaa


namespace Go.Proofs.Ytcpbccckjlnkaaa
open Go.RowKit
set_option linter.unusedVariables false

end Go.Proofs.Ytcpbccckjlnkaaa


namespace Go.Proofs.Ytcpbccckjlnkaaa
open Go.RowKit
set_option linter.unusedVariables false

def two (a b : Nat × Nat × Bool) (j : Nat) : Nat × Nat × Bool := if j = 0 then a else b
end Go.Proofs.Ytcpbccckjlnkaaa

