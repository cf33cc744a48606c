import Derived.Test.YtcpbccckjlnkaaaGYa
import Derived.Test.YtcpbccckjlnkaaaGJg
import Derived.Test.YtcpbccckjlnkaaaJZf
import Derived.Test.YtcpbccckjlnkaaaGJi
import Derived.Test.YtcpbccckjlnkaaaJYh
import Derived.Test.YtcpbccckjlnkaaaGJd
import Derived.Test.YtcpbccckjlnkaaaZX
namespace Go.Proofs.Ytcpbccckjlnkaaa
open Go.RowKit Go.Shelf
set_option linter.unusedVariables false
set_option linter.unusedSimpArgs false

theorem RndO.finJ {d : Int} {o : Option Int} {u : Nat} {b : Bool} (h : RndO d o u b) : Fin u := by
  cases o with
  | none => rw [h.1]; decide
  | some z =>
    obtain ⟨a, ha⟩ : ∃ a : Nat, a = 1166 := ⟨_, rfl⟩
    exact (tell_fin (h a ha)).1
end Go.Proofs.Ytcpbccckjlnkaaa


namespace Go.Proofs.Ytcpbccckjlnkaaa
open Go.RowKit Go.Shelf
set_option linter.unusedVariables false
set_option linter.unusedSimpArgs false

end Go.Proofs.Ytcpbccckjlnkaaa


namespace Go.Proofs.Ytcpbccckjlnkaaa
open Go.RowKit Go.Shelf
set_option linter.unusedVariables false
set_option linter.unusedSimpArgs false

end Go.Proofs.Ytcpbccckjlnkaaa

