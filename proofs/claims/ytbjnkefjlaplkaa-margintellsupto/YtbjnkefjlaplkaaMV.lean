import Derived.Test.YtbjnkefjlaplkaaMU
import Derived.Test.YtbjnkefjlaplkaaMZ
namespace Go.Proofs.Ytbjnkefjlaplkaa
open Go.RowKit
set_option linter.unusedVariables false

theorem NumB.lt {V : World} {B : Nat} (h : NumB V B) : B < V.heap.size := by
  obtain ⟨a, b, c, d, e, h⟩ := h; exact blk_lt h
theorem NumB.keep {V V' : World} {B : Nat} (h : NumB V B) (hk : V'.heap[B]? = V.heap[B]?) : NumB V' B := by
  obtain ⟨a, b, c, d, e, h⟩ := h; exact ⟨a, b, c, d, e, hk.trans h⟩
variable {w V : World} {R Q X Y S : Nat} {so : Obj} {nx ny : Bool} {ao bo : Option Addr} {len cap blen bcap : Nat} {ex ey : Int} {E : Nat} {z1 z2 : Int}
end Go.Proofs.Ytbjnkefjlaplkaa


namespace Go.Proofs.Ytbjnkefjlaplkaa
open Go.RowKit
set_option linter.unusedVariables false

end Go.Proofs.Ytbjnkefjlaplkaa


namespace Go.Proofs.Ytbjnkefjlaplkaa
open Go.RowKit
set_option linter.unusedVariables false

end Go.Proofs.Ytbjnkefjlaplkaa


namespace Go.Proofs.Ytbjnkefjlaplkaa
open Go.RowKit
set_option linter.unusedVariables false

end Go.Proofs.Ytbjnkefjlaplkaa

