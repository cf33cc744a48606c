import Derived.Test.YtcpbccckjlnkaaaMN
import Derived.Test.YtcpbccckjlnkaaaMR
import Derived.Deep.RegionHeld3
import Derived.Test.YtcpbccckjlnkaaaMQ
namespace Go.Proofs.Ytcpbccckjlnkaaa
open Go.RowKit
set_option linter.unusedVariables false

theorem odd_bit (h : Nat) (hh : h < 18446744073709551616) : (bits .and .u64 (h : Int) 1 == 1) = decide (h % 2 = 1) := by
  have k := u64_and_nat h 1 hh (by decide)
  rw [show ((1 : Nat) : Int) = 1 from rfl] at k
  rw [k, Nat.and_one_is_mod]
  by_cases ho : h % 2 = 1
  · rw [ho]; rfl
  · have : h % 2 = 0 := by omega
    rw [this]; rfl
end Go.Proofs.Ytcpbccckjlnkaaa


namespace Go.Proofs.Ytcpbccckjlnkaaa
open Go.RowKit
set_option linter.unusedVariables false

end Go.Proofs.Ytcpbccckjlnkaaa


namespace Go.Proofs.Ytcpbccckjlnkaaa
open Go.RowKit
set_option linter.unusedVariables false

end Go.Proofs.Ytcpbccckjlnkaaa


namespace Go.Proofs.Ytcpbccckjlnkaaa
open Go.RowKit
set_option linter.unusedVariables false

end Go.Proofs.Ytcpbccckjlnkaaa


namespace Go.Proofs.Ytcpbccckjlnkaaa
open Go.RowKit
set_option linter.unusedVariables false

end Go.Proofs.Ytcpbccckjlnkaaa


namespace Go.Proofs.Ytcpbccckjlnkaaa
open Go.RowKit
set_option linter.unusedVariables false

end Go.Proofs.Ytcpbccckjlnkaaa


namespace Go.Proofs.Ytcpbccckjlnkaaa
open Go.RowKit
set_option linter.unusedVariables false

end Go.Proofs.Ytcpbccckjlnkaaa


namespace Go.Proofs.Ytcpbccckjlnkaaa
open Go.RowKit
set_option linter.unusedVariables false

end Go.Proofs.Ytcpbccckjlnkaaa

