import Derived.WalkKit
import Derived.Lib.EndianBits
import Derived.Laws.Bits128
/-
  MY OWN: byte slices as lists: what a slice value reads as ('Rd'), how it lasts ('Below'), and the plain functions of chapter 1.
-/
namespace Go.Proofs.Ytcpbccckjlnkaaa
open Go.RowKit

end Go.Proofs.Ytcpbccckjlnkaaa

