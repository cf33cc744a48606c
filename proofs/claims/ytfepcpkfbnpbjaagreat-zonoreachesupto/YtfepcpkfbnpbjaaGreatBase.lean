import Derived.WalkKit
import Derived.Lib.EndianBits
import Derived.Laws.Bits128
/-
  MY OWN: byte slices as lists: what a slice value reads as ('Rd'), how it lasts ('Below'), and the plain functions of chapter 1.
-/
namespace Go.Proofs.YtfepcpkfbnpbjaaGreat
open Go.RowKit

/-- A list of bytes. -/
def Byt (xs : List Int) : Prop := ∀ x ∈ xs, 0 ≤ x ∧ x ≤ 255

/-- THE SLICE OF BYTES '.slice ao len cap' READS AS xs. -/
structure Rd (w : World) (ao : Option Addr) (len cap : Nat) (xs : List Int) : Prop where
  length : xs.length = len
  le : len ≤ cap
  max : cap ≤ 9223372036854775807
  byt : Byt xs
  nil : ao = none → cap = 0
  cells : len = 0 ∨ ∃ b off, ao = some ⟨b, off, none⟩ ∧ ∀ j, j < len → w.cell? ⟨b, off + j, none⟩ = some (.int .u8 (xs[j]?.getD 0))

def grpF : Nat → Nat → List Int
  | 0, n => [(n : Int)]
  | f + 1, n => if n < 128 then [(n : Int)] else ((128 + n % 128 : Nat) : Int) :: grpF f (n / 128)
def grp (n : Nat) : List Int := grpF n n
end Go.Proofs.YtfepcpkfbnpbjaaGreat

