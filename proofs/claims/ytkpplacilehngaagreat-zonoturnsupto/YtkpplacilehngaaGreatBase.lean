import Derived.WalkKit
import Derived.Lib.EndianBits
import Derived.Laws.Bits128
/-
  MY OWN: byte slices as lists: what a slice value reads as ('Rd'), how it lasts ('Below'), and the plain functions of chapter 1.
-/
namespace Go.Proofs.YtkpplacilehngaaGreat
open Go.RowKit

/-- A list of bytes. -/
def Byt (xs : List Int) : Prop := ∀ x ∈ xs, 0 ≤ x ∧ x ≤ 255

/-- THE SLICE OF BYTES '.slice ao len cap' READS AS xs. -/
structure Rd (w : World) (ao : Option Addr) (len cap : Nat) (xs : List Int) : Prop where
  length : xs.length = len
  le : len ≤ cap
  max : cap ≤ 9223372036854775807
  byt : Byt xs
  nil : ao = none → cap = 0
  cells : len = 0 ∨ ∃ b off, ao = some ⟨b, off, none⟩ ∧ ∀ j, j < len → w.cell? ⟨b, off + j, none⟩ = some (.int .u8 (xs[j]?.getD 0))

theorem Byt.nil : Byt [] := fun _ h => by cases h
theorem Byt.cons {x : Int} {xs : List Int} (h0 : 0 ≤ x) (h1 : x ≤ 255) (h : Byt xs) : Byt (x :: xs) := by
  intro y hy
  rcases List.mem_cons.1 hy with rfl | hy
  · exact ⟨h0, h1⟩
  · exact h y hy
theorem Byt.append {xs ys : List Int} (h : Byt xs) (k : Byt ys) : Byt (xs ++ ys) := by
  intro y hy
  rcases List.mem_append.1 hy with hy | hy
  · exact h y hy
  · exact k y hy
theorem Byt.take {xs : List Int} (h : Byt xs) (n : Nat) : Byt (xs.take n) := fun y hy => h y (List.mem_of_mem_take hy)
theorem Byt.drop {xs : List Int} (h : Byt xs) (n : Nat) : Byt (xs.drop n) := fun y hy => h y (List.mem_of_mem_drop hy)
theorem Byt.at {xs : List Int} (h : Byt xs) (j : Nat) : 0 ≤ xs[j]?.getD 0 ∧ xs[j]?.getD 0 ≤ 255 := by
  by_cases hj : j < xs.length
  · rw [List.getElem?_eq_getElem hj]; exact h _ (List.getElem_mem hj)
  · rw [List.getElem?_eq_none (by omega)]; simp

/-- What reads so reads so as long as old memory stands. -/
theorem Rd.later {w w' : World} {ao : Option Addr} {len cap : Nat} {xs : List Int} (h : Rd w ao len cap xs) (hb : Below w.heap.size w w') : Rd w' ao len cap xs := by
  refine ⟨h.length, h.le, h.max, h.byt, h.nil, ?_⟩
  rcases h.cells with h0 | ⟨b, off, ha, hc⟩
  · exact .inl h0
  · refine .inr ⟨b, off, ha, fun j hj => ?_⟩
    have hl := World.block_lt_of_cell? w _ (hc j hj)
    rw [hb.cell (p := ⟨b, off + j, none⟩) hl]
    exact hc j hj

def grpF : Nat → Nat → List Int
  | 0, n => [(n : Int)]
  | f + 1, n => if n < 128 then [(n : Int)] else ((128 + n % 128 : Nat) : Int) :: grpF f (n / 128)
def grp (n : Nat) : List Int := grpF n n
end Go.Proofs.YtkpplacilehngaaGreat

