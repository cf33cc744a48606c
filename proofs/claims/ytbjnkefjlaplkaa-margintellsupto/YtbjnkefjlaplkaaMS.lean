import Derived.Test.YtbjnkefjlaplkaaMR
import Derived.Test.YtbjnkefjlaplkaaPur
import Derived.Deep.RegionHeld3
import Derived.BigRegion
import Derived.Test.YtbjnkefjlaplkaaMQ
import Derived.Shelf.Abstract
namespace Go.Proofs.Ytbjnkefjlaplkaa
open Go.RowKit
set_option linter.unusedVariables false

end Go.Proofs.Ytbjnkefjlaplkaa


namespace Go.Proofs.Ytbjnkefjlaplkaa
open Go.RowKit
set_option linter.unusedVariables false

/-- THE SLICE OF Spans '.slice ao len cap' READS AS F. -/
structure RdS (w : World) (ao : Option Addr) (len cap : Nat) (F : Nat → Nat × Nat × Bool) : Prop where
  le : len ≤ cap
  max : cap ≤ maxLen
  lt : ∀ j, j < len → (F j).1 < 18446744073709551616 ∧ (F j).2.1 < 18446744073709551616
  cells : len = 0 ∨ ∃ b off, ao = some ⟨b, off, none⟩ ∧ ∀ j, j < len → w.cell? ⟨b, off + j * 3, none⟩ = some (.float .f64 (F j).1) ∧ w.cell? ⟨b, off + j * 3 + 1, none⟩ = some (.float .f64 (F j).2.1) ∧ w.cell? ⟨b, off + j * 3 + 2, none⟩ = some (.bool (F j).2.2)
theorem RdS.later {w w' : World} {ao : Option Addr} {len cap : Nat} {F : Nat → Nat × Nat × Bool} (h : RdS w ao len cap F) (hb : Below w.heap.size w w') : RdS w' ao len cap F := by
  refine ⟨h.le, h.max, h.lt, ?_⟩
  rcases h.cells with h0 | ⟨b, off, ha, hc⟩
  · exact .inl h0
  · refine .inr ⟨b, off, ha, fun j hj => ?_⟩
    obtain ⟨h1, h2, h3⟩ := hc j hj
    have hl := World.block_lt_of_cell? w _ h1
    exact ⟨by rw [hb.cell (p := ⟨b, off + j * 3, none⟩) hl]; exact h1, by rw [hb.cell (p := ⟨b, off + j * 3 + 1, none⟩) hl]; exact h2, by rw [hb.cell (p := ⟨b, off + j * 3 + 2, none⟩) hl]; exact h3⟩
def AllGood (F : Nat → Nat × Nat × Bool) (n : Nat) : Prop := ∀ j, j < n → Good (F j).1 (F j).2.1 (F j).2.2
instance (F : Nat → Nat × Nat × Bool) (n : Nat) : Decidable (AllGood F n) := inferInstanceAs (Decidable (∀ j, j < n → Good (F j).1 (F j).2.1 (F j).2.2))

theorem cells3 {W : World} {B : Nat} {v0 v1 v2 : Value} {t : TypeId} (h : W.heap[B]? = some (.cells #[v0, v1, v2] t)) :
    W.cell? ⟨B, 0, none⟩ = some v0 ∧ W.cell? ⟨B, 1, none⟩ = some v1 ∧ W.cell? ⟨B, 2, none⟩ = some v2 :=
  ⟨cell_of_row _ _ 0 _ _ _ h, cell_of_row _ _ 1 _ _ _ h, cell_of_row _ _ 2 _ _ _ h⟩
theorem run_store_f : ∀ (W : World) (a : Addr) (x : Nat), (store a (.float .f64 x)).run Try.prog W = stored Try.prog W a (.float .f64 x) .plain := fun W a x => run_store Try.prog W a _ .plain rfl
end Go.Proofs.Ytbjnkefjlaplkaa


namespace Go.Proofs.Ytbjnkefjlaplkaa
open Go.RowKit
set_option linter.unusedVariables false

theorem AllGood.succ {F : Nat → Nat × Nat × Bool} {k : Nat} (h : AllGood F k) (hg : Good (F k).1 (F k).2.1 (F k).2.2) : AllGood F (k + 1) := by
  intro j hj
  rcases Nat.lt_or_ge j k with h1 | h1
  · exact h j h1
  · obtain rfl : j = k := by omega
    exact hg
end Go.Proofs.Ytbjnkefjlaplkaa

namespace Go.Proofs.Ytbjnkefjlaplkaa
open Go.RowKit
set_option linter.unusedVariables false

/-- What a function value tells at d, whatever new memory lies about. -/
def Tells (k : Nat) (caps : Array Value) (w : World) (d : Int) (p : Nat × Bool) : Prop := ∀ w', Below w.heap.size w w' → Calls Try.prog k (#[.int .i64 d] ++ caps) w' fun e w2 => e = .returned (.tuple #[.float .f64 p.1, .bool p.2]) ∧ Below w'.heap.size w' w2
theorem setsp_heap {w : World} {B : Nat} {t : TypeId} {a b c : Value} (x y z : Value) (h : w.heap[B]? = some (.cells #[a, b, c] t)) :
    (((w.setCell ⟨B, 0, none⟩ x).setCell ⟨B, 1, none⟩ y).setCell ⟨B, 2, none⟩ z).heap[B]? = some (.cells #[x, y, z] t) := by
  have h1 := heap_setCell_same w B 0 _ _ x h
  have h2 := heap_setCell_same _ B 1 _ _ y h1
  exact heap_setCell_same _ B 2 _ _ z h2
theorem below_setsp {w0 w : World} {base B : Nat} (x y z : Value) (h : Below base w0 w) (hB : base ≤ B) : Below base w0 (((w.setCell ⟨B, 0, none⟩ x).setCell ⟨B, 1, none⟩ y).setCell ⟨B, 2, none⟩ z) :=
  ((h.setCell (p := ⟨B, 0, none⟩) hB x).setCell (p := ⟨B, 1, none⟩) hB y).setCell (p := ⟨B, 2, none⟩) hB z
end Go.Proofs.Ytbjnkefjlaplkaa

namespace Go.Proofs.Ytbjnkefjlaplkaa
open Go.RowKit
set_option linter.unusedVariables false
theorem rds_one {W : World} {g : Nat} {lo hi : Nat} {bad : Bool} {t : TypeId} (h : W.heap[g]? = some (.cells #[.float .f64 lo, .float .f64 hi, .bool bad] t)) (hlo : lo < 18446744073709551616) (hhi : hi < 18446744073709551616) : RdS W (some ⟨g, 0, none⟩) 1 1 (fun _ => (lo, hi, bad)) := by
  obtain ⟨c0, c1, c2⟩ := cells3 h
  refine ⟨by omega, by decide, fun _ _ => ⟨hlo, hhi⟩, .inr ⟨g, 0, rfl, fun j hj => ?_⟩⟩
  obtain rfl : j = 0 := by omega
  exact ⟨c0, c1, c2⟩
theorem all_one {lo hi : Nat} {bad : Bool} : decide (AllGood (fun _ => (lo, hi, bad)) 1) = decide (Good lo hi bad) := by
  congr 1; apply propext
  exact ⟨fun h => h 0 (by omega), fun h _ _ => h⟩
def two (a b : Nat × Nat × Bool) (j : Nat) : Nat × Nat × Bool := if j = 0 then a else b
def makeS (lo hi : Nat) : Nat × Nat × Bool := if Good lo hi false then (plainM lo, plainM hi, false) else (0, 0, true)
end Go.Proofs.Ytbjnkefjlaplkaa

