import Derived.Test.YtgjdmenmegnacabTC
namespace Go.Proofs.Ytgjdmenmegnacab
open Go.RowKit
set_option linter.unusedVariables false

/-- A variable that holds a number: its block, and what it stands for. -/
structure Var (W : World) (B : Nat) (n : Bool) (a : Option Addr) (l c : Nat) (e : Int) (s : Nat) (T z : Int) : Prop where
  heap : W.heap[B]? = some (.cells #[.bool n, .slice a l c, .int .i64 e] 25)
  num : NumZ W (.agg #[.bool n, .slice a l c, .int .i64 e]) s T z
theorem Var.lt {W : World} {B : Nat} {n : Bool} {a : Option Addr} {l c : Nat} {e : Int} {s : Nat} {T z : Int} (h : Var W B n a l c e s T z) : B < W.heap.size := by
  rcases Nat.lt_or_ge B W.heap.size with h1 | h1
  · exact h1
  · have := h.heap; rw [Array.getElem?_eq_none h1] at this; cases this
theorem Var.later {W W' : World} {B : Nat} {n : Bool} {a : Option Addr} {l c : Nat} {e : Int} {s : Nat} {T z : Int} (h : Var W B n a l c e s T z) (hb : Below W.heap.size W W') : Var W' B n a l c e s T z :=
  ⟨(hb.block B h.lt).trans h.heap, h.num.later hb⟩
theorem Var.drew {W : World} {B : Nat} {n : Bool} {a : Option Addr} {l c : Nat} {e : Int} {s : Nat} {T z : Int} (h : Var W B n a l c e s T z) : Var W.drew B n a l c e s T z := h.later (Below.refl _ _).drew
theorem Var.alloc {W : World} {B : Nat} {n : Bool} {a : Option Addr} {l c : Nat} {e : Int} {s : Nat} {T z : Int} (h : Var W B n a l c e s T z) (o : Obj) : Var (W.alloc o) B n a l c e s T z := h.later ((Below.refl _ _).alloc (Nat.le_refl _) o)
theorem Var.new {W : World} {n : Bool} {a : Option Addr} {l c : Nat} {e : Int} {s : Nat} {T z : Int} (h : NumZ W (.agg #[.bool n, .slice a l c, .int .i64 e]) s T z) : Var (W.alloc (.cells #[.bool n, .slice a l c, .int .i64 e] 25)) W.heap.size n a l c e s T z :=
  ⟨heap_alloc_new W _, h.later ((Below.refl _ _).alloc (Nat.le_refl _) _)⟩
theorem Var.cells {W : World} {B : Nat} {n : Bool} {a : Option Addr} {l c : Nat} {e : Int} {s : Nat} {T z : Int} (h : Var W B n a l c e s T z) : W.cell? ⟨B, 0, none⟩ = some (.bool n) ∧ W.cell? ⟨B, 1, none⟩ = some (.slice a l c) ∧ W.cell? ⟨B, 2, none⟩ = some (.int .i64 e) := three_cells h.heap
end Go.Proofs.Ytgjdmenmegnacab
