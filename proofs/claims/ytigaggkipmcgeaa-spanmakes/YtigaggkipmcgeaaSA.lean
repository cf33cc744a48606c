import Derived.Test.YtigaggkipmcgeaaNZ
namespace Go.Proofs.Ytigaggkipmcgeaa
open Go.RowKit
set_option linter.unusedVariables false

theorem res_num3 (f : Func) (i j k : Nat) (hf : f.results = #[ResultVar.cell i 27, ResultVar.cell j 27, ResultVar.tmp k]) (tmps : Array Value) (W : World) (B C : Nat) (v0 v1 v2 u0 u1 u2 r : Value) (hp : tmps[i]? = some (.pointer (some ⟨B, 0, none⟩))) (hq : tmps[j]? = some (.pointer (some ⟨C, 0, none⟩))) (hr : tmps[k]? = some r)
    (h : W.heap[B]? = some (.cells #[v0, v1, v2] 27)) (h' : W.heap[C]? = some (.cells #[u0, u1, u2] 27)) : (results f tmps).run Try.prog W = .ok (.tuple #[.agg #[v0, v1, v2], .agg #[u0, u1, u2], r]) W := by
  obtain ⟨h0, h1, h2⟩ := three_cells h
  obtain ⟨k0, k1, k2⟩ := three_cells h'
  simp [results, hf, go_sem, hp, hq, hr, h0, h1, h2, k0, k1, k2]
theorem set3_other {w : World} {B C : Nat} (x y z : Value) (hB : C ≠ B) : (((w.setCell ⟨B, 0, none⟩ x).setCell ⟨B, 1, none⟩ y).setCell ⟨B, 2, none⟩ z).heap[C]? = w.heap[C]? := by
  rw [heap_setCell_other _ _ _ _ hB, heap_setCell_other _ _ _ _ hB, heap_setCell_other _ _ _ _ hB]
theorem decide_and2 (p q : Prop) [Decidable p] [Decidable q] : (decide p && decide q) = decide (p ∧ q) := by
  by_cases hp : p <;> by_cases hq : q <;> simp [hp, hq]
theorem drew_heap (w : World) : w.drew.heap = w.heap := rfl
/-- Two numbers are written over two blocks. -/
def wrote2 (W : World) (B C : Nat) (x0 x1 x2 y0 y1 y2 : Value) : World := ((((((W.setCell ⟨B, 0, none⟩ x0).setCell ⟨B, 1, none⟩ x1).setCell ⟨B, 2, none⟩ x2).setCell ⟨C, 0, none⟩ y0).setCell ⟨C, 1, none⟩ y1).setCell ⟨C, 2, none⟩ y2).drew
theorem wrote2_heap {W : World} {B C : Nat} (x0 x1 x2 y0 y1 y2 : Value) {a b c a' b' c' : Value} (h : C ≠ B) (h0 : W.heap[B]? = some (.cells #[a, b, c] 27)) (h1 : W.heap[C]? = some (.cells #[a', b', c'] 27)) :
    (wrote2 W B C x0 x1 x2 y0 y1 y2).heap[B]? = some (.cells #[x0, x1, x2] 27) ∧ (wrote2 W B C x0 x1 x2 y0 y1 y2).heap[C]? = some (.cells #[y0, y1, y2] 27) := by
  have k0 := set3_heap x0 x1 x2 h0
  have k1 := (set3_other (w := W) x0 x1 x2 h).trans h1
  unfold wrote2
  rw [drew_heap]
  generalize ((W.setCell ⟨B, 0, none⟩ x0).setCell ⟨B, 1, none⟩ x1).setCell ⟨B, 2, none⟩ x2 = W1 at *
  exact ⟨by rw [set3_other y0 y1 y2 (Ne.symm h)]; exact k0, set3_heap y0 y1 y2 k1⟩
theorem wrote2_num {W : World} {B C : Nat} (x0 x1 x2 y0 y1 y2 : Value) (h : C ≠ B) (h0 : NumB W B) (h1 : NumB W C) {v : Value} {s : Nat} {T r : Int} (hz : NumZ W v s T r) : NumZ (wrote2 W B C x0 x1 x2 y0 y1 y2) v s T r := by
  obtain ⟨n, a, l, c, e, h1⟩ := h1
  exact NumZ.later (NumZ.set3 y0 y1 y2 ⟨n, a, l, c, e, (set3_other x0 x1 x2 h).trans h1⟩ (NumZ.set3 x0 x1 x2 h0 hz)) (Below.refl _ _).drew
theorem wrote2_below {w0 W : World} {base B C : Nat} (x0 x1 x2 y0 y1 y2 : Value) (h : Below base w0 W) (hB : base ≤ B) (hC : base ≤ C) : Below base w0 (wrote2 W B C x0 x1 x2 y0 y1 y2) :=
  (below_set3 y0 y1 y2 (below_set3 x0 x1 x2 h hB) hC).drew
end Go.Proofs.Ytigaggkipmcgeaa
