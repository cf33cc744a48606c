import Derived.Test.YtnjjichanfpbhaaGreatRYa
namespace Go.Proofs.YtnjjichanfpbhaaGreat
open Go.RowKit
set_option linter.unusedVariables false

theorem set3_dv {w W : World} {R Px Py X : Nat} {OX OY : Obj} {vA vB vC vD : Value} {E : Nat} {A B C D : Int} (h : DvK w W R Px Py OX OY vA vB vC vD E A B C D) (hX : X ≠ R ∧ X ≠ Px ∧ X ≠ Py) (hw : w.heap.size ≤ X) (hV : NumB W X) (n : Bool) (o : Option Addr) (l c : Nat) (e : Int) : DvK w (((W.setCell ⟨X, 0, none⟩ (.bool n)).setCell ⟨X, 1, none⟩ (.slice o l c)).setCell ⟨X, 2, none⟩ (.int .i64 e)) R Px Py OX OY vA vB vC vD E A B C D :=
  h.oth hX hV.not (fun B hB => set3_other _ _ _ hB) (below_set3 _ _ _ h.bel hw)
theorem set1_heap {W : World} {S : Nat} {x y : Int} {b : Bool} (u : Int) (h : W.heap[S]? = some (Obj.cells #[Value.int .u64 x, .int .u64 y, .bool b] 36)) : (W.setCell ⟨S, 0, none⟩ (.int .u64 u)).heap[S]? = some (Obj.cells #[Value.int .u64 u, .int .u64 y, .bool b] 36) ∧ (W.setCell ⟨S, 1, none⟩ (.int .u64 u)).heap[S]? = some (Obj.cells #[Value.int .u64 x, .int .u64 u, .bool b] 36) ∧ ∀ b', (W.setCell ⟨S, 2, none⟩ (.bool b')).heap[S]? = some (Obj.cells #[Value.int .u64 x, .int .u64 y, .bool b'] 36) :=
  ⟨heap_setCell_same W S 0 _ _ _ h, heap_setCell_same W S 1 _ _ _ h, fun b' => heap_setCell_same W S 2 _ _ _ h⟩
theorem below_set1 {w0 w : World} {base B j : Nat} (x : Value) (h : Below base w0 w) (hB : base ≤ B) : Below base w0 (w.setCell ⟨B, j, none⟩ x) := h.setCell hB x
theorem set1_dv {w W : World} {R Px Py S j : Nat} {OX OY : Obj} {vA vB vC vD : Value} {E : Nat} {A B C D : Int} (h : DvK w W R Px Py OX OY vA vB vC vD E A B C D) (hX : S ≠ R ∧ S ≠ Px ∧ S ≠ Py) (hw : w.heap.size ≤ S) {x y : Int} {b : Bool} (hO : W.heap[S]? = some (Obj.cells #[Value.int .u64 x, .int .u64 y, .bool b] 36)) (v : Value) : DvK w (W.setCell ⟨S, j, none⟩ v) R Px Py OX OY vA vB vC vD E A B C D :=
  h.oth hX (noU32 hO) (fun B hB => heap_setCell_other _ _ _ _ hB) (below_set1 _ h.bel hw)
theorem lo_next {p : Nat → Nat × Bool} {k : Nat} (hk : k ≠ 0) : (fval (p k).1 < fval (loF p k) → loF p (k + 1) = (p k).1) ∧ (¬ fval (p k).1 < fval (loF p k) → loF p (k + 1) = loF p k) := by
  have h := srung_le (loF p k) (p k).1
  show (_ → (if k = 0 then _ else lesser _ _) = _) ∧ (_ → (if k = 0 then _ else lesser _ _) = _)
  rw [if_neg hk]
  unfold lesser
  constructor
  · intro c; rw [if_neg (by intro q; have := h.1 q; omega)]
  · intro c; rw [if_pos (h.2 (by omega))]
theorem hi_next {p : Nat → Nat × Bool} {k : Nat} (hk : k ≠ 0) : (fval (hiF p k) < fval (p k).1 → hiF p (k + 1) = (p k).1) ∧ (¬ fval (hiF p k) < fval (p k).1 → hiF p (k + 1) = hiF p k) := by
  have h := srung_le (p k).1 (hiF p k)
  show (_ → (if k = 0 then _ else greater _ _) = _) ∧ (_ → (if k = 0 then _ else greater _ _) = _)
  rw [if_neg hk]
  unfold greater
  constructor
  · intro c; rw [if_neg (by intro q; have := h.1 q; omega)]
  · intro c; rw [if_pos (h.2 (by omega))]
end Go.Proofs.YtnjjichanfpbhaaGreat
