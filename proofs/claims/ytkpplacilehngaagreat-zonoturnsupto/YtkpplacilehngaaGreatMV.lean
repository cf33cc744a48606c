import Derived.Test.YtkpplacilehngaaGreatMU
import Derived.Test.YtkpplacilehngaaGreatMZ
namespace Go.Proofs.YtkpplacilehngaaGreat
open Go.RowKit
set_option linter.unusedVariables false

/-- Two numbers' variables, two blocks for what is told. -/
structure Six (w V : World) (R Q X Y S : Nat) (so : Obj) (nx ny : Bool) (ao bo : Option Addr) (len cap blen bcap : Nat) (ex ey : Int) (E : Nat) (z1 z2 : Int) : Prop where
  hx : V.heap[X]? = some (Obj.cells #[Value.bool nx, Value.slice ao len cap, Value.int IntKind.i64 ex] 58)
  hy : V.heap[Y]? = some (Obj.cells #[Value.bool ny, Value.slice bo blen bcap, Value.int IntKind.i64 ey] 58)
  hs : V.heap[S]? = some so
  hr : NumB V R
  hq : NumB V Q
  zx : NumZ V (.agg #[Value.bool nx, Value.slice ao len cap, Value.int IntKind.i64 ex]) E 1024 z1
  zy : NumZ V (.agg #[Value.bool ny, Value.slice bo blen bcap, Value.int IntKind.i64 ey]) E 1024 z2
  bel : Below w.heap.size w V
  base : w.heap.size ≤ R ∧ w.heap.size ≤ Q
  apart : R ≠ Q ∧ R ≠ X ∧ R ≠ Y ∧ Q ≠ X ∧ Q ≠ Y ∧ R ≠ S ∧ Q ≠ S
theorem NumB.lt {V : World} {B : Nat} (h : NumB V B) : B < V.heap.size := by
  obtain ⟨a, b, c, d, e, h⟩ := h; exact blk_lt h
theorem NumB.keep {V V' : World} {B : Nat} (h : NumB V B) (hk : V'.heap[B]? = V.heap[B]?) : NumB V' B := by
  obtain ⟨a, b, c, d, e, h⟩ := h; exact ⟨a, b, c, d, e, hk.trans h⟩
variable {w V : World} {R Q X Y S : Nat} {so : Obj} {nx ny : Bool} {ao bo : Option Addr} {len cap blen bcap : Nat} {ex ey : Int} {E : Nat} {z1 z2 : Int}
theorem Six.later (h : Six w V R Q X Y S so nx ny ao bo len cap blen bcap ex ey E z1 z2) {V' : World} (hb : Below V.heap.size V V') : Six w V' R Q X Y S so nx ny ao bo len cap blen bcap ex ey E z1 z2 :=
  ⟨(hb.block _ (blk_lt h.hx)).trans h.hx, (hb.block _ (blk_lt h.hy)).trans h.hy, (hb.block _ (blk_lt h.hs)).trans h.hs, h.hr.keep (hb.block _ h.hr.lt), h.hq.keep (hb.block _ h.hq.lt), h.zx.later hb, h.zy.later hb, h.bel.trans (hb.mono h.bel.size), h.base, h.apart⟩
theorem Six.drew (h : Six w V R Q X Y S so nx ny ao bo len cap blen bcap ex ey E z1 z2) : Six w V.drew R Q X Y S so nx ny ao bo len cap blen bcap ex ey E z1 z2 := h.later (Below.refl _ _).drew
theorem Six.setR (h : Six w V R Q X Y S so nx ny ao bo len cap blen bcap ex ey E z1 z2) : Six w (((V.setCell ⟨R, 0, none⟩ (Value.bool nx)).setCell ⟨R, 1, none⟩ (Value.slice ao len cap)).setCell ⟨R, 2, none⟩ (Value.int IntKind.i64 ex)) R Q X Y S so nx ny ao bo len cap blen bcap ex ey E z1 z2 ∧ (((V.setCell ⟨R, 0, none⟩ (Value.bool nx)).setCell ⟨R, 1, none⟩ (Value.slice ao len cap)).setCell ⟨R, 2, none⟩ (Value.int IntKind.i64 ex)).heap[R]? = some (Obj.cells #[Value.bool nx, Value.slice ao len cap, Value.int IntKind.i64 ex] 58) := by
  obtain ⟨q1, q2, q3, q4, q5, q6, q7⟩ := h.apart
  have hb := below_set3 (Value.bool nx) (Value.slice ao len cap) (Value.int IntKind.i64 ex) h.bel h.base.1
  have zx := NumZ.set3 (Value.bool nx) (Value.slice ao len cap) (Value.int IntKind.i64 ex) h.hr h.zx
  have zy := NumZ.set3 (Value.bool nx) (Value.slice ao len cap) (Value.int IntKind.i64 ex) h.hr h.zy
  have ox := set3_other (w := V) (Value.bool nx) (Value.slice ao len cap) (Value.int IntKind.i64 ex) (Ne.symm q2)
  have oy := set3_other (w := V) (Value.bool nx) (Value.slice ao len cap) (Value.int IntKind.i64 ex) (Ne.symm q3)
  have oq := set3_other (w := V) (Value.bool nx) (Value.slice ao len cap) (Value.int IntKind.i64 ex) (Ne.symm q1)
  have os := set3_other (w := V) (Value.bool nx) (Value.slice ao len cap) (Value.int IntKind.i64 ex) (Ne.symm q6)
  obtain ⟨a, b, c, d, e, hr⟩ := h.hr
  have hh := set3_heap (Value.bool nx) (Value.slice ao len cap) (Value.int IntKind.i64 ex) hr
  exact ⟨⟨ox.trans h.hx, oy.trans h.hy, os.trans h.hs, ⟨_, _, _, _, _, hh⟩, h.hq.keep oq, zx, zy, hb, h.base, h.apart⟩, hh⟩
theorem Six.cells (h : Six w V R Q X Y S so nx ny ao bo len cap blen bcap ex ey E z1 z2) : (V.cell? ⟨X, 0, none⟩ = some (Value.bool nx) ∧ V.cell? ⟨X, 1, none⟩ = some (Value.slice ao len cap) ∧ V.cell? ⟨X, 2, none⟩ = some (Value.int IntKind.i64 ex)) ∧ (V.cell? ⟨Y, 0, none⟩ = some (Value.bool ny) ∧ V.cell? ⟨Y, 1, none⟩ = some (Value.slice bo blen bcap) ∧ V.cell? ⟨Y, 2, none⟩ = some (Value.int IntKind.i64 ey)) ∧ (∃ a b c d e, V.cell? ⟨R, 0, none⟩ = some (.bool a) ∧ V.cell? ⟨R, 1, none⟩ = some (.slice b c d) ∧ V.cell? ⟨R, 2, none⟩ = some (.int .i64 e) ∧ ∀ j, V.frozen? ⟨R, j, none⟩ = false) ∧ (∃ a b c d e, V.cell? ⟨Q, 0, none⟩ = some (.bool a) ∧ V.cell? ⟨Q, 1, none⟩ = some (.slice b c d) ∧ V.cell? ⟨Q, 2, none⟩ = some (.int .i64 e) ∧ ∀ j, V.frozen? ⟨Q, j, none⟩ = false) := by
  refine ⟨cells3 h.hx, cells3 h.hy, ?_, ?_⟩
  · obtain ⟨a, b, c, d, e, hr⟩ := h.hr
    obtain ⟨c0, c1, c2⟩ := cells3 hr
    exact ⟨a, b, c, d, e, c0, c1, c2, fun j => frozen_of_row _ _ j _ _ hr⟩
  · obtain ⟨a, b, c, d, e, hr⟩ := h.hq
    obtain ⟨c0, c1, c2⟩ := cells3 hr
    exact ⟨a, b, c, d, e, c0, c1, c2, fun j => frozen_of_row _ _ j _ _ hr⟩
end Go.Proofs.YtkpplacilehngaaGreat


namespace Go.Proofs.YtkpplacilehngaaGreat
open Go.RowKit
set_option linter.unusedVariables false

/-- What the document's call gives. -/
def RefAns (w : World) (P : Nat × Nat × Bool → Prop) (e : Ending) (w' : World) : Prop := ∃ r : Nat × Nat × Bool, e = .returned (.agg #[.int .u64 (r.1 : Int), .int .u64 (r.2.1 : Int), .bool r.2.2]) ∧ P r ∧ Below w.heap.size w w'
end Go.Proofs.YtkpplacilehngaaGreat


namespace Go.Proofs.YtkpplacilehngaaGreat
open Go.RowKit
set_option linter.unusedVariables false

end Go.Proofs.YtkpplacilehngaaGreat


namespace Go.Proofs.YtkpplacilehngaaGreat
open Go.RowKit
set_option linter.unusedVariables false

end Go.Proofs.YtkpplacilehngaaGreat

