import Derived.Test.YtkpoikjikkailaaBB
namespace Go.Proofs.Ytkpoikjikkailaa
open Go.RowKit
set_option linter.unusedVariables false

theorem psum_take {ts : List TmV} {k : Nat} (h : k < ts.length) : psum (ts.take (k + 1)) = psum (ts.take k) + prT ts[k] := by
  have e : ts.take (k + 1) = ts.take k ++ [ts[k]] := by rw [List.take_add_one, List.getElem?_eq_getElem h]; rfl
  rw [e, psum_append, psum_one]
theorem getT' {ts : List TmV} {k : Nat} (h : k < ts.length) : ts[k]?.getD tmD = ts[k] := by rw [List.getElem?_eq_getElem h]; rfl
/-- What the loop keeps. -/
structure BtS (w1 wr : World) (Bx Pv : Nat) (n0 : Bool) (o0 : Option Addr) (l0 c0 : Nat) (e0 : Int) (E : Nat) (T z : Int) : Prop where
  bel : Below w1.heap.size w1 wr
  ax : AccO wr Bx (some z)
  hp : wr.heap[Pv]? = some (Obj.cells #[Value.bool n0, Value.slice o0 l0 c0, Value.int IntKind.i64 e0] 27)
  num : NumZ wr (.agg #[.bool n0, .slice o0 l0 c0, .int .i64 e0]) (E + (E + 92)) T z
theorem BtS.later {w1 wr wy : World} {Bx Pv : Nat} {n0 : Bool} {o0 : Option Addr} {l0 c0 : Nat} {e0 : Int} {E : Nat} {T z : Int} (h : BtS w1 wr Bx Pv n0 o0 l0 c0 e0 E T z) (hb : Below wr.heap.size wr wy) : BtS w1 wy Bx Pv n0 o0 l0 c0 e0 E T z :=
  ⟨h.bel.trans (hb.mono h.bel.size), h.ax.below hb h.ax.block, (hb.block Pv (Array.getElem?_eq_some_iff.1 h.hp).1).trans h.hp, h.num.later hb⟩
theorem BtS.into {w1 wr wy : World} {Bx Pv : Nat} {n0 : Bool} {o0 : Option Addr} {l0 c0 : Nat} {e0 : Int} {E : Nat} {T z z' : Int} (h : BtS w1 wr Bx Pv n0 o0 l0 c0 e0 E T z) (hc : Chg Bx wr wy) (ha : AccO wy Bx (some z')) (hx : w1.heap.size ≤ Bx) (hne : Pv ≠ Bx) : Below w1.heap.size w1 wy ∧ wy.heap[Pv]? = some (Obj.cells #[Value.bool n0, Value.slice o0 l0 c0, Value.int IntKind.i64 e0] 27) ∧ NumZ wy (.agg #[.bool n0, .slice o0 l0 c0, .int .i64 e0]) (E + (E + 92)) T z :=
  ⟨h.bel.trans (hc.below.mono hx), (hc.other Pv (Array.getElem?_eq_some_iff.1 h.hp).1 hne).trans h.hp, h.num.chg h.ax hc⟩
theorem bt_three {z : Int} {D dn up nr : Nat} {ok is fine : Bool} (h : BtE z D dn up nr ok is fine) :
    (ok = false ∧ is = true ∧ srung up = 1 - (infK : Int) ∧ (fine = true → srung nr = srung up) ∧ z ≤ fval up * D) ∨ (ok = true ∧ is = false ∧ srung dn = (infK : Int) - 1 ∧ (fine = true → srung nr = srung dn) ∧ fval dn * D ≤ z) ∨
    (ok = true ∧ is = true ∧ fine = true ∧ fval dn * D ≤ z ∧ z ≤ fval up * D ∧ ((srung up = srung dn ∧ srung nr = srung dn ∧ fval dn * D = z) ∨ (srung up = srung dn + 1 ∧ -(infK : Int) < srung dn ∧ srung up < (infK : Int) ∧ ((2 * z < (fval dn + fval up) * D ∧ srung nr = srung dn) ∨ ((fval dn + fval up) * D < 2 * z ∧ srung nr = srung up) ∨ (2 * z = (fval dn + fval up) * D ∧ srung nr = if srung dn % 2 = 0 then srung dn else srung up))))) := by
  rcases h with ⟨h1, h2, h3, h4, h5⟩ | ⟨h1, h2, h3, h4, h5⟩ | ⟨h1, h2, h3, h4, h5, h6, h7⟩ | ⟨h1, h2, h3, h4, h5, h8, h6, h7, h9⟩
  · exact .inl ⟨h1, h2, h3, h4, h5⟩
  · exact .inr (.inl ⟨h1, h2, h3, h4, h5⟩)
  · exact .inr (.inr ⟨h1, h2, h3, by omega, by omega, .inl ⟨h4, h5, h6⟩⟩)
  · exact .inr (.inr ⟨h1, h2, h3, by omega, by omega, .inr ⟨h4, h5, h8, h9⟩⟩)
/-- The next number, by its bits. -/
theorem next_bits {dn up p : Nat} {b : Bool} {V : Int} {D : Nat} {c : Bool} (hu : RndZ 1 V D (up, c)) (h4 : srung up = srung dn + 1) (h5 : -(infK : Int) < srung dn) (h8 : srung up < (infK : Int)) (h : RndZ 1 (fval dn * 64 + (if (1 : Int) = 1 then 1 else if (1 : Int) = 2 then -1 else 0)) 64 (p, b)) : p = up := by
  rw [if_pos rfl, fval_smag] at h
  have h3 := smag_lt (show srung dn < srung dn + 1 by omega)
  have hf : Sf (smag (srung dn) * 64 + 1) 64 (srung dn) := ⟨by show smag (srung dn) * 64 ≤ _; omega, by show _ < smag (srung dn + 1) * 64; omega⟩
  have hc : ceilK (smag (srung dn) * 64 + 1) 64 (srung dn) = srung dn + 1 := by unfold ceilK; rw [if_neg (by show ¬ (smag (srung dn) * 64 + 1 = smag (srung dn) * 64); omega)]
  have hp := (rz_canon h).2.2
  have hq := (rz_canon hu).2.2
  rcases rz_up h hf with ⟨a1, a2, a3⟩ | ⟨a1, a2⟩
  · rw [hc] at a3
    simp only at a3
    exact canon_inj hp hq (by omega)
  · rw [hc] at a2; omega
theorem most_srung : srung 9218868437227405311 = (infK : Int) - 1 := by decide
theorem most_fopp : srung (fopp 9218868437227405311) = 1 - (infK : Int) := by decide
theorem most_fin : Fin 9218868437227405311 ∧ Fin (fopp 9218868437227405311) := by decide
theorem feq {x y : Nat} (hx : Fin x) (hy : Fin y) : (FloatKind.f64.format.order x y == some .eq) = decide (srung x = srung y) := ord_eq (Nat.le_of_lt hx) (Nat.le_of_lt hy)
theorem and1 (u : Nat) (hu : u < 18446744073709551616) : bits .and .u64 (u : Int) 1 = ((u % 2 : Nat) : Int) := by
  have h1 : (BitVec.ofInt 64 1).toNat = 1 := by decide
  have h2 : (BitVec.ofInt 64 (u : Int)).toNat = u := by
    rw [BitVec.toNat_ofInt]; show ((u : Int) % (18446744073709551616 : Int)).toNat = u; omega
  show IntKind.u64.wrap ((BitVec.ofInt 64 (u : Int) &&& BitVec.ofInt 64 1).toNat : Nat) = _
  rw [BitVec.toNat_and, h1, h2, Nat.and_one_is_mod, IntKind.wrap_u64]
  have := Nat.mod_lt u (show 0 < 2 by omega)
  omega
def zeroN : Obj := Obj.cells #[Value.bool false, Value.slice none 0 0, Value.int IntKind.i64 0] 27
theorem hidI {p : Prop} (h : p) : Hid p := h
theorem keepA {X : World} {B : Nat} {o o' : Obj} (h : X.heap[B]? = some o) : (X.alloc o').heap[B]? = some o := keep0 h ((Below.refl _ X).alloc (Nat.le_refl _) _)
theorem keep1 {X w : World} {B : Nat} {o o' : Obj} (h : X.heap[B]? = some o) (b : Below (X.alloc o').heap.size (X.alloc o') w) : w.heap[B]? = some o := keep0 (keepA h) b
theorem keep2 {X w : World} {B : Nat} {o o' o'' : Obj} (h : X.heap[B]? = some o) (b : Below ((X.alloc o').alloc o'').heap.size ((X.alloc o').alloc o'') w) : w.heap[B]? = some o := keep0 (keepA (keepA h)) b
theorem zb1 {X w : World} {o : Obj} (b : Below (X.alloc o).heap.size (X.alloc o) w) : w.heap[X.heap.size]? = some o := keep0 (heap_alloc_new X o) b
theorem zb1b {X w : World} {o o' : Obj} (b : Below ((X.alloc o).alloc o').heap.size ((X.alloc o).alloc o') w) : w.heap[X.heap.size + 1]? = some o' := by
  have h := zb1 b
  rw [show (X.alloc o).heap.size = X.heap.size + 1 by simp] at h
  exact h
theorem zb2 {X w : World} {o o' : Obj} (b : Below ((X.alloc o).alloc o').heap.size ((X.alloc o).alloc o') w) : w.heap[X.heap.size]? = some o := keep0 (keepA (heap_alloc_new X o)) b
theorem zd1 {X w : World} {o : Obj} (b : Below (X.alloc o).drew.heap.size (X.alloc o).drew w) : w.heap[X.heap.size]? = some o := keep0 (show (X.alloc o).drew.heap[X.heap.size]? = some o from heap_alloc_new X o) b
theorem zd2 {X w : World} {o o' : Obj} (b : Below ((X.alloc o).alloc o').drew.heap.size ((X.alloc o).alloc o').drew w) : w.heap[X.heap.size]? = some o := keep0 (show ((X.alloc o).alloc o').drew.heap[X.heap.size]? = some o from keepA (heap_alloc_new X o)) b
theorem zd1b {X w : World} {o o' : Obj} (b : Below ((X.alloc o).alloc o').drew.heap.size ((X.alloc o).alloc o').drew w) : w.heap[X.heap.size + 1]? = some o' := by
  have h := zd1 b
  rw [show (X.alloc o).heap.size = X.heap.size + 1 by simp] at h
  exact h
theorem al1 {X : World} {o : Obj} {v : Value} {s : Nat} {T z : Int} (h : NumZ X v s T z) : NumZ (X.alloc o) v s T z := h.later ((Below.refl _ X).alloc (Nat.le_refl _) _)
theorem al2 {X : World} {o o' : Obj} {v : Value} {s : Nat} {T z : Int} (h : NumZ X v s T z) : NumZ ((X.alloc o).alloc o') v s T z := al1 (al1 h)
theorem cells_alloc {X : World} {B : Nat} {v0 v1 v2 : Value} (h : X.heap[B]? = some (.cells #[v0, v1, v2] 27)) : ∀ o : Obj, ((X.alloc o).cell? ⟨B, 0, none⟩ = some v0 ∧ (X.alloc o).cell? ⟨B, 1, none⟩ = some v1 ∧ (X.alloc o).cell? ⟨B, 2, none⟩ = some v2) ∧ ∀ j, (X.alloc o).frozen? ⟨B, j, none⟩ = false := fun o => ⟨three_cells (keepA h), fun j => frozen_of_row _ _ j _ _ (keepA h)⟩
theorem ne_new {X : World} {B : Nat} {o : Obj} (h : X.heap[B]? = some o) : B ≠ X.heap.size ∧ X.heap.size ≠ B ∧ B ≠ X.heap.size + 1 ∧ X.heap.size + 1 ≠ B := by
  have := (Array.getElem?_eq_some_iff.1 h).1
  omega
theorem hn2 {X : World} {o o' : Obj} : ((X.alloc o).alloc o').heap[X.heap.size + 1]? = some o' := by
  have h := heap_alloc_new (X.alloc o) o'
  rw [show (X.alloc o).heap.size = X.heap.size + 1 by simp] at h
  exact h
theorem numB_of {w : World} {B : Nat} {n : Bool} {so : Option Addr} {l c : Nat} {e : Int} (h : w.heap[B]? = some (Obj.cells #[Value.bool n, Value.slice so l c, Value.int IntKind.i64 e] 27)) : NumB w B := ⟨_, _, _, _, _, h⟩
theorem bal {w0 X : World} {o : Obj} (h : Below w0.heap.size w0 X) : Below w0.heap.size w0 (X.alloc o) := h.alloc h.size o
theorem bdr {w0 X : World} (h : Below w0.heap.size w0 X) : Below w0.heap.size w0 X.drew := h.drew
theorem sz2 {n m : Nat} (h : n ≤ m) : n ≤ m + 1 := Nat.le_succ_of_le h
theorem sz1 {X : World} {o : Obj} {n : Nat} (h : n ≤ X.heap.size) : n ≤ (X.alloc o).heap.size := by simp; omega
end Go.Proofs.Ytkpoikjikkailaa
