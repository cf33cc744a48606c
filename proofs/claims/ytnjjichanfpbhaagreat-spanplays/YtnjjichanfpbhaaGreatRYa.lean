import Derived.Test.YtnjjichanfpbhaaGreatRX
namespace Go.Proofs.YtnjjichanfpbhaaGreat
open Go.RowKit
set_option linter.unusedVariables false

theorem hasB_zero {bl bh : Nat} {bb : Bool} (hg : Good bl bh bb) : hasB bl bh 0 = (decide (fval bl ≤ 0) && decide (0 ≤ fval bh)) := by
  have z0 : fval 0 = 0 := by decide
  have k1 : frung bl ≤ infK := Nat.le_of_lt hg.2.1
  have k2 : frung bh ≤ infK := Nat.le_of_lt hg.2.2.1
  have k3 : frung 0 ≤ infK := by decide
  have s1 := srung_le bl 0
  have s2 := srung_le 0 bh
  rw [z0] at s1 s2
  unfold hasB leF
  congr 1
  · congr 1; apply propext; exact ⟨fun h => s1.1 h.2.2, fun h => ⟨k1, k3, s1.2 h⟩⟩
  · congr 1; apply propext; exact ⟨fun h => s2.1 h.2.2, fun h => ⟨k3, k2, s2.2 h⟩⟩
def XA (al ah : Nat) (k : Nat) : Nat := if k < 2 then al else ah
def YA (bl bh : Nat) (k : Nat) : Nat := if k = 0 ∨ k = 2 then bl else bh
def loF (p : Nat → Nat × Bool) : Nat → Nat
  | 0 => 0
  | k + 1 => if k = 0 then (p 0).1 else lesser (loF p k) (p k).1
def hiF (p : Nat → Nat × Bool) : Nat → Nat
  | 0 => 0
  | k + 1 => if k = 0 then (p 0).1 else greater (hiF p k) (p k).1
/-- The eight quotients, rounded. -/
structure QD (al ah bl bh : Nat) (ab bb : Bool) (E : Nat) (p q : Nat → Nat × Bool) : Prop where
  dp : ∀ k, k < 4 → Rnd 2 (fneg (XA al ah k) ^^ fneg (YA bl bh k)) (rmag (frung (XA al ah k)) * 2 ^ E) (rmag (frung (YA bl bh k))) (p k)
  dq : ∀ k, k < 4 → Rnd 1 (fneg (XA al ah k) ^^ fneg (YA bl bh k)) (rmag (frung (XA al ah k)) * 2 ^ E) (rmag (frung (YA bl bh k))) (q k)
  fp : ∀ k, k < 4 → Fin (p k).1 ∧ (p k).1 < 18446744073709551616
  fq : ∀ k, k < 4 → Fin (q k).1 ∧ (q k).1 < 18446744073709551616
  ny : ∀ k, fval (YA bl bh k) ≠ 0
  told : DivR al ah bl bh ab bb E (spOf (far4 2 (p 0) (p 1) (p 2) (p 3)) (far4 1 (q 0) (q 1) (q 2) (q 3)))
theorem RndB.lt64 {d V : Int} {D : Nat} {p : Nat × Bool} (h : RndB d V D p) : p.1 < 18446744073709551616 := by
  obtain ⟨p', r1, e1, v1⟩ := h.rnd
  exact h.lt
theorem qd_side (d : Int) (al ah bl bh : Nat) (hal : al < 18446744073709551616) (hah : ah < 18446744073709551616) (hbl : bl < 18446744073709551616) (hbh : bh < 18446744073709551616) (f1 : Fin al) (f2 : Fin ah) (f3 : Fin bl) (f4 : Fin bh) (h0 : 0 < fval bl * fval bh) (E : Nat) (hE : E = 1074) :
    ∃ p : Nat → Nat × Bool, (∀ k, k < 4 → Rnd d (fneg (XA al ah k) ^^ fneg (YA bl bh k)) (rmag (frung (XA al ah k)) * 2 ^ E) (rmag (frung (YA bl bh k))) (p k)) ∧ RndB d (fval al * fval bh * ((2 ^ E : Nat) : Int)) (fval bl * fval bh).natAbs (p 0) ∧ RndB d (fval al * fval bl * ((2 ^ E : Nat) : Int)) (fval bl * fval bh).natAbs (p 1) ∧ RndB d (fval ah * fval bh * ((2 ^ E : Nat) : Int)) (fval bl * fval bh).natAbs (p 2) ∧ RndB d (fval ah * fval bl * ((2 ^ E : Nat) : Int)) (fval bl * fval bh).natAbs (p 3) ∧ ∀ k, k < 4 → Fin (p k).1 ∧ (p k).1 < 18446744073709551616 := by
  obtain ⟨p1, r1, -, -⟩ := div_any d al bl hal hbl
  obtain ⟨p2, r2, -, -⟩ := div_any d al bh hal hbh
  obtain ⟨p3, r3, -, -⟩ := div_any d ah bl hah hbl
  obtain ⟨p4, r4, -, -⟩ := div_any d ah bh hah hbh
  have nz : ∀ x, fval x ≠ 0 → frung x ≠ 0 := by
    intro x hx c
    apply hx
    have := fval_abs x
    rw [c, rmag_zero] at this; omega
  have n1 : fval bl ≠ 0 := by intro c; rw [c, Int.zero_mul] at h0; omega
  have n2 : fval bh ≠ 0 := by intro c; rw [c, Int.mul_zero] at h0; omega
  have hc : fval bh * fval bl = fval bl * fval bh := Int.mul_comm _ _
  have s1 := r1 f1 f3 (nz _ n1) E hE
  have s2 := r2 f1 f4 (nz _ n2) E hE
  have s3 := r3 f2 f3 (nz _ n1) E hE
  have s4 := r4 f2 f4 (nz _ n2) E hE
  have c1 := share_rndZ (c := bh) h0 s1
  have c2 := share_rndZ (c := bl) (by rw [hc]; exact h0) s2
  have c3 := share_rndZ (c := bh) h0 s3
  have c4 := share_rndZ (c := bl) (by rw [hc]; exact h0) s4
  rw [hc] at c2 c4
  refine ⟨fun k => if k = 0 then p1 else if k = 1 then p2 else if k = 2 then p3 else p4, ?_, c1.b, c2.b, c3.b, c4.b, ?_⟩
  · intro k hk
    match k, hk with
    | 0, _ => exact s1
    | 1, _ => exact s2
    | 2, _ => exact s3
    | 3, _ => exact s4
  · intro k hk
    match k, hk with
    | 0, _ => exact ⟨(rz_canon c1).1, (rz_canon c1).2.1⟩
    | 1, _ => exact ⟨(rz_canon c2).1, (rz_canon c2).2.1⟩
    | 2, _ => exact ⟨(rz_canon c3).1, (rz_canon c3).2.1⟩
    | 3, _ => exact ⟨(rz_canon c4).1, (rz_canon c4).2.1⟩
theorem qd_any (al ah bl bh : Nat) (ab bb : Bool) (hal : al < 18446744073709551616) (hah : ah < 18446744073709551616) (hbl : bl < 18446744073709551616) (hbh : bh < 18446744073709551616) (hq : Good al ah ab ∧ Good bl bh bb ∧ hasB bl bh 0 = false) (E : Nat) (hE : E = 1074) : ∃ p q, QD al ah bl bh ab bb E p q := by
  have h0 := apart_zero hq.2.1 hq.2.2
  obtain ⟨p, d1, a1, a2, a3, a4, f1⟩ := qd_side 2 al ah bl bh hal hah hbl hbh hq.1.2.1 hq.1.2.2.1 hq.2.1.2.1 hq.2.1.2.2.1 h0 E hE
  obtain ⟨q, d2, b1, b2, b3, b4, f2⟩ := qd_side 1 al ah bl bh hal hah hbl hbh hq.1.2.1 hq.1.2.2.1 hq.2.1.2.1 hq.2.1.2.2.1 h0 E hE
  refine ⟨p, q, d1, d2, f1, f2, ?_, ?_⟩
  · intro k
    unfold YA
    split
    · intro c; rw [c, Int.zero_mul] at h0; omega
    · intro c; rw [c, Int.mul_zero] at h0; omega
  · unfold DivR
    rw [if_pos hq]
    exact SpR.of_b (far4_down (by omega) a1 a2 a3 a4) (far4_up (by omega) b1 b2 b3 b4)
theorem QD.bad {al ah bl bh : Nat} {ab bb : Bool} {E : Nat} {p q : Nat → Nat × Bool} (h : QD al ah bl bh ab bb E p q) {k : Nat} (hk : k < 4) (hb : (p k).2 = false ∨ (q k).2 = false) : DivR al ah bl bh ab bb E (0, 0, true) := by
  have e : spOf (far4 2 (p 0) (p 1) (p 2) (p 3)) (far4 1 (q 0) (q 1) (q 2) (q 3)) = (0, 0, true) := by
    unfold spOf far4
    rw [if_neg]
    rintro ⟨c1, c2⟩
    simp only [Bool.and_eq_true] at c1 c2
    match k, hk with
    | 0, _ => rcases hb with hb | hb <;> simp_all
    | 1, _ => rcases hb with hb | hb <;> simp_all
    | 2, _ => rcases hb with hb | hb <;> simp_all
    | 3, _ => rcases hb with hb | hb <;> simp_all
  rw [← e]; exact h.told
theorem QD.good {al ah bl bh : Nat} {ab bb : Bool} {E : Nat} {p q : Nat → Nat × Bool} (h : QD al ah bl bh ab bb E p q) (hp : ∀ k, k < 4 → (p k).2 = true ∧ (q k).2 = true) : DivR al ah bl bh ab bb E (loF p 4, hiF q 4, false) := by
  have e : spOf (far4 2 (p 0) (p 1) (p 2) (p 3)) (far4 1 (q 0) (q 1) (q 2) (q 3)) = (loF p 4, hiF q 4, false) := by
    unfold spOf far4
    rw [if_pos]
    · rfl
    · simp [hp]
  rw [← e]; exact h.told
theorem numV_oth {w w' : World} {X : Nat} (hu : ∀ j x, w.cell? ⟨X, j, none⟩ ≠ some (.int .u32 x)) (t : ∀ B, B ≠ X → w'.heap[B]? = w.heap[B]?) {v : Value} {neg : Bool} {m : Nat} {e : Int} (h : NumV w v neg m e) : NumV w' v neg m e := by
  obtain ⟨ao, len, cap, xs, k1, k2, k3, k4⟩ := h
  refine ⟨ao, len, cap, xs, k1, ?_, k3, k4⟩
  refine ⟨k2.length, k2.le, k2.max, k2.lt, k2.nil, ?_⟩
  rcases k2.cells with h0 | ⟨b, off, ha, hc⟩
  · exact .inl h0
  · refine .inr ⟨b, off, ha, fun j hj => ?_⟩
    have hne : b ≠ X := by rintro rfl; exact hu _ _ (hc j hj)
    rw [cell_hp (t b hne)]
    exact hc j hj
theorem numE_oth {w w' : World} {X : Nat} (hu : ∀ j x, w.cell? ⟨X, j, none⟩ ≠ some (.int .u32 x)) (t : ∀ B, B ≠ X → w'.heap[B]? = w.heap[B]?) {v : Value} {s : Nat} {T z : Int} (h : NumE w v s T z) : NumE w' v s T z := by
  obtain ⟨neg, m, e, h1, h2⟩ := h
  exact ⟨neg, m, e, numV_oth hu t h1, h2⟩
theorem numZ_oth {w w' : World} {X : Nat} (hu : ∀ j x, w.cell? ⟨X, j, none⟩ ≠ some (.int .u32 x)) (t : ∀ B, B ≠ X → w'.heap[B]? = w.heap[B]?) {v : Value} {s : Nat} {T z : Int} (h : NumZ w v s T z) : NumZ w' v s T z := by
  obtain ⟨neg, m, e, h1, h2⟩ := h
  exact ⟨neg, m, e, numV_oth hu t h1, h2⟩
theorem noU32 {w : World} {B : Nat} {x y : Int} {b : Bool} (h : w.heap[B]? = some (.cells #[.int .u64 x, .int .u64 y, .bool b] 36)) (j : Nat) (z : Int) : w.cell? ⟨B, j, none⟩ ≠ some (.int .u32 z) := by
  match j with
  | 0 => rw [(cells3 h).1]; simp
  | 1 => rw [(cells3 h).2.1]; simp
  | 2 => rw [(cells3 h).2.2]; simp
  | j + 3 => rw [cell_of_row _ _ _ _ _ _ h]; simp
/-- What stays in the loop of Div. -/
structure DvK (w W : World) (R Px Py : Nat) (OX OY : Obj) (vA vB vC vD : Value) (E : Nat) (A B C D : Int) : Prop where
  bel : Below w.heap.size w W
  rs : W.heap[R]? = some (Obj.cells #[Value.int .u64 0, .int .u64 0, .bool false] 36)
  ax : W.heap[Px]? = some OX
  ay : W.heap[Py]? = some OY
  na : NumE W vA E 1024 A
  nb : NumE W vB E 1024 B
  nc : NumE W vC E 1024 C
  nd : NumE W vD E 1024 D
theorem DvK.later {w W W' : World} {R Px Py : Nat} {OX OY : Obj} {vA vB vC vD : Value} {E : Nat} {A B C D : Int} (h : DvK w W R Px Py OX OY vA vB vC vD E A B C D) (hb : Below W.heap.size W W') : DvK w W' R Px Py OX OY vA vB vC vD E A B C D :=
  ⟨h.bel.trans (hb.mono h.bel.size), keep0 h.rs hb, keep0 h.ax hb, keep0 h.ay hb, h.na.later hb, h.nb.later hb, h.nc.later hb, h.nd.later hb⟩
theorem DvK.oth {w W W' : World} {R Px Py X : Nat} {OX OY : Obj} {vA vB vC vD : Value} {E : Nat} {A B C D : Int} (h : DvK w W R Px Py OX OY vA vB vC vD E A B C D) (hX : X ≠ R ∧ X ≠ Px ∧ X ≠ Py) (hu : ∀ j x, W.cell? ⟨X, j, none⟩ ≠ some (.int .u32 x)) (t : ∀ B, B ≠ X → W'.heap[B]? = W.heap[B]?) (hb : Below w.heap.size w W') : DvK w W' R Px Py OX OY vA vB vC vD E A B C D :=
  ⟨hb, (t _ (Ne.symm hX.1)).trans h.rs, (t _ (Ne.symm hX.2.1)).trans h.ax, (t _ (Ne.symm hX.2.2)).trans h.ay, numE_oth hu t h.na, numE_oth hu t h.nb, numE_oth hu t h.nc, numE_oth hu t h.nd⟩
/-- A variable that holds a number's value. -/
def VarF (W : World) (B : Nat) (E : Nat) (z : Int) : Prop := ∃ n o l c e, W.heap[B]? = some (Obj.cells #[Value.bool n, Value.slice o l c, Value.int IntKind.i64 e] 61) ∧ NumZ W (.agg #[.bool n, .slice o l c, .int .i64 e]) E 1024 z
theorem VarF.later {W W' : World} {B E : Nat} {z : Int} (h : VarF W B E z) (hb : Below W.heap.size W W') : VarF W' B E z := by
  obtain ⟨n, o, l, c, e, h1, h2⟩ := h
  exact ⟨n, o, l, c, e, keep0 h1 hb, h2.later hb⟩
theorem VarF.oth {W W' : World} {X B E : Nat} {z : Int} (h : VarF W B E z) (hne : B ≠ X) (hu : ∀ j x, W.cell? ⟨X, j, none⟩ ≠ some (.int .u32 x)) (t : ∀ B, B ≠ X → W'.heap[B]? = W.heap[B]?) : VarF W' B E z := by
  obtain ⟨n, o, l, c, e, h1, h2⟩ := h
  exact ⟨n, o, l, c, e, (t _ hne).trans h1, numZ_oth hu t h2⟩
theorem VarF.num {W : World} {B E : Nat} {z : Int} (h : VarF W B E z) : NumB W B := by
  obtain ⟨n, o, l, c, e, h1, h2⟩ := h
  exact ⟨_, _, _, _, _, h1⟩
end Go.Proofs.YtnjjichanfpbhaaGreat
