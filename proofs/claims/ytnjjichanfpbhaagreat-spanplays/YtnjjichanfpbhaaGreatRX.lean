import Derived.Test.YtnjjichanfpbhaaGreatRW
import Derived.Test.YtnjjichanfpbhaaGreatMO
namespace Go.Proofs.YtnjjichanfpbhaaGreat
open Go.RowKit
set_option linter.unusedVariables false

/-- A number with 53 bits at most. -/
def NumE (w : World) (v : Value) (s : Nat) (T : Int) (z : Int) : Prop := ∃ neg m e, NumV w v neg m e ∧ -(s : Int) ≤ e ∧ (bl m : Int) + e ≤ T ∧ zv s neg m e = z ∧ e ≤ 971 ∧ bl m ≤ 53
theorem NumE.toZ {w : World} {v : Value} {s : Nat} {T z : Int} (h : NumE w v s T z) : NumZ w v s T z := by
  obtain ⟨neg, m, e, h1, h2, h3, h4, -⟩ := h
  exact ⟨neg, m, e, h1, h2, h3, h4⟩
theorem NumE.later {w w' : World} {v : Value} {s : Nat} {T z : Int} (h : NumE w v s T z) (hb : Below w.heap.size w w') : NumE w' v s T z := by
  obtain ⟨neg, m, e, h1, h2⟩ := h
  exact ⟨neg, m, e, NumV.later h1 hb, h2⟩
theorem NumE.set3 {w : World} {B : Nat} (x y z : Value) (hB : NumB w B) {v : Value} {s : Nat} {T r : Int} (h : NumE w v s T r) : NumE (((w.setCell ⟨B, 0, none⟩ x).setCell ⟨B, 1, none⟩ y).setCell ⟨B, 2, none⟩ z) v s T r := by
  obtain ⟨neg, m, e, h1, h2⟩ := h
  obtain ⟨ao, len, cap, xs, k1, k2, k3, k4⟩ := h1
  exact ⟨neg, m, e, ⟨ao, len, cap, xs, k1, rd4_set3 x y z hB k2, k3, k4⟩, h2⟩
theorem ofE_any (u : Nat) (hu : u < 18446744073709551616) (w : World) (E : Nat) (hE : E = 1074) :
    Calls Tryz.prog 57 #[.int .u64 u] w fun e' w' => ∃ v, e' = .returned (.tuple #[v, .bool (decide (Fin u))]) ∧ (∃ z, NumE w' v E 1024 z ∧ (Fin u → z = fval u)) ∧ Below w.heap.size w w' := by
  refine (of_any u hu w).mono ?_
  rintro e' w' ⟨v, rfl, ⟨neg, e, hN, hne, h1, h2⟩, hB⟩
  have hbl : bl (if Fin u then ofM u else 0) ≤ 53 := by
    by_cases hf : Fin u
    · rw [if_pos hf]
      have hv := ofM_val hf
      have := hv.2.2.2.1
      omega
    · rw [if_neg hf, bl_zero]; omega
  refine ⟨v, rfl, ⟨_, ⟨neg, _, e, hN, by omega, by omega, rfl, h2, hbl⟩, ?_⟩, hB⟩
  · intro hf
    rw [if_pos hf]
    have hv := ofM_val hf
    by_cases h0 : frung u = 0
    · rw [hv.2.2.2.2.2 h0, zv_zero]; unfold fval; rw [h0, rmag_zero]; split <;> rfl
    · obtain ⟨rfl, rfl⟩ := hne hf h0
      unfold zv sv fval
      rw [hE, ← hv.1]
      split
      · rw [Int.natCast_mul, Int.neg_mul]; rfl
      · rw [Int.natCast_mul]; rfl
/-- Two numbers' variables, two blocks for what is told. -/
structure SixE (w V : World) (R Q X Y S : Nat) (so : Obj) (nx ny : Bool) (ao bo : Option Addr) (len cap blen bcap : Nat) (ex ey : Int) (E : Nat) (z1 z2 : Int) : Prop where
  hx : V.heap[X]? = some (Obj.cells #[Value.bool nx, Value.slice ao len cap, Value.int IntKind.i64 ex] 61)
  hy : V.heap[Y]? = some (Obj.cells #[Value.bool ny, Value.slice bo blen bcap, Value.int IntKind.i64 ey] 61)
  hs : V.heap[S]? = some so
  hr : NumB V R
  hq : NumB V Q
  zx : NumE V (.agg #[Value.bool nx, Value.slice ao len cap, Value.int IntKind.i64 ex]) E 1024 z1
  zy : NumE V (.agg #[Value.bool ny, Value.slice bo blen bcap, Value.int IntKind.i64 ey]) E 1024 z2
  bel : Below w.heap.size w V
  base : w.heap.size ≤ R ∧ w.heap.size ≤ Q
  apart : R ≠ Q ∧ R ≠ X ∧ R ≠ Y ∧ Q ≠ X ∧ Q ≠ Y ∧ R ≠ S ∧ Q ≠ S
variable {w V : World} {R Q X Y S : Nat} {so : Obj} {nx ny : Bool} {ao bo : Option Addr} {len cap blen bcap : Nat} {ex ey : Int} {E : Nat} {z1 z2 : Int}
theorem SixE.later (h : SixE w V R Q X Y S so nx ny ao bo len cap blen bcap ex ey E z1 z2) {V' : World} (hb : Below V.heap.size V V') : SixE w V' R Q X Y S so nx ny ao bo len cap blen bcap ex ey E z1 z2 :=
  ⟨(hb.block _ (blk_lt h.hx)).trans h.hx, (hb.block _ (blk_lt h.hy)).trans h.hy, (hb.block _ (blk_lt h.hs)).trans h.hs, h.hr.keep (hb.block _ h.hr.lt), h.hq.keep (hb.block _ h.hq.lt), h.zx.later hb, h.zy.later hb, h.bel.trans (hb.mono h.bel.size), h.base, h.apart⟩
theorem SixE.drew (h : SixE w V R Q X Y S so nx ny ao bo len cap blen bcap ex ey E z1 z2) : SixE w V.drew R Q X Y S so nx ny ao bo len cap blen bcap ex ey E z1 z2 := h.later (Below.refl _ _).drew
theorem SixE.setR (h : SixE w V R Q X Y S so nx ny ao bo len cap blen bcap ex ey E z1 z2) : SixE w (((V.setCell ⟨R, 0, none⟩ (Value.bool nx)).setCell ⟨R, 1, none⟩ (Value.slice ao len cap)).setCell ⟨R, 2, none⟩ (Value.int IntKind.i64 ex)) R Q X Y S so nx ny ao bo len cap blen bcap ex ey E z1 z2 ∧ (((V.setCell ⟨R, 0, none⟩ (Value.bool nx)).setCell ⟨R, 1, none⟩ (Value.slice ao len cap)).setCell ⟨R, 2, none⟩ (Value.int IntKind.i64 ex)).heap[R]? = some (Obj.cells #[Value.bool nx, Value.slice ao len cap, Value.int IntKind.i64 ex] 61) := by
  obtain ⟨q1, q2, q3, q4, q5, q6, q7⟩ := h.apart
  have hb := below_set3 (Value.bool nx) (Value.slice ao len cap) (Value.int IntKind.i64 ex) h.bel h.base.1
  have zx := NumE.set3 (Value.bool nx) (Value.slice ao len cap) (Value.int IntKind.i64 ex) h.hr h.zx
  have zy := NumE.set3 (Value.bool nx) (Value.slice ao len cap) (Value.int IntKind.i64 ex) h.hr h.zy
  have ox := set3_other (w := V) (Value.bool nx) (Value.slice ao len cap) (Value.int IntKind.i64 ex) (Ne.symm q2)
  have oy := set3_other (w := V) (Value.bool nx) (Value.slice ao len cap) (Value.int IntKind.i64 ex) (Ne.symm q3)
  have oq := set3_other (w := V) (Value.bool nx) (Value.slice ao len cap) (Value.int IntKind.i64 ex) (Ne.symm q1)
  have os := set3_other (w := V) (Value.bool nx) (Value.slice ao len cap) (Value.int IntKind.i64 ex) (Ne.symm q6)
  obtain ⟨a, b, c, d, e, hr⟩ := h.hr
  have hh := set3_heap (Value.bool nx) (Value.slice ao len cap) (Value.int IntKind.i64 ex) hr
  exact ⟨⟨ox.trans h.hx, oy.trans h.hy, os.trans h.hs, ⟨_, _, _, _, _, hh⟩, h.hq.keep oq, zx, zy, hb, h.base, h.apart⟩, hh⟩
theorem SixE.setQ (h : SixE w V R Q X Y S so nx ny ao bo len cap blen bcap ex ey E z1 z2) (hr : V.heap[R]? = some (Obj.cells #[Value.bool nx, Value.slice ao len cap, Value.int IntKind.i64 ex] 61)) : SixE w (((V.setCell ⟨Q, 0, none⟩ (Value.bool ny)).setCell ⟨Q, 1, none⟩ (Value.slice bo blen bcap)).setCell ⟨Q, 2, none⟩ (Value.int IntKind.i64 ey)) R Q X Y S so nx ny ao bo len cap blen bcap ex ey E z1 z2 ∧ (((V.setCell ⟨Q, 0, none⟩ (Value.bool ny)).setCell ⟨Q, 1, none⟩ (Value.slice bo blen bcap)).setCell ⟨Q, 2, none⟩ (Value.int IntKind.i64 ey)).heap[R]? = some (Obj.cells #[Value.bool nx, Value.slice ao len cap, Value.int IntKind.i64 ex] 61) ∧ (((V.setCell ⟨Q, 0, none⟩ (Value.bool ny)).setCell ⟨Q, 1, none⟩ (Value.slice bo blen bcap)).setCell ⟨Q, 2, none⟩ (Value.int IntKind.i64 ey)).heap[Q]? = some (Obj.cells #[Value.bool ny, Value.slice bo blen bcap, Value.int IntKind.i64 ey] 61) := by
  obtain ⟨q1, q2, q3, q4, q5, q6, q7⟩ := h.apart
  have hb := below_set3 (Value.bool ny) (Value.slice bo blen bcap) (Value.int IntKind.i64 ey) h.bel h.base.2
  have zx := NumE.set3 (Value.bool ny) (Value.slice bo blen bcap) (Value.int IntKind.i64 ey) h.hq h.zx
  have zy := NumE.set3 (Value.bool ny) (Value.slice bo blen bcap) (Value.int IntKind.i64 ey) h.hq h.zy
  have ox := set3_other (w := V) (Value.bool ny) (Value.slice bo blen bcap) (Value.int IntKind.i64 ey) (Ne.symm q4)
  have oy := set3_other (w := V) (Value.bool ny) (Value.slice bo blen bcap) (Value.int IntKind.i64 ey) (Ne.symm q5)
  have orr := set3_other (w := V) (Value.bool ny) (Value.slice bo blen bcap) (Value.int IntKind.i64 ey) q1
  have os := set3_other (w := V) (Value.bool ny) (Value.slice bo blen bcap) (Value.int IntKind.i64 ey) (Ne.symm q7)
  obtain ⟨a, b, c, d, e, hq⟩ := h.hq
  have hh := set3_heap (Value.bool ny) (Value.slice bo blen bcap) (Value.int IntKind.i64 ey) hq
  exact ⟨⟨ox.trans h.hx, oy.trans h.hy, os.trans h.hs, h.hr.keep orr, ⟨_, _, _, _, _, hh⟩, zx, zy, hb, h.base, h.apart⟩, orr.trans hr, hh⟩
theorem SixE.cells (h : SixE w V R Q X Y S so nx ny ao bo len cap blen bcap ex ey E z1 z2) : (V.cell? ⟨X, 0, none⟩ = some (Value.bool nx) ∧ V.cell? ⟨X, 1, none⟩ = some (Value.slice ao len cap) ∧ V.cell? ⟨X, 2, none⟩ = some (Value.int IntKind.i64 ex)) ∧ (V.cell? ⟨Y, 0, none⟩ = some (Value.bool ny) ∧ V.cell? ⟨Y, 1, none⟩ = some (Value.slice bo blen bcap) ∧ V.cell? ⟨Y, 2, none⟩ = some (Value.int IntKind.i64 ey)) ∧ (∃ a b c d e, V.cell? ⟨R, 0, none⟩ = some (.bool a) ∧ V.cell? ⟨R, 1, none⟩ = some (.slice b c d) ∧ V.cell? ⟨R, 2, none⟩ = some (.int .i64 e) ∧ ∀ j, V.frozen? ⟨R, j, none⟩ = false) ∧ (∃ a b c d e, V.cell? ⟨Q, 0, none⟩ = some (.bool a) ∧ V.cell? ⟨Q, 1, none⟩ = some (.slice b c d) ∧ V.cell? ⟨Q, 2, none⟩ = some (.int .i64 e) ∧ ∀ j, V.frozen? ⟨Q, j, none⟩ = false) := by
  refine ⟨cells3 h.hx, cells3 h.hy, ?_, ?_⟩
  · obtain ⟨a, b, c, d, e, hr⟩ := h.hr
    obtain ⟨c0, c1, c2⟩ := cells3 hr
    exact ⟨a, b, c, d, e, c0, c1, c2, fun j => frozen_of_row _ _ j _ _ hr⟩
  · obtain ⟨a, b, c, d, e, hr⟩ := h.hq
    obtain ⟨c0, c1, c2⟩ := cells3 hr
    exact ⟨a, b, c, d, e, c0, c1, c2, fun j => frozen_of_row _ _ j _ _ hr⟩
theorem SixE.cmp (h : SixE w V R Q X Y S so nx ny ao bo len cap blen bcap ex ey E z1 z2) (hE : E ≤ 2000) : Calls Tryz.prog 58 #[.agg #[Value.bool nx, Value.slice ao len cap, Value.int IntKind.i64 ex], .agg #[Value.bool ny, Value.slice bo blen bcap, Value.int IntKind.i64 ey]] V fun e' w' => e' = .returned (.int .i64 (sgi (z1 - z2))) ∧ SixE w w' R Q X Y S so nx ny ao bo len cap blen bcap ex ey E z1 z2 ∧ w'.heap[R]? = V.heap[R]? ∧ w'.heap[Q]? = V.heap[Q]? := by
  refine Calls.mono (cmpZ_any _ _ E 1024 z1 z2 _ h.zx.toZ h.zy.toZ (by omega) (by omega)) ?_
  rintro e w' ⟨rfl, hb⟩
  exact ⟨rfl, h.later hb, hb.block _ h.hr.lt, hb.block _ h.hq.lt⟩
set_option maxRecDepth 100000 in
set_option maxHeartbeats 2000000 in
theorem endsE_any (lo hi : Nat) (bad : Bool) (hlo : lo < 18446744073709551616) (hhi : hi < 18446744073709551616) (w : World) (E : Nat) (hE : E = 1074) :
    Calls Tryz.prog 44 #[.agg #[Value.int .u64 (lo : Int), .int .u64 (hi : Int), .bool bad]] w fun e' w' => ∃ v u, e' = .returned (.tuple #[v, u, .bool (decide (Good lo hi bad))]) ∧ (∃ z, NumE w' v E 1024 z ∧ (Fin lo → z = fval lo)) ∧ (∃ z, NumE w' u E 1024 z ∧ (Fin hi → z = fval hi)) ∧ Below w.heap.size w w' := by
  obtain ⟨g0, g1, g2, gz, gb⟩ := alloc3_facts w (Obj.cells #[Value.int .u64 (lo : Int), .int .u64 (hi : Int), .bool bad] 36) (Obj.cells #[Value.bool false, Value.slice none 0 0, Value.int IntKind.i64 0] 61) (Obj.cells #[Value.bool false, Value.slice none 0 0, Value.int IntKind.i64 0] 61)
  have G0 : Hid _ := g0
  have G1 : Hid _ := g1
  have G2 : Hid _ := g2
  have GB : Hid _ := gb
  clear g0 g1 g2 gz gb
  go_enter Tryz.func44, Tryz.ntmps44
  go_upto_region 1 with fail
  generalize (((w.alloc (Obj.cells #[Value.int .u64 (lo : Int), .int .u64 (hi : Int), .bool bad] 36)).alloc (Obj.cells #[Value.bool false, Value.slice none 0 0, Value.int IntKind.i64 0] 61)).alloc (Obj.cells #[Value.bool false, Value.slice none 0 0, Value.int IntKind.i64 0] 61)) = W0 at G0 G1 G2 GB ⊢
  obtain ⟨R, hR⟩ : ∃ R, w.heap.size + 1 = R := ⟨_, rfl⟩
  obtain ⟨Q, hQ⟩ : ∃ Q, w.heap.size + 1 + 1 = Q := ⟨_, rfl⟩
  have HRQ : Hid (w.heap.size < R ∧ Q = R + 1) := ⟨by omega, by omega⟩
  rw [hQ] at G2 ⊢
  rw [hR] at G1 ⊢
  obtain ⟨S, hS⟩ : ∃ S, w.heap.size = S := ⟨_, rfl⟩
  have HS : Hid _ := hS
  rw [hS] at G0 ⊢
  clear hR hQ hS
  obtain ⟨s0, s1, s2⟩ := cells3 G0.out
  go_wp2_with fail
  refine Calls.mono (ofE_any lo hlo _ E hE) ?_
  rintro e1 w1 ⟨v1, rfl, ⟨z1, hz1, hf1⟩, hb1⟩
  have Z1 : Hid (NumE w1 v1 E 1024 z1) := hz1
  have F1 : Hid (Fin lo → z1 = fval lo) := hf1
  obtain ⟨nx, mx, ex, ⟨ao, len, cap, xs, rfl, -⟩, -⟩ := hz1
  have H0 : Hid _ := (hb1.block S (blk_lt G0.out)).trans G0.out
  have H1 : Hid _ := (hb1.block R (blk_lt G1.out)).trans G1.out
  have H2 : Hid _ := (hb1.block Q (blk_lt G2.out)).trans G2.out
  have C1 : Hid (Below w.heap.size w w1) := GB.out.trans (hb1.mono GB.out.size)
  clear hb1 hf1 G0 G1 G2 GB s0 s1 s2
  obtain ⟨da, hda⟩ : ∃ d, decide (Fin lo) = d := ⟨_, rfl⟩
  have HDA : Hid _ := hda
  rw [hda]
  clear hda
  go_upto_region 2 with fail
  have NX1 : Hid _ := heap_alloc_new w1 (Obj.cells #[Value.bool nx, Value.slice ao len cap, Value.int IntKind.i64 ex] 61)
  have I0 : Hid _ := alloc4 H0.out C1.out (Obj.cells #[Value.bool nx, Value.slice ao len cap, Value.int IntKind.i64 ex] 61)
  have I1 : Hid _ := alloc4 H1.out C1.out (Obj.cells #[Value.bool nx, Value.slice ao len cap, Value.int IntKind.i64 ex] 61)
  have I2 : Hid _ := alloc4 H2.out C1.out (Obj.cells #[Value.bool nx, Value.slice ao len cap, Value.int IntKind.i64 ex] 61)
  have Z1' : Hid (NumE (w1.alloc (Obj.cells #[Value.bool nx, Value.slice ao len cap, Value.int IntKind.i64 ex] 61)) _ E 1024 z1) := NumE.later Z1.out ((Below.refl _ _).alloc (Nat.le_refl _) (Obj.cells #[Value.bool nx, Value.slice ao len cap, Value.int IntKind.i64 ex] 61))
  obtain ⟨X, hX⟩ : ∃ X, w1.heap.size = X := ⟨_, rfl⟩
  have HX : Hid (Q < X) := by have := blk_lt H2.out; unfold Hid; omega
  rw [hX] at NX1 ⊢
  generalize w1.alloc (Obj.cells #[Value.bool nx, Value.slice ao len cap, Value.int IntKind.i64 ex] 61) = W1 at NX1 I0 I1 I2 Z1' ⊢
  clear hX H0 H1 H2 Z1 C1
  obtain ⟨s0, s1, s2⟩ := cells3 I0.out.1
  go_wp2_with fail
  refine Calls.mono (ofE_any hi hhi _ E hE) ?_
  rintro e2 w2 ⟨v2, rfl, ⟨z2, hz2, hf2⟩, hb2⟩
  have Z2 : Hid (NumE w2 v2 E 1024 z2) := hz2
  have F2 : Hid (Fin hi → z2 = fval hi) := hf2
  obtain ⟨ny, my, ey, ⟨bo, blen, bcap, ys, rfl, -⟩, -⟩ := hz2
  have H0 : Hid _ := (hb2.block S (blk_lt I0.out.1)).trans I0.out.1
  have H1 : Hid _ := (hb2.block R (blk_lt I1.out.1)).trans I1.out.1
  have H2 : Hid _ := (hb2.block Q (blk_lt I2.out.1)).trans I2.out.1
  have H3 : Hid _ := (hb2.block X (blk_lt NX1.out)).trans NX1.out
  have C1 : Hid (Below w.heap.size w w2) := I0.out.2.trans (hb2.mono I0.out.2.size)
  have Z1 : Hid (NumE w2 _ E 1024 z1) := Z1'.out.later hb2
  clear hb2 hf2 I0 I1 I2 NX1 Z1' s0 s1 s2
  obtain ⟨db, hdb⟩ : ∃ d, decide (Fin hi) = d := ⟨_, rfl⟩
  have HDB : Hid _ := hdb
  rw [hdb]
  clear hdb
  go_upto_region 3 with fail
  have GY : Hid _ := heap_alloc_new w2 (Obj.cells #[Value.bool ny, Value.slice bo blen bcap, Value.int IntKind.i64 ey] 61)
  have I0 : Hid _ := alloc4 H0.out C1.out (Obj.cells #[Value.bool ny, Value.slice bo blen bcap, Value.int IntKind.i64 ey] 61)
  have I1 : Hid _ := alloc4 H1.out C1.out (Obj.cells #[Value.bool ny, Value.slice bo blen bcap, Value.int IntKind.i64 ey] 61)
  have I2 : Hid _ := alloc4 H2.out C1.out (Obj.cells #[Value.bool ny, Value.slice bo blen bcap, Value.int IntKind.i64 ey] 61)
  have I3 : Hid _ := alloc4 H3.out C1.out (Obj.cells #[Value.bool ny, Value.slice bo blen bcap, Value.int IntKind.i64 ey] 61)
  have ZA : Hid (NumE (w2.alloc (Obj.cells #[Value.bool ny, Value.slice bo blen bcap, Value.int IntKind.i64 ey] 61)) _ E 1024 z1) := NumE.later Z1.out ((Below.refl _ _).alloc (Nat.le_refl _) (Obj.cells #[Value.bool ny, Value.slice bo blen bcap, Value.int IntKind.i64 ey] 61))
  have ZB : Hid (NumE (w2.alloc (Obj.cells #[Value.bool ny, Value.slice bo blen bcap, Value.int IntKind.i64 ey] 61)) _ E 1024 z2) := NumE.later Z2.out ((Below.refl _ _).alloc (Nat.le_refl _) (Obj.cells #[Value.bool ny, Value.slice bo blen bcap, Value.int IntKind.i64 ey] 61))
  obtain ⟨Y, hY⟩ : ∃ Y, w2.heap.size = Y := ⟨_, rfl⟩
  have HY : Hid (X < Y) := by have := blk_lt H3.out; unfold Hid; omega
  rw [hY] at GY ⊢
  generalize w2.alloc (Obj.cells #[Value.bool ny, Value.slice bo blen bcap, Value.int IntKind.i64 ey] 61) = W3 at GY I0 I1 I2 I3 ZA ZB ⊢
  clear hY H0 H1 H2 H3 Z1 Z2 C1
  have GS : Hid _ := I0.out.1
  have GR : Hid _ := I1.out.1
  have GQ : Hid _ := I2.out.1
  have GX : Hid _ := I3.out.1
  have C3 : Hid (Below w.heap.size w W3) := I0.out.2
  clear I0 I1 I2 I3
  have SX : Hid (SixE w W3 R Q X Y S _ nx ny ao bo len cap blen bcap ex ey E z1 z2) := ⟨GX.out, GY.out, GS.out, ⟨_, _, _, _, _, GR.out⟩, ⟨_, _, _, _, _, GQ.out⟩, ZA.out, ZB.out, C3.out, ⟨by have := HRQ.out; omega, by have := HRQ.out; omega⟩, by have := HRQ.out; have := HX.out; have := HY.out; have := HS.out; omega⟩
  obtain ⟨s0, s1, s2⟩ := cells3 GS.out
  obtain ⟨⟨x0, x1, x2⟩, ⟨y0, y1, y2⟩, -⟩ := SX.out.cells
  obtain ⟨r0, r1, r2⟩ := cells3 GR.out
  obtain ⟨q0, q1, q2⟩ := cells3 GQ.out
  have f0 := fun j => frozen_of_row _ _ j _ _ GR.out
  have f1 := fun j => frozen_of_row _ _ j _ _ GQ.out
  clear GX GY ZA ZB
  have n0 : ¬ (R = S) := by have := HRQ.out; have := HX.out; have := HY.out; have := HS.out; omega
  have n1 : ¬ (R = X) := by have := HRQ.out; have := HX.out; have := HY.out; have := HS.out; omega
  have n2 : ¬ (R = Y) := by have := HRQ.out; have := HX.out; have := HY.out; have := HS.out; omega
  have n3 : ¬ (Q = S) := by have := HRQ.out; have := HX.out; have := HY.out; have := HS.out; omega
  have n4 : ¬ (Q = X) := by have := HRQ.out; have := HX.out; have := HY.out; have := HS.out; omega
  have n5 : ¬ (Q = Y) := by have := HRQ.out; have := HX.out; have := HY.out; have := HS.out; omega
  have n6 : ¬ (S = R) := by have := HRQ.out; have := HX.out; have := HY.out; have := HS.out; omega
  have n7 : ¬ (X = R) := by have := HRQ.out; have := HX.out; have := HY.out; have := HS.out; omega
  have n8 : ¬ (Y = R) := by have := HRQ.out; have := HX.out; have := HY.out; have := HS.out; omega
  have n9 : ¬ (S = Q) := by have := HRQ.out; have := HX.out; have := HY.out; have := HS.out; omega
  have n10 : ¬ (X = Q) := by have := HRQ.out; have := HX.out; have := HY.out; have := HS.out; omega
  have n11 : ¬ (Y = Q) := by have := HRQ.out; have := HX.out; have := HY.out; have := HS.out; omega
  have n12 : ¬ (R = Q) := by have := HRQ.out; have := HX.out; have := HY.out; have := HS.out; omega
  have n13 : ¬ (Q = R) := by have := HRQ.out; have := HX.out; have := HY.out; have := HS.out; omega
  have HGD : Hid ((da && db && !bad && decide (sgi (z1 - z2) ≤ 0)) = decide (Good lo hi bad)) := by
    unfold Hid
    rw [← HDA.out, ← HDB.out]
    by_cases h1 : Fin lo
    · by_cases h2 : Fin hi
      · rw [F1.out h1, F2.out h2, decide_eq_true h1, decide_eq_true h2]
        have h3 := srung_le lo hi
        have h4 : sgi (fval lo - fval hi) ≤ 0 ↔ srung lo ≤ srung hi := by
          rw [h3]; unfold sgi
          constructor
          · intro h; split at h
            · omega
            · split at h <;> omega
          · intro h; split
            · omega
            · split <;> omega
        cases bad
        · show decide _ = _
          congr 1; apply propext
          rw [h4]
          exact ⟨fun h => ⟨rfl, h1, h2, h⟩, fun h => h.2.2.2⟩
        · exact (decide_eq_false (fun h => by have := h.1; cases this)).symm
      · rw [decide_eq_false h2]; simp
        exact fun h => h2 h.2.2.1
    · rw [decide_eq_false h1]; simp
      exact fun h => h1 h.2.1
  have hcase : (da && db && !bad) = false ∨ (da = true ∧ db = true ∧ bad = false) := by cases da <;> cases db <;> cases bad <;> simp
  rcases hcase with hc | ⟨rfl, rfl, rfl⟩
  · have HC : Hid _ := hc
    have hsub : da = false ∨ (da = true ∧ db = false) ∨ (da = true ∧ db = true ∧ bad = true) := by revert hc; cases da <;> cases db <;> cases bad <;> simp
    clear hc
    rcases hsub with rfl | ⟨rfl, rfl⟩ | ⟨rfl, rfl, rfl⟩
    all_goals go_region
    all_goals
      change Exit.then _ _ Exit.normal _ ((((((W3.setCell ⟨R, 0, none⟩ (Value.bool nx)).setCell ⟨R, 1, none⟩ (Value.slice ao len cap)).setCell ⟨R, 2, none⟩ (Value.int IntKind.i64 ex)).setCell ⟨Q, 0, none⟩ (Value.bool ny)).setCell ⟨Q, 1, none⟩ (Value.slice bo blen bcap)).setCell ⟨Q, 2, none⟩ (Value.int IntKind.i64 ey)).drew
      have T1 := SX.out.setR
      have T2 := T1.1.setQ T1.2
      have SF : Hid _ := T2.1.drew
      have SG : Hid _ := T2.2
      generalize ((((((W3.setCell ⟨R, 0, none⟩ (Value.bool nx)).setCell ⟨R, 1, none⟩ (Value.slice ao len cap)).setCell ⟨R, 2, none⟩ (Value.int IntKind.i64 ex)).setCell ⟨Q, 0, none⟩ (Value.bool ny)).setCell ⟨Q, 1, none⟩ (Value.slice bo blen bcap)).setCell ⟨Q, 2, none⟩ (Value.int IntKind.i64 ey)) = WF at *
      clear T1 T2
      go_wp2_with fail
      refine bodyPost_ret (res_num3 _ 2 3 4 (by kernel_rfl) _ _ R Q _ _ _ _ _ _ _ (by rfl) (by rfl) (by rfl) SG.out.1 SG.out.2) rfl ⟨_, _, by rw [← HGD.out, HC.out]; rfl, ⟨z1, SF.out.zx, F1.out⟩, ⟨z2, SF.out.zy, F2.out⟩, SF.out.bel⟩
  · have T1 := SX.out.setR
    have T2 := T1.1.setQ T1.2
    have S0 : Hid _ := SX.out.drew
    have S1 : Hid _ := T1.1.drew
    have S2 : Hid _ := T2.1.drew
    have U1 : Hid _ := T1.2
    have U2 : Hid _ := T2.2
    have hE2 : E ≤ 2000 := by omega
    clear T1 T2
    go_region_held3 (fun w' => (w'.cell? ⟨S, 2, none⟩ = some (.bool false)) ∧ (w'.cell? ⟨X, 0, none⟩ = some (Value.bool nx) ∧ w'.cell? ⟨X, 1, none⟩ = some (Value.slice ao len cap) ∧ w'.cell? ⟨X, 2, none⟩ = some (Value.int IntKind.i64 ex)) ∧ (w'.cell? ⟨Y, 0, none⟩ = some (Value.bool ny) ∧ w'.cell? ⟨Y, 1, none⟩ = some (Value.slice bo blen bcap) ∧ w'.cell? ⟨Y, 2, none⟩ = some (Value.int IntKind.i64 ey))) (go_keep) ((go_at_call 58; (first | (with_reducible refine Calls.mono (S0.out.cmp hE2) ?_) | (with_reducible refine Calls.mono (S1.out.cmp hE2) ?_) | (with_reducible refine Calls.mono (S2.out.cmp hE2) ?_)); rintro ee ww ⟨rfl, h6, hr6, hq6⟩; obtain ⟨s0', s1', s2'⟩ := cells3 h6.hs; obtain ⟨⟨x0', x1', x2'⟩, ⟨y0', y1', y2'⟩, ⟨ra, rb, rc, rd, re, r0', r1', r2', f0'⟩, ⟨qa, qb, qc, qd, qe, q0', q1', q2', f1'⟩⟩ := h6.cells))
    all_goals
      first
        | (change Exit.then _ _ Exit.normal _ ((((((ww.setCell ⟨R, 0, none⟩ (Value.bool nx)).setCell ⟨R, 1, none⟩ (Value.slice ao len cap)).setCell ⟨R, 2, none⟩ (Value.int IntKind.i64 ex)).setCell ⟨Q, 0, none⟩ (Value.bool ny)).setCell ⟨Q, 1, none⟩ (Value.slice bo blen bcap)).setCell ⟨Q, 2, none⟩ (Value.int IntKind.i64 ey))
           have T1 := h6.setR
           have T2 := T1.1.setQ T1.2
           have SF : Hid _ := T2.1
           have SG : Hid _ := T2.2
           generalize ((((((ww.setCell ⟨R, 0, none⟩ (Value.bool nx)).setCell ⟨R, 1, none⟩ (Value.slice ao len cap)).setCell ⟨R, 2, none⟩ (Value.int IntKind.i64 ex)).setCell ⟨Q, 0, none⟩ (Value.bool ny)).setCell ⟨Q, 1, none⟩ (Value.slice bo blen bcap)).setCell ⟨Q, 2, none⟩ (Value.int IntKind.i64 ey)) = WF at *
           clear T1 T2
           go_wp2_with fail
           refine bodyPost_ret (res_num3 _ 2 3 4 (by kernel_rfl) _ _ R Q _ _ _ _ _ _ _ (by rfl) (by rfl) (by rfl) SG.out.1 SG.out.2) rfl ⟨_, _, by rw [← HGD.out]; rfl, ⟨z1, SF.out.zx, F1.out⟩, ⟨z2, SF.out.zy, F2.out⟩, SF.out.bel⟩)
        | (change Exit.then _ _ Exit.normal _ (((ww.setCell ⟨Q, 0, none⟩ (Value.bool ny)).setCell ⟨Q, 1, none⟩ (Value.slice bo blen bcap)).setCell ⟨Q, 2, none⟩ (Value.int IntKind.i64 ey))
           have T2 := h6.setQ (hr6.trans U1.out)
           have SF : Hid _ := T2.1
           have SG : Hid _ := T2.2
           generalize (((ww.setCell ⟨Q, 0, none⟩ (Value.bool ny)).setCell ⟨Q, 1, none⟩ (Value.slice bo blen bcap)).setCell ⟨Q, 2, none⟩ (Value.int IntKind.i64 ey)) = WF at *
           clear T2
           go_wp2_with fail
           refine bodyPost_ret (res_num3 _ 2 3 4 (by kernel_rfl) _ _ R Q _ _ _ _ _ _ _ (by rfl) (by rfl) (by rfl) SG.out.1 SG.out.2) rfl ⟨_, _, by rw [← HGD.out]; rfl, ⟨z1, SF.out.zx, F1.out⟩, ⟨z2, SF.out.zy, F2.out⟩, SF.out.bel⟩)
        | (have SG1 : Hid _ := hr6.trans U2.out.1
           have SG2 : Hid _ := hq6.trans U2.out.2
           have SF : Hid _ := h6
           go_wp2_with fail
           refine bodyPost_ret (res_num3 _ 2 3 4 (by kernel_rfl) _ _ R Q _ _ _ _ _ _ _ (by rfl) (by rfl) (by rfl) SG1.out SG2.out) rfl ⟨_, _, by rw [← HGD.out]; rfl, ⟨z1, SF.out.zx, F1.out⟩, ⟨z2, SF.out.zy, F2.out⟩, SF.out.bel⟩)
theorem zv_sign {E : Nat} {neg : Bool} {m : Nat} {e : Int} {u : Nat} (h : zv E neg m e = fval u) (h0 : fval u ≠ 0) : neg = fneg u := by
  refine (zv_lt (by rw [h]; exact h0)).trans ?_
  rw [h]
  have ha := fval_abs u
  have hv : fval u = (if fneg u then -(rmag (frung u) : Int) else (rmag (frung u) : Int)) := rfl
  cases hf : fneg u
  · rw [hf] at hv; simp at hv; exact decide_eq_false (by omega)
  · rw [hf] at hv; simp at hv; exact decide_eq_true (by omega)
theorem over_rnd {d : Int} {a b : Nat} {nx ny : Bool} {mx my : Nat} {ex ey : Int} {E : Nat} (hE : E = 1074) (h1 : zv E nx mx ex = fval a) (h2 : zv E ny my ey = fval b) (hb0 : fval b ≠ 0) (hex : -(E : Int) ≤ ex) (hey : -(E : Int) ≤ ey) {p : Nat × Bool} (hr : Rnd d (nx != ny) (mx * 2 ^ (ex - ey + 1074).toNat) (my * 2 ^ (-(ex - ey + 1074)).toNat) p) : Rnd d (fneg a ^^ fneg b) (rmag (frung a) * 2 ^ E) (rmag (frung b)) p := by
  have k1 := zv_abs E nx mx ex
  have k2 := zv_abs E ny my ey
  rw [h1, fval_abs] at k1
  rw [h2, fval_abs] at k2
  have sy := zv_sign h2 hb0
  have hmy : 0 < rmag (frung b) := by have := fval_abs b; omega
  have hmy2 : my ≠ 0 := by intro c; rw [c, Nat.zero_mul] at k2; omega
  by_cases ha0 : fval a = 0
  · have hra : rmag (frung a) = 0 := by have := fval_abs a; omega
    have hmx : mx = 0 := by
      rcases Nat.eq_zero_or_pos mx with c | c
      · exact c
      · have := Nat.mul_pos c (Nat.two_pow_pos (ex + (E : Int)).toNat); omega
    rw [hmx, Nat.zero_mul] at hr
    rw [hra, Nat.zero_mul]
    obtain ⟨R, hR, rfl⟩ := hr
    have e1 := fl_zero hR
    subst e1
    have hf0 : Fl 0 (rmag (frung b)) 0 := by have := Fl.exact 0 (rmag (frung b)) hmy; rw [rmag_zero, Nat.zero_mul] at this; exact this
    have q1 := rnd_exact (d := d) (neg := nx != ny) (k := 0) (D := my * 2 ^ (-(ex - ey + 1074)).toNat) (by decide) ⟨0, by rw [rmag_zero, Nat.zero_mul]; exact hR, rfl⟩
    have q2 := rnd_exact (d := d) (neg := fneg a ^^ fneg b) (k := 0) (D := rmag (frung b)) (by decide) ⟨0, by rw [rmag_zero, Nat.zero_mul]; exact hf0, rfl⟩
    have hs : ∀ g, sgnK g 0 = 0 := fun g => by unfold sgnK; simp
    rw [rmag_zero, Nat.zero_mul, hs] at q1 q2
    exact ⟨0, hf0, by rw [q1, q2]⟩
  · have sx := zv_sign h1 ha0
    subst sx sy
    have e : (fneg a != fneg b) = (fneg a ^^ fneg b) := by cases fneg a <;> cases fneg b <;> rfl
    rw [e] at hr
    refine hr.of_eq hmy ?_
    rw [k1, k2]
    have g1 : mx * 2 ^ (ex - ey + 1074).toNat * (my * 2 ^ (ey + (E : Int)).toNat) = mx * my * 2 ^ ((ex - ey + 1074).toNat + (ey + (E : Int)).toNat) := by rw [Nat.pow_add]; ac_rfl
    have g2 : mx * 2 ^ (ex + (E : Int)).toNat * 2 ^ E * (my * 2 ^ (-(ex - ey + 1074)).toNat) = mx * my * 2 ^ ((ex + (E : Int)).toNat + E + (-(ex - ey + 1074)).toNat) := by rw [Nat.pow_add, Nat.pow_add]; ac_rfl
    rw [g1, g2]
    congr 2
    omega
theorem overE_any (d : Int) (v u : Value) (a b : Nat) (w : World) (E : Nat) (hE : E = 1074) (hx : NumE w v E 1024 (fval a)) (hy : NumE w u E 1024 (fval b)) (hb0 : fval b ≠ 0) (hd0 : -9223372036854775808 ≤ d) (hd1 : d ≤ 9223372036854775807) (p : Nat × Bool) (hp : Rnd d (fneg a ^^ fneg b) (rmag (frung a) * 2 ^ E) (rmag (frung b)) p) :
    Calls Tryz.prog 56 #[.int .i64 d, v, u] w fun e' w' => e' = .returned (.tuple #[.int .u64 (p.1 : Int), .bool p.2]) ∧ Below w.heap.size w w' := by
  obtain ⟨nx, mx, ex, x1, x2, x3, x4, x5, x6⟩ := hx
  obtain ⟨ny, my, ey, y1, y2, y3, y4, y5, y6⟩ := hy
  refine Calls.mono (over_any d v u nx ny mx my ex ey w x1 y1 ⟨by omega, x5⟩ ⟨by omega, y5⟩ x6 y6 hd0 hd1) ?_
  rintro e' w' ⟨q, r, rfl, k1, -, hb⟩
  have hmy : my ≠ 0 := by
    intro c
    have k2 := zv_abs E ny my ey
    rw [y4, c, Nat.zero_mul] at k2
    omega
  have := (over_rnd hE x4 y4 hb0 x2 y2 (k1 hmy)).uniq hp
  subst this
  exact ⟨rfl, hb⟩
end Go.Proofs.YtnjjichanfpbhaaGreat
