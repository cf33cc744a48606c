import Derived.Test.YtbncdcenckagcaaGreatMU
import Derived.Test.YtbncdcenckagcaaGreatMZ
namespace Go.Proofs.YtbncdcenckagcaaGreat
open Go.RowKit
set_option linter.unusedVariables false

/-- Two numbers' variables, two blocks for what is told. -/
structure Six (w V : World) (R Q X Y S : Nat) (so : Obj) (nx ny : Bool) (ao bo : Option Addr) (len cap blen bcap : Nat) (ex ey : Int) (E : Nat) (z1 z2 : Int) : Prop where
  hx : V.heap[X]? = some (Obj.cells #[Value.bool nx, Value.slice ao len cap, Value.int IntKind.i64 ex] 44)
  hy : V.heap[Y]? = some (Obj.cells #[Value.bool ny, Value.slice bo blen bcap, Value.int IntKind.i64 ey] 44)
  hs : V.heap[S]? = some so
  hr : NumB V R
  hq : NumB V Q
  zx : NumZ V (.agg #[Value.bool nx, Value.slice ao len cap, Value.int IntKind.i64 ex]) E 1024 z1
  zy : NumZ V (.agg #[Value.bool ny, Value.slice bo blen bcap, Value.int IntKind.i64 ey]) E 1024 z2
  bel : Below w.heap.size w V
  base : w.heap.size ≤ R ∧ w.heap.size ≤ Q
  apart : R ≠ Q ∧ R ≠ X ∧ R ≠ Y ∧ Q ≠ X ∧ Q ≠ Y ∧ R ≠ S ∧ Q ≠ S
theorem NumB.lt {V : World} {B : Nat} (h : NumB V B) : B < V.heap.size := by
  obtain ⟨a, b, c, d, e, h⟩ := h; exact blk_lt h
theorem NumB.keep {V V' : World} {B : Nat} (h : NumB V B) (hk : V'.heap[B]? = V.heap[B]?) : NumB V' B := by
  obtain ⟨a, b, c, d, e, h⟩ := h; exact ⟨a, b, c, d, e, hk.trans h⟩
variable {w V : World} {R Q X Y S : Nat} {so : Obj} {nx ny : Bool} {ao bo : Option Addr} {len cap blen bcap : Nat} {ex ey : Int} {E : Nat} {z1 z2 : Int}
theorem Six.later (h : Six w V R Q X Y S so nx ny ao bo len cap blen bcap ex ey E z1 z2) {V' : World} (hb : Below V.heap.size V V') : Six w V' R Q X Y S so nx ny ao bo len cap blen bcap ex ey E z1 z2 :=
  ⟨(hb.block _ (blk_lt h.hx)).trans h.hx, (hb.block _ (blk_lt h.hy)).trans h.hy, (hb.block _ (blk_lt h.hs)).trans h.hs, h.hr.keep (hb.block _ h.hr.lt), h.hq.keep (hb.block _ h.hq.lt), h.zx.later hb, h.zy.later hb, h.bel.trans (hb.mono h.bel.size), h.base, h.apart⟩
theorem Six.drew (h : Six w V R Q X Y S so nx ny ao bo len cap blen bcap ex ey E z1 z2) : Six w V.drew R Q X Y S so nx ny ao bo len cap blen bcap ex ey E z1 z2 := h.later (Below.refl _ _).drew
theorem Six.setR (h : Six w V R Q X Y S so nx ny ao bo len cap blen bcap ex ey E z1 z2) : Six w (((V.setCell ⟨R, 0, none⟩ (Value.bool nx)).setCell ⟨R, 1, none⟩ (Value.slice ao len cap)).setCell ⟨R, 2, none⟩ (Value.int IntKind.i64 ex)) R Q X Y S so nx ny ao bo len cap blen bcap ex ey E z1 z2 ∧ (((V.setCell ⟨R, 0, none⟩ (Value.bool nx)).setCell ⟨R, 1, none⟩ (Value.slice ao len cap)).setCell ⟨R, 2, none⟩ (Value.int IntKind.i64 ex)).heap[R]? = some (Obj.cells #[Value.bool nx, Value.slice ao len cap, Value.int IntKind.i64 ex] 44) := by
  obtain ⟨q1, q2, q3, q4, q5, q6, q7⟩ := h.apart
  have hb := below_set3 (Value.bool nx) (Value.slice ao len cap) (Value.int IntKind.i64 ex) h.bel h.base.1
  have zx := NumZ.set3 (Value.bool nx) (Value.slice ao len cap) (Value.int IntKind.i64 ex) h.hr h.zx
  have zy := NumZ.set3 (Value.bool nx) (Value.slice ao len cap) (Value.int IntKind.i64 ex) h.hr h.zy
  have ox := set3_other (w := V) (Value.bool nx) (Value.slice ao len cap) (Value.int IntKind.i64 ex) (Ne.symm q2)
  have oy := set3_other (w := V) (Value.bool nx) (Value.slice ao len cap) (Value.int IntKind.i64 ex) (Ne.symm q3)
  have oq := set3_other (w := V) (Value.bool nx) (Value.slice ao len cap) (Value.int IntKind.i64 ex) (Ne.symm q1)
  have os := set3_other (w := V) (Value.bool nx) (Value.slice ao len cap) (Value.int IntKind.i64 ex) (Ne.symm q6)
  obtain ⟨a, b, c, d, e, hr⟩ := h.hr
  have hh := set3_heap (Value.bool nx) (Value.slice ao len cap) (Value.int IntKind.i64 ex) hr
  exact ⟨⟨ox.trans h.hx, oy.trans h.hy, os.trans h.hs, ⟨_, _, _, _, _, hh⟩, h.hq.keep oq, zx, zy, hb, h.base, h.apart⟩, hh⟩
theorem Six.setQ (h : Six w V R Q X Y S so nx ny ao bo len cap blen bcap ex ey E z1 z2) (hr : V.heap[R]? = some (Obj.cells #[Value.bool nx, Value.slice ao len cap, Value.int IntKind.i64 ex] 44)) : Six w (((V.setCell ⟨Q, 0, none⟩ (Value.bool ny)).setCell ⟨Q, 1, none⟩ (Value.slice bo blen bcap)).setCell ⟨Q, 2, none⟩ (Value.int IntKind.i64 ey)) R Q X Y S so nx ny ao bo len cap blen bcap ex ey E z1 z2 ∧ (((V.setCell ⟨Q, 0, none⟩ (Value.bool ny)).setCell ⟨Q, 1, none⟩ (Value.slice bo blen bcap)).setCell ⟨Q, 2, none⟩ (Value.int IntKind.i64 ey)).heap[R]? = some (Obj.cells #[Value.bool nx, Value.slice ao len cap, Value.int IntKind.i64 ex] 44) ∧ (((V.setCell ⟨Q, 0, none⟩ (Value.bool ny)).setCell ⟨Q, 1, none⟩ (Value.slice bo blen bcap)).setCell ⟨Q, 2, none⟩ (Value.int IntKind.i64 ey)).heap[Q]? = some (Obj.cells #[Value.bool ny, Value.slice bo blen bcap, Value.int IntKind.i64 ey] 44) := by
  obtain ⟨q1, q2, q3, q4, q5, q6, q7⟩ := h.apart
  have hb := below_set3 (Value.bool ny) (Value.slice bo blen bcap) (Value.int IntKind.i64 ey) h.bel h.base.2
  have zx := NumZ.set3 (Value.bool ny) (Value.slice bo blen bcap) (Value.int IntKind.i64 ey) h.hq h.zx
  have zy := NumZ.set3 (Value.bool ny) (Value.slice bo blen bcap) (Value.int IntKind.i64 ey) h.hq h.zy
  have ox := set3_other (w := V) (Value.bool ny) (Value.slice bo blen bcap) (Value.int IntKind.i64 ey) (Ne.symm q4)
  have oy := set3_other (w := V) (Value.bool ny) (Value.slice bo blen bcap) (Value.int IntKind.i64 ey) (Ne.symm q5)
  have orr := set3_other (w := V) (Value.bool ny) (Value.slice bo blen bcap) (Value.int IntKind.i64 ey) q1
  have os := set3_other (w := V) (Value.bool ny) (Value.slice bo blen bcap) (Value.int IntKind.i64 ey) (Ne.symm q7)
  obtain ⟨a, b, c, d, e, hq⟩ := h.hq
  have hh := set3_heap (Value.bool ny) (Value.slice bo blen bcap) (Value.int IntKind.i64 ey) hq
  exact ⟨⟨ox.trans h.hx, oy.trans h.hy, os.trans h.hs, h.hr.keep orr, ⟨_, _, _, _, _, hh⟩, zx, zy, hb, h.base, h.apart⟩, orr.trans hr, hh⟩
theorem Six.cells (h : Six w V R Q X Y S so nx ny ao bo len cap blen bcap ex ey E z1 z2) : (V.cell? ⟨X, 0, none⟩ = some (Value.bool nx) ∧ V.cell? ⟨X, 1, none⟩ = some (Value.slice ao len cap) ∧ V.cell? ⟨X, 2, none⟩ = some (Value.int IntKind.i64 ex)) ∧ (V.cell? ⟨Y, 0, none⟩ = some (Value.bool ny) ∧ V.cell? ⟨Y, 1, none⟩ = some (Value.slice bo blen bcap) ∧ V.cell? ⟨Y, 2, none⟩ = some (Value.int IntKind.i64 ey)) ∧ (∃ a b c d e, V.cell? ⟨R, 0, none⟩ = some (.bool a) ∧ V.cell? ⟨R, 1, none⟩ = some (.slice b c d) ∧ V.cell? ⟨R, 2, none⟩ = some (.int .i64 e) ∧ ∀ j, V.frozen? ⟨R, j, none⟩ = false) ∧ (∃ a b c d e, V.cell? ⟨Q, 0, none⟩ = some (.bool a) ∧ V.cell? ⟨Q, 1, none⟩ = some (.slice b c d) ∧ V.cell? ⟨Q, 2, none⟩ = some (.int .i64 e) ∧ ∀ j, V.frozen? ⟨Q, j, none⟩ = false) := by
  refine ⟨cells3 h.hx, cells3 h.hy, ?_, ?_⟩
  · obtain ⟨a, b, c, d, e, hr⟩ := h.hr
    obtain ⟨c0, c1, c2⟩ := cells3 hr
    exact ⟨a, b, c, d, e, c0, c1, c2, fun j => frozen_of_row _ _ j _ _ hr⟩
  · obtain ⟨a, b, c, d, e, hr⟩ := h.hq
    obtain ⟨c0, c1, c2⟩ := cells3 hr
    exact ⟨a, b, c, d, e, c0, c1, c2, fun j => frozen_of_row _ _ j _ _ hr⟩
theorem Six.cmp (h : Six w V R Q X Y S so nx ny ao bo len cap blen bcap ex ey E z1 z2) (hE : E ≤ 2000) : Calls Tryz.prog 39 #[.agg #[Value.bool nx, Value.slice ao len cap, Value.int IntKind.i64 ex], .agg #[Value.bool ny, Value.slice bo blen bcap, Value.int IntKind.i64 ey]] V fun e' w' => e' = .returned (.int .i64 (sgi (z1 - z2))) ∧ Six w w' R Q X Y S so nx ny ao bo len cap blen bcap ex ey E z1 z2 ∧ w'.heap[R]? = V.heap[R]? ∧ w'.heap[Q]? = V.heap[Q]? := by
  refine Calls.mono (cmpZ_any _ _ E 1024 z1 z2 _ h.zx h.zy (by omega) (by omega)) ?_
  rintro e w' ⟨rfl, hb⟩
  exact ⟨rfl, h.later hb, hb.block _ h.hr.lt, hb.block _ h.hq.lt⟩
set_option maxRecDepth 100000 in
set_option maxHeartbeats 2000000 in
theorem ends_any (lo hi : Nat) (bad : Bool) (hlo : lo < 18446744073709551616) (hhi : hi < 18446744073709551616) (w : World) (E : Nat) (hE : E = 1074) :
    Calls Tryz.prog 14 #[.agg #[Value.int .u64 (lo : Int), .int .u64 (hi : Int), .bool bad]] w fun e' w' => ∃ v u, e' = .returned (.tuple #[v, u, .bool (decide (Good lo hi bad))]) ∧ (∃ z, NumZ w' v E 1024 z ∧ (Fin lo → z = fval lo)) ∧ (∃ z, NumZ w' u E 1024 z ∧ (Fin hi → z = fval hi)) ∧ Below w.heap.size w w' := by
  obtain ⟨g0, g1, g2, gz, gb⟩ := alloc3_facts w (Obj.cells #[Value.int .u64 (lo : Int), .int .u64 (hi : Int), .bool bad] 30) (Obj.cells #[Value.bool false, Value.slice none 0 0, Value.int IntKind.i64 0] 44) (Obj.cells #[Value.bool false, Value.slice none 0 0, Value.int IntKind.i64 0] 44)
  have G0 : Hid _ := g0
  have G1 : Hid _ := g1
  have G2 : Hid _ := g2
  have GB : Hid _ := gb
  clear g0 g1 g2 gz gb
  go_enter Tryz.func14, Tryz.ntmps14
  go_upto_region 1 with fail
  generalize (((w.alloc (Obj.cells #[Value.int .u64 (lo : Int), .int .u64 (hi : Int), .bool bad] 30)).alloc (Obj.cells #[Value.bool false, Value.slice none 0 0, Value.int IntKind.i64 0] 44)).alloc (Obj.cells #[Value.bool false, Value.slice none 0 0, Value.int IntKind.i64 0] 44)) = W0 at G0 G1 G2 GB ⊢
  obtain ⟨R, hR⟩ : ∃ R, w.heap.size + 1 = R := ⟨_, rfl⟩
  obtain ⟨Q, hQ⟩ : ∃ Q, w.heap.size + 1 + 1 = Q := ⟨_, rfl⟩
  have HRQ : Hid (w.heap.size < R ∧ Q = R + 1) := ⟨by omega, by omega⟩
  rw [hQ] at G2 ⊢
  rw [hR] at G1 ⊢
  obtain ⟨S, hS⟩ : ∃ S, w.heap.size = S := ⟨_, rfl⟩
  have HS : Hid _ := hS
  rw [hS] at G0 ⊢
  clear hR hQ hS
  obtain ⟨s0, s1, s2⟩ := cells3 G0.out
  go_wp2_with fail
  refine Calls.mono (ofZ_any lo hlo _ E hE) ?_
  rintro e1 w1 ⟨v1, rfl, ⟨z1, hz1, hf1⟩, hb1⟩
  have Z1 : Hid (NumZ w1 v1 E 1024 z1) := hz1
  have F1 : Hid (Fin lo → z1 = fval lo) := hf1
  obtain ⟨nx, mx, ex, ⟨ao, len, cap, xs, rfl, -⟩, -⟩ := hz1
  have H0 : Hid _ := (hb1.block S (blk_lt G0.out)).trans G0.out
  have H1 : Hid _ := (hb1.block R (blk_lt G1.out)).trans G1.out
  have H2 : Hid _ := (hb1.block Q (blk_lt G2.out)).trans G2.out
  have C1 : Hid (Below w.heap.size w w1) := GB.out.trans (hb1.mono GB.out.size)
  clear hb1 hf1 G0 G1 G2 GB s0 s1 s2
  obtain ⟨da, hda⟩ : ∃ d, decide (Fin lo) = d := ⟨_, rfl⟩
  have HDA : Hid _ := hda
  rw [hda]
  clear hda
  go_upto_region 2 with fail
  have NX1 : Hid _ := heap_alloc_new w1 (Obj.cells #[Value.bool nx, Value.slice ao len cap, Value.int IntKind.i64 ex] 44)
  have I0 : Hid _ := alloc4 H0.out C1.out (Obj.cells #[Value.bool nx, Value.slice ao len cap, Value.int IntKind.i64 ex] 44)
  have I1 : Hid _ := alloc4 H1.out C1.out (Obj.cells #[Value.bool nx, Value.slice ao len cap, Value.int IntKind.i64 ex] 44)
  have I2 : Hid _ := alloc4 H2.out C1.out (Obj.cells #[Value.bool nx, Value.slice ao len cap, Value.int IntKind.i64 ex] 44)
  have Z1' : Hid (NumZ (w1.alloc (Obj.cells #[Value.bool nx, Value.slice ao len cap, Value.int IntKind.i64 ex] 44)) _ E 1024 z1) := NumZ.later Z1.out ((Below.refl _ _).alloc (Nat.le_refl _) (Obj.cells #[Value.bool nx, Value.slice ao len cap, Value.int IntKind.i64 ex] 44))
  obtain ⟨X, hX⟩ : ∃ X, w1.heap.size = X := ⟨_, rfl⟩
  have HX : Hid (Q < X) := by have := blk_lt H2.out; unfold Hid; omega
  rw [hX] at NX1 ⊢
  generalize w1.alloc (Obj.cells #[Value.bool nx, Value.slice ao len cap, Value.int IntKind.i64 ex] 44) = W1 at NX1 I0 I1 I2 Z1' ⊢
  clear hX H0 H1 H2 Z1 C1
  obtain ⟨s0, s1, s2⟩ := cells3 I0.out.1
  go_wp2_with fail
  refine Calls.mono (ofZ_any hi hhi _ E hE) ?_
  rintro e2 w2 ⟨v2, rfl, ⟨z2, hz2, hf2⟩, hb2⟩
  have Z2 : Hid (NumZ w2 v2 E 1024 z2) := hz2
  have F2 : Hid (Fin hi → z2 = fval hi) := hf2
  obtain ⟨ny, my, ey, ⟨bo, blen, bcap, ys, rfl, -⟩, -⟩ := hz2
  have H0 : Hid _ := (hb2.block S (blk_lt I0.out.1)).trans I0.out.1
  have H1 : Hid _ := (hb2.block R (blk_lt I1.out.1)).trans I1.out.1
  have H2 : Hid _ := (hb2.block Q (blk_lt I2.out.1)).trans I2.out.1
  have H3 : Hid _ := (hb2.block X (blk_lt NX1.out)).trans NX1.out
  have C1 : Hid (Below w.heap.size w w2) := I0.out.2.trans (hb2.mono I0.out.2.size)
  have Z1 : Hid (NumZ w2 _ E 1024 z1) := Z1'.out.later hb2
  clear hb2 hf2 I0 I1 I2 NX1 Z1' s0 s1 s2
  obtain ⟨db, hdb⟩ : ∃ d, decide (Fin hi) = d := ⟨_, rfl⟩
  have HDB : Hid _ := hdb
  rw [hdb]
  clear hdb
  go_upto_region 3 with fail
  have GY : Hid _ := heap_alloc_new w2 (Obj.cells #[Value.bool ny, Value.slice bo blen bcap, Value.int IntKind.i64 ey] 44)
  have I0 : Hid _ := alloc4 H0.out C1.out (Obj.cells #[Value.bool ny, Value.slice bo blen bcap, Value.int IntKind.i64 ey] 44)
  have I1 : Hid _ := alloc4 H1.out C1.out (Obj.cells #[Value.bool ny, Value.slice bo blen bcap, Value.int IntKind.i64 ey] 44)
  have I2 : Hid _ := alloc4 H2.out C1.out (Obj.cells #[Value.bool ny, Value.slice bo blen bcap, Value.int IntKind.i64 ey] 44)
  have I3 : Hid _ := alloc4 H3.out C1.out (Obj.cells #[Value.bool ny, Value.slice bo blen bcap, Value.int IntKind.i64 ey] 44)
  have ZA : Hid (NumZ (w2.alloc (Obj.cells #[Value.bool ny, Value.slice bo blen bcap, Value.int IntKind.i64 ey] 44)) _ E 1024 z1) := NumZ.later Z1.out ((Below.refl _ _).alloc (Nat.le_refl _) (Obj.cells #[Value.bool ny, Value.slice bo blen bcap, Value.int IntKind.i64 ey] 44))
  have ZB : Hid (NumZ (w2.alloc (Obj.cells #[Value.bool ny, Value.slice bo blen bcap, Value.int IntKind.i64 ey] 44)) _ E 1024 z2) := NumZ.later Z2.out ((Below.refl _ _).alloc (Nat.le_refl _) (Obj.cells #[Value.bool ny, Value.slice bo blen bcap, Value.int IntKind.i64 ey] 44))
  obtain ⟨Y, hY⟩ : ∃ Y, w2.heap.size = Y := ⟨_, rfl⟩
  have HY : Hid (X < Y) := by have := blk_lt H3.out; unfold Hid; omega
  rw [hY] at GY ⊢
  generalize w2.alloc (Obj.cells #[Value.bool ny, Value.slice bo blen bcap, Value.int IntKind.i64 ey] 44) = W3 at GY I0 I1 I2 I3 ZA ZB ⊢
  clear hY H0 H1 H2 H3 Z1 Z2 C1
  have GS : Hid _ := I0.out.1
  have GR : Hid _ := I1.out.1
  have GQ : Hid _ := I2.out.1
  have GX : Hid _ := I3.out.1
  have C3 : Hid (Below w.heap.size w W3) := I0.out.2
  clear I0 I1 I2 I3
  have SX : Hid (Six w W3 R Q X Y S _ nx ny ao bo len cap blen bcap ex ey E z1 z2) := ⟨GX.out, GY.out, GS.out, ⟨_, _, _, _, _, GR.out⟩, ⟨_, _, _, _, _, GQ.out⟩, ZA.out, ZB.out, C3.out, ⟨by have := HRQ.out; omega, by have := HRQ.out; omega⟩, by have := HRQ.out; have := HX.out; have := HY.out; have := HS.out; omega⟩
  obtain ⟨s0, s1, s2⟩ := cells3 GS.out
  obtain ⟨⟨x0, x1, x2⟩, ⟨y0, y1, y2⟩, -⟩ := SX.out.cells
  obtain ⟨r0, r1, r2⟩ := cells3 GR.out
  obtain ⟨q0, q1, q2⟩ := cells3 GQ.out
  have f0 := fun j => frozen_of_row _ _ j _ _ GR.out
  have f1 := fun j => frozen_of_row _ _ j _ _ GQ.out
  clear GX GY ZA ZB
  have n0 : ¬ (R = S) := by have := HRQ.out; have := HX.out; have := HY.out; have := HS.out; omega
  have n1 : ¬ (R = X) := by have := HRQ.out; have := HX.out; have := HY.out; have := HS.out; omega
  have n2 : ¬ (R = Y) := by have := HRQ.out; have := HX.out; have := HY.out; have := HS.out; omega
  have n3 : ¬ (Q = S) := by have := HRQ.out; have := HX.out; have := HY.out; have := HS.out; omega
  have n4 : ¬ (Q = X) := by have := HRQ.out; have := HX.out; have := HY.out; have := HS.out; omega
  have n5 : ¬ (Q = Y) := by have := HRQ.out; have := HX.out; have := HY.out; have := HS.out; omega
  have n6 : ¬ (S = R) := by have := HRQ.out; have := HX.out; have := HY.out; have := HS.out; omega
  have n7 : ¬ (X = R) := by have := HRQ.out; have := HX.out; have := HY.out; have := HS.out; omega
  have n8 : ¬ (Y = R) := by have := HRQ.out; have := HX.out; have := HY.out; have := HS.out; omega
  have n9 : ¬ (S = Q) := by have := HRQ.out; have := HX.out; have := HY.out; have := HS.out; omega
  have n10 : ¬ (X = Q) := by have := HRQ.out; have := HX.out; have := HY.out; have := HS.out; omega
  have n11 : ¬ (Y = Q) := by have := HRQ.out; have := HX.out; have := HY.out; have := HS.out; omega
  have n12 : ¬ (R = Q) := by have := HRQ.out; have := HX.out; have := HY.out; have := HS.out; omega
  have n13 : ¬ (Q = R) := by have := HRQ.out; have := HX.out; have := HY.out; have := HS.out; omega
  have HGD : Hid ((da && db && !bad && decide (sgi (z1 - z2) ≤ 0)) = decide (Good lo hi bad)) := by
    unfold Hid
    rw [← HDA.out, ← HDB.out]
    by_cases h1 : Fin lo
    · by_cases h2 : Fin hi
      · rw [F1.out h1, F2.out h2, decide_eq_true h1, decide_eq_true h2]
        have h3 := srung_le lo hi
        have h4 : sgi (fval lo - fval hi) ≤ 0 ↔ srung lo ≤ srung hi := by
          rw [h3]; unfold sgi
          constructor
          · intro h; split at h
            · omega
            · split at h <;> omega
          · intro h; split
            · omega
            · split <;> omega
        cases bad
        · show decide _ = _
          congr 1; apply propext
          rw [h4]
          exact ⟨fun h => ⟨rfl, h1, h2, h⟩, fun h => h.2.2.2⟩
        · exact (decide_eq_false (fun h => by have := h.1; cases this)).symm
      · rw [decide_eq_false h2]; simp
        exact fun h => h2 h.2.2.1
    · rw [decide_eq_false h1]; simp
      exact fun h => h1 h.2.1
  have hcase : (da && db && !bad) = false ∨ (da = true ∧ db = true ∧ bad = false) := by cases da <;> cases db <;> cases bad <;> simp
  rcases hcase with hc | ⟨rfl, rfl, rfl⟩
  · have HC : Hid _ := hc
    have hsub : da = false ∨ (da = true ∧ db = false) ∨ (da = true ∧ db = true ∧ bad = true) := by revert hc; cases da <;> cases db <;> cases bad <;> simp
    clear hc
    rcases hsub with rfl | ⟨rfl, rfl⟩ | ⟨rfl, rfl, rfl⟩
    all_goals go_region
    all_goals
      change Exit.then _ _ Exit.normal _ ((((((W3.setCell ⟨R, 0, none⟩ (Value.bool nx)).setCell ⟨R, 1, none⟩ (Value.slice ao len cap)).setCell ⟨R, 2, none⟩ (Value.int IntKind.i64 ex)).setCell ⟨Q, 0, none⟩ (Value.bool ny)).setCell ⟨Q, 1, none⟩ (Value.slice bo blen bcap)).setCell ⟨Q, 2, none⟩ (Value.int IntKind.i64 ey)).drew
      have T1 := SX.out.setR
      have T2 := T1.1.setQ T1.2
      have SF : Hid _ := T2.1.drew
      have SG : Hid _ := T2.2
      generalize ((((((W3.setCell ⟨R, 0, none⟩ (Value.bool nx)).setCell ⟨R, 1, none⟩ (Value.slice ao len cap)).setCell ⟨R, 2, none⟩ (Value.int IntKind.i64 ex)).setCell ⟨Q, 0, none⟩ (Value.bool ny)).setCell ⟨Q, 1, none⟩ (Value.slice bo blen bcap)).setCell ⟨Q, 2, none⟩ (Value.int IntKind.i64 ey)) = WF at *
      clear T1 T2
      go_wp2_with fail
      refine bodyPost_ret (res_num3 _ 2 3 4 (by kernel_rfl) _ _ R Q _ _ _ _ _ _ _ (by rfl) (by rfl) (by rfl) SG.out.1 SG.out.2) rfl ⟨_, _, by rw [← HGD.out, HC.out]; rfl, ⟨z1, SF.out.zx, F1.out⟩, ⟨z2, SF.out.zy, F2.out⟩, SF.out.bel⟩
  · have T1 := SX.out.setR
    have T2 := T1.1.setQ T1.2
    have S0 : Hid _ := SX.out.drew
    have S1 : Hid _ := T1.1.drew
    have S2 : Hid _ := T2.1.drew
    have U1 : Hid _ := T1.2
    have U2 : Hid _ := T2.2
    have hE2 : E ≤ 2000 := by omega
    clear T1 T2
    go_region_held3 (fun w' => (w'.cell? ⟨S, 2, none⟩ = some (.bool false)) ∧ (w'.cell? ⟨X, 0, none⟩ = some (Value.bool nx) ∧ w'.cell? ⟨X, 1, none⟩ = some (Value.slice ao len cap) ∧ w'.cell? ⟨X, 2, none⟩ = some (Value.int IntKind.i64 ex)) ∧ (w'.cell? ⟨Y, 0, none⟩ = some (Value.bool ny) ∧ w'.cell? ⟨Y, 1, none⟩ = some (Value.slice bo blen bcap) ∧ w'.cell? ⟨Y, 2, none⟩ = some (Value.int IntKind.i64 ey))) (go_keep) ((go_at_call 39; (first | (with_reducible refine Calls.mono (S0.out.cmp hE2) ?_) | (with_reducible refine Calls.mono (S1.out.cmp hE2) ?_) | (with_reducible refine Calls.mono (S2.out.cmp hE2) ?_)); rintro ee ww ⟨rfl, h6, hr6, hq6⟩; obtain ⟨s0', s1', s2'⟩ := cells3 h6.hs; obtain ⟨⟨x0', x1', x2'⟩, ⟨y0', y1', y2'⟩, ⟨ra, rb, rc, rd, re, r0', r1', r2', f0'⟩, ⟨qa, qb, qc, qd, qe, q0', q1', q2', f1'⟩⟩ := h6.cells))
    all_goals
      first
        | (change Exit.then _ _ Exit.normal _ ((((((ww.setCell ⟨R, 0, none⟩ (Value.bool nx)).setCell ⟨R, 1, none⟩ (Value.slice ao len cap)).setCell ⟨R, 2, none⟩ (Value.int IntKind.i64 ex)).setCell ⟨Q, 0, none⟩ (Value.bool ny)).setCell ⟨Q, 1, none⟩ (Value.slice bo blen bcap)).setCell ⟨Q, 2, none⟩ (Value.int IntKind.i64 ey))
           have T1 := h6.setR
           have T2 := T1.1.setQ T1.2
           have SF : Hid _ := T2.1
           have SG : Hid _ := T2.2
           generalize ((((((ww.setCell ⟨R, 0, none⟩ (Value.bool nx)).setCell ⟨R, 1, none⟩ (Value.slice ao len cap)).setCell ⟨R, 2, none⟩ (Value.int IntKind.i64 ex)).setCell ⟨Q, 0, none⟩ (Value.bool ny)).setCell ⟨Q, 1, none⟩ (Value.slice bo blen bcap)).setCell ⟨Q, 2, none⟩ (Value.int IntKind.i64 ey)) = WF at *
           clear T1 T2
           go_wp2_with fail
           refine bodyPost_ret (res_num3 _ 2 3 4 (by kernel_rfl) _ _ R Q _ _ _ _ _ _ _ (by rfl) (by rfl) (by rfl) SG.out.1 SG.out.2) rfl ⟨_, _, by rw [← HGD.out]; rfl, ⟨z1, SF.out.zx, F1.out⟩, ⟨z2, SF.out.zy, F2.out⟩, SF.out.bel⟩)
        | (change Exit.then _ _ Exit.normal _ (((ww.setCell ⟨Q, 0, none⟩ (Value.bool ny)).setCell ⟨Q, 1, none⟩ (Value.slice bo blen bcap)).setCell ⟨Q, 2, none⟩ (Value.int IntKind.i64 ey))
           have T2 := h6.setQ (hr6.trans U1.out)
           have SF : Hid _ := T2.1
           have SG : Hid _ := T2.2
           generalize (((ww.setCell ⟨Q, 0, none⟩ (Value.bool ny)).setCell ⟨Q, 1, none⟩ (Value.slice bo blen bcap)).setCell ⟨Q, 2, none⟩ (Value.int IntKind.i64 ey)) = WF at *
           clear T2
           go_wp2_with fail
           refine bodyPost_ret (res_num3 _ 2 3 4 (by kernel_rfl) _ _ R Q _ _ _ _ _ _ _ (by rfl) (by rfl) (by rfl) SG.out.1 SG.out.2) rfl ⟨_, _, by rw [← HGD.out]; rfl, ⟨z1, SF.out.zx, F1.out⟩, ⟨z2, SF.out.zy, F2.out⟩, SF.out.bel⟩)
        | (have SG1 : Hid _ := hr6.trans U2.out.1
           have SG2 : Hid _ := hq6.trans U2.out.2
           have SF : Hid _ := h6
           go_wp2_with fail
           refine bodyPost_ret (res_num3 _ 2 3 4 (by kernel_rfl) _ _ R Q _ _ _ _ _ _ _ (by rfl) (by rfl) (by rfl) SG1.out SG2.out) rfl ⟨_, _, by rw [← HGD.out]; rfl, ⟨z1, SF.out.zx, F1.out⟩, ⟨z2, SF.out.zy, F2.out⟩, SF.out.bel⟩)
end Go.Proofs.YtbncdcenckagcaaGreat

namespace Go.Proofs.YtbncdcenckagcaaGreat
open Go.RowKit
set_option linter.unusedVariables false

theorem refBad_any (w : World) : Calls Tryz.prog 12 #[] w fun e w' => e = .returned (.agg #[.int .u64 0, .int .u64 0, .bool true]) ∧ Below w.heap.size w w' := by
  go_enter Tryz.func12, Tryz.ntmps12
  go_wp2
  refine bodyPost_ret (v := .agg #[.int .u64 0, .int .u64 0, .bool true]) (res_su _ 0 (by kernel_rfl) _ _ w.heap.size _ _ _ ?_ (heap_alloc_new w _)) rfl ?_
  · rfl
  · exact ⟨rfl, (Below.refl _ w).alloc (Nat.le_refl _) _⟩
/-- What the document's call gives. -/
def RefAns (w : World) (P : Nat × Nat × Bool → Prop) (e : Ending) (w' : World) : Prop := ∃ r : Nat × Nat × Bool, e = .returned (.agg #[.int .u64 (r.1 : Int), .int .u64 (r.2.1 : Int), .bool r.2.2]) ∧ P r ∧ Below w.heap.size w w'
set_option maxRecDepth 100000 in
set_option maxHeartbeats 2000000 in
theorem refOf_any (v u : Value) (s k : Nat) (T1 T2 z1 z2 : Int) (w : World) (h1 : NumZ w v s T1 z1) (h2 : NumZ w u s T2 z2) (E : Nat) (hE : E = 1074) (hs : s = E + k) (hs2 : s ≤ 4000) (hT1 : 0 ≤ T1 ∧ T1 ≤ 4000) (hT2 : 0 ≤ T2 ∧ T2 ≤ 4000) :
    Calls Tryz.prog 19 #[v, u] w fun e w' => RefAns w (SpR z1 z2 (2 ^ k)) e w' := by
  have ZV : Hid (NumZ w v s T1 z1) := h1
  have ZU : Hid (NumZ w u s T2 z2) := h2
  obtain ⟨nx, mx, ex, ⟨ao, len, cap, xs, rfl, -⟩, -⟩ := h1
  obtain ⟨ny, my, ey, ⟨bo, blen, bcap, ys, rfl, -⟩, -⟩ := h2
  obtain ⟨g0, g1, g2, gz, gb⟩ := alloc3_facts w (Obj.cells #[Value.bool nx, Value.slice ao len cap, Value.int IntKind.i64 ex] 44) (Obj.cells #[Value.bool ny, Value.slice bo blen bcap, Value.int IntKind.i64 ey] 44) (Obj.cells #[Value.int .u64 0, .int .u64 0, .bool false] 30)
  have G0 : Hid _ := g0
  have G1 : Hid _ := g1
  have G2 : Hid _ := g2
  have GB : Hid _ := gb
  clear g0 g1 g2 gz gb
  go_enter Tryz.func19, Tryz.ntmps19
  go_upto_region 1 with fail
  generalize (((w.alloc (Obj.cells #[Value.bool nx, Value.slice ao len cap, Value.int IntKind.i64 ex] 44)).alloc (Obj.cells #[Value.bool ny, Value.slice bo blen bcap, Value.int IntKind.i64 ey] 44)).alloc (Obj.cells #[Value.int .u64 0, .int .u64 0, .bool false] 30)) = W0 at G0 G1 G2 GB ⊢
  obtain ⟨x0, x1, x2⟩ := cells3 G0.out
  go_wp2_with fail
  refine Calls.mono (roundZ_any 2 _ s k T1 z1 _ (ZV.out.later GB.out) E hE hs hs2 hT1 (by decide) (by decide)) ?_
  rintro e1 w1 ⟨p1, p2, rfl, hR1, bw⟩
  have RP : Hid (RndZ 2 z1 (2 ^ k) (p1, p2)) := hR1
  have G1' : Hid _ := (bw.block _ (blk_lt G1.out)).trans G1.out
  have G2' : Hid _ := (bw.block _ (blk_lt G2.out)).trans G2.out
  have C1 : Hid (Below w.heap.size w w1) := GB.out.trans (bw.mono GB.out.size)
  clear bw hR1 G0 G1 G2 GB x0 x1 x2
  obtain ⟨y0, y1, y2⟩ := cells3 G1'.out
  go_wp2_with fail
  refine Calls.mono (roundZ_any 1 _ s k T2 z2 _ (ZU.out.later C1.out) E hE hs hs2 hT2 (by decide) (by decide)) ?_
  rintro e2 w3 ⟨q1, q2, rfl, hR2, bw⟩
  have RQ : Hid (RndZ 1 z2 (2 ^ k) (q1, q2)) := hR2
  have R3 : Hid _ := (bw.block _ (blk_lt G2'.out)).trans G2'.out
  have C3 : Hid (Below w.heap.size w w3) := C1.out.trans (bw.mono C1.out.size)
  clear bw hR2 G1' G2' C1 y0 y1 y2 ZV ZU
  cases p2
  · have HSP : Hid (SpR z1 z2 (2 ^ k) (0, 0, true)) := ⟨_, _, RP.out, RQ.out, by unfold spOf; rw [if_neg (fun c => by have := c.1; cases this)]⟩
    clear RP RQ
    go_wp2_with fail
    refine Calls.mono (refBad_any _) ?_
    rintro e w4 ⟨rfl, bw⟩
    have R4 : Hid _ := (bw.block _ (blk_lt R3.out)).trans R3.out
    have C4 : Hid (Below w.heap.size w w4) := C3.out.trans (bw.mono C3.out.size)
    clear bw
    obtain ⟨r0, r1, r2⟩ := cells3 R4.out
    have fz := fun j => frozen_of_row _ _ j _ _ R4.out
    go_wp2_with fail
    refine bodyPost_ret (v := .agg #[.int .u64 0, .int .u64 0, .bool true]) (res_su _ 4 (by kernel_rfl) _ _ (w.heap.size + 1 + 1) _ _ _ ?_ (setsp_heap _ _ _ R4.out)) rfl ?_
    · rfl
    · exact ⟨(0, 0, true), rfl, HSP.out, below_setsp _ _ _ C4.out (by omega)⟩
  · cases q2
    · have HSP : Hid (SpR z1 z2 (2 ^ k) (0, 0, true)) := ⟨_, _, RP.out, RQ.out, by unfold spOf; rw [if_neg (fun c => by have := c.2; cases this)]⟩
      clear RP RQ
      go_wp2_with fail
      refine Calls.mono (refBad_any _) ?_
      rintro e w4 ⟨rfl, bw⟩
      have R4 : Hid _ := (bw.block _ (blk_lt R3.out)).trans R3.out
      have C4 : Hid (Below w.heap.size w w4) := C3.out.trans (bw.mono C3.out.size)
      clear bw
      obtain ⟨r0, r1, r2⟩ := cells3 R4.out
      have fz := fun j => frozen_of_row _ _ j _ _ R4.out
      go_wp2_with fail
      refine bodyPost_ret (v := .agg #[.int .u64 0, .int .u64 0, .bool true]) (res_su _ 4 (by kernel_rfl) _ _ (w.heap.size + 1 + 1) _ _ _ ?_ (setsp_heap _ _ _ R4.out)) rfl ?_
      · rfl
      · exact ⟨(0, 0, true), rfl, HSP.out, below_setsp _ _ _ C4.out (by omega)⟩
    · have HSP : Hid (SpR z1 z2 (2 ^ k) (p1, q1, false)) := ⟨_, _, RP.out, RQ.out, by unfold spOf; rw [if_pos ⟨rfl, rfl⟩]⟩
      clear RP RQ
      obtain ⟨r0, r1, r2⟩ := cells3 R3.out
      have fz := fun j => frozen_of_row _ _ j _ _ R3.out
      go_wp2_with fail
      refine bodyPost_ret (v := .agg #[.int .u64 (p1 : Int), .int .u64 (q1 : Int), .bool false]) (res_su _ 4 (by kernel_rfl) _ _ (w.heap.size + 1 + 1) _ _ _ ?_ (setsp_heap _ _ _ R3.out)) rfl ?_
      · rfl
      · exact ⟨(p1, q1, false), rfl, HSP.out, below_setsp _ _ _ C3.out (by omega)⟩
end Go.Proofs.YtbncdcenckagcaaGreat

namespace Go.Proofs.YtbncdcenckagcaaGreat
open Go.RowKit
set_option linter.unusedVariables false

theorem alloc1r {w W : World} (o : Obj) (hb : Below w.heap.size w W) : (W.alloc o).heap[W.heap.size]? = some o ∧ Below w.heap.size w (W.alloc o) := ⟨heap_alloc_new W o, hb.alloc hb.size _⟩
end Go.Proofs.YtbncdcenckagcaaGreat

namespace Go.Proofs.YtbncdcenckagcaaGreat
open Go.RowKit
set_option linter.unusedVariables false

set_option maxRecDepth 100000 in
set_option maxHeartbeats 2000000 in
theorem from_any (lo hi : Nat) (bad : Bool) (w : World) :
    Calls Tryz.prog 31 #[.agg #[Value.float .f64 lo, .float .f64 hi, .bool bad]] w fun e w' => e = .returned (.agg #[Value.int .u64 (lo : Int), .int .u64 (hi : Int), .bool bad]) ∧ Below w.heap.size w w' := by
  obtain ⟨g0, g1, -, gb⟩ := alloc2_facts w (Obj.cells #[Value.float .f64 lo, .float .f64 hi, .bool bad] 34) (Obj.cells #[Value.int .u64 0, .int .u64 0, .bool false] 30)
  have G1 : Hid _ := g1
  have GB : Hid _ := gb
  obtain ⟨a0, a1, a2⟩ := cells3 g0
  obtain ⟨r0, r1, r2⟩ := cells3 g1
  have fz := fun j => frozen_of_row _ _ j _ _ g1
  clear g0 g1 gb
  have n1 : ¬ (w.heap.size + 1 = w.heap.size) := by omega
  have n2 : ¬ (w.heap.size = w.heap.size + 1) := by omega
  go_enter Tryz.func31, Tryz.ntmps31
  go_upto_region 1 with fail
  generalize ((w.alloc (Obj.cells #[Value.float .f64 lo, .float .f64 hi, .bool bad] 34)).alloc (Obj.cells #[Value.int .u64 0, .int .u64 0, .bool false] 30)) = W0 at a0 a1 a2 r0 r1 r2 fz G1 GB ⊢
  have G1' : Hid (W0.drew.heap[w.heap.size + 1]? = _) := G1.out
  have HB1 : Hid (∀ w, Calls Tryz.prog 9 #[.float .f64 lo] w fun e w' => e = .returned (.int .u64 (lo : Int)) ∧ w' = w) := fun w => bits_any lo w
  have HB2 : Hid (∀ w, Calls Tryz.prog 9 #[.float .f64 hi] w fun e w' => e = .returned (.int .u64 (hi : Int)) ∧ w' = w) := fun w => bits_any hi w
  go_region_held3 (fun w' => (w'.cell? ⟨w.heap.size, 0, none⟩ = some (.float .f64 lo) ∧ w'.cell? ⟨w.heap.size, 1, none⟩ = some (.float .f64 hi) ∧ w'.cell? ⟨w.heap.size, 2, none⟩ = some (.bool bad))) (go_keep) ((first | (go_at_call_of 9 (Value.float FloatKind.f64 lo); refine Calls.mono (HB1.out _) ?_; rintro e wf ⟨rfl, rfl⟩) | (go_at_call_of 9 (Value.float FloatKind.f64 hi); refine Calls.mono (HB2.out _) ?_; rintro e wf ⟨rfl, rfl⟩)))
  all_goals
    go_wp2_with fail
    refine bodyPost_ret (v := .agg #[Value.int .u64 (lo : Int), .int .u64 (hi : Int), .bool bad]) (res_su _ 2 (by kernel_rfl) _ _ (w.heap.size + 1) _ _ _ ?_ (setsp_heap _ _ _ G1'.out)) rfl ?_
    · rfl
    · exact ⟨rfl, below_setsp _ _ _ GB.out.drew (by omega)⟩
set_option maxRecDepth 100000 in
set_option maxHeartbeats 2000000 in
theorem of_any4 (lo hi : Nat) (bad : Bool) (w : World) :
    Calls Tryz.prog 10 #[.agg #[Value.float .f64 lo, .float .f64 hi, .bool bad]] w fun e w' => e = .returned (.agg #[Value.int .u64 (lo : Int), .int .u64 (hi : Int), .bool bad]) ∧ Below w.heap.size w w' := by
  obtain ⟨g0, g1, -, gb⟩ := alloc2_facts w (Obj.cells #[Value.float .f64 lo, .float .f64 hi, .bool bad] 34) (Obj.cells #[Value.int .u64 0, .int .u64 0, .bool false] 30)
  have G1 : Hid _ := g1
  have GB : Hid _ := gb
  obtain ⟨a0, a1, a2⟩ := cells3 g0
  clear g0 g1 gb
  go_enter Tryz.func10, Tryz.ntmps10
  go_upto_region 1 with fail
  generalize ((w.alloc (Obj.cells #[Value.float .f64 lo, .float .f64 hi, .bool bad] 34)).alloc (Obj.cells #[Value.int .u64 0, .int .u64 0, .bool false] 30)) = W0 at a0 a1 a2 G1 GB ⊢
  go_wp2_with fail
  refine Calls.mono (from_any lo hi bad _) ?_
  rintro e w4 ⟨rfl, bw⟩
  have R4 : Hid _ := (bw.block _ (blk_lt G1.out)).trans G1.out
  have C4 : Hid (Below w.heap.size w w4) := GB.out.trans (bw.mono GB.out.size)
  clear bw G1 GB a0 a1 a2
  obtain ⟨r0, r1, r2⟩ := cells3 R4.out
  have fz := fun j => frozen_of_row _ _ j _ _ R4.out
  go_wp2_with fail
  refine bodyPost_ret (v := .agg #[.int .u64 (lo : Int), .int .u64 (hi : Int), .bool bad]) (res_su _ 2 (by kernel_rfl) _ _ (w.heap.size + 1) _ _ _ ?_ (setsp_heap _ _ _ R4.out)) rfl ?_
  · rfl
  · exact ⟨rfl, below_setsp _ _ _ C4.out (by omega)⟩
set_option maxRecDepth 100000 in
set_option maxHeartbeats 2000000 in
theorem sameRef_any (lo hi : Nat) (bad : Bool) (w : World) :
    Calls Tryz.prog 20 #[.agg #[Value.float .f64 lo, .float .f64 hi, .bool bad], .agg #[Value.int .u64 (lo : Int), .int .u64 (hi : Int), .bool bad]] w fun e w' => e = .returned (.bool true) ∧ Below w.heap.size w w' := by
  obtain ⟨g0, g1, -, gb⟩ := alloc2_facts w (Obj.cells #[Value.float .f64 lo, .float .f64 hi, .bool bad] 34) (Obj.cells #[Value.int .u64 (lo : Int), .int .u64 (hi : Int), .bool bad] 30)
  have GB : Hid _ := gb
  obtain ⟨a0, a1, a2⟩ := cells3 g0
  obtain ⟨r0, r1, r2⟩ := cells3 g1
  clear g0 g1 gb
  have HB1 : Hid (∀ w, Calls Tryz.prog 9 #[.float .f64 lo] w fun e w' => e = .returned (.int .u64 (lo : Int)) ∧ w' = w) := fun w => bits_any lo w
  have HB2 : Hid (∀ w, Calls Tryz.prog 9 #[.float .f64 hi] w fun e w' => e = .returned (.int .u64 (hi : Int)) ∧ w' = w) := fun w => bits_any hi w
  have qb : (bad == bad) = true := by cases bad <;> rfl
  go_enter Tryz.func20, Tryz.ntmps20
  go_upto_region 1 with fail
  generalize ((w.alloc (Obj.cells #[Value.float .f64 lo, .float .f64 hi, .bool bad] 34)).alloc (Obj.cells #[Value.int .u64 (lo : Int), .int .u64 (hi : Int), .bool bad] 30)) = W0 at a0 a1 a2 r0 r1 r2 GB ⊢
  go_region_held3 (fun w' => (w'.cell? ⟨w.heap.size, 0, none⟩ = some (.float .f64 lo) ∧ w'.cell? ⟨w.heap.size, 1, none⟩ = some (.float .f64 hi) ∧ w'.cell? ⟨w.heap.size, 2, none⟩ = some (.bool bad)) ∧ (w'.cell? ⟨w.heap.size + 1, 0, none⟩ = some (.int .u64 (lo : Int)) ∧ w'.cell? ⟨w.heap.size + 1, 1, none⟩ = some (.int .u64 (hi : Int)) ∧ w'.cell? ⟨w.heap.size + 1, 2, none⟩ = some (.bool bad))) (go_keep) ((first | (go_at_call_of 9 (Value.float FloatKind.f64 lo); refine Calls.mono (HB1.out _) ?_; rintro e wf ⟨rfl, rfl⟩) | (go_at_call_of 9 (Value.float FloatKind.f64 hi); refine Calls.mono (HB2.out _) ?_; rintro e wf ⟨rfl, rfl⟩)))
  all_goals
    go_wp2_with fail
    go_ret
    exact ⟨rfl, GB.out.drew⟩
set_option maxRecDepth 100000 in
set_option maxHeartbeats 2000000 in
theorem same_any4 (lo hi : Nat) (bad : Bool) (w : World) :
    Calls Tryz.prog 7 #[.agg #[Value.float .f64 lo, .float .f64 hi, .bool bad], .agg #[Value.int .u64 (lo : Int), .int .u64 (hi : Int), .bool bad]] w fun e w' => e = .returned (.bool true) ∧ Below w.heap.size w w' := by
  obtain ⟨g0, g1, -, gb⟩ := alloc2_facts w (Obj.cells #[Value.float .f64 lo, .float .f64 hi, .bool bad] 34) (Obj.cells #[Value.int .u64 (lo : Int), .int .u64 (hi : Int), .bool bad] 30)
  have GB : Hid _ := gb
  obtain ⟨a0, a1, a2⟩ := cells3 g0
  obtain ⟨r0, r1, r2⟩ := cells3 g1
  clear g0 g1 gb
  go_enter Tryz.func7, Tryz.ntmps7
  go_upto_region 1 with fail
  generalize ((w.alloc (Obj.cells #[Value.float .f64 lo, .float .f64 hi, .bool bad] 34)).alloc (Obj.cells #[Value.int .u64 (lo : Int), .int .u64 (hi : Int), .bool bad] 30)) = W0 at a0 a1 a2 r0 r1 r2 GB ⊢
  go_wp2_with fail
  refine Calls.mono (sameRef_any lo hi bad _) ?_
  rintro e w4 ⟨rfl, bw⟩
  have C4 : Hid (Below w.heap.size w w4) := GB.out.trans (bw.mono GB.out.size)
  clear bw GB a0 a1 a2 r0 r1 r2
  go_wp2_with fail
  go_ret
  exact ⟨rfl, C4.out⟩
end Go.Proofs.YtbncdcenckagcaaGreat
