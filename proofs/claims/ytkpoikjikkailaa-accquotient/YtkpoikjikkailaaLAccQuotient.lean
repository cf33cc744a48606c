import Derived.Test.YtkpoikjikkailaaQJ
namespace Go.Proofs.Ytkpoikjikkailaa
open Go.RowKit
set_option linter.unusedVariables false
set_option linter.unusedSimpArgs false

/-- What the law holds behind its setting up: both sums, and both reals. -/
structure QuL (w wr : World) (Bx By Pv Pw : Nat) (nv : Bool) (ov : Option Addr) (lv cv : Nat) (ev : Int) (nw : Bool) (ow : Option Addr) (lw cw : Nat) (ew : Int) (E : Nat) (x y : Int) : Prop where
  bel : Below w.heap.size w wr
  ax : AccO wr Bx (some x)
  ay : AccO wr By (some y)
  hv : wr.heap[Pv]? = some (Obj.cells #[Value.bool nv, Value.slice ov lv cv, Value.int IntKind.i64 ev] 27)
  hw : wr.heap[Pw]? = some (Obj.cells #[Value.bool nw, Value.slice ow lw cw, Value.int IntKind.i64 ew] 27)
  zv : NumZ wr (.agg #[.bool nv, .slice ov lv cv, .int .i64 ev]) (E + (E + 92)) 2220 x
  zw : NumZ wr (.agg #[.bool nw, .slice ow lw cw, .int .i64 ew]) (E + (E + 92)) 2220 y
theorem QuL.later {w wr wy : World} {Bx By Pv Pw : Nat} {nv : Bool} {ov : Option Addr} {lv cv : Nat} {ev : Int} {nw : Bool} {ow : Option Addr} {lw cw : Nat} {ew : Int} {E : Nat} {x y : Int} (h : QuL w wr Bx By Pv Pw nv ov lv cv ev nw ow lw cw ew E x y) (hb : Below wr.heap.size wr wy) : QuL w wy Bx By Pv Pw nv ov lv cv ev nw ow lw cw ew E x y :=
  ⟨h.bel.trans (hb.mono h.bel.size), h.ax.below hb h.ax.block, h.ay.below hb h.ay.block, keep0 h.hv hb, keep0 h.hw hb, h.zv.later hb, h.zw.later hb⟩
theorem sgi_pos {a : Int} {k : Nat} (hk : 0 < k) : sgi (a * (k : Int)) = sgi a := by
  have hk' : (0 : Int) < (k : Int) := by omega
  unfold sgi
  rcases Int.lt_trichotomy a 0 with h | h | h
  · rw [if_pos (Int.mul_neg_of_neg_of_pos h hk'), if_pos h]
  · subst h; simp
  · have := Int.mul_pos h hk'
    rw [if_neg (by omega), if_neg (by omega), if_neg (by omega), if_neg (by omega)]
theorem sub_scale (a x Y P Q : Int) : a * Q * Y - x * (P * Q) = (a * Y - x * P) * Q := by
  rw [Int.sub_mul, Int.mul_right_comm a Q Y, Int.mul_assoc x P Q]
theorem cmp_scale (a x : Int) (Y E : Nat) : sgi (a * ((2 ^ (E + 92) : Nat) : Int) * (Y : Int) - x * ((2 ^ (E + (E + 92)) : Nat) : Int)) = sgi (a * (Y : Int) - x * ((2 ^ E : Nat) : Int)) := by
  have hQ := Nat.two_pow_pos (E + 92)
  rw [Nat.pow_add 2 E (E + 92)]
  generalize 2 ^ (E + 92) = Q at *
  generalize 2 ^ E = P at *
  rw [Int.natCast_mul, sub_scale, sgi_pos hQ]
theorem ovr_z {d x : Int} {Y u E : Nat} {b : Bool} (h : OvrO d (some x) (some (Y : Int)) u b) (hY : Y ≠ 0) (hE : E = 1074) : RndZ d (x * ((2 ^ E : Nat) : Int)) Y (u, b) := by
  have h2 : if (Y : Int) = 0 then u = 0 ∧ b = false else ∀ E, E = 1074 → Rnd d (decide (x < 0) != decide ((Y : Int) < 0)) (x.natAbs * 2 ^ E) (Y : Int).natAbs (u, b) := h
  rw [if_neg (by omega)] at h2
  have h3 := h2 E hE
  have hp : (0 : Int) < ((2 ^ E : Nat) : Int) := by have := Nat.two_pow_pos E; omega
  have e1 : decide ((Y : Int) < 0) = false := decide_eq_false (by omega)
  have e2 : decide (x * ((2 ^ E : Nat) : Int) < 0) = decide (x < 0) := by
    by_cases c : x < 0
    · rw [decide_eq_true c, decide_eq_true (Int.mul_neg_of_neg_of_pos c hp)]
    · have h4 := Int.mul_nonneg (show 0 ≤ x by omega) (Int.le_of_lt hp)
      generalize x * ((2 ^ E : Nat) : Int) = X at *
      rw [decide_eq_false c, decide_eq_false (by omega)]
  unfold RndZ
  rw [e2, Int.natAbs_mul, Int.natAbs_natCast]
  rw [e1, Bool.bne_false, Int.natAbs_natCast] at h3
  exact h3
theorem ovr_none {d x : Int} {Y u : Nat} {b : Bool} (h : OvrO d (some x) (some (Y : Int)) u b) (hY : Y = 0) : u = 0 ∧ b = false := by
  subst hY
  exact h
set_option maxRecDepth 100000 in
set_option maxHeartbeats 16000000 in
theorem accQuotient_walk0 (ao bo : Option Addr) (len cap blen bcap : Nat) (F G : Nat → TmV) (w : World) (hl : RdT w ao len cap F) (hm : RdT w bo blen bcap G) :
    Calls Try.prog 4 #[.slice ao len cap, .slice bo blen bcap] w fun e w' => e = .returned (.bool true) ∧ Below w.heap.size w w' := by
  obtain ⟨E, hE⟩ : ∃ E : Nat, E = 1074 := ⟨_, rfl⟩
  have HL : Hid (RdT w ao len cap F) := hl
  have HM : Hid (RdT w bo blen bcap G) := hm
  clear hl hm
  go_enter Try.func4, Try.ntmps4
  go_upto_region 2 with (first
    | (go_at_call_of 9 (Value.slice ao len cap); refine (terms_any ao len cap F _ HL.out).mono ?_; rintro e w1 ⟨v1, rfl, o1, b1⟩; have B1 : Hid (Below w.heap.size w w1) := b1; have O1 : Hid (OwnT w1 w.heap.size v1 (tsOf F (min len 200))) := o1; have HM1 : Hid (RdT w1 bo blen bcap G) := HM.out.later b1; clear b1 o1)
    | (go_at_call_of 9 (Value.slice bo blen bcap); refine (terms_any bo blen bcap G _ HM1.out).mono ?_; rintro e w2 ⟨v2, rfl, o2, b2⟩; have B2 : Hid (Below w1.heap.size w1 w2) := b2; have O2 : Hid (OwnT w2 w1.heap.size v2 (tsOf G (min blen 200))) := o2; clear b2 o2))
  obtain ⟨ts, hts⟩ : ∃ ts, tsOf F (min len 200) = ts := ⟨_, rfl⟩
  obtain ⟨us, hus⟩ : ∃ us, tsOf G (min blen 200) = us := ⟨_, rfl⟩
  have OT : Hid (∀ t ∈ ts, OkT t) := by rw [← hts]; exact tsOf_ok F _ (fun j hj => ⟨(HL.out.lt j (by omega)).1, (HL.out.lt j (by omega)).2.1⟩)
  have OU : Hid (∀ t ∈ us, OkT t) := by rw [← hus]; exact tsOf_ok G _ (fun j hj => ⟨(HM.out.lt j (by omega)).1, (HM.out.lt j (by omega)).2.1⟩)
  have LT : Hid (ts.length ≤ 200) := by have := tsOf_len F (min len 200); rw [hts] at this; unfold Hid; omega
  have LU : Hid (us.length ≤ 200) := by have := tsOf_len G (min blen 200); rw [hus] at this; unfold Hid; omega
  rw [hts] at O1
  rw [hus] at O2
  obtain ⟨lo, lc, rfl, hrl⟩ := O1.out.form (fun t ht => by have := OT.out t ht; exact ⟨this.2.2.1, this.2.2.2.1, this.2.2.2.2.1, this.2.2.2.2.2⟩)
  obtain ⟨mo, mc, rfl, hrm⟩ := O2.out.form (fun t ht => by have := OU.out t ht; exact ⟨this.2.2.1, this.2.2.2.1, this.2.2.2.2.1, this.2.2.2.2.2⟩)
  have HRL : Hid (RdT w2 lo ts.length lc (fun j => ts[j]?.getD tmD)) := hrl.later B2.out
  have HRM : Hid (RdT w2 mo us.length mc (fun j => us[j]?.getD tmD)) := hrm
  have BB : Hid (Below w.heap.size w w2) := B1.out.trans (B2.out.mono B1.out.size)
  clear hts hus O1 O2 hrl hrm HL HM HM1 B1 B2
  go_wp2_with fail
  refine (new_any _).mono ?_
  rintro e w3 ⟨rfl, a3, b3, s3⟩
  have A3 : Hid (AccO w3 w2.heap.size (some 0)) := a3
  have B3 : Hid (Below w2.heap.size w2 w3) := b3
  have S3 : Hid (w3.heap.size = w2.heap.size + 1) := s3
  clear a3 b3 s3
  go_wp2_with fail
  refine (new_any _).mono ?_
  rintro e w4 ⟨rfl, a4, b4, s4⟩
  have A4 : Hid (AccO w4 w3.heap.size (some 0)) := a4
  have X4 : Hid (AccO w4 w2.heap.size (some 0)) := A3.out.below b4 A3.out.block
  have B4 : Hid (Below w2.heap.size w2 w4) := B3.out.trans (b4.mono B3.out.size)
  clear a4 b4 s4 A3 B3
  go_wp2_with fail
  refine (begun_any _).mono ?_
  rintro e w5 ⟨rfl, b5⟩
  have A5 : Hid (AccO w5 w3.heap.size (some 0)) := A4.out.below b5 A4.out.block
  have X5 : Hid (AccO w5 w2.heap.size (some 0)) := X4.out.below b5 X4.out.block
  have B5 : Hid (Below w2.heap.size w2 w5) := B4.out.trans (b5.mono B4.out.size)
  clear b5 A4 X4 B4
  obtain ⟨Bx, hBx⟩ : ∃ P, w2.heap.size = P := ⟨_, rfl⟩
  obtain ⟨By, hBy⟩ : ∃ P, w3.heap.size = P := ⟨_, rfl⟩
  have HXY : Hid (w2.heap.size = Bx ∧ Bx < By) := by unfold Hid; have := S3.out; omega
  rw [hBx] at X5 ⊢
  rw [hBy] at A5 ⊢
  clear hBx hBy S3
  go_upto_region 6 with (first
    | (go_at_call_of 10 (Value.pointer (some ⟨Bx, 0, none⟩)); refine (filled_any w2 _ Bx lo lc ts (by have := HXY.out; omega) B5.out HRL.out OT.out LT.out X5.out E hE).mono ?_; rintro e w6 ⟨v6, x, rfl, z6, x6, c6, b6⟩; have X6 : Hid (AccO w6 Bx (some x)) := x6; have Z6 : Hid (NumZ w6 v6 (E + (E + 92)) 2220 x) := z6; have Y6 : Hid (AccO w6 By (some 0)) := A5.out.chg c6 (by have := HXY.out; omega); have B6 : Hid (Below w2.heap.size w2 w6) := b6; obtain ⟨nv, mv, ev, ⟨ov, lv, cv, xsv, rfl, -⟩, -⟩ := z6; clear x6 c6 b6 X5 A5 B5)
    | (go_at_call_of 10 (Value.pointer (some ⟨By, 0, none⟩)); refine (filled_any w2 _ By mo mc us (by have := HXY.out; omega) B6.out HRM.out OU.out LU.out Y6.out E hE).mono ?_; rintro e w7 ⟨v7, y, rfl, z7, y7, c7, b7⟩; have Y7 : Hid (AccO w7 By (some y)) := y7; have X7 : Hid (AccO w7 Bx (some x)) := X6.out.chg c7 (by have := HXY.out; omega); have Z7 : Hid (NumZ w7 v7 (E + (E + 92)) 2220 y) := z7; have V7 : Hid (NumZ w7 (.agg #[.bool nv, .slice ov lv cv, .int .i64 ev]) (E + (E + 92)) 2220 x) := Z6.out.chg Y6.out c7; have B7 : Hid (Below w2.heap.size w2 w7) := b7; obtain ⟨nw, mw, ew, ⟨ow, lw, cw, xsw, rfl, -⟩, -⟩ := z7; clear y7 c7 b7 X6 Y6 B6 Z6))
  obtain ⟨W8, hW8⟩ : ∃ W8, (w7.alloc (Obj.cells #[Value.bool nv, Value.slice ov lv cv, Value.int IntKind.i64 ev] 27)).alloc (Obj.cells #[Value.bool nw, Value.slice ow lw cw, Value.int IntKind.i64 ew] 27) = W8 := ⟨_, rfl⟩
  have hb8 : Below w7.heap.size w7 W8 := by rw [← hW8]; exact ((Below.refl _ w7).alloc (Nat.le_refl _) _).alloc (by simp) _
  have hv8 : W8.heap[w7.heap.size]? = some (Obj.cells #[Value.bool nv, Value.slice ov lv cv, Value.int IntKind.i64 ev] 27) := by rw [← hW8]; exact keepA (heap_alloc_new w7 _)
  have hw8 : W8.heap[w7.heap.size + 1]? = some (Obj.cells #[Value.bool nw, Value.slice ow lw cw, Value.int IntKind.i64 ew] 27) := by rw [← hW8]; exact hn2
  rw [hW8]
  obtain ⟨Pv, hPv⟩ : ∃ P, w7.heap.size = P := ⟨_, rfl⟩
  obtain ⟨Pw, hPw⟩ : ∃ P, w7.heap.size + 1 = P := ⟨_, rfl⟩
  have HNE : Hid (Pv ≠ Bx ∧ Pv ≠ By ∧ Pw ≠ Bx ∧ Pw ≠ By ∧ Pv ≠ Pw ∧ w.heap.size ≤ Bx ∧ w.heap.size ≤ By ∧ w.heap.size ≤ Pw) := by
    unfold Hid
    have h1 := X7.out.block
    have h2 := Y7.out.block
    have h3 := HXY.out
    have h4 := BB.out.size
    omega
  have HBNE : Hid (Bx ≠ By) := by unfold Hid; have := HXY.out; omega
  have BW8 : Hid (Below w.heap.size w W8) := BB.out.trans ((B7.out.trans (hb8.mono B7.out.size)).mono BB.out.size)
  have X8 : Hid (AccO W8 Bx (some x)) := X7.out.below hb8 X7.out.block
  have Y8 : Hid (AccO W8 By (some y)) := Y7.out.below hb8 Y7.out.block
  have V8 : Hid (NumZ W8 (.agg #[.bool nv, .slice ov lv cv, .int .i64 ev]) (E + (E + 92)) 2220 x) := V7.out.later hb8
  have Z8 : Hid (NumZ W8 (.agg #[.bool nw, .slice ow lw cw, .int .i64 ew]) (E + (E + 92)) 2220 y) := Z7.out.later hb8
  rw [hPw] at hw8 ⊢
  rw [hPv] at hv8 ⊢
  have HV8 : Hid (W8.heap[Pv]? = some (Obj.cells #[Value.bool nv, Value.slice ov lv cv, Value.int IntKind.i64 ev] 27)) := hv8
  have HW8 : Hid (W8.heap[Pw]? = some (Obj.cells #[Value.bool nw, Value.slice ow lw cw, Value.int IntKind.i64 ew] 27)) := hw8
  clear hW8 hb8 hv8 hw8 hPv hPw X7 Y7 V7 Z7 B7 BB HXY HRL HRM OT OU LT LU
  go_wp2_with fail
  refine (accAbs_any By (some y) _ Y8.out).mono ?_
  rintro e w9 ⟨rfl, y9, c9⟩
  have Y9 : Hid (AccO w9 By (some (y.natAbs : Int))) := y9
  have X9 : Hid (AccO w9 Bx (some x)) := X8.out.chg c9 HBNE.out
  have HV9 : Hid (w9.heap[Pv]? = some (Obj.cells #[Value.bool nv, Value.slice ov lv cv, Value.int IntKind.i64 ev] 27)) := (c9.other Pv (Array.getElem?_eq_some_iff.1 HV8.out).1 HNE.out.2.1).trans HV8.out
  have HW9 : Hid (w9.heap[Pw]? = some (Obj.cells #[Value.bool nw, Value.slice ow lw cw, Value.int IntKind.i64 ew] 27)) := (c9.other Pw (Array.getElem?_eq_some_iff.1 HW8.out).1 HNE.out.2.2.2.1).trans HW8.out
  have V9 : Hid (NumZ w9 (.agg #[.bool nv, .slice ov lv cv, .int .i64 ev]) (E + (E + 92)) 2220 x) := V8.out.chg Y8.out c9
  have Z9 : Hid (NumZ w9 (.agg #[.bool nw, .slice ow lw cw, .int .i64 ew]) (E + (E + 92)) 2220 y) := Z8.out.chg Y8.out c9
  have BW9 : Hid (Below w.heap.size w w9) := BW8.out.trans (c9.below.mono HNE.out.2.2.2.2.2.2.1)
  clear y9 c9 X8 Y8 V8 Z8 HV8 HW8 BW8
  obtain ⟨l0, l1, l2⟩ := three_cells HW9.out
  go_wp2_with fail
  refine (sizeZ_any _ (E + (E + 92)) 2220 y _ Z9.out).mono ?_
  rintro e w10 ⟨v10, rfl, z10, b10⟩
  have Z10 : Hid (NumZ w10 v10 (E + (E + 92)) 2220 (y.natAbs : Int)) := z10
  obtain ⟨nq, mq, eq, ⟨oq, lq, cq, xsq, rfl, -⟩, -⟩ := z10
  have HV10 : Hid (w10.heap[Pv]? = some (Obj.cells #[Value.bool nv, Value.slice ov lv cv, Value.int IntKind.i64 ev] 27)) := keep0 HV9.out b10
  have HW10 : Hid (w10.heap[Pw]? = some (Obj.cells #[Value.bool nw, Value.slice ow lw cw, Value.int IntKind.i64 ew] 27)) := keep0 HW9.out b10
  have K10 : Hid (QuL w (((w10.setCell ⟨Pw, 0, none⟩ (.bool nq)).setCell ⟨Pw, 1, none⟩ (.slice oq lq cq)).setCell ⟨Pw, 2, none⟩ (.int .i64 eq)) Bx By Pv Pw nv ov lv cv ev nq oq lq cq eq E x (y.natAbs : Int)) := by
    have OB : ∀ j, j ≠ Pw → (((w10.setCell ⟨Pw, 0, none⟩ (.bool nq)).setCell ⟨Pw, 1, none⟩ (.slice oq lq cq)).setCell ⟨Pw, 2, none⟩ (.int .i64 eq)).heap[j]? = w10.heap[j]? := fun j hj => by rw [heap_setCell_other _ _ _ _ hj, heap_setCell_other _ _ _ _ hj, heap_setCell_other _ _ _ _ hj]
    have nb : NumB w10 Pw := ⟨_, _, _, _, _, HW10.out⟩
    exact ⟨below_set3 _ _ _ (BW9.out.trans (b10.mono BW9.out.size)) HNE.out.2.2.2.2.2.2.2, (X9.out.below b10 X9.out.block).heap (OB Bx (Ne.symm HNE.out.2.2.1)), (Y9.out.below b10 Y9.out.block).heap (OB By (Ne.symm HNE.out.2.2.2.1)), (OB Pv HNE.out.2.2.2.2.1).trans HV10.out, set3_heap _ _ _ HW10.out, NumZ.set3 _ _ _ nb (V9.out.later b10), NumZ.set3 _ _ _ nb Z10.out⟩
  obtain ⟨x0, x1, x2⟩ := three_cells HW10.out
  have fz := fun j => frozen_of_row _ _ j _ _ HW10.out
  clear b10 l0 l1 l2 X9 Y9 HV9 HW9 V9 Z9 BW9 Z10 HV10
  go_upto_region 8 with fail
  generalize ((w10.setCell ⟨Pw, 0, none⟩ (.bool nq)).setCell ⟨Pw, 1, none⟩ (.slice oq lq cq)).setCell ⟨Pw, 2, none⟩ (.int .i64 eq) = W11 at K10 ⊢
  clear x0 x1 x2 fz HW10
  obtain ⟨Y, hY⟩ : ∃ Y : Nat, y.natAbs = Y := ⟨_, rfl⟩
  rw [hY] at K10
  clear hY
  go_wp2_with fail
  refine (accOver_any 2 Bx By (some x) (some (Y : Int)) _ K10.out.ax K10.out.ay).mono ?_
  rintro e wa ⟨dn, ok, rfl, r2, bwa⟩
  have R2 : Hid (OvrO 2 (some x) (some (Y : Int)) dn ok) := r2
  have Kwa : Hid (QuL w wa Bx By Pv Pw nv ov lv cv ev nq oq lq cq eq E x (Y : Int)) := K10.out.later bwa
  clear r2 bwa K10
  go_wp2_with fail
  refine (accOver_any 1 Bx By (some x) (some (Y : Int)) _ Kwa.out.ax Kwa.out.ay).mono ?_
  rintro e wb ⟨up, is, rfl, r1, bwb⟩
  have R1 : Hid (OvrO 1 (some x) (some (Y : Int)) up is) := r1
  have Kwb : Hid (QuL w wb Bx By Pv Pw nv ov lv cv ev nq oq lq cq eq E x (Y : Int)) := Kwa.out.later bwb
  clear r1 bwb Kwa
  go_wp2_with fail
  refine (accOver_any 0 Bx By (some x) (some (Y : Int)) _ Kwb.out.ax Kwb.out.ay).mono ?_
  rintro e wv ⟨nr, fine, rfl, r0, bwv⟩
  have R0 : Hid (OvrO 0 (some x) (some (Y : Int)) nr fine) := r0
  have Kwv : Hid (QuL w wv Bx By Pv Pw nv ov lv cv ev nq oq lq cq eq E x (Y : Int)) := Kwb.out.later bwv
  clear r0 bwv Kwb
  obtain ⟨l0, l1, l2⟩ := three_cells Kwv.out.hw
  go_wp2_with fail
  refine (signZ_any _ _ _ _ _ Kwv.out.zw).mono ?_
  rintro e wc ⟨rfl, bc⟩
  have Kc : Hid (QuL w wc Bx By Pv Pw nv ov lv cv ev nq oq lq cq eq E x (Y : Int)) := Kwv.out.later bc
  clear bc Kwv l0 l1 l2
  by_cases hY0 : Y = 0
  · obtain ⟨rfl, rfl⟩ := ovr_none R2.out hY0
    obtain ⟨rfl, rfl⟩ := ovr_none R1.out hY0
    obtain ⟨rfl, rfl⟩ := ovr_none R0.out hY0
    have hs : sgi (Y : Int) = 0 := by rw [hY0]; rfl
    clear hY0 R2 R1 R0
    go_wp2_with fail
    go_ret
    exact ⟨rfl, Kc.out.bel⟩
  · have hs : (sgi (Y : Int) == 0) = false := by rw [beq_eq_false_iff_ne]; unfold sgi; rw [if_neg (by omega), if_neg (by omega)]; omega
    have HY0 : Hid (Y ≠ 0) := hY0
    clear hY0
    have r2 := ovr_z R2.out HY0.out hE
    have r1 := ovr_z R1.out HY0.out hE
    have r0 := ovr_z R0.out HY0.out hE
    obtain ⟨z, hz⟩ : ∃ z, x * ((2 ^ E : Nat) : Int) = z := ⟨_, rfl⟩
    rw [hz] at r2 r1 r0
    have BT : Hid (BtE z Y dn up nr ok is fine) := bt_end (by have := HY0.out; omega) r2 r1 r0
    have FD : Hid (Fin dn ∧ dn < 18446744073709551616) := ⟨r2.b.fin, r2.b.lt⟩
    have FU : Hid (Fin up ∧ up < 18446744073709551616) := ⟨r1.b.fin, r1.b.lt⟩
    have FN : Hid (Fin nr ∧ nr < 18446744073709551616) := ⟨r0.b.fin, r0.b.lt⟩
    have HU1 : Hid (∃ V D' c, RndZ 1 V D' (up, c)) := ⟨_, _, _, r1⟩
    have HZ : Hid (x * ((2 ^ E : Nat) : Int) = z) := hz
    clear r2 r1 r0 R2 R1 R0 hz
    obtain ⟨p0, hp0⟩ : ∃ p0, sgi (fval dn * (Y : Int) - z) = p0 := ⟨_, rfl⟩
    obtain ⟨q0, hq0⟩ : ∃ q0, sgi (fval up * (Y : Int) - z) = q0 := ⟨_, rfl⟩
    have HP : Hid (sgi (fval dn * (Y : Int) - z) = p0 ∧ sgi (fval up * (Y : Int) - z) = q0) := ⟨hp0, hq0⟩
    clear hp0 hq0
    go_upto_region 13 with fail
    have hS : ∀ W, Below wc.heap.size wc W → (fun W => (W.cell? ⟨Pv, 0, none⟩ = some (.bool nv) ∧ W.cell? ⟨Pv, 1, none⟩ = some (.slice ov lv cv) ∧ W.cell? ⟨Pv, 2, none⟩ = some (.int .i64 ev)) ∧ (W.cell? ⟨Pw, 0, none⟩ = some (.bool nq) ∧ W.cell? ⟨Pw, 1, none⟩ = some (.slice oq lq cq) ∧ W.cell? ⟨Pw, 2, none⟩ = some (.int .i64 eq))) W := fun W h => ⟨three_cells (keep0 Kc.out.hv h), three_cells (keep0 Kc.out.hw h)⟩
    refine wp_region_noPanic ?_
    refine wp_region_held_drew (S := (fun W => (W.cell? ⟨Pv, 0, none⟩ = some (.bool nv) ∧ W.cell? ⟨Pv, 1, none⟩ = some (.slice ov lv cv) ∧ W.cell? ⟨Pv, 2, none⟩ = some (.int .i64 ev)) ∧ (W.cell? ⟨Pw, 0, none⟩ = some (.bool nq) ∧ W.cell? ⟨Pw, 1, none⟩ = some (.slice oq lq cq) ∧ W.cell? ⟨Pw, 2, none⟩ = some (.int .i64 eq)))) (by kernel_rfl) (hS _ (Below.refl _ _).drew) (fun _ => ?_)
    refine takeH 89 (i := 0) (v := (.float .f64 dn)) rfl rfl (by kernel_rfl) (by kernel_rfl) (by kernel_rfl) (fun _ _ _ h => h) (Or.inl ⟨(by kernel_rfl), fun w' _ => by kernel_rfl⟩) (hS _ (Below.refl _ _).drew) ?_
    refine takeH 91 (i := 2) (v := (.agg #[.bool nq, .slice oq lq cq, .int .i64 eq])) rfl rfl (by kernel_rfl) (by kernel_rfl) (by kernel_rfl) (fun _ _ _ h => h) (Or.inl ⟨(by kernel_rfl), fun w' hq => ex_load3 _ _ rfl Pw (by kernel_rfl) w' nq oq lq cq eq hq.2⟩) (hS _ (Below.refl _ _).drew) ?_
    refine takeH 93 (i := 4) (v := (.agg #[.bool nv, .slice ov lv cv, .int .i64 ev])) rfl rfl (by kernel_rfl) (by kernel_rfl) (by kernel_rfl) (fun _ _ _ h => h) (Or.inl ⟨(by kernel_rfl), fun w' hq => ex_load3 _ _ rfl Pv (by kernel_rfl) w' nv ov lv cv ev hq.1⟩) (hS _ (Below.refl _ _).drew) ?_
    refine takeH 95 (i := 6) (v := (.float .f64 up)) rfl rfl (by kernel_rfl) (by kernel_rfl) (by kernel_rfl) (fun _ _ _ h => h) (Or.inl ⟨(by kernel_rfl), fun w' _ => by kernel_rfl⟩) (hS _ (Below.refl _ _).drew) ?_
    refine takeH 97 (i := 8) (v := (.agg #[.bool nq, .slice oq lq cq, .int .i64 eq])) rfl rfl (by kernel_rfl) (by kernel_rfl) (by kernel_rfl) (fun _ _ _ h => h) (Or.inl ⟨(by kernel_rfl), fun w' hq => ex_load3 _ _ rfl Pw (by kernel_rfl) w' nq oq lq cq eq hq.2⟩) (hS _ (Below.refl _ _).drew) ?_
    refine takeH 99 (i := 10) (v := (.agg #[.bool nv, .slice ov lv cv, .int .i64 ev])) rfl rfl (by kernel_rfl) (by kernel_rfl) (by kernel_rfl) (fun _ _ _ h => h) (Or.inl ⟨(by kernel_rfl), fun w' hq => ex_load3 _ _ rfl Pv (by kernel_rfl) w' nv ov lv cv ev hq.1⟩) (hS _ (Below.refl _ _).drew) ?_
    (try (simp only [Act.put, List.setIfInBounds_toArray, List.set_cons_zero, List.set_cons_succ]))
    refine wpAnyH_ready (rs := [1]) (by kernel_rfl) (by simp) ?_
    refine consH _ rfl ?_ AllReadyH.nil
    refine hopCd 90 rfl (by kernel_rfl) rfl (by kernel_rfl) (Calls.mono (value_any dn FD.out.2 FD.out.1 _ E hE) ?_)
    rintro e ma1 ⟨va1, rfl, za1, ga1⟩
    have ha1 : Below wc.heap.size wc ma1 := Below.trans ((Below.refl _ _).drew : Below wc.heap.size wc _) (ga1.mono (Below.size ((Below.refl _ _).drew : Below wc.heap.size wc _)))
    refine ⟨_, rfl, hS _ ha1, ?_⟩
    (try (simp only [Act.put, List.setIfInBounds_toArray, List.set_cons_zero, List.set_cons_succ]))
    refine wpAnyH_ready (rs := [3]) (by kernel_rfl) (by simp) ?_
    refine consH _ rfl ?_ AllReadyH.nil
    refine hopCd 92 rfl (by kernel_rfl) rfl (by kernel_rfl) (Calls.mono (timesZ_any _ _ (E + (E + 92)) 1024 2220 _ _ _ (NumZ.more za1 (E + 92)) (Kc.out.zw.later ha1) (by omega) (by omega) (by omega)) ?_)
    rintro e mb1 ⟨vb1, rfl, zb1, gb1⟩
    have hb1 : Below wc.heap.size wc mb1 := ha1.trans (gb1.mono ha1.size)
    refine ⟨_, rfl, hS _ hb1, ?_⟩
    (try (simp only [Act.put, List.setIfInBounds_toArray, List.set_cons_zero, List.set_cons_succ]))
    refine wpAnyH_ready (rs := [5]) (by kernel_rfl) (by simp) ?_
    refine consH _ rfl ?_ AllReadyH.nil
    refine hopCd 94 rfl (by kernel_rfl) rfl (by kernel_rfl) (Calls.mono (cmpZ_any _ _ (E + (E + 92) + (E + (E + 92))) 3244 _ _ _ zb1 (NumZ.mono (NumZ.more (Kc.out.zv.later hb1) (E + (E + 92))) (by omega)) (by omega) (by omega)) ?_)
    rintro e mc1 ⟨rfl, gc1⟩
    have hc1 : Below wc.heap.size wc mc1 := hb1.trans (gc1.mono hb1.size)
    rw [cmp_scale, HZ.out, HP.out.1]
    refine ⟨_, rfl, hS _ hc1, ?_⟩
    (try (simp only [Act.put, List.setIfInBounds_toArray, List.set_cons_zero, List.set_cons_succ]))
    refine wpAnyH_ready (rs := [7]) (by kernel_rfl) (by simp) ?_
    refine consH _ rfl ?_ AllReadyH.nil
    refine hopCd 96 rfl (by kernel_rfl) rfl (by kernel_rfl) (Calls.mono (value_any up FU.out.2 FU.out.1 _ E hE) ?_)
    rintro e ma2 ⟨va2, rfl, za2, ga2⟩
    have ha2 : Below wc.heap.size wc ma2 := hc1.trans (ga2.mono hc1.size)
    refine ⟨_, rfl, hS _ ha2, ?_⟩
    (try (simp only [Act.put, List.setIfInBounds_toArray, List.set_cons_zero, List.set_cons_succ]))
    refine wpAnyH_ready (rs := [9]) (by kernel_rfl) (by simp) ?_
    refine consH _ rfl ?_ AllReadyH.nil
    refine hopCd 98 rfl (by kernel_rfl) rfl (by kernel_rfl) (Calls.mono (timesZ_any _ _ (E + (E + 92)) 1024 2220 _ _ _ (NumZ.more za2 (E + 92)) (Kc.out.zw.later ha2) (by omega) (by omega) (by omega)) ?_)
    rintro e mb2 ⟨vb2, rfl, zb2, gb2⟩
    have hb2 : Below wc.heap.size wc mb2 := ha2.trans (gb2.mono ha2.size)
    refine ⟨_, rfl, hS _ hb2, ?_⟩
    (try (simp only [Act.put, List.setIfInBounds_toArray, List.set_cons_zero, List.set_cons_succ]))
    refine wpAnyH_ready (rs := [11]) (by kernel_rfl) (by simp) ?_
    refine consH _ rfl ?_ AllReadyH.nil
    refine hopCd 100 rfl (by kernel_rfl) rfl (by kernel_rfl) (Calls.mono (cmpZ_any _ _ (E + (E + 92) + (E + (E + 92))) 3244 _ _ _ zb2 (NumZ.mono (NumZ.more (Kc.out.zv.later hb2) (E + (E + 92))) (by omega)) (by omega) (by omega)) ?_)
    rintro e mc2 ⟨rfl, gc2⟩
    have hc2 : Below wc.heap.size wc mc2 := hb2.trans (gc2.mono hb2.size)
    rw [cmp_scale, HZ.out, HP.out.2]
    refine ⟨_, rfl, hS _ hc2, ?_⟩
    (try (simp only [Act.put, List.setIfInBounds_toArray, List.set_cons_zero, List.set_cons_succ]))
    refine takeH 15 (i := 12) (v := (.int .i64 p0)) rfl rfl (by kernel_rfl) (by kernel_rfl) (by kernel_rfl) (fun _ _ _ h => h) (Or.inl ⟨(by kernel_rfl), fun w' _ => by kernel_rfl⟩) (hS _ hc2) ?_
    refine takeH 16 (i := 13) (v := (.int .i64 q0)) rfl rfl (by kernel_rfl) (by kernel_rfl) (by kernel_rfl) (fun _ _ _ h => h) (Or.inl ⟨(by kernel_rfl), fun w' _ => by kernel_rfl⟩) (hS _ hc2) ?_
    refine wpAnyH_done (by kernel_rfl) ?_ _
    refine NoPanic.normal ?_
    (try (simp only [Act.put, List.setIfInBounds_toArray, List.set_cons_zero, List.set_cons_succ]))
    have BW : Hid (Below w.heap.size w mc2) := Kc.out.bel.trans (hc2.mono Kc.out.bel.size)
    clear hS ha1 hb1 hc1 ha2 hb2 hc2 za1 ga1 zb1 gb1 gc1 za2 ga2 zb2 gb2 gc2 Kc
    have heD : (FloatKind.f64.format.order nr dn == some .eq) = decide (srung nr = srung dn) := feq FN.out.1 FD.out.1
    have heU : (FloatKind.f64.format.order nr up == some .eq) = decide (srung nr = srung up) := feq FN.out.1 FU.out.1
    have heB : (FloatKind.f64.format.order dn up == some .eq) = decide (srung dn = srung up) := feq FD.out.1 FU.out.1
    have hmD : (FloatKind.f64.format.order dn 9218868437227405311 == some .eq) = decide (srung dn = (infK : Int) - 1) := by rw [feq FD.out.1 most_fin.1, most_srung]
    have hmU : (FloatKind.f64.format.order up (fopp 9218868437227405311) == some .eq) = decide (srung up = 1 - (infK : Int)) := by rw [feq FU.out.1 most_fin.2, most_fopp]
    have hng := run_neg 9218868437227405311
    rcases bt_three BT.out with ⟨h1, h2, h3, h4, h5⟩ | ⟨h1, h2, h3, h4, h5⟩ | ⟨h1, h2, h3, h6, h7, h9⟩
    · subst h1 h2
      have hq : decide (q0 < 0) = false := decide_eq_false (by rw [← HP.out.2]; unfold sgi; split; omega; split <;> omega)
      rw [decide_eq_true h3] at hmU
      have HN : Hid (fine = true → decide (srung nr = srung up) = true) := fun h => decide_eq_true (h4 h)
      clear h3 h4 h5 BT heB hmD
      cases fine
      · go_wp2_with (first | (go_at_call 18; refine (float_int _ _).mono ?_; rintro e w' ⟨rfl, rfl⟩) | (go_at_call 20; refine (bits_any _ _).mono ?_; rintro e w' ⟨rfl, rfl⟩))
        go_ret
        exact ⟨rfl, BW.out⟩
      · rw [HN.out rfl] at heU
        go_wp2_with (first | (go_at_call 18; refine (float_int _ _).mono ?_; rintro e w' ⟨rfl, rfl⟩) | (go_at_call 20; refine (bits_any _ _).mono ?_; rintro e w' ⟨rfl, rfl⟩))
        go_ret
        exact ⟨rfl, BW.out⟩
    · subst h1 h2
      have hp : decide (0 < p0) = false := decide_eq_false (by rw [← HP.out.1]; unfold sgi; split; omega; split <;> omega)
      rw [decide_eq_true h3] at hmD
      have HN : Hid (fine = true → decide (srung nr = srung dn) = true) := fun h => decide_eq_true (h4 h)
      clear h3 h4 h5 BT heB hmU
      cases fine
      · go_wp2_with (first | (go_at_call 18; refine (float_int _ _).mono ?_; rintro e w' ⟨rfl, rfl⟩) | (go_at_call 20; refine (bits_any _ _).mono ?_; rintro e w' ⟨rfl, rfl⟩))
        go_ret
        exact ⟨rfl, BW.out⟩
      · rw [HN.out rfl] at heD
        go_wp2_with (first | (go_at_call 18; refine (float_int _ _).mono ?_; rintro e w' ⟨rfl, rfl⟩) | (go_at_call 20; refine (bits_any _ _).mono ?_; rintro e w' ⟨rfl, rfl⟩))
        go_ret
        exact ⟨rfl, BW.out⟩
    · subst h1 h2 h3
      have hp : decide (0 < p0) = false := decide_eq_false (by rw [← HP.out.1]; unfold sgi; split; omega; split <;> omega)
      have hq : decide (q0 < 0) = false := decide_eq_false (by rw [← HP.out.2]; unfold sgi; split; omega; split <;> omega)
      have H9 : Hid _ := h9
      clear BT hmD hmU h6 h7 h9
      rcases H9.out with ⟨h4, h5, h6⟩ | ⟨h4, h5, h8, h9⟩
      · rw [decide_eq_true h5] at heD
        rw [decide_eq_true h4.symm] at heB
        have hpz : p0 = 0 := by rw [← HP.out.1, h6]; unfold sgi; rw [if_neg (by omega), if_pos (by omega)]
        clear HP
        subst hpz
        clear h4 h5 h6 H9 heU hp
        go_wp2_with (first | (go_at_call 20; refine (bits_any _ _).mono ?_; rintro e w' ⟨rfl, rfl⟩) | (go_at_call 19; refine Calls.mono (refNext_any 1 dn FD.out.2 (by decide) (by decide) _ E hE) ?_; rintro e wy ⟨nx', nb, rfl, k1, -, by'⟩; have BZ : Hid (Below w.heap.size w wy) := BW.out.trans (by'.mono BW.out.size); have KN : Hid _ := k1 FD.out.1; clear by' k1))
        go_ret
        exact ⟨rfl, BZ.out⟩
      · have hne : ¬ (srung dn = srung up) := by omega
        rw [decide_eq_false hne] at heB
        have HNB : Hid (∀ p b, RndZ 1 (fval dn * 64 + (if (1 : Int) = 1 then 1 else if (1 : Int) = 2 then -1 else 0)) 64 (p, b) → p = up) := fun p b h => by
          obtain ⟨V, D', c, hu⟩ := HU1.out
          exact next_bits hu h4 h5 h8 h
        have hor : srung nr = srung dn ∨ srung nr = srung up := by
          rcases h9 with ⟨c, e⟩ | ⟨c, e⟩ | ⟨c, e⟩
          · exact .inl e
          · exact .inr e
          · rw [e]; split
            · exact .inl rfl
            · exact .inr rfl
        have hbe : ((up : Int) == (up : Int)) = true := by simp
        rcases hor with hn | hn
        · rw [decide_eq_true hn] at heD
          clear h4 h5 h8 h9 H9 hn hne heU HU1
          go_upto_region 20 with (first | (go_at_call 20; refine (bits_any _ _).mono ?_; rintro e w' ⟨rfl, rfl⟩) | (go_at_call 19; refine Calls.mono (refNext_any 1 dn FD.out.2 (by decide) (by decide) _ E hE) ?_; rintro e wy ⟨nx', nb, rfl, k1, -, by'⟩; have BZ : Hid (Below w.heap.size w wy) := BW.out.trans (by'.mono BW.out.size); have KN : Hid _ := k1 FD.out.1; clear by' k1))
          obtain rfl := HNB.out _ _ KN.out
          go_wp2_with (go_at_call 20; refine (bits_any _ _).mono ?_; rintro e w' ⟨rfl, rfl⟩)
          go_ret
          exact ⟨rfl, BZ.out⟩
        · rw [decide_eq_true hn] at heU
          rw [decide_eq_false (show ¬ (srung nr = srung dn) by omega)] at heD
          clear h4 h5 h8 h9 H9 hn hne HU1
          go_upto_region 20 with (first | (go_at_call 20; refine (bits_any _ _).mono ?_; rintro e w' ⟨rfl, rfl⟩) | (go_at_call 19; refine Calls.mono (refNext_any 1 dn FD.out.2 (by decide) (by decide) _ E hE) ?_; rintro e wy ⟨nx', nb, rfl, k1, -, by'⟩; have BZ : Hid (Below w.heap.size w wy) := BW.out.trans (by'.mono BW.out.size); have KN : Hid _ := k1 FD.out.1; clear by' k1))
          obtain rfl := HNB.out _ _ KN.out
          go_wp2_with (go_at_call 20; refine (bits_any _ _).mono ?_; rintro e w' ⟨rfl, rfl⟩)
          go_ret
          exact ⟨rfl, BZ.out⟩
theorem accQuotient_walk (ao : Option Addr) (len cap : Nat) (F : Nat → TmV) (bo : Option Addr) (blen bcap : Nat) (G : Nat → TmV) (w : World) (hl : RdT w ao len cap F) (hm : RdT w bo blen bcap G) :
    Calls Try.prog 4 #[.slice ao len cap, .slice bo blen bcap] w fun e w' => e = .returned (.bool true) ∧ Below w.heap.size w w' := accQuotient_walk0 ao bo len cap blen bcap F G w hl hm
end Go.Proofs.Ytkpoikjikkailaa
