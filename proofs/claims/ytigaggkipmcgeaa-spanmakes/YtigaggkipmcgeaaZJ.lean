import Derived.Test.YtigaggkipmcgeaaZI
namespace Go.Proofs.Ytigaggkipmcgeaa
open Go.RowKit
set_option linter.unusedVariables false

set_option maxRecDepth 100000 in
set_option maxHeartbeats 2000000 in
theorem spDivG_any (al ah bl bh : Nat) (ab bb : Bool) (hal : al < 18446744073709551616) (hah : ah < 18446744073709551616) (hbl : bl < 18446744073709551616) (hbh : bh < 18446744073709551616) (p1 p2 p3 p4 q1 q2 q3 q4 : Nat × Bool)
    (hg : Good al ah ab ∧ Good bl bh bb) (hz : hasB bl bh 0 = false) (hp : Four 120 2 al ah bl bh p1 p2 p3 p4) (hq : Four 120 1 al ah bl bh q1 q2 q3 q4) :
    Ans 90 #[.agg #[.float .f64 al, .float .f64 ah, .bool ab], .agg #[.float .f64 bl, .float .f64 bh, .bool bb]] (spOf (far4 2 p1 p2 p3 p4) (far4 1 q1 q2 q3 q4)) := by
  intro w
  have HP : Hid _ := hp
  have HQ : Hid _ := hq
  have HG : Hid (Good bl bh bb) := hg.2
  have hgd : decide (Good al ah ab ∧ Good bl bh bb) = true := decide_eq_true hg
  clear hp hq hg
  obtain ⟨g0, g1, g2, gz, gb⟩ := alloc3_facts w (Obj.cells #[Value.float .f64 al, .float .f64 ah, .bool ab] 68) (Obj.cells #[Value.float .f64 bl, .float .f64 bh, .bool bb] 68) (Obj.cells #[Value.float .f64 0, .float .f64 0, .bool false] 68)
  have G0 : Hid _ := g0
  have G1 : Hid _ := g1
  have G2 : Hid _ := g2
  have GB : Hid _ := gb
  clear g0 g1 g2 gz gb
  have hsf := run_store_f
  go_enter Try.func90, Try.ntmps90
  go_upto_region 1 with fail
  generalize (((w.alloc (Obj.cells #[Value.float .f64 al, .float .f64 ah, .bool ab] 68)).alloc (Obj.cells #[Value.float .f64 bl, .float .f64 bh, .bool bb] 68)).alloc (Obj.cells #[Value.float .f64 0, .float .f64 0, .bool false] 68)) = W3 at G0 G1 G2 GB ⊢
  obtain ⟨a0, a1, a2⟩ := cells3 G0.out
  obtain ⟨b0, b1, b2⟩ := cells3 G1.out
  have N4 : Hid _ := heap_alloc_new W3 (Obj.cells #[Value.float .f64 al, .float .f64 ah, .bool ab, .float .f64 bl, .float .f64 bh, .bool bb] 68)
  have P0 : Hid _ := alloc4 G0.out GB.out (Obj.cells #[Value.float .f64 al, .float .f64 ah, .bool ab, .float .f64 bl, .float .f64 bh, .bool bb] 68)
  have P1 : Hid _ := alloc4 G1.out GB.out (Obj.cells #[Value.float .f64 al, .float .f64 ah, .bool ab, .float .f64 bl, .float .f64 bh, .bool bb] 68)
  have P2 : Hid _ := alloc4 G2.out GB.out (Obj.cells #[Value.float .f64 al, .float .f64 ah, .bool ab, .float .f64 bl, .float .f64 bh, .bool bb] 68)
  clear G0 G1 G2 GB
  go_wp2_with fail
  clear a0 a1 a2 b0 b1 b2
  generalize W3.alloc (Obj.cells #[Value.float .f64 al, .float .f64 ah, .bool ab, .float .f64 bl, .float .f64 bh, .bool bb] 68) = W4 at N4 P0 P1 P2 ⊢
  refine Calls.mono (good2_any N4.out hal hah hbl hbh) ?_
  rintro e w1 ⟨rfl, bw⟩
  have A1 : Hid (w1.heap[w.heap.size]? = some (Obj.cells #[Value.float .f64 al, .float .f64 ah, .bool ab] 68)) := (bw.block _ (blk_lt P0.out.1)).trans P0.out.1
  have B1 : Hid (w1.heap[w.heap.size + 1]? = some (Obj.cells #[Value.float .f64 bl, .float .f64 bh, .bool bb] 68)) := (bw.block _ (blk_lt P1.out.1)).trans P1.out.1
  have R1 : Hid (w1.heap[w.heap.size + 1 + 1]? = some (Obj.cells #[Value.float .f64 0, .float .f64 0, .bool false] 68)) := (bw.block _ (blk_lt P2.out.1)).trans P2.out.1
  have C1 : Hid (Below w.heap.size w w1) := P0.out.2.trans (bw.mono P0.out.2.size)
  clear bw N4 P0 P1 P2
  rw [hgd]
  obtain ⟨a0, a1, a2⟩ := cells3 A1.out
  obtain ⟨b0, b1, b2⟩ := cells3 B1.out
  go_wp2_with fail
  refine Calls.mono (has_any bl bh 0 bb hbl hbh _) ?_
  rintro e wh ⟨rfl, bw⟩
  rw [hz, decide_eq_true HG.out]
  have A1' : Hid _ := (bw.block _ (blk_lt A1.out)).trans A1.out
  have B1' : Hid _ := (bw.block _ (blk_lt B1.out)).trans B1.out
  have R1' : Hid _ := (bw.block _ (blk_lt R1.out)).trans R1.out
  have C1' : Hid (Below w.heap.size w wh) := C1.out.trans (bw.mono C1.out.size)
  clear bw A1 B1 R1 C1 a0 a1 a2 b0 b1 b2
  obtain ⟨a0, a1, a2⟩ := cells3 A1'.out
  obtain ⟨b0, b1, b2⟩ := cells3 B1'.out
  go_wp2_with fail
  refine Calls.mono (farthest_any 120 al ah bl bh ab bb _) ?_
  rintro e w2 ⟨v, rfl, FA⟩
  have R2 : Hid _ := (FA.bel.block _ (blk_lt R1'.out)).trans R1'.out
  have C2 : Hid (Below w.heap.size w w2) := C1'.out.trans (FA.bel.mono C1'.out.size)
  obtain ⟨caps, rfl, FT⟩ := FA.tells (enters_of Try.func120 (by kernel_rfl) rfl)
  have TP : Hid _ := FT _ _ _ _ _ HP.out
  have TQ : Hid _ := FT _ _ _ _ _ HQ.out
  clear FA FT R1' C1' A1' B1' a0 a1 a2 b0 b1 b2
  go_wp2_with fail
  refine Calls.mono (spanOf_any 134 caps (enters_of Try.func134 (by kernel_rfl) rfl) _ _ _ TP.out TQ.out) ?_
  rintro e w3 ⟨rfl, bw⟩
  generalize hrr : spOf (far4 2 p1 p2 p3 p4) (far4 1 q1 q2 q3 q4) = rr
  have HRR : Hid (spOf (far4 2 p1 p2 p3 p4) (far4 1 q1 q2 q3 q4) = rr) := hrr
  clear hrr
  have R3 : Hid _ := (bw.block _ (blk_lt R2.out)).trans R2.out
  have C3 : Hid (Below w.heap.size w w3) := C2.out.trans (bw.mono C2.out.size)
  clear bw R2 C2 TP TQ
  obtain ⟨r0, r1, r2⟩ := cells3 R3.out
  have fz := fun j => frozen_of_row _ _ j _ _ R3.out
  go_wp2_with fail
  refine bodyPost_ret (v := .agg #[.float .f64 rr.1, .float .f64 rr.2.1, .bool rr.2.2]) (res_sp _ 4 (by kernel_rfl) _ _ (w.heap.size + 1 + 1) _ _ _ ?_ (setsp_heap _ _ _ R3.out)) rfl ?_
  · rfl
  · exact ⟨by rw [HRR.out], below_setsp _ _ _ C3.out (by omega)⟩
set_option maxRecDepth 100000 in
set_option maxHeartbeats 2000000 in
theorem spDivB_any (al ah bl bh : Nat) (ab bb : Bool) (hal : al < 18446744073709551616) (hah : ah < 18446744073709551616) (hbl : bl < 18446744073709551616) (hbh : bh < 18446744073709551616) (hg : ¬ (Good al ah ab ∧ Good bl bh bb)) :
    Ans 90 #[.agg #[.float .f64 al, .float .f64 ah, .bool ab], .agg #[.float .f64 bl, .float .f64 bh, .bool bb]] (0, 0, true) := by
  intro w
  have hgd : decide (Good al ah ab ∧ Good bl bh bb) = false := decide_eq_false hg
  clear hg
  obtain ⟨g0, g1, g2, gz, gb⟩ := alloc3_facts w (Obj.cells #[Value.float .f64 al, .float .f64 ah, .bool ab] 68) (Obj.cells #[Value.float .f64 bl, .float .f64 bh, .bool bb] 68) (Obj.cells #[Value.float .f64 0, .float .f64 0, .bool false] 68)
  have G0 : Hid _ := g0
  have G1 : Hid _ := g1
  have G2 : Hid _ := g2
  have GB : Hid _ := gb
  clear g0 g1 g2 gz gb
  have hsf := run_store_f
  go_enter Try.func90, Try.ntmps90
  go_upto_region 1 with fail
  generalize (((w.alloc (Obj.cells #[Value.float .f64 al, .float .f64 ah, .bool ab] 68)).alloc (Obj.cells #[Value.float .f64 bl, .float .f64 bh, .bool bb] 68)).alloc (Obj.cells #[Value.float .f64 0, .float .f64 0, .bool false] 68)) = W3 at G0 G1 G2 GB ⊢
  obtain ⟨a0, a1, a2⟩ := cells3 G0.out
  obtain ⟨b0, b1, b2⟩ := cells3 G1.out
  have N4 : Hid _ := heap_alloc_new W3 (Obj.cells #[Value.float .f64 al, .float .f64 ah, .bool ab, .float .f64 bl, .float .f64 bh, .bool bb] 68)
  have P0 : Hid _ := alloc4 G0.out GB.out (Obj.cells #[Value.float .f64 al, .float .f64 ah, .bool ab, .float .f64 bl, .float .f64 bh, .bool bb] 68)
  have P1 : Hid _ := alloc4 G1.out GB.out (Obj.cells #[Value.float .f64 al, .float .f64 ah, .bool ab, .float .f64 bl, .float .f64 bh, .bool bb] 68)
  have P2 : Hid _ := alloc4 G2.out GB.out (Obj.cells #[Value.float .f64 al, .float .f64 ah, .bool ab, .float .f64 bl, .float .f64 bh, .bool bb] 68)
  clear G0 G1 G2 GB
  go_wp2_with fail
  clear a0 a1 a2 b0 b1 b2
  generalize W3.alloc (Obj.cells #[Value.float .f64 al, .float .f64 ah, .bool ab, .float .f64 bl, .float .f64 bh, .bool bb] 68) = W4 at N4 P0 P1 P2 ⊢
  refine Calls.mono (good2_any N4.out hal hah hbl hbh) ?_
  rintro e w1 ⟨rfl, bw⟩
  have A1 : Hid (w1.heap[w.heap.size]? = some (Obj.cells #[Value.float .f64 al, .float .f64 ah, .bool ab] 68)) := (bw.block _ (blk_lt P0.out.1)).trans P0.out.1
  have B1 : Hid (w1.heap[w.heap.size + 1]? = some (Obj.cells #[Value.float .f64 bl, .float .f64 bh, .bool bb] 68)) := (bw.block _ (blk_lt P1.out.1)).trans P1.out.1
  have R1 : Hid (w1.heap[w.heap.size + 1 + 1]? = some (Obj.cells #[Value.float .f64 0, .float .f64 0, .bool false] 68)) := (bw.block _ (blk_lt P2.out.1)).trans P2.out.1
  have C1 : Hid (Below w.heap.size w w1) := P0.out.2.trans (bw.mono P0.out.2.size)
  clear bw N4 P0 P1 P2
  rw [hgd]
  go_wp2_with fail
  refine Calls.mono (spBad_any _) ?_
  rintro e w2 ⟨rfl, bw⟩
  have R2 : Hid _ := (bw.block _ (blk_lt R1.out)).trans R1.out
  have C2 : Hid (Below w.heap.size w w2) := C1.out.trans (bw.mono C1.out.size)
  clear bw
  obtain ⟨r0, r1, r2⟩ := cells3 R2.out
  have fz := fun j => frozen_of_row _ _ j _ _ R2.out
  go_wp2_with fail
  refine bodyPost_ret (v := .agg #[.float .f64 0, .float .f64 0, .bool true]) (res_sp _ 4 (by kernel_rfl) _ _ (w.heap.size + 1 + 1) _ _ _ ?_ (setsp_heap _ _ _ R2.out)) rfl ?_
  · rfl
  · exact ⟨rfl, below_setsp _ _ _ C2.out (by omega)⟩
set_option maxRecDepth 100000 in
set_option maxHeartbeats 2000000 in
theorem spDivZ_any (al ah bl bh : Nat) (ab bb : Bool) (hal : al < 18446744073709551616) (hah : ah < 18446744073709551616) (hbl : bl < 18446744073709551616) (hbh : bh < 18446744073709551616) (hg : Good al ah ab ∧ Good bl bh bb) (hz : hasB bl bh 0 = true) :
    Ans 90 #[.agg #[.float .f64 al, .float .f64 ah, .bool ab], .agg #[.float .f64 bl, .float .f64 bh, .bool bb]] (0, 0, true) := by
  intro w
  have HG : Hid (Good bl bh bb) := hg.2
  have hgd : decide (Good al ah ab ∧ Good bl bh bb) = true := decide_eq_true hg
  clear hg
  obtain ⟨g0, g1, g2, gz, gb⟩ := alloc3_facts w (Obj.cells #[Value.float .f64 al, .float .f64 ah, .bool ab] 68) (Obj.cells #[Value.float .f64 bl, .float .f64 bh, .bool bb] 68) (Obj.cells #[Value.float .f64 0, .float .f64 0, .bool false] 68)
  have G0 : Hid _ := g0
  have G1 : Hid _ := g1
  have G2 : Hid _ := g2
  have GB : Hid _ := gb
  clear g0 g1 g2 gz gb
  have hsf := run_store_f
  go_enter Try.func90, Try.ntmps90
  go_upto_region 1 with fail
  generalize (((w.alloc (Obj.cells #[Value.float .f64 al, .float .f64 ah, .bool ab] 68)).alloc (Obj.cells #[Value.float .f64 bl, .float .f64 bh, .bool bb] 68)).alloc (Obj.cells #[Value.float .f64 0, .float .f64 0, .bool false] 68)) = W3 at G0 G1 G2 GB ⊢
  obtain ⟨a0, a1, a2⟩ := cells3 G0.out
  obtain ⟨b0, b1, b2⟩ := cells3 G1.out
  have N4 : Hid _ := heap_alloc_new W3 (Obj.cells #[Value.float .f64 al, .float .f64 ah, .bool ab, .float .f64 bl, .float .f64 bh, .bool bb] 68)
  have P0 : Hid _ := alloc4 G0.out GB.out (Obj.cells #[Value.float .f64 al, .float .f64 ah, .bool ab, .float .f64 bl, .float .f64 bh, .bool bb] 68)
  have P1 : Hid _ := alloc4 G1.out GB.out (Obj.cells #[Value.float .f64 al, .float .f64 ah, .bool ab, .float .f64 bl, .float .f64 bh, .bool bb] 68)
  have P2 : Hid _ := alloc4 G2.out GB.out (Obj.cells #[Value.float .f64 al, .float .f64 ah, .bool ab, .float .f64 bl, .float .f64 bh, .bool bb] 68)
  clear G0 G1 G2 GB
  go_wp2_with fail
  clear a0 a1 a2 b0 b1 b2
  generalize W3.alloc (Obj.cells #[Value.float .f64 al, .float .f64 ah, .bool ab, .float .f64 bl, .float .f64 bh, .bool bb] 68) = W4 at N4 P0 P1 P2 ⊢
  refine Calls.mono (good2_any N4.out hal hah hbl hbh) ?_
  rintro e w1 ⟨rfl, bw⟩
  have A1 : Hid (w1.heap[w.heap.size]? = some (Obj.cells #[Value.float .f64 al, .float .f64 ah, .bool ab] 68)) := (bw.block _ (blk_lt P0.out.1)).trans P0.out.1
  have B1 : Hid (w1.heap[w.heap.size + 1]? = some (Obj.cells #[Value.float .f64 bl, .float .f64 bh, .bool bb] 68)) := (bw.block _ (blk_lt P1.out.1)).trans P1.out.1
  have R1 : Hid (w1.heap[w.heap.size + 1 + 1]? = some (Obj.cells #[Value.float .f64 0, .float .f64 0, .bool false] 68)) := (bw.block _ (blk_lt P2.out.1)).trans P2.out.1
  have C1 : Hid (Below w.heap.size w w1) := P0.out.2.trans (bw.mono P0.out.2.size)
  clear bw N4 P0 P1 P2
  rw [hgd]
  obtain ⟨a0, a1, a2⟩ := cells3 A1.out
  obtain ⟨b0, b1, b2⟩ := cells3 B1.out
  go_wp2_with fail
  refine Calls.mono (has_any bl bh 0 bb hbl hbh _) ?_
  rintro e wh ⟨rfl, bw⟩
  rw [hz, decide_eq_true HG.out]
  have R1' : Hid _ := (bw.block _ (blk_lt R1.out)).trans R1.out
  have C1' : Hid (Below w.heap.size w wh) := C1.out.trans (bw.mono C1.out.size)
  clear bw A1 B1 R1 C1 a0 a1 a2 b0 b1 b2
  go_wp2_with fail
  refine Calls.mono (spBad_any _) ?_
  rintro e w2 ⟨rfl, bw⟩
  have R2 : Hid _ := (bw.block _ (blk_lt R1'.out)).trans R1'.out
  have C2 : Hid (Below w.heap.size w w2) := C1'.out.trans (bw.mono C1'.out.size)
  clear bw
  obtain ⟨r0, r1, r2⟩ := cells3 R2.out
  have fz := fun j => frozen_of_row _ _ j _ _ R2.out
  go_wp2_with fail
  refine bodyPost_ret (v := .agg #[.float .f64 0, .float .f64 0, .bool true]) (res_sp _ 4 (by kernel_rfl) _ _ (w.heap.size + 1 + 1) _ _ _ ?_ (setsp_heap _ _ _ R2.out)) rfl ?_
  · rfl
  · exact ⟨rfl, below_setsp _ _ _ C2.out (by omega)⟩
theorem good_mono {lo hi : Nat} {b : Bool} (h : Good lo hi b) : fval lo ≤ fval hi := (srung_le lo hi).1 h.2.2.2
theorem apart_zero {bl bh : Nat} {bb : Bool} (hg : Good bl bh bb) (hz : hasB bl bh 0 = false) : 0 < fval bl * fval bh := by
  have h0 : srung 0 = 0 := by decide
  have h1 : frung 0 ≤ infK := by decide
  have k1 : frung bl ≤ infK := Nat.le_of_lt hg.2.1
  have k2 : frung bh ≤ infK := Nat.le_of_lt hg.2.2.1
  have hn : ¬ (srung bl ≤ 0 ∧ 0 ≤ srung bh) := by
    intro c
    unfold hasB leF at hz
    rw [h0, decide_eq_true ⟨k1, h1, c.1⟩, decide_eq_true ⟨h1, k2, c.2⟩] at hz
    cases hz
  have hle := hg.2.2.2
  rcases Int.lt_or_le 0 (srung bl) with c | c
  · exact Int.mul_pos ((srung_pos _).1 c) ((srung_pos _).1 (by omega))
  · exact Int.mul_pos_of_neg_of_neg ((srung_neg _).1 (by omega)) ((srung_neg _).1 (by omega))
theorem div4_any (d : Int) (al ah bl bh : Nat) (hal : al < 18446744073709551616) (hah : ah < 18446744073709551616) (hbl : bl < 18446744073709551616) (hbh : bh < 18446744073709551616) (f1 : Fin al) (f2 : Fin ah) (f3 : Fin bl) (f4 : Fin bh) (h0 : 0 < fval bl * fval bh) (E : Nat) (hE : E = 1074) :
    ∃ p1 p2 p3 p4, Four 120 d al ah bl bh p1 p2 p3 p4 ∧ RndB d (fval al * fval bh * ((2 ^ E : Nat) : Int)) (fval bl * fval bh).natAbs p1 ∧ RndB d (fval al * fval bl * ((2 ^ E : Nat) : Int)) (fval bl * fval bh).natAbs p2 ∧ RndB d (fval ah * fval bh * ((2 ^ E : Nat) : Int)) (fval bl * fval bh).natAbs p3 ∧ RndB d (fval ah * fval bl * ((2 ^ E : Nat) : Int)) (fval bl * fval bh).natAbs p4 := by
  obtain ⟨p1, r1, -, c1⟩ := div_any d al bl hal hbl
  obtain ⟨p2, r2, -, c2⟩ := div_any d al bh hal hbh
  obtain ⟨p3, r3, -, c3⟩ := div_any d ah bl hah hbl
  obtain ⟨p4, r4, -, c4⟩ := div_any d ah bh hah hbh
  have nz : ∀ x, fval x ≠ 0 → frung x ≠ 0 := by
    intro x hx c
    apply hx
    have := fval_abs x
    rw [c, rmag_zero] at this; omega
  have n1 : fval bl ≠ 0 := by intro c; rw [c, Int.zero_mul] at h0; omega
  have n2 : fval bh ≠ 0 := by intro c; rw [c, Int.mul_zero] at h0; omega
  have hc : fval bh * fval bl = fval bl * fval bh := Int.mul_comm _ _
  have b1 := (share_rndZ (c := bh) h0 (r1 f1 f3 (nz _ n1) E hE)).b
  have b2 := (share_rndZ (c := bl) (by rw [hc]; exact h0) (r2 f1 f4 (nz _ n2) E hE)).b
  have b3 := (share_rndZ (c := bh) h0 (r3 f2 f3 (nz _ n1) E hE)).b
  have b4 := (share_rndZ (c := bl) (by rw [hc]; exact h0) (r4 f2 f4 (nz _ n2) E hE)).b
  rw [hc] at b2 b4
  exact ⟨p1, p2, p3, p4, ⟨⟨b1.fin, b1.can⟩, ⟨b2.fin, b2.can⟩, ⟨b3.fin, b3.can⟩, ⟨b4.fin, b4.can⟩, c1, c2, c3, c4⟩, b1, b2, b3, b4⟩
/-- The span of all products. -/
def MulR (al ah bl bh : Nat) (ab bb : Bool) (E : Nat) (r : Nat × Nat × Bool) : Prop :=
  if Good al ah ab ∧ Good bl bh bb then SpR (min4 (fval al * fval bl) (fval al * fval bh) (fval ah * fval bl) (fval ah * fval bh)) (max4 (fval al * fval bl) (fval al * fval bh) (fval ah * fval bl) (fval ah * fval bh)) (2 ^ E) r else r = (0, 0, true)
/-- The span of all quotients. -/
def DivR (al ah bl bh : Nat) (ab bb : Bool) (E : Nat) (r : Nat × Nat × Bool) : Prop :=
  if Good al ah ab ∧ Good bl bh bb ∧ hasB bl bh 0 = false then SpR (min4 (fval al * fval bh * ((2 ^ E : Nat) : Int)) (fval al * fval bl * ((2 ^ E : Nat) : Int)) (fval ah * fval bh * ((2 ^ E : Nat) : Int)) (fval ah * fval bl * ((2 ^ E : Nat) : Int))) (max4 (fval al * fval bh * ((2 ^ E : Nat) : Int)) (fval al * fval bl * ((2 ^ E : Nat) : Int)) (fval ah * fval bh * ((2 ^ E : Nat) : Int)) (fval ah * fval bl * ((2 ^ E : Nat) : Int))) (fval bl * fval bh).natAbs r else r = (0, 0, true)
theorem MulR.uniq {al ah bl bh : Nat} {ab bb : Bool} {E : Nat} {r s : Nat × Nat × Bool} (h : MulR al ah bl bh ab bb E r) (h' : MulR al ah bl bh ab bb E s) : r = s := by
  unfold MulR at h h'; split at h
  · rename_i c; rw [if_pos c] at h'; exact h.uniq h'
  · rename_i c; rw [if_neg c] at h'; rw [h, h']
theorem DivR.uniq {al ah bl bh : Nat} {ab bb : Bool} {E : Nat} {r s : Nat × Nat × Bool} (h : DivR al ah bl bh ab bb E r) (h' : DivR al ah bl bh ab bb E s) : r = s := by
  unfold DivR at h h'; split at h
  · rename_i c; rw [if_pos c] at h'; exact h.uniq h'
  · rename_i c; rw [if_neg c] at h'; rw [h, h']
theorem spMul_any (al ah bl bh : Nat) (ab bb : Bool) (hal : al < 18446744073709551616) (hah : ah < 18446744073709551616) (hbl : bl < 18446744073709551616) (hbh : bh < 18446744073709551616) (E : Nat) (hE : E = 1074) :
    ∃ r, MulR al ah bl bh ab bb E r ∧ Ans 89 #[.agg #[.float .f64 al, .float .f64 ah, .bool ab], .agg #[.float .f64 bl, .float .f64 bh, .bool bb]] r := by
  by_cases hg : Good al ah ab ∧ Good bl bh bb
  · obtain ⟨p1, p2, p3, p4, hp, x1, x2, x3, x4⟩ := mul4_any 2 al ah bl bh hal hah hbl hbh hg.1.2.1 hg.1.2.2.1 hg.2.2.1 hg.2.2.2.1 E hE
    obtain ⟨q1, q2, q3, q4, hq, y1, y2, y3, y4⟩ := mul4_any 1 al ah bl bh hal hah hbl hbh hg.1.2.1 hg.1.2.2.1 hg.2.2.1 hg.2.2.2.1 E hE
    refine ⟨_, ?_, spMulG_any al ah bl bh ab bb hal hah hbl hbh p1 p2 p3 p4 q1 q2 q3 q4 hg hp hq⟩
    unfold MulR; rw [if_pos hg]
    exact SpR.of_b (far4_down (Nat.two_pow_pos E) x1 x2 x3 x4) (far4_up (Nat.two_pow_pos E) y1 y2 y3 y4)
  · exact ⟨(0, 0, true), by unfold MulR; rw [if_neg hg], spMulB_any al ah bl bh ab bb hal hah hbl hbh hg⟩
theorem spDiv_any (al ah bl bh : Nat) (ab bb : Bool) (hal : al < 18446744073709551616) (hah : ah < 18446744073709551616) (hbl : bl < 18446744073709551616) (hbh : bh < 18446744073709551616) (E : Nat) (hE : E = 1074) :
    ∃ r, DivR al ah bl bh ab bb E r ∧ Ans 90 #[.agg #[.float .f64 al, .float .f64 ah, .bool ab], .agg #[.float .f64 bl, .float .f64 bh, .bool bb]] r := by
  by_cases hg : Good al ah ab ∧ Good bl bh bb
  · by_cases hz : hasB bl bh 0 = false
    · have h0 := apart_zero hg.2 hz
      obtain ⟨p1, p2, p3, p4, hp, x1, x2, x3, x4⟩ := div4_any 2 al ah bl bh hal hah hbl hbh hg.1.2.1 hg.1.2.2.1 hg.2.2.1 hg.2.2.2.1 h0 E hE
      obtain ⟨q1, q2, q3, q4, hq, y1, y2, y3, y4⟩ := div4_any 1 al ah bl bh hal hah hbl hbh hg.1.2.1 hg.1.2.2.1 hg.2.2.1 hg.2.2.2.1 h0 E hE
      refine ⟨_, ?_, spDivG_any al ah bl bh ab bb hal hah hbl hbh p1 p2 p3 p4 q1 q2 q3 q4 hg hz hp hq⟩
      unfold DivR; rw [if_pos ⟨hg.1, hg.2, hz⟩]
      exact SpR.of_b (far4_down (by omega) x1 x2 x3 x4) (far4_up (by omega) y1 y2 y3 y4)
    · exact ⟨(0, 0, true), by unfold DivR; rw [if_neg (fun c => hz c.2.2)], spDivZ_any al ah bl bh ab bb hal hah hbl hbh hg (by simpa using hz)⟩
  · exact ⟨(0, 0, true), by unfold DivR; rw [if_neg (fun c => hg ⟨c.1, c.2.1⟩)], spDivB_any al ah bl bh ab bb hal hah hbl hbh hg⟩
end Go.Proofs.Ytigaggkipmcgeaa
