import Derived.Test.YtigaggkipmcgeaaZG
namespace Go.Proofs.Ytigaggkipmcgeaa
open Go.RowKit
set_option linter.unusedVariables false

theorem far4_down {X1 X2 X3 X4 : Int} {D : Nat} {p1 p2 p3 p4 : Nat × Bool} (hD : 0 < D) (h1 : RndB 2 X1 D p1) (h2 : RndB 2 X2 D p2) (h3 : RndB 2 X3 D p3) (h4 : RndB 2 X4 D p4) : RndB 2 (min4 X1 X2 X3 X4) D (far4 2 p1 p2 p3 p4) := by
  have := ((h1.down2 hD h2).down2 hD h3).down2 hD h4
  unfold far4 farX min4
  rw [if_pos rfl, if_pos rfl, if_pos rfl]
  exact this
theorem far4_up {X1 X2 X3 X4 : Int} {D : Nat} {p1 p2 p3 p4 : Nat × Bool} (hD : 0 < D) (h1 : RndB 1 X1 D p1) (h2 : RndB 1 X2 D p2) (h3 : RndB 1 X3 D p3) (h4 : RndB 1 X4 D p4) : RndB 1 (max4 X1 X2 X3 X4) D (far4 1 p1 p2 p3 p4) := by
  have := ((h1.up2 hD h2).up2 hD h3).up2 hD h4
  unfold far4 farX max4
  rw [if_neg (by decide), if_neg (by decide), if_neg (by decide)]
  exact this
theorem mul4_any (d : Int) (al ah bl bh : Nat) (hal : al < 18446744073709551616) (hah : ah < 18446744073709551616) (hbl : bl < 18446744073709551616) (hbh : bh < 18446744073709551616) (f1 : Fin al) (f2 : Fin ah) (f3 : Fin bl) (f4 : Fin bh) (E : Nat) (hE : E = 1074) :
    ∃ p1 p2 p3 p4, Four 119 d al ah bl bh p1 p2 p3 p4 ∧ RndB d (fval al * fval bl) (2 ^ E) p1 ∧ RndB d (fval al * fval bh) (2 ^ E) p2 ∧ RndB d (fval ah * fval bl) (2 ^ E) p3 ∧ RndB d (fval ah * fval bh) (2 ^ E) p4 := by
  obtain ⟨p1, r1, -, c1⟩ := mul_any d al bl hal hbl
  obtain ⟨p2, r2, -, c2⟩ := mul_any d al bh hal hbh
  obtain ⟨p3, r3, -, c3⟩ := mul_any d ah bl hah hbl
  obtain ⟨p4, r4, -, c4⟩ := mul_any d ah bh hah hbh
  have b1 := (prod_rndZ (r1 f1 f3 E hE)).b
  have b2 := (prod_rndZ (r2 f1 f4 E hE)).b
  have b3 := (prod_rndZ (r3 f2 f3 E hE)).b
  have b4 := (prod_rndZ (r4 f2 f4 E hE)).b
  exact ⟨p1, p2, p3, p4, ⟨⟨b1.fin, b1.can⟩, ⟨b2.fin, b2.can⟩, ⟨b3.fin, b3.can⟩, ⟨b4.fin, b4.can⟩, c1, c2, c3, c4⟩, b1, b2, b3, b4⟩
/-- What is asked of a call's answer. -/
def Ans (F : Nat) (args : Array Value) (r : Nat × Nat × Bool) : Prop := ∀ w, Calls Try.prog F args w fun e w' => e = .returned (.agg #[.float .f64 r.1, .float .f64 r.2.1, .bool r.2.2]) ∧ Below w.heap.size w w'
theorem blk_lt {W : World} {B : Nat} {o : Obj} (h : W.heap[B]? = some o) : B < W.heap.size := by
  rcases Nat.lt_or_ge B W.heap.size with c | c
  · exact c
  · rw [Array.getElem?_eq_none c] at h; cases h
theorem alloc4 {W : World} {B : Nat} {o : Obj} {w0 : World} (h : W.heap[B]? = some o) (hb : Below w0.heap.size w0 W) (s : Obj) : (W.alloc s).heap[B]? = some o ∧ Below w0.heap.size w0 (W.alloc s) :=
  ⟨(((Below.refl _ W).alloc (Nat.le_refl _) s).block B (blk_lt h)).trans h, hb.alloc hb.size _⟩
set_option maxRecDepth 100000 in
set_option maxHeartbeats 2000000 in
theorem spMulG_any (al ah bl bh : Nat) (ab bb : Bool) (hal : al < 18446744073709551616) (hah : ah < 18446744073709551616) (hbl : bl < 18446744073709551616) (hbh : bh < 18446744073709551616) (p1 p2 p3 p4 q1 q2 q3 q4 : Nat × Bool)
    (hg : Good al ah ab ∧ Good bl bh bb) (hp : Four 119 2 al ah bl bh p1 p2 p3 p4) (hq : Four 119 1 al ah bl bh q1 q2 q3 q4) :
    Ans 89 #[.agg #[.float .f64 al, .float .f64 ah, .bool ab], .agg #[.float .f64 bl, .float .f64 bh, .bool bb]] (spOf (far4 2 p1 p2 p3 p4) (far4 1 q1 q2 q3 q4)) := by
  intro w
  have HP : Hid _ := hp
  have HQ : Hid _ := hq
  have HG : Hid (Good bl bh bb) := hg.2
  have hgd : decide (Good al ah ab ∧ Good bl bh bb) = true := decide_eq_true hg
  clear hp hq hg
  obtain ⟨g0, g1, g2, gz, gb⟩ := alloc3_facts w (Obj.cells #[Value.float .f64 al, .float .f64 ah, .bool ab] 68) (Obj.cells #[Value.float .f64 bl, .float .f64 bh, .bool bb] 68) (Obj.cells #[Value.float .f64 0, .float .f64 0, .bool false] 68)
  have G0 : Hid _ := g0
  have G1 : Hid _ := g1
  have G2 : Hid _ := g2
  have GB : Hid _ := gb
  clear g0 g1 g2 gz gb
  have hsf := run_store_f
  go_enter Try.func89, Try.ntmps89
  go_upto_region 1 with fail
  generalize (((w.alloc (Obj.cells #[Value.float .f64 al, .float .f64 ah, .bool ab] 68)).alloc (Obj.cells #[Value.float .f64 bl, .float .f64 bh, .bool bb] 68)).alloc (Obj.cells #[Value.float .f64 0, .float .f64 0, .bool false] 68)) = W3 at G0 G1 G2 GB ⊢
  obtain ⟨a0, a1, a2⟩ := cells3 G0.out
  obtain ⟨b0, b1, b2⟩ := cells3 G1.out
  have N4 : Hid _ := heap_alloc_new W3 (Obj.cells #[Value.float .f64 al, .float .f64 ah, .bool ab, .float .f64 bl, .float .f64 bh, .bool bb] 68)
  have P0 : Hid _ := alloc4 G0.out GB.out (Obj.cells #[Value.float .f64 al, .float .f64 ah, .bool ab, .float .f64 bl, .float .f64 bh, .bool bb] 68)
  have P1 : Hid _ := alloc4 G1.out GB.out (Obj.cells #[Value.float .f64 al, .float .f64 ah, .bool ab, .float .f64 bl, .float .f64 bh, .bool bb] 68)
  have P2 : Hid _ := alloc4 G2.out GB.out (Obj.cells #[Value.float .f64 al, .float .f64 ah, .bool ab, .float .f64 bl, .float .f64 bh, .bool bb] 68)
  clear G0 G1 G2 GB
  go_wp2_with fail
  clear a0 a1 a2 b0 b1 b2
  generalize W3.alloc (Obj.cells #[Value.float .f64 al, .float .f64 ah, .bool ab, .float .f64 bl, .float .f64 bh, .bool bb] 68) = W4 at N4 P0 P1 P2 ⊢
  refine Calls.mono (good2_any N4.out hal hah hbl hbh) ?_
  rintro e w1 ⟨rfl, bw⟩
  have A1 : Hid (w1.heap[w.heap.size]? = some (Obj.cells #[Value.float .f64 al, .float .f64 ah, .bool ab] 68)) := (bw.block _ (blk_lt P0.out.1)).trans P0.out.1
  have B1 : Hid (w1.heap[w.heap.size + 1]? = some (Obj.cells #[Value.float .f64 bl, .float .f64 bh, .bool bb] 68)) := (bw.block _ (blk_lt P1.out.1)).trans P1.out.1
  have R1 : Hid (w1.heap[w.heap.size + 1 + 1]? = some (Obj.cells #[Value.float .f64 0, .float .f64 0, .bool false] 68)) := (bw.block _ (blk_lt P2.out.1)).trans P2.out.1
  have C1 : Hid (Below w.heap.size w w1) := P0.out.2.trans (bw.mono P0.out.2.size)
  clear bw N4 P0 P1 P2
  rw [hgd]
  obtain ⟨a0, a1, a2⟩ := cells3 A1.out
  obtain ⟨b0, b1, b2⟩ := cells3 B1.out
  go_wp2_with fail
  refine Calls.mono (farthest_any 119 al ah bl bh ab bb _) ?_
  rintro e w2 ⟨v, rfl, FA⟩
  have R2 : Hid _ := (FA.bel.block _ (blk_lt R1.out)).trans R1.out
  have C2 : Hid (Below w.heap.size w w2) := C1.out.trans (FA.bel.mono C1.out.size)
  obtain ⟨caps, rfl, FT⟩ := FA.tells (enters_of Try.func119 (by kernel_rfl) rfl)
  have TP : Hid _ := FT _ _ _ _ _ HP.out
  have TQ : Hid _ := FT _ _ _ _ _ HQ.out
  clear FA FT R1 C1 A1 B1 a0 a1 a2 b0 b1 b2
  go_wp2_with fail
  refine Calls.mono (spanOf_any 134 caps (enters_of Try.func134 (by kernel_rfl) rfl) _ _ _ TP.out TQ.out) ?_
  rintro e w3 ⟨rfl, bw⟩
  generalize hrr : spOf (far4 2 p1 p2 p3 p4) (far4 1 q1 q2 q3 q4) = rr
  have HRR : Hid (spOf (far4 2 p1 p2 p3 p4) (far4 1 q1 q2 q3 q4) = rr) := hrr
  clear hrr
  have R3 : Hid _ := (bw.block _ (blk_lt R2.out)).trans R2.out
  have C3 : Hid (Below w.heap.size w w3) := C2.out.trans (bw.mono C2.out.size)
  clear bw R2 C2 TP TQ
  obtain ⟨r0, r1, r2⟩ := cells3 R3.out
  have fz := fun j => frozen_of_row _ _ j _ _ R3.out
  go_wp2_with fail
  refine bodyPost_ret (v := .agg #[.float .f64 rr.1, .float .f64 rr.2.1, .bool rr.2.2]) (res_sp _ 4 (by kernel_rfl) _ _ (w.heap.size + 1 + 1) _ _ _ ?_ (setsp_heap _ _ _ R3.out)) rfl ?_
  · rfl
  · exact ⟨by rw [HRR.out], below_setsp _ _ _ C3.out (by omega)⟩
set_option maxRecDepth 100000 in
set_option maxHeartbeats 2000000 in
theorem spMulB_any (al ah bl bh : Nat) (ab bb : Bool) (hal : al < 18446744073709551616) (hah : ah < 18446744073709551616) (hbl : bl < 18446744073709551616) (hbh : bh < 18446744073709551616) (hg : ¬ (Good al ah ab ∧ Good bl bh bb)) :
    Ans 89 #[.agg #[.float .f64 al, .float .f64 ah, .bool ab], .agg #[.float .f64 bl, .float .f64 bh, .bool bb]] (0, 0, true) := by
  intro w
  have hgd : decide (Good al ah ab ∧ Good bl bh bb) = false := decide_eq_false hg
  clear hg
  obtain ⟨g0, g1, g2, gz, gb⟩ := alloc3_facts w (Obj.cells #[Value.float .f64 al, .float .f64 ah, .bool ab] 68) (Obj.cells #[Value.float .f64 bl, .float .f64 bh, .bool bb] 68) (Obj.cells #[Value.float .f64 0, .float .f64 0, .bool false] 68)
  have G0 : Hid _ := g0
  have G1 : Hid _ := g1
  have G2 : Hid _ := g2
  have GB : Hid _ := gb
  clear g0 g1 g2 gz gb
  have hsf := run_store_f
  go_enter Try.func89, Try.ntmps89
  go_upto_region 1 with fail
  generalize (((w.alloc (Obj.cells #[Value.float .f64 al, .float .f64 ah, .bool ab] 68)).alloc (Obj.cells #[Value.float .f64 bl, .float .f64 bh, .bool bb] 68)).alloc (Obj.cells #[Value.float .f64 0, .float .f64 0, .bool false] 68)) = W3 at G0 G1 G2 GB ⊢
  obtain ⟨a0, a1, a2⟩ := cells3 G0.out
  obtain ⟨b0, b1, b2⟩ := cells3 G1.out
  have N4 : Hid _ := heap_alloc_new W3 (Obj.cells #[Value.float .f64 al, .float .f64 ah, .bool ab, .float .f64 bl, .float .f64 bh, .bool bb] 68)
  have P0 : Hid _ := alloc4 G0.out GB.out (Obj.cells #[Value.float .f64 al, .float .f64 ah, .bool ab, .float .f64 bl, .float .f64 bh, .bool bb] 68)
  have P1 : Hid _ := alloc4 G1.out GB.out (Obj.cells #[Value.float .f64 al, .float .f64 ah, .bool ab, .float .f64 bl, .float .f64 bh, .bool bb] 68)
  have P2 : Hid _ := alloc4 G2.out GB.out (Obj.cells #[Value.float .f64 al, .float .f64 ah, .bool ab, .float .f64 bl, .float .f64 bh, .bool bb] 68)
  clear G0 G1 G2 GB
  go_wp2_with fail
  clear a0 a1 a2 b0 b1 b2
  generalize W3.alloc (Obj.cells #[Value.float .f64 al, .float .f64 ah, .bool ab, .float .f64 bl, .float .f64 bh, .bool bb] 68) = W4 at N4 P0 P1 P2 ⊢
  refine Calls.mono (good2_any N4.out hal hah hbl hbh) ?_
  rintro e w1 ⟨rfl, bw⟩
  have A1 : Hid (w1.heap[w.heap.size]? = some (Obj.cells #[Value.float .f64 al, .float .f64 ah, .bool ab] 68)) := (bw.block _ (blk_lt P0.out.1)).trans P0.out.1
  have B1 : Hid (w1.heap[w.heap.size + 1]? = some (Obj.cells #[Value.float .f64 bl, .float .f64 bh, .bool bb] 68)) := (bw.block _ (blk_lt P1.out.1)).trans P1.out.1
  have R1 : Hid (w1.heap[w.heap.size + 1 + 1]? = some (Obj.cells #[Value.float .f64 0, .float .f64 0, .bool false] 68)) := (bw.block _ (blk_lt P2.out.1)).trans P2.out.1
  have C1 : Hid (Below w.heap.size w w1) := P0.out.2.trans (bw.mono P0.out.2.size)
  clear bw N4 P0 P1 P2
  rw [hgd]
  go_wp2_with fail
  refine Calls.mono (spBad_any _) ?_
  rintro e w2 ⟨rfl, bw⟩
  have R2 : Hid _ := (bw.block _ (blk_lt R1.out)).trans R1.out
  have C2 : Hid (Below w.heap.size w w2) := C1.out.trans (bw.mono C1.out.size)
  clear bw
  obtain ⟨r0, r1, r2⟩ := cells3 R2.out
  have fz := fun j => frozen_of_row _ _ j _ _ R2.out
  go_wp2_with fail
  refine bodyPost_ret (v := .agg #[.float .f64 0, .float .f64 0, .bool true]) (res_sp _ 4 (by kernel_rfl) _ _ (w.heap.size + 1 + 1) _ _ _ ?_ (setsp_heap _ _ _ R2.out)) rfl ?_
  · rfl
  · exact ⟨rfl, below_setsp _ _ _ C2.out (by omega)⟩
end Go.Proofs.Ytigaggkipmcgeaa
