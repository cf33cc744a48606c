import Derived.Test.YtbncdcenckagcaaGreatMT
namespace Go.Proofs.YtbncdcenckagcaaGreat
open Go.RowKit
set_option linter.unusedVariables false

theorem far4_down {X1 X2 X3 X4 : Int} {D : Nat} {p1 p2 p3 p4 : Nat × Bool} (hD : 0 < D) (h1 : RndB 2 X1 D p1) (h2 : RndB 2 X2 D p2) (h3 : RndB 2 X3 D p3) (h4 : RndB 2 X4 D p4) : RndB 2 (min4 X1 X2 X3 X4) D (far4 2 p1 p2 p3 p4) := by
  have := ((h1.down2 hD h2).down2 hD h3).down2 hD h4
  unfold far4 farX min4
  rw [if_pos rfl, if_pos rfl, if_pos rfl]
  exact this
theorem far4_up {X1 X2 X3 X4 : Int} {D : Nat} {p1 p2 p3 p4 : Nat × Bool} (hD : 0 < D) (h1 : RndB 1 X1 D p1) (h2 : RndB 1 X2 D p2) (h3 : RndB 1 X3 D p3) (h4 : RndB 1 X4 D p4) : RndB 1 (max4 X1 X2 X3 X4) D (far4 1 p1 p2 p3 p4) := by
  have := ((h1.up2 hD h2).up2 hD h3).up2 hD h4
  unfold far4 farX max4
  rw [if_neg (by decide), if_neg (by decide), if_neg (by decide)]
  exact this
theorem mul4_any (d : Int) (al ah bl bh : Nat) (hal : al < 18446744073709551616) (hah : ah < 18446744073709551616) (hbl : bl < 18446744073709551616) (hbh : bh < 18446744073709551616) (f1 : Fin al) (f2 : Fin ah) (f3 : Fin bl) (f4 : Fin bh) (E : Nat) (hE : E = 1074) :
    ∃ p1 p2 p3 p4, Four 58 d al ah bl bh p1 p2 p3 p4 ∧ RndB d (fval al * fval bl) (2 ^ E) p1 ∧ RndB d (fval al * fval bh) (2 ^ E) p2 ∧ RndB d (fval ah * fval bl) (2 ^ E) p3 ∧ RndB d (fval ah * fval bh) (2 ^ E) p4 := by
  obtain ⟨p1, r1, -, c1⟩ := mul_any d al bl hal hbl
  obtain ⟨p2, r2, -, c2⟩ := mul_any d al bh hal hbh
  obtain ⟨p3, r3, -, c3⟩ := mul_any d ah bl hah hbl
  obtain ⟨p4, r4, -, c4⟩ := mul_any d ah bh hah hbh
  have b1 := (prod_rndZ (r1 f1 f3 E hE)).b
  have b2 := (prod_rndZ (r2 f1 f4 E hE)).b
  have b3 := (prod_rndZ (r3 f2 f3 E hE)).b
  have b4 := (prod_rndZ (r4 f2 f4 E hE)).b
  exact ⟨p1, p2, p3, p4, ⟨⟨b1.fin, b1.can⟩, ⟨b2.fin, b2.can⟩, ⟨b3.fin, b3.can⟩, ⟨b4.fin, b4.can⟩, c1, c2, c3, c4⟩, b1, b2, b3, b4⟩
/-- What is asked of a call's answer. -/
def Ans (F : Nat) (args : Array Value) (r : Nat × Nat × Bool) : Prop := ∀ w, Calls Tryz.prog F args w fun e w' => e = .returned (.agg #[.float .f64 r.1, .float .f64 r.2.1, .bool r.2.2]) ∧ Below w.heap.size w w'
theorem blk_lt {W : World} {B : Nat} {o : Obj} (h : W.heap[B]? = some o) : B < W.heap.size := by
  rcases Nat.lt_or_ge B W.heap.size with c | c
  · exact c
  · rw [Array.getElem?_eq_none c] at h; cases h
theorem alloc4 {W : World} {B : Nat} {o : Obj} {w0 : World} (h : W.heap[B]? = some o) (hb : Below w0.heap.size w0 W) (s : Obj) : (W.alloc s).heap[B]? = some o ∧ Below w0.heap.size w0 (W.alloc s) :=
  ⟨(((Below.refl _ W).alloc (Nat.le_refl _) s).block B (blk_lt h)).trans h, hb.alloc hb.size _⟩
set_option maxRecDepth 100000 in
set_option maxHeartbeats 2000000 in
theorem spMulG_any (al ah bl bh : Nat) (ab bb : Bool) (hal : al < 18446744073709551616) (hah : ah < 18446744073709551616) (hbl : bl < 18446744073709551616) (hbh : bh < 18446744073709551616) (p1 p2 p3 p4 q1 q2 q3 q4 : Nat × Bool)
    (hg : Good al ah ab ∧ Good bl bh bb) (hp : Four 58 2 al ah bl bh p1 p2 p3 p4) (hq : Four 58 1 al ah bl bh q1 q2 q3 q4) :
    Ans 32 #[.agg #[.float .f64 al, .float .f64 ah, .bool ab], .agg #[.float .f64 bl, .float .f64 bh, .bool bb]] (spOf (far4 2 p1 p2 p3 p4) (far4 1 q1 q2 q3 q4)) := by
  intro w
  have HP : Hid _ := hp
  have HQ : Hid _ := hq
  have HG : Hid (Good bl bh bb) := hg.2
  have hgd : decide (Good al ah ab ∧ Good bl bh bb) = true := decide_eq_true hg
  clear hp hq hg
  obtain ⟨g0, g1, g2, gz, gb⟩ := alloc3_facts w (Obj.cells #[Value.float .f64 al, .float .f64 ah, .bool ab] 34) (Obj.cells #[Value.float .f64 bl, .float .f64 bh, .bool bb] 34) (Obj.cells #[Value.float .f64 0, .float .f64 0, .bool false] 34)
  have G0 : Hid _ := g0
  have G1 : Hid _ := g1
  have G2 : Hid _ := g2
  have GB : Hid _ := gb
  clear g0 g1 g2 gz gb
  have hsf := run_store_f
  go_enter Tryz.func32, Tryz.ntmps32
  go_upto_region 1 with fail
  generalize (((w.alloc (Obj.cells #[Value.float .f64 al, .float .f64 ah, .bool ab] 34)).alloc (Obj.cells #[Value.float .f64 bl, .float .f64 bh, .bool bb] 34)).alloc (Obj.cells #[Value.float .f64 0, .float .f64 0, .bool false] 34)) = W3 at G0 G1 G2 GB ⊢
  obtain ⟨a0, a1, a2⟩ := cells3 G0.out
  obtain ⟨b0, b1, b2⟩ := cells3 G1.out
  have N4 : Hid _ := heap_alloc_new W3 (Obj.cells #[Value.float .f64 al, .float .f64 ah, .bool ab, .float .f64 bl, .float .f64 bh, .bool bb] 34)
  have P0 : Hid _ := alloc4 G0.out GB.out (Obj.cells #[Value.float .f64 al, .float .f64 ah, .bool ab, .float .f64 bl, .float .f64 bh, .bool bb] 34)
  have P1 : Hid _ := alloc4 G1.out GB.out (Obj.cells #[Value.float .f64 al, .float .f64 ah, .bool ab, .float .f64 bl, .float .f64 bh, .bool bb] 34)
  have P2 : Hid _ := alloc4 G2.out GB.out (Obj.cells #[Value.float .f64 al, .float .f64 ah, .bool ab, .float .f64 bl, .float .f64 bh, .bool bb] 34)
  clear G0 G1 G2 GB
  go_wp2_with fail
  clear a0 a1 a2 b0 b1 b2
  generalize W3.alloc (Obj.cells #[Value.float .f64 al, .float .f64 ah, .bool ab, .float .f64 bl, .float .f64 bh, .bool bb] 34) = W4 at N4 P0 P1 P2 ⊢
  refine Calls.mono (good2_any N4.out hal hah hbl hbh) ?_
  rintro e w1 ⟨rfl, bw⟩
  have A1 : Hid (w1.heap[w.heap.size]? = some (Obj.cells #[Value.float .f64 al, .float .f64 ah, .bool ab] 34)) := (bw.block _ (blk_lt P0.out.1)).trans P0.out.1
  have B1 : Hid (w1.heap[w.heap.size + 1]? = some (Obj.cells #[Value.float .f64 bl, .float .f64 bh, .bool bb] 34)) := (bw.block _ (blk_lt P1.out.1)).trans P1.out.1
  have R1 : Hid (w1.heap[w.heap.size + 1 + 1]? = some (Obj.cells #[Value.float .f64 0, .float .f64 0, .bool false] 34)) := (bw.block _ (blk_lt P2.out.1)).trans P2.out.1
  have C1 : Hid (Below w.heap.size w w1) := P0.out.2.trans (bw.mono P0.out.2.size)
  clear bw N4 P0 P1 P2
  rw [hgd]
  obtain ⟨a0, a1, a2⟩ := cells3 A1.out
  obtain ⟨b0, b1, b2⟩ := cells3 B1.out
  go_wp2_with fail
  refine Calls.mono (farthest_any 58 al ah bl bh ab bb _) ?_
  rintro e w2 ⟨v, rfl, FA⟩
  have R2 : Hid _ := (FA.bel.block _ (blk_lt R1.out)).trans R1.out
  have C2 : Hid (Below w.heap.size w w2) := C1.out.trans (FA.bel.mono C1.out.size)
  obtain ⟨caps, rfl, FT⟩ := FA.tells (enters_of Tryz.func58 (by kernel_rfl) rfl)
  have TP : Hid _ := FT _ _ _ _ _ HP.out
  have TQ : Hid _ := FT _ _ _ _ _ HQ.out
  clear FA FT R1 C1 A1 B1 a0 a1 a2 b0 b1 b2
  go_wp2_with fail
  refine Calls.mono (spanOf_any 82 caps (enters_of Tryz.func82 (by kernel_rfl) rfl) _ _ _ TP.out TQ.out) ?_
  rintro e w3 ⟨rfl, bw⟩
  generalize hrr : spOf (far4 2 p1 p2 p3 p4) (far4 1 q1 q2 q3 q4) = rr
  have HRR : Hid (spOf (far4 2 p1 p2 p3 p4) (far4 1 q1 q2 q3 q4) = rr) := hrr
  clear hrr
  have R3 : Hid _ := (bw.block _ (blk_lt R2.out)).trans R2.out
  have C3 : Hid (Below w.heap.size w w3) := C2.out.trans (bw.mono C2.out.size)
  clear bw R2 C2 TP TQ
  obtain ⟨r0, r1, r2⟩ := cells3 R3.out
  have fz := fun j => frozen_of_row _ _ j _ _ R3.out
  go_wp2_with fail
  refine bodyPost_ret (v := .agg #[.float .f64 rr.1, .float .f64 rr.2.1, .bool rr.2.2]) (res_sp _ 4 (by kernel_rfl) _ _ (w.heap.size + 1 + 1) _ _ _ ?_ (setsp_heap _ _ _ R3.out)) rfl ?_
  · rfl
  · exact ⟨by rw [HRR.out], below_setsp _ _ _ C3.out (by omega)⟩
set_option maxRecDepth 100000 in
set_option maxHeartbeats 2000000 in
theorem spMulB_any (al ah bl bh : Nat) (ab bb : Bool) (hal : al < 18446744073709551616) (hah : ah < 18446744073709551616) (hbl : bl < 18446744073709551616) (hbh : bh < 18446744073709551616) (hg : ¬ (Good al ah ab ∧ Good bl bh bb)) :
    Ans 32 #[.agg #[.float .f64 al, .float .f64 ah, .bool ab], .agg #[.float .f64 bl, .float .f64 bh, .bool bb]] (0, 0, true) := by
  intro w
  have hgd : decide (Good al ah ab ∧ Good bl bh bb) = false := decide_eq_false hg
  clear hg
  obtain ⟨g0, g1, g2, gz, gb⟩ := alloc3_facts w (Obj.cells #[Value.float .f64 al, .float .f64 ah, .bool ab] 34) (Obj.cells #[Value.float .f64 bl, .float .f64 bh, .bool bb] 34) (Obj.cells #[Value.float .f64 0, .float .f64 0, .bool false] 34)
  have G0 : Hid _ := g0
  have G1 : Hid _ := g1
  have G2 : Hid _ := g2
  have GB : Hid _ := gb
  clear g0 g1 g2 gz gb
  have hsf := run_store_f
  go_enter Tryz.func32, Tryz.ntmps32
  go_upto_region 1 with fail
  generalize (((w.alloc (Obj.cells #[Value.float .f64 al, .float .f64 ah, .bool ab] 34)).alloc (Obj.cells #[Value.float .f64 bl, .float .f64 bh, .bool bb] 34)).alloc (Obj.cells #[Value.float .f64 0, .float .f64 0, .bool false] 34)) = W3 at G0 G1 G2 GB ⊢
  obtain ⟨a0, a1, a2⟩ := cells3 G0.out
  obtain ⟨b0, b1, b2⟩ := cells3 G1.out
  have N4 : Hid _ := heap_alloc_new W3 (Obj.cells #[Value.float .f64 al, .float .f64 ah, .bool ab, .float .f64 bl, .float .f64 bh, .bool bb] 34)
  have P0 : Hid _ := alloc4 G0.out GB.out (Obj.cells #[Value.float .f64 al, .float .f64 ah, .bool ab, .float .f64 bl, .float .f64 bh, .bool bb] 34)
  have P1 : Hid _ := alloc4 G1.out GB.out (Obj.cells #[Value.float .f64 al, .float .f64 ah, .bool ab, .float .f64 bl, .float .f64 bh, .bool bb] 34)
  have P2 : Hid _ := alloc4 G2.out GB.out (Obj.cells #[Value.float .f64 al, .float .f64 ah, .bool ab, .float .f64 bl, .float .f64 bh, .bool bb] 34)
  clear G0 G1 G2 GB
  go_wp2_with fail
  clear a0 a1 a2 b0 b1 b2
  generalize W3.alloc (Obj.cells #[Value.float .f64 al, .float .f64 ah, .bool ab, .float .f64 bl, .float .f64 bh, .bool bb] 34) = W4 at N4 P0 P1 P2 ⊢
  refine Calls.mono (good2_any N4.out hal hah hbl hbh) ?_
  rintro e w1 ⟨rfl, bw⟩
  have A1 : Hid (w1.heap[w.heap.size]? = some (Obj.cells #[Value.float .f64 al, .float .f64 ah, .bool ab] 34)) := (bw.block _ (blk_lt P0.out.1)).trans P0.out.1
  have B1 : Hid (w1.heap[w.heap.size + 1]? = some (Obj.cells #[Value.float .f64 bl, .float .f64 bh, .bool bb] 34)) := (bw.block _ (blk_lt P1.out.1)).trans P1.out.1
  have R1 : Hid (w1.heap[w.heap.size + 1 + 1]? = some (Obj.cells #[Value.float .f64 0, .float .f64 0, .bool false] 34)) := (bw.block _ (blk_lt P2.out.1)).trans P2.out.1
  have C1 : Hid (Below w.heap.size w w1) := P0.out.2.trans (bw.mono P0.out.2.size)
  clear bw N4 P0 P1 P2
  rw [hgd]
  go_wp2_with fail
  refine Calls.mono (spBad_any _) ?_
  rintro e w2 ⟨rfl, bw⟩
  have R2 : Hid _ := (bw.block _ (blk_lt R1.out)).trans R1.out
  have C2 : Hid (Below w.heap.size w w2) := C1.out.trans (bw.mono C1.out.size)
  clear bw
  obtain ⟨r0, r1, r2⟩ := cells3 R2.out
  have fz := fun j => frozen_of_row _ _ j _ _ R2.out
  go_wp2_with fail
  refine bodyPost_ret (v := .agg #[.float .f64 0, .float .f64 0, .bool true]) (res_sp _ 4 (by kernel_rfl) _ _ (w.heap.size + 1 + 1) _ _ _ ?_ (setsp_heap _ _ _ R2.out)) rfl ?_
  · rfl
  · exact ⟨rfl, below_setsp _ _ _ C2.out (by omega)⟩
end Go.Proofs.YtbncdcenckagcaaGreat

namespace Go.Proofs.YtbncdcenckagcaaGreat
open Go.RowKit
set_option linter.unusedVariables false

/-- A number lies between two. -/
def leF (x y : Nat) : Bool := decide (frung x ≤ infK ∧ frung y ≤ infK ∧ srung x ≤ srung y)
def hasB (lo hi a : Nat) : Bool := leF lo a && leF a hi
theorem leF_ord (x y : Nat) : (FloatKind.f64.format.order x y == some .lt || FloatKind.f64.format.order x y == some .eq) = leF x y := by rw [f64_fmt, ord_le]; rfl
theorem alloc1_facts (w : World) (o : Obj) : (w.alloc o).heap[w.heap.size]? = some o ∧ Below w.heap.size w (w.alloc o) := ⟨heap_alloc_new w o, (Below.refl _ w).alloc (Nat.le_refl _) _⟩
set_option maxRecDepth 100000 in
set_option maxHeartbeats 2000000 in
theorem has_any (al ah x : Nat) (ab : Bool) (hal : al < 18446744073709551616) (hah : ah < 18446744073709551616) (w : World) :
    Calls Tryz.prog 36 #[.agg #[.float .f64 al, .float .f64 ah, .bool ab], .float .f64 x] w fun e w' => e = .returned (.bool (decide (Good al ah ab) && hasB al ah x)) ∧ Below w.heap.size w w' := by
  obtain ⟨g0, gb⟩ := alloc1_facts w (Obj.cells #[Value.float .f64 al, .float .f64 ah, .bool ab] 34)
  have G0 : Hid _ := g0
  have GB : Hid _ := gb
  clear g0 gb
  go_enter Tryz.func36, Tryz.ntmps36
  go_upto_region 1 with fail
  generalize (w.alloc (Obj.cells #[Value.float .f64 al, .float .f64 ah, .bool ab] 34)) = W3 at G0 GB ⊢
  obtain ⟨a0, a1, a2⟩ := cells3 G0.out
  have N4 : Hid _ := heap_alloc_new W3 (Obj.cells #[Value.float .f64 al, .float .f64 ah, .bool ab] 34)
  have P0 : Hid _ := alloc4 G0.out GB.out (Obj.cells #[Value.float .f64 al, .float .f64 ah, .bool ab] 34)
  clear G0 GB
  go_wp2_with fail
  clear a0 a1 a2
  generalize W3.alloc (Obj.cells #[Value.float .f64 al, .float .f64 ah, .bool ab] 34) = W4 at N4 P0 ⊢
  refine Calls.mono (good1_any N4.out hal hah) ?_
  rintro e w1 ⟨rfl, bw⟩
  have A1 : Hid (w1.heap[w.heap.size]? = some (Obj.cells #[Value.float .f64 al, .float .f64 ah, .bool ab] 34)) := (bw.block _ (blk_lt P0.out.1)).trans P0.out.1
  have C1 : Hid (Below w.heap.size w w1) := P0.out.2.trans (bw.mono P0.out.2.size)
  clear bw N4 P0
  obtain ⟨a0, a1, a2⟩ := cells3 A1.out
  by_cases hg : Good al ah ab
  · have HGD : Hid (decide (Good al ah ab) = true) := decide_eq_true hg
    rw [HGD.out]
    clear hg
    have l1 := leF_ord al x
    have l2 := leF_ord x ah
    have HB : Hid (hasB al ah x = (leF al x && leF x ah)) := rfl
    generalize leF al x = q1 at l1 HB
    generalize leF x ah = q2 at l2 HB
    cases q1
    all_goals
      go_wp2_with fail
      go_ret
      exact ⟨by rw [HGD.out, HB.out]; rfl, C1.out⟩
  · have HGD : Hid (decide (Good al ah ab) = false) := decide_eq_false hg
    rw [HGD.out]
    clear hg
    go_wp2_with fail
    go_ret
    exact ⟨by rw [HGD.out]; rfl, C1.out⟩
set_option maxRecDepth 100000 in
set_option maxHeartbeats 2000000 in
theorem inside_any (al ah bl bh : Nat) (ab bb : Bool) (hal : al < 18446744073709551616) (hah : ah < 18446744073709551616) (hbl : bl < 18446744073709551616) (hbh : bh < 18446744073709551616) (w : World) :
    Calls Tryz.prog 37 #[.agg #[.float .f64 al, .float .f64 ah, .bool ab], .agg #[.float .f64 bl, .float .f64 bh, .bool bb]] w fun e w' => e = .returned (.bool (decide (Good al ah ab ∧ Good bl bh bb) && (leF bl al && leF ah bh))) ∧ Below w.heap.size w w' := by
  obtain ⟨g0, g1, -, gb⟩ := alloc2_facts w (Obj.cells #[Value.float .f64 al, .float .f64 ah, .bool ab] 34) (Obj.cells #[Value.float .f64 bl, .float .f64 bh, .bool bb] 34)
  have G0 : Hid _ := g0
  have G1 : Hid _ := g1
  have GB : Hid _ := gb
  clear g0 g1 gb
  go_enter Tryz.func37, Tryz.ntmps37
  go_upto_region 1 with fail
  generalize ((w.alloc (Obj.cells #[Value.float .f64 al, .float .f64 ah, .bool ab] 34)).alloc (Obj.cells #[Value.float .f64 bl, .float .f64 bh, .bool bb] 34)) = W3 at G0 G1 GB ⊢
  obtain ⟨a0, a1, a2⟩ := cells3 G0.out
  obtain ⟨b0, b1, b2⟩ := cells3 G1.out
  have N4 : Hid _ := heap_alloc_new W3 (Obj.cells #[Value.float .f64 al, .float .f64 ah, .bool ab, .float .f64 bl, .float .f64 bh, .bool bb] 34)
  have P0 : Hid _ := alloc4 G0.out GB.out (Obj.cells #[Value.float .f64 al, .float .f64 ah, .bool ab, .float .f64 bl, .float .f64 bh, .bool bb] 34)
  have P1 : Hid _ := alloc4 G1.out GB.out (Obj.cells #[Value.float .f64 al, .float .f64 ah, .bool ab, .float .f64 bl, .float .f64 bh, .bool bb] 34)
  clear G0 G1 GB
  go_wp2_with fail
  clear a0 a1 a2 b0 b1 b2
  generalize W3.alloc (Obj.cells #[Value.float .f64 al, .float .f64 ah, .bool ab, .float .f64 bl, .float .f64 bh, .bool bb] 34) = W4 at N4 P0 P1 ⊢
  refine Calls.mono (good2_any N4.out hal hah hbl hbh) ?_
  rintro e w1 ⟨rfl, bw⟩
  have A1 : Hid (w1.heap[w.heap.size]? = some (Obj.cells #[Value.float .f64 al, .float .f64 ah, .bool ab] 34)) := (bw.block _ (blk_lt P0.out.1)).trans P0.out.1
  have B1 : Hid (w1.heap[w.heap.size + 1]? = some (Obj.cells #[Value.float .f64 bl, .float .f64 bh, .bool bb] 34)) := (bw.block _ (blk_lt P1.out.1)).trans P1.out.1
  have C1 : Hid (Below w.heap.size w w1) := P0.out.2.trans (bw.mono P0.out.2.size)
  clear bw N4 P0 P1
  obtain ⟨a0, a1, a2⟩ := cells3 A1.out
  obtain ⟨b0, b1, b2⟩ := cells3 B1.out
  by_cases hg : Good al ah ab ∧ Good bl bh bb
  · have HGD : Hid (decide (Good al ah ab ∧ Good bl bh bb) = true) := decide_eq_true hg
    rw [HGD.out]
    clear hg
    have l1 := leF_ord bl al
    have l2 := leF_ord ah bh
    have HB : Hid ((leF bl al && leF ah bh) = (leF bl al && leF ah bh)) := rfl
    generalize h1 : leF bl al = q1 at l1
    generalize h2 : leF ah bh = q2 at l2
    have H1 : Hid _ := h1
    have H2 : Hid _ := h2
    clear h1 h2
    cases q1
    all_goals
      go_wp2_with fail
      go_ret
      exact ⟨by rw [HGD.out, H1.out, H2.out]; rfl, C1.out⟩
  · have HGD : Hid (decide (Good al ah ab ∧ Good bl bh bb) = false) := decide_eq_false hg
    rw [HGD.out]
    clear hg
    go_wp2_with fail
    go_ret
    exact ⟨by rw [HGD.out]; rfl, C1.out⟩
end Go.Proofs.YtbncdcenckagcaaGreat

namespace Go.Proofs.YtbncdcenckagcaaGreat
open Go.RowKit
set_option linter.unusedVariables false

set_option maxRecDepth 100000 in
set_option maxHeartbeats 2000000 in
theorem spDivG_any (al ah bl bh : Nat) (ab bb : Bool) (hal : al < 18446744073709551616) (hah : ah < 18446744073709551616) (hbl : bl < 18446744073709551616) (hbh : bh < 18446744073709551616) (p1 p2 p3 p4 q1 q2 q3 q4 : Nat × Bool)
    (hg : Good al ah ab ∧ Good bl bh bb) (hz : hasB bl bh 0 = false) (hp : Four 61 2 al ah bl bh p1 p2 p3 p4) (hq : Four 61 1 al ah bl bh q1 q2 q3 q4) :
    Ans 34 #[.agg #[.float .f64 al, .float .f64 ah, .bool ab], .agg #[.float .f64 bl, .float .f64 bh, .bool bb]] (spOf (far4 2 p1 p2 p3 p4) (far4 1 q1 q2 q3 q4)) := by
  intro w
  have HP : Hid _ := hp
  have HQ : Hid _ := hq
  have HG : Hid (Good bl bh bb) := hg.2
  have hgd : decide (Good al ah ab ∧ Good bl bh bb) = true := decide_eq_true hg
  clear hp hq hg
  obtain ⟨g0, g1, g2, gz, gb⟩ := alloc3_facts w (Obj.cells #[Value.float .f64 al, .float .f64 ah, .bool ab] 34) (Obj.cells #[Value.float .f64 bl, .float .f64 bh, .bool bb] 34) (Obj.cells #[Value.float .f64 0, .float .f64 0, .bool false] 34)
  have G0 : Hid _ := g0
  have G1 : Hid _ := g1
  have G2 : Hid _ := g2
  have GB : Hid _ := gb
  clear g0 g1 g2 gz gb
  have hsf := run_store_f
  go_enter Tryz.func34, Tryz.ntmps34
  go_upto_region 1 with fail
  generalize (((w.alloc (Obj.cells #[Value.float .f64 al, .float .f64 ah, .bool ab] 34)).alloc (Obj.cells #[Value.float .f64 bl, .float .f64 bh, .bool bb] 34)).alloc (Obj.cells #[Value.float .f64 0, .float .f64 0, .bool false] 34)) = W3 at G0 G1 G2 GB ⊢
  obtain ⟨a0, a1, a2⟩ := cells3 G0.out
  obtain ⟨b0, b1, b2⟩ := cells3 G1.out
  have N4 : Hid _ := heap_alloc_new W3 (Obj.cells #[Value.float .f64 al, .float .f64 ah, .bool ab, .float .f64 bl, .float .f64 bh, .bool bb] 34)
  have P0 : Hid _ := alloc4 G0.out GB.out (Obj.cells #[Value.float .f64 al, .float .f64 ah, .bool ab, .float .f64 bl, .float .f64 bh, .bool bb] 34)
  have P1 : Hid _ := alloc4 G1.out GB.out (Obj.cells #[Value.float .f64 al, .float .f64 ah, .bool ab, .float .f64 bl, .float .f64 bh, .bool bb] 34)
  have P2 : Hid _ := alloc4 G2.out GB.out (Obj.cells #[Value.float .f64 al, .float .f64 ah, .bool ab, .float .f64 bl, .float .f64 bh, .bool bb] 34)
  clear G0 G1 G2 GB
  go_wp2_with fail
  clear a0 a1 a2 b0 b1 b2
  generalize W3.alloc (Obj.cells #[Value.float .f64 al, .float .f64 ah, .bool ab, .float .f64 bl, .float .f64 bh, .bool bb] 34) = W4 at N4 P0 P1 P2 ⊢
  refine Calls.mono (good2_any N4.out hal hah hbl hbh) ?_
  rintro e w1 ⟨rfl, bw⟩
  have A1 : Hid (w1.heap[w.heap.size]? = some (Obj.cells #[Value.float .f64 al, .float .f64 ah, .bool ab] 34)) := (bw.block _ (blk_lt P0.out.1)).trans P0.out.1
  have B1 : Hid (w1.heap[w.heap.size + 1]? = some (Obj.cells #[Value.float .f64 bl, .float .f64 bh, .bool bb] 34)) := (bw.block _ (blk_lt P1.out.1)).trans P1.out.1
  have R1 : Hid (w1.heap[w.heap.size + 1 + 1]? = some (Obj.cells #[Value.float .f64 0, .float .f64 0, .bool false] 34)) := (bw.block _ (blk_lt P2.out.1)).trans P2.out.1
  have C1 : Hid (Below w.heap.size w w1) := P0.out.2.trans (bw.mono P0.out.2.size)
  clear bw N4 P0 P1 P2
  rw [hgd]
  obtain ⟨a0, a1, a2⟩ := cells3 A1.out
  obtain ⟨b0, b1, b2⟩ := cells3 B1.out
  go_wp2_with fail
  refine Calls.mono (has_any bl bh 0 bb hbl hbh _) ?_
  rintro e wh ⟨rfl, bw⟩
  rw [hz, decide_eq_true HG.out]
  have A1' : Hid _ := (bw.block _ (blk_lt A1.out)).trans A1.out
  have B1' : Hid _ := (bw.block _ (blk_lt B1.out)).trans B1.out
  have R1' : Hid _ := (bw.block _ (blk_lt R1.out)).trans R1.out
  have C1' : Hid (Below w.heap.size w wh) := C1.out.trans (bw.mono C1.out.size)
  clear bw A1 B1 R1 C1 a0 a1 a2 b0 b1 b2
  obtain ⟨a0, a1, a2⟩ := cells3 A1'.out
  obtain ⟨b0, b1, b2⟩ := cells3 B1'.out
  go_wp2_with fail
  refine Calls.mono (farthest_any 61 al ah bl bh ab bb _) ?_
  rintro e w2 ⟨v, rfl, FA⟩
  have R2 : Hid _ := (FA.bel.block _ (blk_lt R1'.out)).trans R1'.out
  have C2 : Hid (Below w.heap.size w w2) := C1'.out.trans (FA.bel.mono C1'.out.size)
  obtain ⟨caps, rfl, FT⟩ := FA.tells (enters_of Tryz.func61 (by kernel_rfl) rfl)
  have TP : Hid _ := FT _ _ _ _ _ HP.out
  have TQ : Hid _ := FT _ _ _ _ _ HQ.out
  clear FA FT R1' C1' A1' B1' a0 a1 a2 b0 b1 b2
  go_wp2_with fail
  refine Calls.mono (spanOf_any 82 caps (enters_of Tryz.func82 (by kernel_rfl) rfl) _ _ _ TP.out TQ.out) ?_
  rintro e w3 ⟨rfl, bw⟩
  generalize hrr : spOf (far4 2 p1 p2 p3 p4) (far4 1 q1 q2 q3 q4) = rr
  have HRR : Hid (spOf (far4 2 p1 p2 p3 p4) (far4 1 q1 q2 q3 q4) = rr) := hrr
  clear hrr
  have R3 : Hid _ := (bw.block _ (blk_lt R2.out)).trans R2.out
  have C3 : Hid (Below w.heap.size w w3) := C2.out.trans (bw.mono C2.out.size)
  clear bw R2 C2 TP TQ
  obtain ⟨r0, r1, r2⟩ := cells3 R3.out
  have fz := fun j => frozen_of_row _ _ j _ _ R3.out
  go_wp2_with fail
  refine bodyPost_ret (v := .agg #[.float .f64 rr.1, .float .f64 rr.2.1, .bool rr.2.2]) (res_sp _ 4 (by kernel_rfl) _ _ (w.heap.size + 1 + 1) _ _ _ ?_ (setsp_heap _ _ _ R3.out)) rfl ?_
  · rfl
  · exact ⟨by rw [HRR.out], below_setsp _ _ _ C3.out (by omega)⟩
set_option maxRecDepth 100000 in
set_option maxHeartbeats 2000000 in
theorem spDivB_any (al ah bl bh : Nat) (ab bb : Bool) (hal : al < 18446744073709551616) (hah : ah < 18446744073709551616) (hbl : bl < 18446744073709551616) (hbh : bh < 18446744073709551616) (hg : ¬ (Good al ah ab ∧ Good bl bh bb)) :
    Ans 34 #[.agg #[.float .f64 al, .float .f64 ah, .bool ab], .agg #[.float .f64 bl, .float .f64 bh, .bool bb]] (0, 0, true) := by
  intro w
  have hgd : decide (Good al ah ab ∧ Good bl bh bb) = false := decide_eq_false hg
  clear hg
  obtain ⟨g0, g1, g2, gz, gb⟩ := alloc3_facts w (Obj.cells #[Value.float .f64 al, .float .f64 ah, .bool ab] 34) (Obj.cells #[Value.float .f64 bl, .float .f64 bh, .bool bb] 34) (Obj.cells #[Value.float .f64 0, .float .f64 0, .bool false] 34)
  have G0 : Hid _ := g0
  have G1 : Hid _ := g1
  have G2 : Hid _ := g2
  have GB : Hid _ := gb
  clear g0 g1 g2 gz gb
  have hsf := run_store_f
  go_enter Tryz.func34, Tryz.ntmps34
  go_upto_region 1 with fail
  generalize (((w.alloc (Obj.cells #[Value.float .f64 al, .float .f64 ah, .bool ab] 34)).alloc (Obj.cells #[Value.float .f64 bl, .float .f64 bh, .bool bb] 34)).alloc (Obj.cells #[Value.float .f64 0, .float .f64 0, .bool false] 34)) = W3 at G0 G1 G2 GB ⊢
  obtain ⟨a0, a1, a2⟩ := cells3 G0.out
  obtain ⟨b0, b1, b2⟩ := cells3 G1.out
  have N4 : Hid _ := heap_alloc_new W3 (Obj.cells #[Value.float .f64 al, .float .f64 ah, .bool ab, .float .f64 bl, .float .f64 bh, .bool bb] 34)
  have P0 : Hid _ := alloc4 G0.out GB.out (Obj.cells #[Value.float .f64 al, .float .f64 ah, .bool ab, .float .f64 bl, .float .f64 bh, .bool bb] 34)
  have P1 : Hid _ := alloc4 G1.out GB.out (Obj.cells #[Value.float .f64 al, .float .f64 ah, .bool ab, .float .f64 bl, .float .f64 bh, .bool bb] 34)
  have P2 : Hid _ := alloc4 G2.out GB.out (Obj.cells #[Value.float .f64 al, .float .f64 ah, .bool ab, .float .f64 bl, .float .f64 bh, .bool bb] 34)
  clear G0 G1 G2 GB
  go_wp2_with fail
  clear a0 a1 a2 b0 b1 b2
  generalize W3.alloc (Obj.cells #[Value.float .f64 al, .float .f64 ah, .bool ab, .float .f64 bl, .float .f64 bh, .bool bb] 34) = W4 at N4 P0 P1 P2 ⊢
  refine Calls.mono (good2_any N4.out hal hah hbl hbh) ?_
  rintro e w1 ⟨rfl, bw⟩
  have A1 : Hid (w1.heap[w.heap.size]? = some (Obj.cells #[Value.float .f64 al, .float .f64 ah, .bool ab] 34)) := (bw.block _ (blk_lt P0.out.1)).trans P0.out.1
  have B1 : Hid (w1.heap[w.heap.size + 1]? = some (Obj.cells #[Value.float .f64 bl, .float .f64 bh, .bool bb] 34)) := (bw.block _ (blk_lt P1.out.1)).trans P1.out.1
  have R1 : Hid (w1.heap[w.heap.size + 1 + 1]? = some (Obj.cells #[Value.float .f64 0, .float .f64 0, .bool false] 34)) := (bw.block _ (blk_lt P2.out.1)).trans P2.out.1
  have C1 : Hid (Below w.heap.size w w1) := P0.out.2.trans (bw.mono P0.out.2.size)
  clear bw N4 P0 P1 P2
  rw [hgd]
  go_wp2_with fail
  refine Calls.mono (spBad_any _) ?_
  rintro e w2 ⟨rfl, bw⟩
  have R2 : Hid _ := (bw.block _ (blk_lt R1.out)).trans R1.out
  have C2 : Hid (Below w.heap.size w w2) := C1.out.trans (bw.mono C1.out.size)
  clear bw
  obtain ⟨r0, r1, r2⟩ := cells3 R2.out
  have fz := fun j => frozen_of_row _ _ j _ _ R2.out
  go_wp2_with fail
  refine bodyPost_ret (v := .agg #[.float .f64 0, .float .f64 0, .bool true]) (res_sp _ 4 (by kernel_rfl) _ _ (w.heap.size + 1 + 1) _ _ _ ?_ (setsp_heap _ _ _ R2.out)) rfl ?_
  · rfl
  · exact ⟨rfl, below_setsp _ _ _ C2.out (by omega)⟩
set_option maxRecDepth 100000 in
set_option maxHeartbeats 2000000 in
theorem spDivZ_any (al ah bl bh : Nat) (ab bb : Bool) (hal : al < 18446744073709551616) (hah : ah < 18446744073709551616) (hbl : bl < 18446744073709551616) (hbh : bh < 18446744073709551616) (hg : Good al ah ab ∧ Good bl bh bb) (hz : hasB bl bh 0 = true) :
    Ans 34 #[.agg #[.float .f64 al, .float .f64 ah, .bool ab], .agg #[.float .f64 bl, .float .f64 bh, .bool bb]] (0, 0, true) := by
  intro w
  have HG : Hid (Good bl bh bb) := hg.2
  have hgd : decide (Good al ah ab ∧ Good bl bh bb) = true := decide_eq_true hg
  clear hg
  obtain ⟨g0, g1, g2, gz, gb⟩ := alloc3_facts w (Obj.cells #[Value.float .f64 al, .float .f64 ah, .bool ab] 34) (Obj.cells #[Value.float .f64 bl, .float .f64 bh, .bool bb] 34) (Obj.cells #[Value.float .f64 0, .float .f64 0, .bool false] 34)
  have G0 : Hid _ := g0
  have G1 : Hid _ := g1
  have G2 : Hid _ := g2
  have GB : Hid _ := gb
  clear g0 g1 g2 gz gb
  have hsf := run_store_f
  go_enter Tryz.func34, Tryz.ntmps34
  go_upto_region 1 with fail
  generalize (((w.alloc (Obj.cells #[Value.float .f64 al, .float .f64 ah, .bool ab] 34)).alloc (Obj.cells #[Value.float .f64 bl, .float .f64 bh, .bool bb] 34)).alloc (Obj.cells #[Value.float .f64 0, .float .f64 0, .bool false] 34)) = W3 at G0 G1 G2 GB ⊢
  obtain ⟨a0, a1, a2⟩ := cells3 G0.out
  obtain ⟨b0, b1, b2⟩ := cells3 G1.out
  have N4 : Hid _ := heap_alloc_new W3 (Obj.cells #[Value.float .f64 al, .float .f64 ah, .bool ab, .float .f64 bl, .float .f64 bh, .bool bb] 34)
  have P0 : Hid _ := alloc4 G0.out GB.out (Obj.cells #[Value.float .f64 al, .float .f64 ah, .bool ab, .float .f64 bl, .float .f64 bh, .bool bb] 34)
  have P1 : Hid _ := alloc4 G1.out GB.out (Obj.cells #[Value.float .f64 al, .float .f64 ah, .bool ab, .float .f64 bl, .float .f64 bh, .bool bb] 34)
  have P2 : Hid _ := alloc4 G2.out GB.out (Obj.cells #[Value.float .f64 al, .float .f64 ah, .bool ab, .float .f64 bl, .float .f64 bh, .bool bb] 34)
  clear G0 G1 G2 GB
  go_wp2_with fail
  clear a0 a1 a2 b0 b1 b2
  generalize W3.alloc (Obj.cells #[Value.float .f64 al, .float .f64 ah, .bool ab, .float .f64 bl, .float .f64 bh, .bool bb] 34) = W4 at N4 P0 P1 P2 ⊢
  refine Calls.mono (good2_any N4.out hal hah hbl hbh) ?_
  rintro e w1 ⟨rfl, bw⟩
  have A1 : Hid (w1.heap[w.heap.size]? = some (Obj.cells #[Value.float .f64 al, .float .f64 ah, .bool ab] 34)) := (bw.block _ (blk_lt P0.out.1)).trans P0.out.1
  have B1 : Hid (w1.heap[w.heap.size + 1]? = some (Obj.cells #[Value.float .f64 bl, .float .f64 bh, .bool bb] 34)) := (bw.block _ (blk_lt P1.out.1)).trans P1.out.1
  have R1 : Hid (w1.heap[w.heap.size + 1 + 1]? = some (Obj.cells #[Value.float .f64 0, .float .f64 0, .bool false] 34)) := (bw.block _ (blk_lt P2.out.1)).trans P2.out.1
  have C1 : Hid (Below w.heap.size w w1) := P0.out.2.trans (bw.mono P0.out.2.size)
  clear bw N4 P0 P1 P2
  rw [hgd]
  obtain ⟨a0, a1, a2⟩ := cells3 A1.out
  obtain ⟨b0, b1, b2⟩ := cells3 B1.out
  go_wp2_with fail
  refine Calls.mono (has_any bl bh 0 bb hbl hbh _) ?_
  rintro e wh ⟨rfl, bw⟩
  rw [hz, decide_eq_true HG.out]
  have R1' : Hid _ := (bw.block _ (blk_lt R1.out)).trans R1.out
  have C1' : Hid (Below w.heap.size w wh) := C1.out.trans (bw.mono C1.out.size)
  clear bw A1 B1 R1 C1 a0 a1 a2 b0 b1 b2
  go_wp2_with fail
  refine Calls.mono (spBad_any _) ?_
  rintro e w2 ⟨rfl, bw⟩
  have R2 : Hid _ := (bw.block _ (blk_lt R1'.out)).trans R1'.out
  have C2 : Hid (Below w.heap.size w w2) := C1'.out.trans (bw.mono C1'.out.size)
  clear bw
  obtain ⟨r0, r1, r2⟩ := cells3 R2.out
  have fz := fun j => frozen_of_row _ _ j _ _ R2.out
  go_wp2_with fail
  refine bodyPost_ret (v := .agg #[.float .f64 0, .float .f64 0, .bool true]) (res_sp _ 4 (by kernel_rfl) _ _ (w.heap.size + 1 + 1) _ _ _ ?_ (setsp_heap _ _ _ R2.out)) rfl ?_
  · rfl
  · exact ⟨rfl, below_setsp _ _ _ C2.out (by omega)⟩
theorem good_mono {lo hi : Nat} {b : Bool} (h : Good lo hi b) : fval lo ≤ fval hi := (srung_le lo hi).1 h.2.2.2
theorem apart_zero {bl bh : Nat} {bb : Bool} (hg : Good bl bh bb) (hz : hasB bl bh 0 = false) : 0 < fval bl * fval bh := by
  have h0 : srung 0 = 0 := by decide
  have h1 : frung 0 ≤ infK := by decide
  have k1 : frung bl ≤ infK := Nat.le_of_lt hg.2.1
  have k2 : frung bh ≤ infK := Nat.le_of_lt hg.2.2.1
  have hn : ¬ (srung bl ≤ 0 ∧ 0 ≤ srung bh) := by
    intro c
    unfold hasB leF at hz
    rw [h0, decide_eq_true ⟨k1, h1, c.1⟩, decide_eq_true ⟨h1, k2, c.2⟩] at hz
    cases hz
  have hle := hg.2.2.2
  rcases Int.lt_or_le 0 (srung bl) with c | c
  · exact Int.mul_pos ((srung_pos _).1 c) ((srung_pos _).1 (by omega))
  · exact Int.mul_pos_of_neg_of_neg ((srung_neg _).1 (by omega)) ((srung_neg _).1 (by omega))
theorem div4_any (d : Int) (al ah bl bh : Nat) (hal : al < 18446744073709551616) (hah : ah < 18446744073709551616) (hbl : bl < 18446744073709551616) (hbh : bh < 18446744073709551616) (f1 : Fin al) (f2 : Fin ah) (f3 : Fin bl) (f4 : Fin bh) (h0 : 0 < fval bl * fval bh) (E : Nat) (hE : E = 1074) :
    ∃ p1 p2 p3 p4, Four 61 d al ah bl bh p1 p2 p3 p4 ∧ RndB d (fval al * fval bh * ((2 ^ E : Nat) : Int)) (fval bl * fval bh).natAbs p1 ∧ RndB d (fval al * fval bl * ((2 ^ E : Nat) : Int)) (fval bl * fval bh).natAbs p2 ∧ RndB d (fval ah * fval bh * ((2 ^ E : Nat) : Int)) (fval bl * fval bh).natAbs p3 ∧ RndB d (fval ah * fval bl * ((2 ^ E : Nat) : Int)) (fval bl * fval bh).natAbs p4 := by
  obtain ⟨p1, r1, -, c1⟩ := div_any d al bl hal hbl
  obtain ⟨p2, r2, -, c2⟩ := div_any d al bh hal hbh
  obtain ⟨p3, r3, -, c3⟩ := div_any d ah bl hah hbl
  obtain ⟨p4, r4, -, c4⟩ := div_any d ah bh hah hbh
  have nz : ∀ x, fval x ≠ 0 → frung x ≠ 0 := by
    intro x hx c
    apply hx
    have := fval_abs x
    rw [c, rmag_zero] at this; omega
  have n1 : fval bl ≠ 0 := by intro c; rw [c, Int.zero_mul] at h0; omega
  have n2 : fval bh ≠ 0 := by intro c; rw [c, Int.mul_zero] at h0; omega
  have hc : fval bh * fval bl = fval bl * fval bh := Int.mul_comm _ _
  have b1 := (share_rndZ (c := bh) h0 (r1 f1 f3 (nz _ n1) E hE)).b
  have b2 := (share_rndZ (c := bl) (by rw [hc]; exact h0) (r2 f1 f4 (nz _ n2) E hE)).b
  have b3 := (share_rndZ (c := bh) h0 (r3 f2 f3 (nz _ n1) E hE)).b
  have b4 := (share_rndZ (c := bl) (by rw [hc]; exact h0) (r4 f2 f4 (nz _ n2) E hE)).b
  rw [hc] at b2 b4
  exact ⟨p1, p2, p3, p4, ⟨⟨b1.fin, b1.can⟩, ⟨b2.fin, b2.can⟩, ⟨b3.fin, b3.can⟩, ⟨b4.fin, b4.can⟩, c1, c2, c3, c4⟩, b1, b2, b3, b4⟩
/-- The span of all products. -/
def MulR (al ah bl bh : Nat) (ab bb : Bool) (E : Nat) (r : Nat × Nat × Bool) : Prop :=
  if Good al ah ab ∧ Good bl bh bb then SpR (min4 (fval al * fval bl) (fval al * fval bh) (fval ah * fval bl) (fval ah * fval bh)) (max4 (fval al * fval bl) (fval al * fval bh) (fval ah * fval bl) (fval ah * fval bh)) (2 ^ E) r else r = (0, 0, true)
/-- The span of all quotients. -/
def DivR (al ah bl bh : Nat) (ab bb : Bool) (E : Nat) (r : Nat × Nat × Bool) : Prop :=
  if Good al ah ab ∧ Good bl bh bb ∧ hasB bl bh 0 = false then SpR (min4 (fval al * fval bh * ((2 ^ E : Nat) : Int)) (fval al * fval bl * ((2 ^ E : Nat) : Int)) (fval ah * fval bh * ((2 ^ E : Nat) : Int)) (fval ah * fval bl * ((2 ^ E : Nat) : Int))) (max4 (fval al * fval bh * ((2 ^ E : Nat) : Int)) (fval al * fval bl * ((2 ^ E : Nat) : Int)) (fval ah * fval bh * ((2 ^ E : Nat) : Int)) (fval ah * fval bl * ((2 ^ E : Nat) : Int))) (fval bl * fval bh).natAbs r else r = (0, 0, true)
theorem MulR.uniq {al ah bl bh : Nat} {ab bb : Bool} {E : Nat} {r s : Nat × Nat × Bool} (h : MulR al ah bl bh ab bb E r) (h' : MulR al ah bl bh ab bb E s) : r = s := by
  unfold MulR at h h'; split at h
  · rename_i c; rw [if_pos c] at h'; exact h.uniq h'
  · rename_i c; rw [if_neg c] at h'; rw [h, h']
theorem DivR.uniq {al ah bl bh : Nat} {ab bb : Bool} {E : Nat} {r s : Nat × Nat × Bool} (h : DivR al ah bl bh ab bb E r) (h' : DivR al ah bl bh ab bb E s) : r = s := by
  unfold DivR at h h'; split at h
  · rename_i c; rw [if_pos c] at h'; exact h.uniq h'
  · rename_i c; rw [if_neg c] at h'; rw [h, h']
theorem spMul_any (al ah bl bh : Nat) (ab bb : Bool) (hal : al < 18446744073709551616) (hah : ah < 18446744073709551616) (hbl : bl < 18446744073709551616) (hbh : bh < 18446744073709551616) (E : Nat) (hE : E = 1074) :
    ∃ r, MulR al ah bl bh ab bb E r ∧ Ans 32 #[.agg #[.float .f64 al, .float .f64 ah, .bool ab], .agg #[.float .f64 bl, .float .f64 bh, .bool bb]] r := by
  by_cases hg : Good al ah ab ∧ Good bl bh bb
  · obtain ⟨p1, p2, p3, p4, hp, x1, x2, x3, x4⟩ := mul4_any 2 al ah bl bh hal hah hbl hbh hg.1.2.1 hg.1.2.2.1 hg.2.2.1 hg.2.2.2.1 E hE
    obtain ⟨q1, q2, q3, q4, hq, y1, y2, y3, y4⟩ := mul4_any 1 al ah bl bh hal hah hbl hbh hg.1.2.1 hg.1.2.2.1 hg.2.2.1 hg.2.2.2.1 E hE
    refine ⟨_, ?_, spMulG_any al ah bl bh ab bb hal hah hbl hbh p1 p2 p3 p4 q1 q2 q3 q4 hg hp hq⟩
    unfold MulR; rw [if_pos hg]
    exact SpR.of_b (far4_down (Nat.two_pow_pos E) x1 x2 x3 x4) (far4_up (Nat.two_pow_pos E) y1 y2 y3 y4)
  · exact ⟨(0, 0, true), by unfold MulR; rw [if_neg hg], spMulB_any al ah bl bh ab bb hal hah hbl hbh hg⟩
theorem spDiv_any (al ah bl bh : Nat) (ab bb : Bool) (hal : al < 18446744073709551616) (hah : ah < 18446744073709551616) (hbl : bl < 18446744073709551616) (hbh : bh < 18446744073709551616) (E : Nat) (hE : E = 1074) :
    ∃ r, DivR al ah bl bh ab bb E r ∧ Ans 34 #[.agg #[.float .f64 al, .float .f64 ah, .bool ab], .agg #[.float .f64 bl, .float .f64 bh, .bool bb]] r := by
  by_cases hg : Good al ah ab ∧ Good bl bh bb
  · by_cases hz : hasB bl bh 0 = false
    · have h0 := apart_zero hg.2 hz
      obtain ⟨p1, p2, p3, p4, hp, x1, x2, x3, x4⟩ := div4_any 2 al ah bl bh hal hah hbl hbh hg.1.2.1 hg.1.2.2.1 hg.2.2.1 hg.2.2.2.1 h0 E hE
      obtain ⟨q1, q2, q3, q4, hq, y1, y2, y3, y4⟩ := div4_any 1 al ah bl bh hal hah hbl hbh hg.1.2.1 hg.1.2.2.1 hg.2.2.1 hg.2.2.2.1 h0 E hE
      refine ⟨_, ?_, spDivG_any al ah bl bh ab bb hal hah hbl hbh p1 p2 p3 p4 q1 q2 q3 q4 hg hz hp hq⟩
      unfold DivR; rw [if_pos ⟨hg.1, hg.2, hz⟩]
      exact SpR.of_b (far4_down (by omega) x1 x2 x3 x4) (far4_up (by omega) y1 y2 y3 y4)
    · exact ⟨(0, 0, true), by unfold DivR; rw [if_neg (fun c => hz c.2.2)], spDivZ_any al ah bl bh ab bb hal hah hbl hbh hg (by simpa using hz)⟩
  · exact ⟨(0, 0, true), by unfold DivR; rw [if_neg (fun c => hg ⟨c.1, c.2.1⟩)], spDivB_any al ah bl bh ab bb hal hah hbl hbh hg⟩
end Go.Proofs.YtbncdcenckagcaaGreat

namespace Go.Proofs.YtbncdcenckagcaaGreat
open Go.RowKit
set_option linter.unusedVariables false

theorem sp_m1 : makeS 13835058055282163712 4613937818241073152 = (13835058055282163712, 4613937818241073152, false) := by decide
theorem sp_m2 : makeS 13840687554816376832 4619567317775286272 = (13840687554816376832, 4619567317775286272, false) := by decide
theorem sp_m3 : makeS 4607182418800017408 4611686018427387904 = (4607182418800017408, 4611686018427387904, false) := by decide
theorem sp_m4 : makeS 4613937818241073152 4616189618054758400 = (4613937818241073152, 4616189618054758400, false) := by decide
theorem sp_m5 : makeS 4607182418800017408 4607182418800017408 = (4607182418800017408, 4607182418800017408, false) := by decide
theorem sp_m6 : makeS 13830554455654793216 4607182418800017408 = (13830554455654793216, 4607182418800017408, false) := by decide
theorem sp_a : MulR 13835058055282163712 4613937818241073152 13840687554816376832 4619567317775286272 false false 1074 (13848005904210853888, 4626604192193052672, false) := by
  unfold MulR
  rw [if_pos (by decide)]
  exact ⟨(13848005904210853888, true), (4626604192193052672, true), ⟨4624633867356078080, ⟨by decide +kernel, by decide +kernel⟩, by decide +kernel⟩, ⟨4626604192193052672, ⟨by decide +kernel, by decide +kernel⟩, by decide +kernel⟩, by decide⟩
theorem sp_b : DivR 4607182418800017408 4611686018427387904 4613937818241073152 4616189618054758400 false false 1074 (4598175219545276416, 4604180019048437078, false) := by
  unfold DivR
  rw [if_pos (by decide)]
  exact ⟨(4598175219545276416, true), (4604180019048437078, true), ⟨4598175219545276416, ⟨by decide +kernel, by decide +kernel⟩, by decide +kernel⟩, ⟨4604180019048437077, ⟨by decide +kernel, by decide +kernel⟩, by decide +kernel⟩, by decide⟩
theorem sp_c : DivR 4607182418800017408 4607182418800017408 13830554455654793216 4607182418800017408 false false 1074 (0, 0, true) := by
  unfold DivR
  rw [if_neg (by decide)]
theorem make_at {lo hi : Nat} (hlo : lo < 18446744073709551616) (hhi : hi < 18446744073709551616) {r : Nat × Nat × Bool} (h : makeS lo hi = r) : Ans 33 #[.float .f64 lo, .float .f64 hi] r := by
  intro w; have := make_any lo hi hlo hhi w; rw [h] at this; exact this
set_option maxRecDepth 100000 in
set_option maxHeartbeats 2000000 in
theorem spStarted_any (w : World) : Calls Tryz.prog 11 #[] w fun e w' => e = .returned (.bool true) ∧ Below w.heap.size w w' := by
  have m1 : Hid _ := make_at (by decide) (by decide) sp_m1
  have m2 : Hid _ := make_at (by decide) (by decide) sp_m2
  have m3 : Hid _ := make_at (by decide) (by decide) sp_m3
  have m4 : Hid _ := make_at (by decide) (by decide) sp_m4
  have m5 : Hid _ := make_at (by decide) (by decide) sp_m5
  have m6 : Hid _ := make_at (by decide) (by decide) sp_m6
  obtain ⟨ra, ha, ca⟩ := spMul_any 13835058055282163712 4613937818241073152 13840687554816376832 4619567317775286272 false false (by decide) (by decide) (by decide) (by decide) 1074 rfl
  obtain rfl := ha.uniq sp_a
  obtain ⟨rb, hb, cb⟩ := spDiv_any 4607182418800017408 4611686018427387904 4613937818241073152 4616189618054758400 false false (by decide) (by decide) (by decide) (by decide) 1074 rfl
  obtain rfl := hb.uniq sp_b
  obtain ⟨rc, hc, cc⟩ := spDiv_any 4607182418800017408 4607182418800017408 13830554455654793216 4607182418800017408 false false (by decide) (by decide) (by decide) (by decide) 1074 rfl
  obtain rfl := hc.uniq sp_c
  have CA : Hid _ := ca
  have CB : Hid _ := cb
  have CC : Hid _ := cc
  clear ha hb hc ca cb cc
  have hsf := run_store_f
  have hfl := float_int
  go_enter Tryz.func11, Tryz.ntmps11
  have B0 : Hid (Below w.heap.size w w) := Below.refl _ _
  have B0 : Hid (Below w.heap.size w w) := Below.refl _ _
  have B0 : Hid (Below w.heap.size w w) := Below.refl _ _
  have B0 : Hid (Below w.heap.size w w) := Below.refl _ _
  go_wp2_with fail
  refine Calls.mono (m1.out _) ?_
  rintro e w1 ⟨rfl, bw⟩
  have B1 : Hid (Below w.heap.size w w1) := B0.out.trans (bw.mono B0.out.size)
  clear bw B0
  go_wp2_with fail
  refine Calls.mono (m2.out _) ?_
  rintro e w2 ⟨rfl, bw⟩
  have B2 : Hid (Below w.heap.size w w2) := B1.out.trans (bw.mono B1.out.size)
  clear bw B1
  go_wp2_with fail
  refine Calls.mono (CA.out _) ?_
  rintro e w3 ⟨rfl, bw⟩
  have B3 : Hid (Below w.heap.size w w3) := B2.out.trans (bw.mono B2.out.size)
  clear bw B2
  go_upto_region 2 with fail
  have Ka4 : Hid _ := heap_alloc_new w3 (Obj.cells #[Value.float .f64 13848005904210853888, .float .f64 4626604192193052672, .bool false] 34)
  have B4 : Hid (Below w.heap.size w (w3.alloc (Obj.cells #[Value.float .f64 13848005904210853888, .float .f64 4626604192193052672, .bool false] 34))) := B3.out.alloc B3.out.size _
  generalize w3.alloc (Obj.cells #[Value.float .f64 13848005904210853888, .float .f64 4626604192193052672, .bool false] 34) = w4 at Ka4 B4 ⊢
  obtain ⟨Pa, hPa⟩ : ∃ P, w3.heap.size = P := ⟨_, rfl⟩
  rw [hPa] at Ka4 ⊢
  clear hPa B3
  go_wp2_with fail
  refine Calls.mono (m3.out _) ?_
  rintro e w5 ⟨rfl, bw⟩
  have Ka5 : Hid _ := (bw.block _ (blk_lt Ka4.out)).trans Ka4.out
  have B5 : Hid (Below w.heap.size w w5) := B4.out.trans (bw.mono B4.out.size)
  clear bw B4 Ka4
  go_wp2_with fail
  refine Calls.mono (m4.out _) ?_
  rintro e w6 ⟨rfl, bw⟩
  have Ka6 : Hid _ := (bw.block _ (blk_lt Ka5.out)).trans Ka5.out
  have B6 : Hid (Below w.heap.size w w6) := B5.out.trans (bw.mono B5.out.size)
  clear bw B5 Ka5
  go_wp2_with fail
  refine Calls.mono (CB.out _) ?_
  rintro e w7 ⟨rfl, bw⟩
  have Ka7 : Hid _ := (bw.block _ (blk_lt Ka6.out)).trans Ka6.out
  have B7 : Hid (Below w.heap.size w w7) := B6.out.trans (bw.mono B6.out.size)
  clear bw B6 Ka6
  go_upto_region 3 with fail
  have Kb8 : Hid _ := heap_alloc_new w7 (Obj.cells #[Value.float .f64 4598175219545276416, .float .f64 4604180019048437078, .bool false] 34)
  have Ka8 : Hid _ := (alloc4 Ka7.out B7.out (Obj.cells #[Value.float .f64 4598175219545276416, .float .f64 4604180019048437078, .bool false] 34)).1
  have B8 : Hid (Below w.heap.size w (w7.alloc (Obj.cells #[Value.float .f64 4598175219545276416, .float .f64 4604180019048437078, .bool false] 34))) := B7.out.alloc B7.out.size _
  generalize w7.alloc (Obj.cells #[Value.float .f64 4598175219545276416, .float .f64 4604180019048437078, .bool false] 34) = w8 at Kb8 B8 Ka8 ⊢
  obtain ⟨Pb, hPb⟩ : ∃ P, w7.heap.size = P := ⟨_, rfl⟩
  rw [hPb] at Kb8 ⊢
  clear hPb B7 Ka7
  go_wp2_with fail
  refine Calls.mono (m5.out _) ?_
  rintro e w9 ⟨rfl, bw⟩
  have Ka9 : Hid _ := (bw.block _ (blk_lt Ka8.out)).trans Ka8.out
  have Kb9 : Hid _ := (bw.block _ (blk_lt Kb8.out)).trans Kb8.out
  have B9 : Hid (Below w.heap.size w w9) := B8.out.trans (bw.mono B8.out.size)
  clear bw B8 Ka8 Kb8
  go_wp2_with fail
  refine Calls.mono (m6.out _) ?_
  rintro e w10 ⟨rfl, bw⟩
  have Ka10 : Hid _ := (bw.block _ (blk_lt Ka9.out)).trans Ka9.out
  have Kb10 : Hid _ := (bw.block _ (blk_lt Kb9.out)).trans Kb9.out
  have B10 : Hid (Below w.heap.size w w10) := B9.out.trans (bw.mono B9.out.size)
  clear bw B9 Ka9 Kb9
  go_wp2_with fail
  refine Calls.mono (CC.out _) ?_
  rintro e w11 ⟨rfl, bw⟩
  have Ka11 : Hid _ := (bw.block _ (blk_lt Ka10.out)).trans Ka10.out
  have Kb11 : Hid _ := (bw.block _ (blk_lt Kb10.out)).trans Kb10.out
  have B11 : Hid (Below w.heap.size w w11) := B10.out.trans (bw.mono B10.out.size)
  clear bw B10 Ka10 Kb10
  go_upto_region 4 with fail
  have Kc12 : Hid _ := heap_alloc_new w11 (Obj.cells #[Value.float .f64 0, .float .f64 0, .bool true] 34)
  have Ka12 : Hid _ := (alloc4 Ka11.out B11.out (Obj.cells #[Value.float .f64 0, .float .f64 0, .bool true] 34)).1
  have Kb12 : Hid _ := (alloc4 Kb11.out B11.out (Obj.cells #[Value.float .f64 0, .float .f64 0, .bool true] 34)).1
  have B12 : Hid (Below w.heap.size w (w11.alloc (Obj.cells #[Value.float .f64 0, .float .f64 0, .bool true] 34))) := B11.out.alloc B11.out.size _
  generalize w11.alloc (Obj.cells #[Value.float .f64 0, .float .f64 0, .bool true] 34) = w12 at Kc12 B12 Ka12 Kb12 ⊢
  obtain ⟨Pc, hPc⟩ : ∃ P, w11.heap.size = P := ⟨_, rfl⟩
  rw [hPc] at Kc12 ⊢
  clear hPc B11 Ka11 Kb11
  obtain ⟨a0, a1, a2⟩ := cells3 Ka12.out
  obtain ⟨b0, b1, b2⟩ := cells3 Kb12.out
  obtain ⟨c0, c1, c2⟩ := cells3 Kc12.out
  have q1 : ∀ w, (binOp .eql 34 (.agg #[Value.float .f64 13848005904210853888, .float .f64 4626604192193052672, .bool false]) (.agg #[Value.float .f64 13848005904210853888, .float .f64 4626604192193052672, .bool false])).run Tryz.prog w = .ok (.bool true) w := fun w => by kernel_rfl
  have q2 : ∀ w, (binOp .eql 34 (.agg #[Value.float .f64 4598175219545276416, .float .f64 4604180019048437078, .bool false]) (.agg #[Value.float .f64 4598175219545276416, .float .f64 4604180019048437078, .bool false])).run Tryz.prog w = .ok (.bool true) w := fun w => by kernel_rfl
  have q3 : ∀ w, (binOp .eql 34 (.agg #[Value.float .f64 0, .float .f64 0, .bool true]) (.agg #[Value.float .f64 0, .float .f64 0, .bool true])).run Tryz.prog w = .ok (.bool true) w := fun w => by kernel_rfl
  have HF : Hid (∀ w, Calls Tryz.prog 35 #[.int .u64 4604180019048437078] w fun e w' => e = .returned (.float .f64 4604180019048437078) ∧ w' = w) := fun w => float_int 4604180019048437078 w
  have H1 : Hid (∀ w, Calls Tryz.prog 36 #[.agg #[Value.float .f64 13848005904210853888, .float .f64 4626604192193052672, .bool false], .float .f64 4626604192193052672] w fun e w' => e = .returned (.bool true) ∧ Below w.heap.size w w') := fun w => has_any _ _ 4626604192193052672 false (by decide) (by decide) w
  have H2 : Hid (∀ w, Calls Tryz.prog 36 #[.agg #[Value.float .f64 13848005904210853888, .float .f64 4626604192193052672, .bool false], .float .f64 4626885667169763328] w fun e w' => e = .returned (.bool false) ∧ Below w.heap.size w w') := fun w => has_any _ _ 4626885667169763328 false (by decide) (by decide) w
  have H3 : Hid (∀ w, Calls Tryz.prog 37 #[.agg #[Value.float .f64 4598175219545276416, .float .f64 4604180019048437078, .bool false], .agg #[Value.float .f64 13848005904210853888, .float .f64 4626604192193052672, .bool false]] w fun e w' => e = .returned (.bool true) ∧ Below w.heap.size w w') := fun w => inside_any _ _ _ _ false false (by decide) (by decide) (by decide) (by decide) w
  have HC : Hid (∀ wx wy, Below w12.heap.size w12 wx → Below wx.heap.size wx wy → Below w12.heap.size w12 wy ∧ wy.cell? ⟨Pa, 0, none⟩ = some (Value.float .f64 13848005904210853888) ∧ wy.cell? ⟨Pa, 1, none⟩ = some (Value.float .f64 4626604192193052672) ∧ wy.cell? ⟨Pa, 2, none⟩ = some (Value.bool false) ∧ wy.cell? ⟨Pb, 0, none⟩ = some (Value.float .f64 4598175219545276416) ∧ wy.cell? ⟨Pb, 1, none⟩ = some (Value.float .f64 4604180019048437078) ∧ wy.cell? ⟨Pb, 2, none⟩ = some (Value.bool false) ∧ wy.cell? ⟨Pc, 0, none⟩ = some (Value.float .f64 0) ∧ wy.cell? ⟨Pc, 1, none⟩ = some (Value.float .f64 0) ∧ wy.cell? ⟨Pc, 2, none⟩ = some (Value.bool true)) := by
    intro wx wy hx hy
    have h := hx.trans (hy.mono hx.size)
    obtain ⟨d0, d1, d2⟩ := cells3 ((h.block _ (blk_lt Ka12.out)).trans Ka12.out)
    obtain ⟨e0, e1, e2⟩ := cells3 ((h.block _ (blk_lt Kb12.out)).trans Kb12.out)
    obtain ⟨f0, f1, f2⟩ := cells3 ((h.block _ (blk_lt Kc12.out)).trans Kc12.out)
    exact ⟨h, d0, d1, d2, e0, e1, e2, f0, f1, f2⟩
  clear hfl m1 m2 m3 m4 m5 m6 CA CB CC
  go_region_held3 (fun w' => w'.cell? ⟨Pa, 0, none⟩ = some (Value.float .f64 13848005904210853888) ∧ w'.cell? ⟨Pa, 1, none⟩ = some (Value.float .f64 4626604192193052672) ∧ w'.cell? ⟨Pa, 2, none⟩ = some (Value.bool false) ∧ w'.cell? ⟨Pb, 0, none⟩ = some (Value.float .f64 4598175219545276416) ∧ w'.cell? ⟨Pb, 1, none⟩ = some (Value.float .f64 4604180019048437078) ∧ w'.cell? ⟨Pb, 2, none⟩ = some (Value.bool false) ∧ w'.cell? ⟨Pc, 0, none⟩ = some (Value.float .f64 0) ∧ w'.cell? ⟨Pc, 1, none⟩ = some (Value.float .f64 0) ∧ w'.cell? ⟨Pc, 2, none⟩ = some (Value.bool true)) (go_keep) ((first
    | (go_at_call 35; refine Calls.mono (HF.out _) ?_; rintro e wf ⟨rfl, rfl⟩)
    | (go_at_call_of 36 (Value.float FloatKind.f64 4626885667169763328); refine Calls.mono (H2.out _) ?_; rintro e wx2 ⟨rfl, bx2⟩; obtain ⟨bb2, t0, t1, t2, t3, t4, t5, t6, t7, t8⟩ := HC.out _ wx2 (by first | assumption | exact (Below.refl _ _).drew) bx2)
    | (go_at_call 36; refine Calls.mono (H1.out _) ?_; rintro e wx1 ⟨rfl, bx1⟩; obtain ⟨bb1, s0, s1, s2, s3, s4, s5, s6, s7, s8⟩ := HC.out _ wx1 (by first | assumption | exact (Below.refl _ _).drew) bx1)
    | (go_at_call 37; refine Calls.mono (H3.out _) ?_; rintro e wx3 ⟨rfl, bx3⟩; obtain ⟨bb3, u0, u1, u2, u3, u4, u5, u6, u7, u8⟩ := HC.out _ wx3 (by first | assumption | exact (Below.refl _ _).drew) bx3)))
  go_wp2_with fail
  go_ret
  exact ⟨rfl, B12.out.trans (bb3.mono B12.out.size)⟩
end Go.Proofs.YtbncdcenckagcaaGreat
