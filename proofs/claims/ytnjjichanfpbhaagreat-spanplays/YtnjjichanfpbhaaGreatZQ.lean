import Derived.Test.YtnjjichanfpbhaaGreatZP
namespace Go.Proofs.YtnjjichanfpbhaaGreat
open Go.RowKit
set_option linter.unusedVariables false

set_option maxRecDepth 100000 in
set_option maxHeartbeats 2000000 in
theorem spMaxG_any (al ah bl bh : Nat) (ab bb : Bool) (hal : al < 18446744073709551616) (hah : ah < 18446744073709551616) (hbl : bl < 18446744073709551616) (hbh : bh < 18446744073709551616) (hg : Good al ah ab ∧ Good bl bh bb) (x y : Nat) (hx : x < 18446744073709551616) (hy : y < 18446744073709551616)
    (k1 : ∀ ts t w, (Builtin.max_ ts t #[.float .f64 al, .float .f64 bl]).run Tryz.prog w = .ok (.float .f64 x) w) (k2 : ∀ ts t w, (Builtin.max_ ts t #[.float .f64 ah, .float .f64 bh]).run Tryz.prog w = .ok (.float .f64 y) w) :
    Ans 24 #[.agg #[.float .f64 al, .float .f64 ah, .bool ab], .agg #[.float .f64 bl, .float .f64 bh, .bool bb]] (makeS x y) := by
  intro w
  have hgd : decide (Good al ah ab ∧ Good bl bh bb) = true := decide_eq_true hg
  clear hg
  obtain ⟨g0, g1, g2, gz, gb⟩ := alloc3_facts w (Obj.cells #[Value.float .f64 al, .float .f64 ah, .bool ab] 24) (Obj.cells #[Value.float .f64 bl, .float .f64 bh, .bool bb] 24) (Obj.cells #[Value.float .f64 0, .float .f64 0, .bool false] 24)
  have G0 : Hid _ := g0
  have G1 : Hid _ := g1
  have G2 : Hid _ := g2
  have GB : Hid _ := gb
  clear g0 g1 g2 gz gb
  have hsf := run_store_f
  go_enter Tryz.func24, Tryz.ntmps24
  go_upto_region 1 with fail
  generalize (((w.alloc (Obj.cells #[Value.float .f64 al, .float .f64 ah, .bool ab] 24)).alloc (Obj.cells #[Value.float .f64 bl, .float .f64 bh, .bool bb] 24)).alloc (Obj.cells #[Value.float .f64 0, .float .f64 0, .bool false] 24)) = W3 at G0 G1 G2 GB ⊢
  obtain ⟨a0, a1, a2⟩ := cells3 G0.out
  obtain ⟨b0, b1, b2⟩ := cells3 G1.out
  have N4 : Hid _ := heap_alloc_new W3 (Obj.cells #[Value.float .f64 al, .float .f64 ah, .bool ab, .float .f64 bl, .float .f64 bh, .bool bb] 24)
  have P0 : Hid _ := alloc4 G0.out GB.out (Obj.cells #[Value.float .f64 al, .float .f64 ah, .bool ab, .float .f64 bl, .float .f64 bh, .bool bb] 24)
  have P1 : Hid _ := alloc4 G1.out GB.out (Obj.cells #[Value.float .f64 al, .float .f64 ah, .bool ab, .float .f64 bl, .float .f64 bh, .bool bb] 24)
  have P2 : Hid _ := alloc4 G2.out GB.out (Obj.cells #[Value.float .f64 al, .float .f64 ah, .bool ab, .float .f64 bl, .float .f64 bh, .bool bb] 24)
  clear G0 G1 G2 GB
  go_wp2_with fail
  clear a0 a1 a2 b0 b1 b2
  generalize W3.alloc (Obj.cells #[Value.float .f64 al, .float .f64 ah, .bool ab, .float .f64 bl, .float .f64 bh, .bool bb] 24) = W4 at N4 P0 P1 P2 ⊢
  refine Calls.mono (good2_any N4.out hal hah hbl hbh) ?_
  rintro e w1 ⟨rfl, bw⟩
  have A1 : Hid (w1.heap[w.heap.size]? = some (Obj.cells #[Value.float .f64 al, .float .f64 ah, .bool ab] 24)) := (bw.block _ (blk_lt P0.out.1)).trans P0.out.1
  have B1 : Hid (w1.heap[w.heap.size + 1]? = some (Obj.cells #[Value.float .f64 bl, .float .f64 bh, .bool bb] 24)) := (bw.block _ (blk_lt P1.out.1)).trans P1.out.1
  have R1 : Hid (w1.heap[w.heap.size + 1 + 1]? = some (Obj.cells #[Value.float .f64 0, .float .f64 0, .bool false] 24)) := (bw.block _ (blk_lt P2.out.1)).trans P2.out.1
  have C1 : Hid (Below w.heap.size w w1) := P0.out.2.trans (bw.mono P0.out.2.size)
  clear bw N4 P0 P1 P2
  rw [hgd]
  obtain ⟨a0, a1, a2⟩ := cells3 A1.out
  obtain ⟨b0, b1, b2⟩ := cells3 B1.out
  go_wp2_with fail
  refine Calls.mono (make_any x y hx hy _) ?_
  rintro e w3 ⟨rfl, bw⟩
  generalize hrr : makeS x y = rr
  have HRR : Hid (makeS x y = rr) := hrr
  clear hrr
  have R3 : Hid _ := (bw.block _ (blk_lt R1.out)).trans R1.out
  have C3 : Hid (Below w.heap.size w w3) := C1.out.trans (bw.mono C1.out.size)
  clear bw R1 C1 A1 B1 a0 a1 a2 b0 b1 b2
  obtain ⟨r0, r1, r2⟩ := cells3 R3.out
  have fz := fun j => frozen_of_row _ _ j _ _ R3.out
  go_wp2_with fail
  refine bodyPost_ret (v := .agg #[.float .f64 rr.1, .float .f64 rr.2.1, .bool rr.2.2]) (res_sp _ 4 (by kernel_rfl) _ _ (w.heap.size + 1 + 1) _ _ _ ?_ (setsp_heap _ _ _ R3.out)) rfl ?_
  · rfl
  · exact ⟨by rw [HRR.out], below_setsp _ _ _ C3.out (by omega)⟩
set_option maxRecDepth 100000 in
set_option maxHeartbeats 2000000 in
theorem spMaxB_any (al ah bl bh : Nat) (ab bb : Bool) (hal : al < 18446744073709551616) (hah : ah < 18446744073709551616) (hbl : bl < 18446744073709551616) (hbh : bh < 18446744073709551616) (hg : ¬ (Good al ah ab ∧ Good bl bh bb)) :
    Ans 24 #[.agg #[.float .f64 al, .float .f64 ah, .bool ab], .agg #[.float .f64 bl, .float .f64 bh, .bool bb]] (0, 0, true) := by
  intro w
  have hgd : decide (Good al ah ab ∧ Good bl bh bb) = false := decide_eq_false hg
  clear hg
  obtain ⟨g0, g1, g2, gz, gb⟩ := alloc3_facts w (Obj.cells #[Value.float .f64 al, .float .f64 ah, .bool ab] 24) (Obj.cells #[Value.float .f64 bl, .float .f64 bh, .bool bb] 24) (Obj.cells #[Value.float .f64 0, .float .f64 0, .bool false] 24)
  have G0 : Hid _ := g0
  have G1 : Hid _ := g1
  have G2 : Hid _ := g2
  have GB : Hid _ := gb
  clear g0 g1 g2 gz gb
  have hsf := run_store_f
  go_enter Tryz.func24, Tryz.ntmps24
  go_upto_region 1 with fail
  generalize (((w.alloc (Obj.cells #[Value.float .f64 al, .float .f64 ah, .bool ab] 24)).alloc (Obj.cells #[Value.float .f64 bl, .float .f64 bh, .bool bb] 24)).alloc (Obj.cells #[Value.float .f64 0, .float .f64 0, .bool false] 24)) = W3 at G0 G1 G2 GB ⊢
  obtain ⟨a0, a1, a2⟩ := cells3 G0.out
  obtain ⟨b0, b1, b2⟩ := cells3 G1.out
  have N4 : Hid _ := heap_alloc_new W3 (Obj.cells #[Value.float .f64 al, .float .f64 ah, .bool ab, .float .f64 bl, .float .f64 bh, .bool bb] 24)
  have P0 : Hid _ := alloc4 G0.out GB.out (Obj.cells #[Value.float .f64 al, .float .f64 ah, .bool ab, .float .f64 bl, .float .f64 bh, .bool bb] 24)
  have P1 : Hid _ := alloc4 G1.out GB.out (Obj.cells #[Value.float .f64 al, .float .f64 ah, .bool ab, .float .f64 bl, .float .f64 bh, .bool bb] 24)
  have P2 : Hid _ := alloc4 G2.out GB.out (Obj.cells #[Value.float .f64 al, .float .f64 ah, .bool ab, .float .f64 bl, .float .f64 bh, .bool bb] 24)
  clear G0 G1 G2 GB
  go_wp2_with fail
  clear a0 a1 a2 b0 b1 b2
  generalize W3.alloc (Obj.cells #[Value.float .f64 al, .float .f64 ah, .bool ab, .float .f64 bl, .float .f64 bh, .bool bb] 24) = W4 at N4 P0 P1 P2 ⊢
  refine Calls.mono (good2_any N4.out hal hah hbl hbh) ?_
  rintro e w1 ⟨rfl, bw⟩
  have A1 : Hid (w1.heap[w.heap.size]? = some (Obj.cells #[Value.float .f64 al, .float .f64 ah, .bool ab] 24)) := (bw.block _ (blk_lt P0.out.1)).trans P0.out.1
  have B1 : Hid (w1.heap[w.heap.size + 1]? = some (Obj.cells #[Value.float .f64 bl, .float .f64 bh, .bool bb] 24)) := (bw.block _ (blk_lt P1.out.1)).trans P1.out.1
  have R1 : Hid (w1.heap[w.heap.size + 1 + 1]? = some (Obj.cells #[Value.float .f64 0, .float .f64 0, .bool false] 24)) := (bw.block _ (blk_lt P2.out.1)).trans P2.out.1
  have C1 : Hid (Below w.heap.size w w1) := P0.out.2.trans (bw.mono P0.out.2.size)
  clear bw N4 P0 P1 P2
  rw [hgd]
  go_wp2_with fail
  refine Calls.mono (spBad_any _) ?_
  rintro e w2 ⟨rfl, bw⟩
  have R2 : Hid _ := (bw.block _ (blk_lt R1.out)).trans R1.out
  have C2 : Hid (Below w.heap.size w w2) := C1.out.trans (bw.mono C1.out.size)
  clear bw
  obtain ⟨r0, r1, r2⟩ := cells3 R2.out
  have fz := fun j => frozen_of_row _ _ j _ _ R2.out
  go_wp2_with fail
  refine bodyPost_ret (v := .agg #[.float .f64 0, .float .f64 0, .bool true]) (res_sp _ 4 (by kernel_rfl) _ _ (w.heap.size + 1 + 1) _ _ _ ?_ (setsp_heap _ _ _ R2.out)) rfl ?_
  · rfl
  · exact ⟨rfl, below_setsp _ _ _ C2.out (by omega)⟩
theorem spMax_any (al ah bl bh : Nat) (ab bb : Bool) (hal : al < 18446744073709551616) (hah : ah < 18446744073709551616) (hbl : bl < 18446744073709551616) (hbh : bh < 18446744073709551616) :
    ∃ r, BinR (MkR (max (fval al) (fval bl)) (max (fval ah) (fval bh))) al ah bl bh ab bb r ∧ Ans 24 #[.agg #[.float .f64 al, .float .f64 ah, .bool ab], .agg #[.float .f64 bl, .float .f64 bh, .bool bb]] r := by
  by_cases hg : Good al ah ab ∧ Good bl bh bb
  · obtain ⟨x, x1, x2, x3⟩ := run_max (P := Tryz.prog) (Nat.le_of_lt hg.1.2.1) (Nat.le_of_lt hg.2.2.1)
    obtain ⟨y, y1, y2, y3⟩ := run_max (P := Tryz.prog) (Nat.le_of_lt hg.1.2.2.1) (Nat.le_of_lt hg.2.2.2.1)
    have hx : x < 18446744073709551616 ∧ Fin x := by rcases x1 with rfl | rfl; exact ⟨hal, hg.1.2.1⟩; exact ⟨hbl, hg.2.2.1⟩
    have hy : y < 18446744073709551616 ∧ Fin y := by rcases y1 with rfl | rfl; exact ⟨hah, hg.1.2.2.1⟩; exact ⟨hbh, hg.2.2.2.1⟩
    have ex : fval x = max (fval al) (fval bl) := by
      have h1 := srung_le al bl; have h2 := srung_eq x al; have h3 := srung_eq x bl
      rcases x1 with rfl | rfl <;> omega
    have ey : fval y = max (fval ah) (fval bh) := by
      have h1 := srung_le ah bh; have h2 := srung_eq y ah; have h3 := srung_eq y bh
      rcases y1 with rfl | rfl <;> omega
    refine ⟨_, ?_, spMaxG_any al ah bl bh ab bb hal hah hbl hbh hg x y hx.1 hy.1 x3 y3⟩
    unfold BinR; rw [if_pos hg, ← ex, ← ey]
    exact makeS_R hx.1 hy.1 hx.2 hy.2
  · exact ⟨(0, 0, true), by unfold BinR; rw [if_neg hg], spMaxB_any al ah bl bh ab bb hal hah hbl hbh hg⟩
set_option maxRecDepth 100000 in
set_option maxHeartbeats 2000000 in
theorem spHullG_any (al ah bl bh : Nat) (ab bb : Bool) (hal : al < 18446744073709551616) (hah : ah < 18446744073709551616) (hbl : bl < 18446744073709551616) (hbh : bh < 18446744073709551616) (hg : Good al ah ab ∧ Good bl bh bb) (x y : Nat) (hx : x < 18446744073709551616) (hy : y < 18446744073709551616)
    (k1 : ∀ ts t w, (Builtin.min_ ts t #[.float .f64 al, .float .f64 bl]).run Tryz.prog w = .ok (.float .f64 x) w) (k2 : ∀ ts t w, (Builtin.max_ ts t #[.float .f64 ah, .float .f64 bh]).run Tryz.prog w = .ok (.float .f64 y) w) :
    Ans 9 #[.agg #[.float .f64 al, .float .f64 ah, .bool ab], .agg #[.float .f64 bl, .float .f64 bh, .bool bb]] (makeS x y) := by
  intro w
  have hgd : decide (Good al ah ab ∧ Good bl bh bb) = true := decide_eq_true hg
  clear hg
  obtain ⟨g0, g1, g2, gz, gb⟩ := alloc3_facts w (Obj.cells #[Value.float .f64 al, .float .f64 ah, .bool ab] 24) (Obj.cells #[Value.float .f64 bl, .float .f64 bh, .bool bb] 24) (Obj.cells #[Value.float .f64 0, .float .f64 0, .bool false] 24)
  have G0 : Hid _ := g0
  have G1 : Hid _ := g1
  have G2 : Hid _ := g2
  have GB : Hid _ := gb
  clear g0 g1 g2 gz gb
  have hsf := run_store_f
  go_enter Tryz.func9, Tryz.ntmps9
  go_upto_region 1 with fail
  generalize (((w.alloc (Obj.cells #[Value.float .f64 al, .float .f64 ah, .bool ab] 24)).alloc (Obj.cells #[Value.float .f64 bl, .float .f64 bh, .bool bb] 24)).alloc (Obj.cells #[Value.float .f64 0, .float .f64 0, .bool false] 24)) = W3 at G0 G1 G2 GB ⊢
  obtain ⟨a0, a1, a2⟩ := cells3 G0.out
  obtain ⟨b0, b1, b2⟩ := cells3 G1.out
  have N4 : Hid _ := heap_alloc_new W3 (Obj.cells #[Value.float .f64 al, .float .f64 ah, .bool ab, .float .f64 bl, .float .f64 bh, .bool bb] 24)
  have P0 : Hid _ := alloc4 G0.out GB.out (Obj.cells #[Value.float .f64 al, .float .f64 ah, .bool ab, .float .f64 bl, .float .f64 bh, .bool bb] 24)
  have P1 : Hid _ := alloc4 G1.out GB.out (Obj.cells #[Value.float .f64 al, .float .f64 ah, .bool ab, .float .f64 bl, .float .f64 bh, .bool bb] 24)
  have P2 : Hid _ := alloc4 G2.out GB.out (Obj.cells #[Value.float .f64 al, .float .f64 ah, .bool ab, .float .f64 bl, .float .f64 bh, .bool bb] 24)
  clear G0 G1 G2 GB
  go_wp2_with fail
  clear a0 a1 a2 b0 b1 b2
  generalize W3.alloc (Obj.cells #[Value.float .f64 al, .float .f64 ah, .bool ab, .float .f64 bl, .float .f64 bh, .bool bb] 24) = W4 at N4 P0 P1 P2 ⊢
  refine Calls.mono (good2_any N4.out hal hah hbl hbh) ?_
  rintro e w1 ⟨rfl, bw⟩
  have A1 : Hid (w1.heap[w.heap.size]? = some (Obj.cells #[Value.float .f64 al, .float .f64 ah, .bool ab] 24)) := (bw.block _ (blk_lt P0.out.1)).trans P0.out.1
  have B1 : Hid (w1.heap[w.heap.size + 1]? = some (Obj.cells #[Value.float .f64 bl, .float .f64 bh, .bool bb] 24)) := (bw.block _ (blk_lt P1.out.1)).trans P1.out.1
  have R1 : Hid (w1.heap[w.heap.size + 1 + 1]? = some (Obj.cells #[Value.float .f64 0, .float .f64 0, .bool false] 24)) := (bw.block _ (blk_lt P2.out.1)).trans P2.out.1
  have C1 : Hid (Below w.heap.size w w1) := P0.out.2.trans (bw.mono P0.out.2.size)
  clear bw N4 P0 P1 P2
  rw [hgd]
  obtain ⟨a0, a1, a2⟩ := cells3 A1.out
  obtain ⟨b0, b1, b2⟩ := cells3 B1.out
  go_wp2_with fail
  refine Calls.mono (make_any x y hx hy _) ?_
  rintro e w3 ⟨rfl, bw⟩
  generalize hrr : makeS x y = rr
  have HRR : Hid (makeS x y = rr) := hrr
  clear hrr
  have R3 : Hid _ := (bw.block _ (blk_lt R1.out)).trans R1.out
  have C3 : Hid (Below w.heap.size w w3) := C1.out.trans (bw.mono C1.out.size)
  clear bw R1 C1 A1 B1 a0 a1 a2 b0 b1 b2
  obtain ⟨r0, r1, r2⟩ := cells3 R3.out
  have fz := fun j => frozen_of_row _ _ j _ _ R3.out
  go_wp2_with fail
  refine bodyPost_ret (v := .agg #[.float .f64 rr.1, .float .f64 rr.2.1, .bool rr.2.2]) (res_sp _ 4 (by kernel_rfl) _ _ (w.heap.size + 1 + 1) _ _ _ ?_ (setsp_heap _ _ _ R3.out)) rfl ?_
  · rfl
  · exact ⟨by rw [HRR.out], below_setsp _ _ _ C3.out (by omega)⟩
set_option maxRecDepth 100000 in
set_option maxHeartbeats 2000000 in
theorem spHullB_any (al ah bl bh : Nat) (ab bb : Bool) (hal : al < 18446744073709551616) (hah : ah < 18446744073709551616) (hbl : bl < 18446744073709551616) (hbh : bh < 18446744073709551616) (hg : ¬ (Good al ah ab ∧ Good bl bh bb)) :
    Ans 9 #[.agg #[.float .f64 al, .float .f64 ah, .bool ab], .agg #[.float .f64 bl, .float .f64 bh, .bool bb]] (0, 0, true) := by
  intro w
  have hgd : decide (Good al ah ab ∧ Good bl bh bb) = false := decide_eq_false hg
  clear hg
  obtain ⟨g0, g1, g2, gz, gb⟩ := alloc3_facts w (Obj.cells #[Value.float .f64 al, .float .f64 ah, .bool ab] 24) (Obj.cells #[Value.float .f64 bl, .float .f64 bh, .bool bb] 24) (Obj.cells #[Value.float .f64 0, .float .f64 0, .bool false] 24)
  have G0 : Hid _ := g0
  have G1 : Hid _ := g1
  have G2 : Hid _ := g2
  have GB : Hid _ := gb
  clear g0 g1 g2 gz gb
  have hsf := run_store_f
  go_enter Tryz.func9, Tryz.ntmps9
  go_upto_region 1 with fail
  generalize (((w.alloc (Obj.cells #[Value.float .f64 al, .float .f64 ah, .bool ab] 24)).alloc (Obj.cells #[Value.float .f64 bl, .float .f64 bh, .bool bb] 24)).alloc (Obj.cells #[Value.float .f64 0, .float .f64 0, .bool false] 24)) = W3 at G0 G1 G2 GB ⊢
  obtain ⟨a0, a1, a2⟩ := cells3 G0.out
  obtain ⟨b0, b1, b2⟩ := cells3 G1.out
  have N4 : Hid _ := heap_alloc_new W3 (Obj.cells #[Value.float .f64 al, .float .f64 ah, .bool ab, .float .f64 bl, .float .f64 bh, .bool bb] 24)
  have P0 : Hid _ := alloc4 G0.out GB.out (Obj.cells #[Value.float .f64 al, .float .f64 ah, .bool ab, .float .f64 bl, .float .f64 bh, .bool bb] 24)
  have P1 : Hid _ := alloc4 G1.out GB.out (Obj.cells #[Value.float .f64 al, .float .f64 ah, .bool ab, .float .f64 bl, .float .f64 bh, .bool bb] 24)
  have P2 : Hid _ := alloc4 G2.out GB.out (Obj.cells #[Value.float .f64 al, .float .f64 ah, .bool ab, .float .f64 bl, .float .f64 bh, .bool bb] 24)
  clear G0 G1 G2 GB
  go_wp2_with fail
  clear a0 a1 a2 b0 b1 b2
  generalize W3.alloc (Obj.cells #[Value.float .f64 al, .float .f64 ah, .bool ab, .float .f64 bl, .float .f64 bh, .bool bb] 24) = W4 at N4 P0 P1 P2 ⊢
  refine Calls.mono (good2_any N4.out hal hah hbl hbh) ?_
  rintro e w1 ⟨rfl, bw⟩
  have A1 : Hid (w1.heap[w.heap.size]? = some (Obj.cells #[Value.float .f64 al, .float .f64 ah, .bool ab] 24)) := (bw.block _ (blk_lt P0.out.1)).trans P0.out.1
  have B1 : Hid (w1.heap[w.heap.size + 1]? = some (Obj.cells #[Value.float .f64 bl, .float .f64 bh, .bool bb] 24)) := (bw.block _ (blk_lt P1.out.1)).trans P1.out.1
  have R1 : Hid (w1.heap[w.heap.size + 1 + 1]? = some (Obj.cells #[Value.float .f64 0, .float .f64 0, .bool false] 24)) := (bw.block _ (blk_lt P2.out.1)).trans P2.out.1
  have C1 : Hid (Below w.heap.size w w1) := P0.out.2.trans (bw.mono P0.out.2.size)
  clear bw N4 P0 P1 P2
  rw [hgd]
  go_wp2_with fail
  refine Calls.mono (spBad_any _) ?_
  rintro e w2 ⟨rfl, bw⟩
  have R2 : Hid _ := (bw.block _ (blk_lt R1.out)).trans R1.out
  have C2 : Hid (Below w.heap.size w w2) := C1.out.trans (bw.mono C1.out.size)
  clear bw
  obtain ⟨r0, r1, r2⟩ := cells3 R2.out
  have fz := fun j => frozen_of_row _ _ j _ _ R2.out
  go_wp2_with fail
  refine bodyPost_ret (v := .agg #[.float .f64 0, .float .f64 0, .bool true]) (res_sp _ 4 (by kernel_rfl) _ _ (w.heap.size + 1 + 1) _ _ _ ?_ (setsp_heap _ _ _ R2.out)) rfl ?_
  · rfl
  · exact ⟨rfl, below_setsp _ _ _ C2.out (by omega)⟩
theorem spHull_any (al ah bl bh : Nat) (ab bb : Bool) (hal : al < 18446744073709551616) (hah : ah < 18446744073709551616) (hbl : bl < 18446744073709551616) (hbh : bh < 18446744073709551616) :
    ∃ r, BinR (MkR (min (fval al) (fval bl)) (max (fval ah) (fval bh))) al ah bl bh ab bb r ∧ Ans 9 #[.agg #[.float .f64 al, .float .f64 ah, .bool ab], .agg #[.float .f64 bl, .float .f64 bh, .bool bb]] r := by
  by_cases hg : Good al ah ab ∧ Good bl bh bb
  · obtain ⟨x, x1, x2, x3⟩ := run_min (P := Tryz.prog) (Nat.le_of_lt hg.1.2.1) (Nat.le_of_lt hg.2.2.1)
    obtain ⟨y, y1, y2, y3⟩ := run_max (P := Tryz.prog) (Nat.le_of_lt hg.1.2.2.1) (Nat.le_of_lt hg.2.2.2.1)
    have hx : x < 18446744073709551616 ∧ Fin x := by rcases x1 with rfl | rfl; exact ⟨hal, hg.1.2.1⟩; exact ⟨hbl, hg.2.2.1⟩
    have hy : y < 18446744073709551616 ∧ Fin y := by rcases y1 with rfl | rfl; exact ⟨hah, hg.1.2.2.1⟩; exact ⟨hbh, hg.2.2.2.1⟩
    have ex : fval x = min (fval al) (fval bl) := by
      have h1 := srung_le al bl; have h2 := srung_eq x al; have h3 := srung_eq x bl
      rcases x1 with rfl | rfl <;> omega
    have ey : fval y = max (fval ah) (fval bh) := by
      have h1 := srung_le ah bh; have h2 := srung_eq y ah; have h3 := srung_eq y bh
      rcases y1 with rfl | rfl <;> omega
    refine ⟨_, ?_, spHullG_any al ah bl bh ab bb hal hah hbl hbh hg x y hx.1 hy.1 x3 y3⟩
    unfold BinR; rw [if_pos hg, ← ex, ← ey]
    exact makeS_R hx.1 hy.1 hx.2 hy.2
  · exact ⟨(0, 0, true), by unfold BinR; rw [if_neg hg], spHullB_any al ah bl bh ab bb hal hah hbl hbh hg⟩
set_option maxRecDepth 100000 in
set_option maxHeartbeats 2000000 in
theorem spMeetG_any (al ah bl bh : Nat) (ab bb : Bool) (hal : al < 18446744073709551616) (hah : ah < 18446744073709551616) (hbl : bl < 18446744073709551616) (hbh : bh < 18446744073709551616) (hg : Good al ah ab ∧ Good bl bh bb) (x y : Nat) (hx : x < 18446744073709551616) (hy : y < 18446744073709551616)
    (k1 : ∀ ts t w, (Builtin.max_ ts t #[.float .f64 al, .float .f64 bl]).run Tryz.prog w = .ok (.float .f64 x) w) (k2 : ∀ ts t w, (Builtin.min_ ts t #[.float .f64 ah, .float .f64 bh]).run Tryz.prog w = .ok (.float .f64 y) w) :
    Ans 27 #[.agg #[.float .f64 al, .float .f64 ah, .bool ab], .agg #[.float .f64 bl, .float .f64 bh, .bool bb]] (makeS x y) := by
  intro w
  have hgd : decide (Good al ah ab ∧ Good bl bh bb) = true := decide_eq_true hg
  clear hg
  obtain ⟨g0, g1, g2, gz, gb⟩ := alloc3_facts w (Obj.cells #[Value.float .f64 al, .float .f64 ah, .bool ab] 24) (Obj.cells #[Value.float .f64 bl, .float .f64 bh, .bool bb] 24) (Obj.cells #[Value.float .f64 0, .float .f64 0, .bool false] 24)
  have G0 : Hid _ := g0
  have G1 : Hid _ := g1
  have G2 : Hid _ := g2
  have GB : Hid _ := gb
  clear g0 g1 g2 gz gb
  have hsf := run_store_f
  go_enter Tryz.func27, Tryz.ntmps27
  go_upto_region 1 with fail
  generalize (((w.alloc (Obj.cells #[Value.float .f64 al, .float .f64 ah, .bool ab] 24)).alloc (Obj.cells #[Value.float .f64 bl, .float .f64 bh, .bool bb] 24)).alloc (Obj.cells #[Value.float .f64 0, .float .f64 0, .bool false] 24)) = W3 at G0 G1 G2 GB ⊢
  obtain ⟨a0, a1, a2⟩ := cells3 G0.out
  obtain ⟨b0, b1, b2⟩ := cells3 G1.out
  have N4 : Hid _ := heap_alloc_new W3 (Obj.cells #[Value.float .f64 al, .float .f64 ah, .bool ab, .float .f64 bl, .float .f64 bh, .bool bb] 24)
  have P0 : Hid _ := alloc4 G0.out GB.out (Obj.cells #[Value.float .f64 al, .float .f64 ah, .bool ab, .float .f64 bl, .float .f64 bh, .bool bb] 24)
  have P1 : Hid _ := alloc4 G1.out GB.out (Obj.cells #[Value.float .f64 al, .float .f64 ah, .bool ab, .float .f64 bl, .float .f64 bh, .bool bb] 24)
  have P2 : Hid _ := alloc4 G2.out GB.out (Obj.cells #[Value.float .f64 al, .float .f64 ah, .bool ab, .float .f64 bl, .float .f64 bh, .bool bb] 24)
  clear G0 G1 G2 GB
  go_wp2_with fail
  clear a0 a1 a2 b0 b1 b2
  generalize W3.alloc (Obj.cells #[Value.float .f64 al, .float .f64 ah, .bool ab, .float .f64 bl, .float .f64 bh, .bool bb] 24) = W4 at N4 P0 P1 P2 ⊢
  refine Calls.mono (good2_any N4.out hal hah hbl hbh) ?_
  rintro e w1 ⟨rfl, bw⟩
  have A1 : Hid (w1.heap[w.heap.size]? = some (Obj.cells #[Value.float .f64 al, .float .f64 ah, .bool ab] 24)) := (bw.block _ (blk_lt P0.out.1)).trans P0.out.1
  have B1 : Hid (w1.heap[w.heap.size + 1]? = some (Obj.cells #[Value.float .f64 bl, .float .f64 bh, .bool bb] 24)) := (bw.block _ (blk_lt P1.out.1)).trans P1.out.1
  have R1 : Hid (w1.heap[w.heap.size + 1 + 1]? = some (Obj.cells #[Value.float .f64 0, .float .f64 0, .bool false] 24)) := (bw.block _ (blk_lt P2.out.1)).trans P2.out.1
  have C1 : Hid (Below w.heap.size w w1) := P0.out.2.trans (bw.mono P0.out.2.size)
  clear bw N4 P0 P1 P2
  rw [hgd]
  obtain ⟨a0, a1, a2⟩ := cells3 A1.out
  obtain ⟨b0, b1, b2⟩ := cells3 B1.out
  go_wp2_with fail
  refine Calls.mono (make_any x y hx hy _) ?_
  rintro e w3 ⟨rfl, bw⟩
  generalize hrr : makeS x y = rr
  have HRR : Hid (makeS x y = rr) := hrr
  clear hrr
  have R3 : Hid _ := (bw.block _ (blk_lt R1.out)).trans R1.out
  have C3 : Hid (Below w.heap.size w w3) := C1.out.trans (bw.mono C1.out.size)
  clear bw R1 C1 A1 B1 a0 a1 a2 b0 b1 b2
  obtain ⟨r0, r1, r2⟩ := cells3 R3.out
  have fz := fun j => frozen_of_row _ _ j _ _ R3.out
  go_wp2_with fail
  refine bodyPost_ret (v := .agg #[.float .f64 rr.1, .float .f64 rr.2.1, .bool rr.2.2]) (res_sp _ 4 (by kernel_rfl) _ _ (w.heap.size + 1 + 1) _ _ _ ?_ (setsp_heap _ _ _ R3.out)) rfl ?_
  · rfl
  · exact ⟨by rw [HRR.out], below_setsp _ _ _ C3.out (by omega)⟩
set_option maxRecDepth 100000 in
set_option maxHeartbeats 2000000 in
theorem spMeetB_any (al ah bl bh : Nat) (ab bb : Bool) (hal : al < 18446744073709551616) (hah : ah < 18446744073709551616) (hbl : bl < 18446744073709551616) (hbh : bh < 18446744073709551616) (hg : ¬ (Good al ah ab ∧ Good bl bh bb)) :
    Ans 27 #[.agg #[.float .f64 al, .float .f64 ah, .bool ab], .agg #[.float .f64 bl, .float .f64 bh, .bool bb]] (0, 0, true) := by
  intro w
  have hgd : decide (Good al ah ab ∧ Good bl bh bb) = false := decide_eq_false hg
  clear hg
  obtain ⟨g0, g1, g2, gz, gb⟩ := alloc3_facts w (Obj.cells #[Value.float .f64 al, .float .f64 ah, .bool ab] 24) (Obj.cells #[Value.float .f64 bl, .float .f64 bh, .bool bb] 24) (Obj.cells #[Value.float .f64 0, .float .f64 0, .bool false] 24)
  have G0 : Hid _ := g0
  have G1 : Hid _ := g1
  have G2 : Hid _ := g2
  have GB : Hid _ := gb
  clear g0 g1 g2 gz gb
  have hsf := run_store_f
  go_enter Tryz.func27, Tryz.ntmps27
  go_upto_region 1 with fail
  generalize (((w.alloc (Obj.cells #[Value.float .f64 al, .float .f64 ah, .bool ab] 24)).alloc (Obj.cells #[Value.float .f64 bl, .float .f64 bh, .bool bb] 24)).alloc (Obj.cells #[Value.float .f64 0, .float .f64 0, .bool false] 24)) = W3 at G0 G1 G2 GB ⊢
  obtain ⟨a0, a1, a2⟩ := cells3 G0.out
  obtain ⟨b0, b1, b2⟩ := cells3 G1.out
  have N4 : Hid _ := heap_alloc_new W3 (Obj.cells #[Value.float .f64 al, .float .f64 ah, .bool ab, .float .f64 bl, .float .f64 bh, .bool bb] 24)
  have P0 : Hid _ := alloc4 G0.out GB.out (Obj.cells #[Value.float .f64 al, .float .f64 ah, .bool ab, .float .f64 bl, .float .f64 bh, .bool bb] 24)
  have P1 : Hid _ := alloc4 G1.out GB.out (Obj.cells #[Value.float .f64 al, .float .f64 ah, .bool ab, .float .f64 bl, .float .f64 bh, .bool bb] 24)
  have P2 : Hid _ := alloc4 G2.out GB.out (Obj.cells #[Value.float .f64 al, .float .f64 ah, .bool ab, .float .f64 bl, .float .f64 bh, .bool bb] 24)
  clear G0 G1 G2 GB
  go_wp2_with fail
  clear a0 a1 a2 b0 b1 b2
  generalize W3.alloc (Obj.cells #[Value.float .f64 al, .float .f64 ah, .bool ab, .float .f64 bl, .float .f64 bh, .bool bb] 24) = W4 at N4 P0 P1 P2 ⊢
  refine Calls.mono (good2_any N4.out hal hah hbl hbh) ?_
  rintro e w1 ⟨rfl, bw⟩
  have A1 : Hid (w1.heap[w.heap.size]? = some (Obj.cells #[Value.float .f64 al, .float .f64 ah, .bool ab] 24)) := (bw.block _ (blk_lt P0.out.1)).trans P0.out.1
  have B1 : Hid (w1.heap[w.heap.size + 1]? = some (Obj.cells #[Value.float .f64 bl, .float .f64 bh, .bool bb] 24)) := (bw.block _ (blk_lt P1.out.1)).trans P1.out.1
  have R1 : Hid (w1.heap[w.heap.size + 1 + 1]? = some (Obj.cells #[Value.float .f64 0, .float .f64 0, .bool false] 24)) := (bw.block _ (blk_lt P2.out.1)).trans P2.out.1
  have C1 : Hid (Below w.heap.size w w1) := P0.out.2.trans (bw.mono P0.out.2.size)
  clear bw N4 P0 P1 P2
  rw [hgd]
  go_wp2_with fail
  refine Calls.mono (spBad_any _) ?_
  rintro e w2 ⟨rfl, bw⟩
  have R2 : Hid _ := (bw.block _ (blk_lt R1.out)).trans R1.out
  have C2 : Hid (Below w.heap.size w w2) := C1.out.trans (bw.mono C1.out.size)
  clear bw
  obtain ⟨r0, r1, r2⟩ := cells3 R2.out
  have fz := fun j => frozen_of_row _ _ j _ _ R2.out
  go_wp2_with fail
  refine bodyPost_ret (v := .agg #[.float .f64 0, .float .f64 0, .bool true]) (res_sp _ 4 (by kernel_rfl) _ _ (w.heap.size + 1 + 1) _ _ _ ?_ (setsp_heap _ _ _ R2.out)) rfl ?_
  · rfl
  · exact ⟨rfl, below_setsp _ _ _ C2.out (by omega)⟩
theorem spMeet_any (al ah bl bh : Nat) (ab bb : Bool) (hal : al < 18446744073709551616) (hah : ah < 18446744073709551616) (hbl : bl < 18446744073709551616) (hbh : bh < 18446744073709551616) :
    ∃ r, BinR (MkR (max (fval al) (fval bl)) (min (fval ah) (fval bh))) al ah bl bh ab bb r ∧ Ans 27 #[.agg #[.float .f64 al, .float .f64 ah, .bool ab], .agg #[.float .f64 bl, .float .f64 bh, .bool bb]] r := by
  by_cases hg : Good al ah ab ∧ Good bl bh bb
  · obtain ⟨x, x1, x2, x3⟩ := run_max (P := Tryz.prog) (Nat.le_of_lt hg.1.2.1) (Nat.le_of_lt hg.2.2.1)
    obtain ⟨y, y1, y2, y3⟩ := run_min (P := Tryz.prog) (Nat.le_of_lt hg.1.2.2.1) (Nat.le_of_lt hg.2.2.2.1)
    have hx : x < 18446744073709551616 ∧ Fin x := by rcases x1 with rfl | rfl; exact ⟨hal, hg.1.2.1⟩; exact ⟨hbl, hg.2.2.1⟩
    have hy : y < 18446744073709551616 ∧ Fin y := by rcases y1 with rfl | rfl; exact ⟨hah, hg.1.2.2.1⟩; exact ⟨hbh, hg.2.2.2.1⟩
    have ex : fval x = max (fval al) (fval bl) := by
      have h1 := srung_le al bl; have h2 := srung_eq x al; have h3 := srung_eq x bl
      rcases x1 with rfl | rfl <;> omega
    have ey : fval y = min (fval ah) (fval bh) := by
      have h1 := srung_le ah bh; have h2 := srung_eq y ah; have h3 := srung_eq y bh
      rcases y1 with rfl | rfl <;> omega
    refine ⟨_, ?_, spMeetG_any al ah bl bh ab bb hal hah hbl hbh hg x y hx.1 hy.1 x3 y3⟩
    unfold BinR; rw [if_pos hg, ← ex, ← ey]
    exact makeS_R hx.1 hy.1 hx.2 hy.2
  · exact ⟨(0, 0, true), by unfold BinR; rw [if_neg hg], spMeetB_any al ah bl bh ab bb hal hah hbl hbh hg⟩
end Go.Proofs.YtnjjichanfpbhaaGreat
