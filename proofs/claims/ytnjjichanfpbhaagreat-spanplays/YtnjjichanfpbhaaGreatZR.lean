import Derived.Test.YtnjjichanfpbhaaGreatZQ
namespace Go.Proofs.YtnjjichanfpbhaaGreat
open Go.RowKit
set_option linter.unusedVariables false

set_option maxRecDepth 100000 in
set_option maxHeartbeats 2000000 in
theorem scale1_any (d n : Int) (B1 B2 al ah x : Nat) (ab : Bool) (hx : (if d = 2 then al else ah) = x) (w : World) (h1 : w.heap[B1]? = some (Obj.cells #[Value.float .f64 al, .float .f64 ah, .bool ab] 24)) (h2 : w.heap[B2]? = some (Obj.cells #[Value.int .i64 n] 3)) (p : Nat × Bool)
    (hp : ∀ w, Calls Tryz.prog 60 #[.int .i64 d, .float .f64 x, .int .i64 n] w fun e w' => e = .returned (.tuple #[.float .f64 p.1, .bool p.2]) ∧ w' = w) :
    Calls Tryz.prog 59 #[.int .i64 d, .pointer (some ⟨B1, 0, none⟩), .pointer (some ⟨B2, 0, none⟩)] w fun e w' => e = .returned (.tuple #[.float .f64 p.1, .bool p.2]) ∧ Below w.heap.size w w' := by
  have H1 : Hid (∀ w, Calls Tryz.prog 38 #[.int .i64 d, .agg #[Value.float .f64 al, .float .f64 ah, .bool ab]] w fun e w' => e = .returned (.float .f64 x) ∧ Below w.heap.size w w') := by
    intro w; have := side_any d al ah ab w; rw [hx] at this; exact this
  have HP : Hid _ := hp
  have HC : Hid (∀ wx wy, Below w.heap.size w wx → Below wx.heap.size wx wy → Below w.heap.size w wy ∧ (wy.cell? ⟨B1, 0, none⟩ = some (.float .f64 al) ∧ wy.cell? ⟨B1, 1, none⟩ = some (.float .f64 ah) ∧ wy.cell? ⟨B1, 2, none⟩ = some (.bool ab)) ∧ wy.cell? ⟨B2, 0, none⟩ = some (.int .i64 n)) := by
    intro wx wy q1 q2
    have h := q1.trans (q2.mono q1.size)
    exact ⟨h, cells3 ((h.block _ (blk_lt h1)).trans h1), cell_of_row _ _ 0 _ _ _ ((h.block _ (blk_lt h2)).trans h2)⟩
  obtain ⟨a0, a1, a2⟩ := cells3 h1
  have b0 := cell_of_one h2
  clear hp hx h1 h2
  go_enter Tryz.func59, Tryz.ntmps59
  go_upto_region 1 with fail
  go_region_held3 (fun w' => (w'.cell? ⟨B1, 0, none⟩ = some (.float .f64 al) ∧ w'.cell? ⟨B1, 1, none⟩ = some (.float .f64 ah) ∧ w'.cell? ⟨B1, 2, none⟩ = some (.bool ab)) ∧ w'.cell? ⟨B2, 0, none⟩ = some (.int .i64 n)) (go_keep) ((first
    | (go_at_call 38; refine Calls.mono (H1.out _) ?_; rintro e wx1 ⟨rfl, bx1⟩; obtain ⟨bb1, ⟨s0, s1, s2⟩, s3⟩ := HC.out _ wx1 (by first | assumption | exact (Below.refl _ _).drew) bx1)
    | (go_at_call 60; refine Calls.mono (HP.out _) ?_; rintro e wx3 ⟨rfl, rfl⟩)))
  all_goals
    go_wp2_with fail
    go_ret2
    exact ⟨rfl, by first | assumption | exact bb1⟩
set_option maxRecDepth 100000 in
set_option maxHeartbeats 2000000 in
theorem spScaleG_any (al ah : Nat) (ab : Bool) (n : Int) (hal : al < 18446744073709551616) (hah : ah < 18446744073709551616) (p q : Nat × Bool) (hg : Good al ah ab)
    (hp : ∀ w, Calls Tryz.prog 60 #[.int .i64 2, .float .f64 al, .int .i64 n] w fun e w' => e = .returned (.tuple #[.float .f64 p.1, .bool p.2]) ∧ w' = w)
    (hq : ∀ w, Calls Tryz.prog 60 #[.int .i64 1, .float .f64 ah, .int .i64 n] w fun e w' => e = .returned (.tuple #[.float .f64 q.1, .bool q.2]) ∧ w' = w) :
    Ans 20 #[.agg #[Value.float .f64 al, .float .f64 ah, .bool ab], .int .i64 n] (spOf p q) := by
  intro w
  have HP : Hid _ := hp
  have HQ : Hid _ := hq
  have hgd : decide (Good al ah ab) = true := decide_eq_true hg
  have hmf := hMakeFunc
  clear hp hq hg
  obtain ⟨g0, g1, g2, gz, gb⟩ := alloc3_facts w (Obj.cells #[Value.float .f64 al, .float .f64 ah, .bool ab] 24) (Obj.cells #[Value.int .i64 n] 3) (Obj.cells #[Value.float .f64 0, .float .f64 0, .bool false] 24)
  have GA : Hid _ := g0
  have GN : Hid _ := g1
  have GR : Hid _ := g2
  have GB : Hid _ := gb
  clear g0 g1 g2 gz gb
  have hsf := run_store_f
  go_enter Tryz.func20, Tryz.ntmps20
  go_upto_region 1 with fail
  generalize (((w.alloc (Obj.cells #[Value.float .f64 al, .float .f64 ah, .bool ab] 24)).alloc (Obj.cells #[Value.int .i64 n] 3)).alloc (Obj.cells #[Value.float .f64 0, .float .f64 0, .bool false] 24)) = W3 at GA GN GR GB ⊢
  obtain ⟨a0, a1, a2⟩ := cells3 GA.out
  have N4 : Hid _ := heap_alloc_new W3 (Obj.cells #[Value.float .f64 al, .float .f64 ah, .bool ab] 24)
  have PGA : Hid _ := alloc4 GA.out GB.out (Obj.cells #[Value.float .f64 al, .float .f64 ah, .bool ab] 24)
  have PGN : Hid _ := alloc4 GN.out GB.out (Obj.cells #[Value.float .f64 al, .float .f64 ah, .bool ab] 24)
  have PGR : Hid _ := alloc4 GR.out GB.out (Obj.cells #[Value.float .f64 al, .float .f64 ah, .bool ab] 24)
  clear GB GA GN GR
  go_wp2_with fail
  clear a0 a1 a2
  generalize W3.alloc (Obj.cells #[Value.float .f64 al, .float .f64 ah, .bool ab] 24) = W4 at N4 PGA PGN PGR ⊢
  refine Calls.mono (good1_any N4.out hal hah) ?_
  rintro e w1 ⟨rfl, bw⟩
  have GA1 : Hid _ := (bw.block _ (blk_lt PGA.out.1)).trans PGA.out.1
  have GN1 : Hid _ := (bw.block _ (blk_lt PGN.out.1)).trans PGN.out.1
  have GR1 : Hid _ := (bw.block _ (blk_lt PGR.out.1)).trans PGR.out.1
  have C1 : Hid (Below w.heap.size w w1) := PGA.out.2.trans (bw.mono PGA.out.2.size)
  clear bw N4 PGA PGN PGR
  rw [hgd]
  have T2 : Hid (Tells 59 #[.pointer (some ⟨w.heap.size, 0, none⟩), .pointer (some ⟨w.heap.size + 1, 0, none⟩)] w1 2 p) := fun w' hb => scale1_any 2 n _ _ al ah al ab rfl w' ((hb.block _ (blk_lt GA1.out)).trans GA1.out) ((hb.block _ (blk_lt GN1.out)).trans GN1.out) p HP.out
  have T1 : Hid (Tells 59 #[.pointer (some ⟨w.heap.size, 0, none⟩), .pointer (some ⟨w.heap.size + 1, 0, none⟩)] w1 1 q) := fun w' hb => scale1_any 1 n _ _ al ah ah ab rfl w' ((hb.block _ (blk_lt GA1.out)).trans GA1.out) ((hb.block _ (blk_lt GN1.out)).trans GN1.out) q HQ.out
  clear HP HQ GA1 GN1
  go_wp2_with fail
  refine Calls.mono (spanOf_any 59 _ (enters_of Tryz.func59 (by kernel_rfl) rfl) _ p q T2.out T1.out) ?_
  rintro e w3 ⟨rfl, bw⟩
  generalize hrr : spOf p q = rr
  have HRR : Hid (spOf p q = rr) := hrr
  clear hrr
  have R3 : Hid _ := (bw.block _ (blk_lt GR1.out)).trans GR1.out
  have C3 : Hid (Below w.heap.size w w3) := C1.out.trans (bw.mono C1.out.size)
  clear bw GR1 C1 T1 T2
  obtain ⟨r0, r1, r2⟩ := cells3 R3.out
  have fz := fun j => frozen_of_row _ _ j _ _ R3.out
  go_wp2_with fail
  refine bodyPost_ret (v := .agg #[.float .f64 rr.1, .float .f64 rr.2.1, .bool rr.2.2]) (res_sp _ 4 (by kernel_rfl) _ _ (w.heap.size + 1 + 1) _ _ _ ?_ (setsp_heap _ _ _ R3.out)) rfl ?_
  · rfl
  · exact ⟨by rw [HRR.out], below_setsp _ _ _ C3.out (by omega)⟩
set_option maxRecDepth 100000 in
set_option maxHeartbeats 2000000 in
theorem spScaleB_any (al ah : Nat) (ab : Bool) (n : Int) (hal : al < 18446744073709551616) (hah : ah < 18446744073709551616) (hg : ¬ Good al ah ab) :
    Ans 20 #[.agg #[Value.float .f64 al, .float .f64 ah, .bool ab], .int .i64 n] (0, 0, true) := by
  intro w
  have hgd : decide (Good al ah ab) = false := decide_eq_false hg
  clear hg
  obtain ⟨g0, g1, g2, gz, gb⟩ := alloc3_facts w (Obj.cells #[Value.float .f64 al, .float .f64 ah, .bool ab] 24) (Obj.cells #[Value.int .i64 n] 3) (Obj.cells #[Value.float .f64 0, .float .f64 0, .bool false] 24)
  have GA : Hid _ := g0
  have GN : Hid _ := g1
  have GR : Hid _ := g2
  have GB : Hid _ := gb
  clear g0 g1 g2 gz gb
  have hsf := run_store_f
  go_enter Tryz.func20, Tryz.ntmps20
  go_upto_region 1 with fail
  generalize (((w.alloc (Obj.cells #[Value.float .f64 al, .float .f64 ah, .bool ab] 24)).alloc (Obj.cells #[Value.int .i64 n] 3)).alloc (Obj.cells #[Value.float .f64 0, .float .f64 0, .bool false] 24)) = W3 at GA GN GR GB ⊢
  obtain ⟨a0, a1, a2⟩ := cells3 GA.out
  have N4 : Hid _ := heap_alloc_new W3 (Obj.cells #[Value.float .f64 al, .float .f64 ah, .bool ab] 24)
  have PGA : Hid _ := alloc4 GA.out GB.out (Obj.cells #[Value.float .f64 al, .float .f64 ah, .bool ab] 24)
  have PGN : Hid _ := alloc4 GN.out GB.out (Obj.cells #[Value.float .f64 al, .float .f64 ah, .bool ab] 24)
  have PGR : Hid _ := alloc4 GR.out GB.out (Obj.cells #[Value.float .f64 al, .float .f64 ah, .bool ab] 24)
  clear GB GA GN GR
  go_wp2_with fail
  clear a0 a1 a2
  generalize W3.alloc (Obj.cells #[Value.float .f64 al, .float .f64 ah, .bool ab] 24) = W4 at N4 PGA PGN PGR ⊢
  refine Calls.mono (good1_any N4.out hal hah) ?_
  rintro e w1 ⟨rfl, bw⟩
  have GA1 : Hid _ := (bw.block _ (blk_lt PGA.out.1)).trans PGA.out.1
  have GN1 : Hid _ := (bw.block _ (blk_lt PGN.out.1)).trans PGN.out.1
  have GR1 : Hid _ := (bw.block _ (blk_lt PGR.out.1)).trans PGR.out.1
  have C1 : Hid (Below w.heap.size w w1) := PGA.out.2.trans (bw.mono PGA.out.2.size)
  clear bw N4 PGA PGN PGR
  rw [hgd]
  go_wp2_with fail
  refine Calls.mono (spBad_any _) ?_
  rintro e w2 ⟨rfl, bw⟩
  have R2 : Hid _ := (bw.block _ (blk_lt GR1.out)).trans GR1.out
  have C2 : Hid (Below w.heap.size w w2) := C1.out.trans (bw.mono C1.out.size)
  clear bw
  obtain ⟨r0, r1, r2⟩ := cells3 R2.out
  have fz := fun j => frozen_of_row _ _ j _ _ R2.out
  go_wp2_with fail
  refine bodyPost_ret (v := .agg #[.float .f64 0, .float .f64 0, .bool true]) (res_sp _ 4 (by kernel_rfl) _ _ (w.heap.size + 1 + 1) _ _ _ ?_ (setsp_heap _ _ _ R2.out)) rfl ?_
  · rfl
  · exact ⟨rfl, below_setsp _ _ _ C2.out (by omega)⟩
set_option maxRecDepth 100000 in
set_option maxHeartbeats 2000000 in
theorem square1_any (d : Int) (B1 s t x : Nat) (hx : (if d = 2 then s else t) = x) (w : World) (h1 : w.heap[B1]? = some (Obj.cells #[Value.float .f64 s, .float .f64 t, .bool false] 24)) (p : Nat × Bool)
    (hp : ∀ w, Calls Tryz.prog 40 #[.int .i64 d, .float .f64 x, .float .f64 x] w fun e w' => e = .returned (.tuple #[.float .f64 p.1, .bool p.2]) ∧ w' = w) :
    Calls Tryz.prog 62 #[.int .i64 d, .pointer (some ⟨B1, 0, none⟩)] w fun e w' => e = .returned (.tuple #[.float .f64 p.1, .bool p.2]) ∧ Below w.heap.size w w' := by
  have H1 : Hid (∀ w, Calls Tryz.prog 38 #[.int .i64 d, .agg #[Value.float .f64 s, .float .f64 t, .bool false]] w fun e w' => e = .returned (.float .f64 x) ∧ Below w.heap.size w w') := by
    intro w; have := side_any d s t false w; rw [hx] at this; exact this
  have HP : Hid _ := hp
  have HC : Hid (∀ wx wy, Below w.heap.size w wx → Below wx.heap.size wx wy → Below w.heap.size w wy ∧ (wy.cell? ⟨B1, 0, none⟩ = some (.float .f64 s) ∧ wy.cell? ⟨B1, 1, none⟩ = some (.float .f64 t) ∧ wy.cell? ⟨B1, 2, none⟩ = some (.bool false))) := by
    intro wx wy q1 q2
    have h := q1.trans (q2.mono q1.size)
    exact ⟨h, cells3 ((h.block _ (blk_lt h1)).trans h1)⟩
  obtain ⟨a0, a1, a2⟩ := cells3 h1
  clear hp hx h1
  go_enter Tryz.func62, Tryz.ntmps62
  go_upto_region 1 with fail
  go_region_held3 (fun w' => (w'.cell? ⟨B1, 0, none⟩ = some (.float .f64 s) ∧ w'.cell? ⟨B1, 1, none⟩ = some (.float .f64 t) ∧ w'.cell? ⟨B1, 2, none⟩ = some (.bool false))) (go_keep) ((first
    | (go_at_call 38; refine Calls.mono (H1.out _) ?_; rintro e wx1 ⟨rfl, bx1⟩; obtain ⟨bb1, s0, s1, s2⟩ := HC.out _ wx1 (by first | assumption | exact (Below.refl _ _).drew) bx1)
    | (go_at_call 40; refine Calls.mono (HP.out _) ?_; rintro e wx3 ⟨rfl, rfl⟩)))
  all_goals
    go_wp2_with fail
    go_ret2
    exact ⟨rfl, by first | assumption | exact bb1⟩
set_option maxRecDepth 100000 in
set_option maxHeartbeats 2000000 in
theorem spSquareG_any (al ah s t : Nat) (ab : Bool) (hal : al < 18446744073709551616) (hah : ah < 18446744073709551616) (p q : Nat × Bool) (hg : Good al ah ab)
    (k1 : ∀ ts tt w, (Builtin.max_ ts tt #[.float .f64 al, .float .f64 (fopp ah), .float .f64 0]).run Tryz.prog w = .ok (.float .f64 s) w) (k2 : ∀ ts tt w, (Builtin.max_ ts tt #[.float .f64 (fopp al), .float .f64 ah]).run Tryz.prog w = .ok (.float .f64 t) w)
    (hp : ∀ w, Calls Tryz.prog 40 #[.int .i64 2, .float .f64 s, .float .f64 s] w fun e w' => e = .returned (.tuple #[.float .f64 p.1, .bool p.2]) ∧ w' = w)
    (hq : ∀ w, Calls Tryz.prog 40 #[.int .i64 1, .float .f64 t, .float .f64 t] w fun e w' => e = .returned (.tuple #[.float .f64 q.1, .bool q.2]) ∧ w' = w) :
    Ans 22 #[.agg #[.float .f64 al, .float .f64 ah, .bool ab]] (spOf p q) := by
  intro w
  have HP : Hid _ := hp
  have HQ : Hid _ := hq
  have hgd : decide (Good al ah ab) = true := decide_eq_true hg
  have hmf := hMakeFunc
  have ng1 := run_neg al
  have ng2 := run_neg ah
  clear hp hq hg
  obtain ⟨g0, g2, -, gb⟩ := alloc2_facts w (Obj.cells #[Value.float .f64 al, .float .f64 ah, .bool ab] 24) (Obj.cells #[Value.float .f64 0, .float .f64 0, .bool false] 24)
  have GA : Hid _ := g0
  have GR : Hid _ := g2
  have GB : Hid _ := gb
  clear g0 g2 gb
  have hsf := run_store_f
  go_enter Tryz.func22, Tryz.ntmps22
  go_upto_region 1 with fail
  generalize ((w.alloc (Obj.cells #[Value.float .f64 al, .float .f64 ah, .bool ab] 24)).alloc (Obj.cells #[Value.float .f64 0, .float .f64 0, .bool false] 24)) = W3 at GA GR GB ⊢
  obtain ⟨a0, a1, a2⟩ := cells3 GA.out
  have N4 : Hid _ := heap_alloc_new W3 (Obj.cells #[Value.float .f64 al, .float .f64 ah, .bool ab] 24)
  have PGA : Hid _ := alloc4 GA.out GB.out (Obj.cells #[Value.float .f64 al, .float .f64 ah, .bool ab] 24)
  have PGR : Hid _ := alloc4 GR.out GB.out (Obj.cells #[Value.float .f64 al, .float .f64 ah, .bool ab] 24)
  clear GB GA GR
  go_wp2_with fail
  clear a0 a1 a2
  generalize W3.alloc (Obj.cells #[Value.float .f64 al, .float .f64 ah, .bool ab] 24) = W4 at N4 PGA PGR ⊢
  refine Calls.mono (good1_any N4.out hal hah) ?_
  rintro e w1 ⟨rfl, bw⟩
  have GA1 : Hid _ := (bw.block _ (blk_lt PGA.out.1)).trans PGA.out.1
  have GR1 : Hid _ := (bw.block _ (blk_lt PGR.out.1)).trans PGR.out.1
  have C1 : Hid (Below w.heap.size w w1) := PGA.out.2.trans (bw.mono PGA.out.2.size)
  clear bw N4 PGA PGR
  rw [hgd]
  obtain ⟨a0, a1, a2⟩ := cells3 GA1.out
  go_upto_region 4 with fail
  have N5 : Hid _ := heap_alloc_new w1 (Obj.cells #[Value.float .f64 s, .float .f64 t, .bool false] 24)
  have PR : Hid _ := alloc4 GR1.out C1.out (Obj.cells #[Value.float .f64 s, .float .f64 t, .bool false] 24)
  clear GA1 GR1 C1 a0 a1 a2
  obtain ⟨X, hX⟩ : ∃ X, w1.heap.size = X := ⟨_, rfl⟩
  rw [hX] at N5 ⊢
  generalize w1.alloc (Obj.cells #[Value.float .f64 s, .float .f64 t, .bool false] 24) = W5 at N5 PR ⊢
  clear hX
  have T2 : Hid (Tells 62 #[.pointer (some ⟨X, 0, none⟩)] W5 2 p) := fun w' hb => square1_any 2 _ s t s rfl w' ((hb.block _ (blk_lt N5.out)).trans N5.out) p HP.out
  have T1 : Hid (Tells 62 #[.pointer (some ⟨X, 0, none⟩)] W5 1 q) := fun w' hb => square1_any 1 _ s t t rfl w' ((hb.block _ (blk_lt N5.out)).trans N5.out) q HQ.out
  clear HP HQ N5
  go_wp2_with fail
  refine Calls.mono (spanOf_any 62 _ (enters_of Tryz.func62 (by kernel_rfl) rfl) _ p q T2.out T1.out) ?_
  rintro e w3 ⟨rfl, bw⟩
  generalize hrr : spOf p q = rr
  have HRR : Hid (spOf p q = rr) := hrr
  clear hrr
  have R3 : Hid _ := (bw.block _ (blk_lt PR.out.1)).trans PR.out.1
  have C3 : Hid (Below w.heap.size w w3) := PR.out.2.trans (bw.mono PR.out.2.size)
  clear bw PR T1 T2
  obtain ⟨r0, r1, r2⟩ := cells3 R3.out
  have fz := fun j => frozen_of_row _ _ j _ _ R3.out
  go_wp2_with fail
  refine bodyPost_ret (v := .agg #[.float .f64 rr.1, .float .f64 rr.2.1, .bool rr.2.2]) (res_sp _ 2 (by kernel_rfl) _ _ (w.heap.size + 1) _ _ _ ?_ (setsp_heap _ _ _ R3.out)) rfl ?_
  · rfl
  · exact ⟨by rw [HRR.out], below_setsp _ _ _ C3.out (by omega)⟩
set_option maxRecDepth 100000 in
set_option maxHeartbeats 2000000 in
theorem spSquareB_any (al ah : Nat) (ab : Bool) (hal : al < 18446744073709551616) (hah : ah < 18446744073709551616) (hg : ¬ Good al ah ab) :
    Ans 22 #[.agg #[.float .f64 al, .float .f64 ah, .bool ab]] (0, 0, true) := by
  intro w
  have hgd : decide (Good al ah ab) = false := decide_eq_false hg
  clear hg
  obtain ⟨g0, g2, -, gb⟩ := alloc2_facts w (Obj.cells #[Value.float .f64 al, .float .f64 ah, .bool ab] 24) (Obj.cells #[Value.float .f64 0, .float .f64 0, .bool false] 24)
  have GA : Hid _ := g0
  have GR : Hid _ := g2
  have GB : Hid _ := gb
  clear g0 g2 gb
  have hsf := run_store_f
  go_enter Tryz.func22, Tryz.ntmps22
  go_upto_region 1 with fail
  generalize ((w.alloc (Obj.cells #[Value.float .f64 al, .float .f64 ah, .bool ab] 24)).alloc (Obj.cells #[Value.float .f64 0, .float .f64 0, .bool false] 24)) = W3 at GA GR GB ⊢
  obtain ⟨a0, a1, a2⟩ := cells3 GA.out
  have N4 : Hid _ := heap_alloc_new W3 (Obj.cells #[Value.float .f64 al, .float .f64 ah, .bool ab] 24)
  have PGA : Hid _ := alloc4 GA.out GB.out (Obj.cells #[Value.float .f64 al, .float .f64 ah, .bool ab] 24)
  have PGR : Hid _ := alloc4 GR.out GB.out (Obj.cells #[Value.float .f64 al, .float .f64 ah, .bool ab] 24)
  clear GB GA GR
  go_wp2_with fail
  clear a0 a1 a2
  generalize W3.alloc (Obj.cells #[Value.float .f64 al, .float .f64 ah, .bool ab] 24) = W4 at N4 PGA PGR ⊢
  refine Calls.mono (good1_any N4.out hal hah) ?_
  rintro e w1 ⟨rfl, bw⟩
  have GA1 : Hid _ := (bw.block _ (blk_lt PGA.out.1)).trans PGA.out.1
  have GR1 : Hid _ := (bw.block _ (blk_lt PGR.out.1)).trans PGR.out.1
  have C1 : Hid (Below w.heap.size w w1) := PGA.out.2.trans (bw.mono PGA.out.2.size)
  clear bw N4 PGA PGR
  rw [hgd]
  go_wp2_with fail
  refine Calls.mono (spBad_any _) ?_
  rintro e w2 ⟨rfl, bw⟩
  have R2 : Hid _ := (bw.block _ (blk_lt GR1.out)).trans GR1.out
  have C2 : Hid (Below w.heap.size w w2) := C1.out.trans (bw.mono C1.out.size)
  clear bw
  obtain ⟨r0, r1, r2⟩ := cells3 R2.out
  have fz := fun j => frozen_of_row _ _ j _ _ R2.out
  go_wp2_with fail
  refine bodyPost_ret (v := .agg #[.float .f64 0, .float .f64 0, .bool true]) (res_sp _ 2 (by kernel_rfl) _ _ (w.heap.size + 1) _ _ _ ?_ (setsp_heap _ _ _ R2.out)) rfl ?_
  · rfl
  · exact ⟨rfl, below_setsp _ _ _ C2.out (by omega)⟩
def UnR (P : Nat × Nat × Bool → Prop) (al ah : Nat) (ab : Bool) (r : Nat × Nat × Bool) : Prop := if Good al ah ab then P r else r = (0, 0, true)
/-- What is told of a scaled span. -/
def ScR (n : Int) (al ah : Nat) (r : Nat × Nat × Bool) : Prop := ∃ p q, Rnd 2 (fneg al) (rmag (frung al) * 2 ^ (clip n).toNat) (2 ^ (-(clip n)).toNat) p ∧ Rnd 1 (fneg ah) (rmag (frung ah) * 2 ^ (clip n).toNat) (2 ^ (-(clip n)).toNat) q ∧ r = spOf p q
theorem spScale_any (al ah : Nat) (ab : Bool) (n : Int) (hal : al < 18446744073709551616) (hah : ah < 18446744073709551616) :
    ∃ r, UnR (ScR n al ah) al ah ab r ∧ Ans 20 #[.agg #[Value.float .f64 al, .float .f64 ah, .bool ab], .int .i64 n] r := by
  by_cases hg : Good al ah ab
  · obtain ⟨p, p1, -, p2⟩ := scale_any 2 al n hal
    obtain ⟨q, q1, -, q2⟩ := scale_any 1 ah n hah
    refine ⟨_, ?_, spScaleG_any al ah ab n hal hah p q hg p2 q2⟩
    unfold UnR; rw [if_pos hg]
    exact ⟨p, q, p1 hg.2.1, q1 hg.2.2.1, rfl⟩
  · exact ⟨(0, 0, true), by unfold UnR; rw [if_neg hg], spScaleB_any al ah ab n hal hah hg⟩
def sqLo (al ah : Nat) : Int := max (max (fval al) (-fval ah)) 0
def sqHi (al ah : Nat) : Int := max (-fval al) (fval ah)
theorem spSquare_any (al ah : Nat) (ab : Bool) (hal : al < 18446744073709551616) (hah : ah < 18446744073709551616) (E : Nat) (hE : E = 1074) :
    ∃ r, UnR (SpR (sqLo al ah * sqLo al ah) (sqHi al ah * sqHi al ah) (2 ^ E)) al ah ab r ∧ Ans 22 #[.agg #[.float .f64 al, .float .f64 ah, .bool ab]] r := by
  by_cases hg : Good al ah ab
  · have fo := fopp_parts hah
    have fl := fopp_parts hal
    have fo1 : Fin (fopp ah) := by unfold Fin; rw [fo.1]; exact hg.2.2.1
    have fl1 : Fin (fopp al) := by unfold Fin; rw [fl.1]; exact hg.2.1
    have f0 : Fin 0 := by decide
    obtain ⟨s, s1, s2, s3⟩ := run_max3 (P := Tryz.prog) (Nat.le_of_lt hg.2.1) (Nat.le_of_lt fo1) (Nat.le_of_lt f0)
    obtain ⟨t, t1, t2, t3⟩ := run_max (P := Tryz.prog) (Nat.le_of_lt fl1) (Nat.le_of_lt hg.2.2.1)
    have hs : s < 18446744073709551616 ∧ Fin s := by rcases s1 with rfl | rfl | rfl; exact ⟨hal, hg.2.1⟩; exact ⟨fo.2.2, fo1⟩; exact ⟨by decide, f0⟩
    have ht : t < 18446744073709551616 ∧ Fin t := by rcases t1 with rfl | rfl; exact ⟨fl.2.2, fl1⟩; exact ⟨hah, hg.2.2.1⟩
    have z0 : fval 0 = 0 := by decide
    have v1 := fopp_fval hah
    have v2 := fopp_fval hal
    have es : fval s = sqLo al ah := by
      unfold sqLo
      have h1 := srung_le s al; have h2 := srung_le al s; have h3 := srung_le s (fopp ah); have h4 := srung_le (fopp ah) s; have h5 := srung_le s 0; have h6 := srung_le 0 s
      rcases s1 with rfl | rfl | rfl <;> omega
    have et : fval t = sqHi al ah := by
      unfold sqHi
      have h3 := srung_le t (fopp al); have h4 := srung_le (fopp al) t; have h5 := srung_le t ah; have h6 := srung_le ah t
      rcases t1 with rfl | rfl <;> omega
    obtain ⟨p, p1, -, p2⟩ := mul_any 2 s s hs.1 hs.1
    obtain ⟨q, q1, -, q2⟩ := mul_any 1 t t ht.1 ht.1
    refine ⟨_, ?_, spSquareG_any al ah s t ab hal hah p q hg s3 t3 p2 q2⟩
    unfold UnR; rw [if_pos hg, ← es, ← et]
    exact ⟨p, q, prod_rndZ (p1 hs.2 hs.2 E hE), prod_rndZ (q1 ht.2 ht.2 E hE), rfl⟩
  · exact ⟨(0, 0, true), by unfold UnR; rw [if_neg hg], spSquareB_any al ah ab hal hah hg⟩
set_option maxRecDepth 100000 in
set_option maxHeartbeats 2000000 in
theorem spNegW_any (al ah : Nat) (ab : Bool) (r : Nat × Nat × Bool) (hc : Ans 15 #[.agg #[.float .f64 0, .float .f64 0, .bool false], .agg #[Value.float .f64 al, .float .f64 ah, .bool ab]] r) : Ans 12 #[.agg #[.float .f64 al, .float .f64 ah, .bool ab]] r := by
  intro w
  have HC0 : Hid _ := hc
  have H0 : Hid (Ans 43 #[.float .f64 0] (0, 0, false)) := fun w => point_any 0 (by decide) w
  clear hc
  obtain ⟨g0, g2, -, gb⟩ := alloc2_facts w (Obj.cells #[Value.float .f64 al, .float .f64 ah, .bool ab] 24) (Obj.cells #[Value.float .f64 0, .float .f64 0, .bool false] 24)
  have GA : Hid _ := g0
  have GR : Hid _ := g2
  have GB : Hid _ := gb
  clear g0 g2 gb
  have hsf := run_store_f
  go_enter Tryz.func12, Tryz.ntmps12
  go_upto_region 1 with fail
  generalize ((w.alloc (Obj.cells #[Value.float .f64 al, .float .f64 ah, .bool ab] 24)).alloc (Obj.cells #[Value.float .f64 0, .float .f64 0, .bool false] 24)) = W3 at GA GR GB ⊢
  have HC : Hid (∀ wx wy, Below W3.heap.size W3 wx → Below wx.heap.size wx wy → Below W3.heap.size W3 wy ∧ (wy.cell? ⟨w.heap.size, 0, none⟩ = some (.float .f64 al) ∧ wy.cell? ⟨w.heap.size, 1, none⟩ = some (.float .f64 ah) ∧ wy.cell? ⟨w.heap.size, 2, none⟩ = some (.bool ab)) ∧ (wy.cell? ⟨w.heap.size + 1, 0, none⟩ = some (.float .f64 0) ∧ wy.cell? ⟨w.heap.size + 1, 1, none⟩ = some (.float .f64 0) ∧ wy.cell? ⟨w.heap.size + 1, 2, none⟩ = some (.bool false)) ∧ (∀ j, wy.frozen? ⟨w.heap.size + 1, j, none⟩ = false) ∧ wy.heap[w.heap.size + 1]? = some (Obj.cells #[Value.float .f64 0, .float .f64 0, .bool false] 24)) := by
    intro wx wy q1 q2
    have h := q1.trans (q2.mono q1.size)
    have k1 := (h.block _ (blk_lt GA.out)).trans GA.out
    have k2 := (h.block _ (blk_lt GR.out)).trans GR.out
    exact ⟨h, cells3 k1, cells3 k2, fun j => frozen_of_row _ _ j _ _ k2, k2⟩
  obtain ⟨a0, a1, a2⟩ := cells3 GA.out
  clear GA GR
  go_region_held3 (fun w' => (w'.cell? ⟨w.heap.size, 0, none⟩ = some (.float .f64 al) ∧ w'.cell? ⟨w.heap.size, 1, none⟩ = some (.float .f64 ah) ∧ w'.cell? ⟨w.heap.size, 2, none⟩ = some (.bool ab))) (go_keep) ((first
    | (go_at_call 43; refine Calls.mono (H0.out _) ?_; rintro e wx1 ⟨rfl, bx1⟩; obtain ⟨bb1, ⟨s0, s1, s2⟩, ⟨s3, s4, s5⟩, fz1, kk1⟩ := HC.out _ wx1 (by first | assumption | exact (Below.refl _ _).drew) bx1)
    | (go_at_call 15; refine Calls.mono (HC0.out _) ?_; rintro e wx2 ⟨rfl, bx2⟩; obtain ⟨bb2, ⟨t0, t1, t2⟩, ⟨t3, t4, t5⟩, fz2, kk2⟩ := HC.out _ wx2 (by first | assumption | exact (Below.refl _ _).drew) bx2)))
  all_goals
    go_wp2_with fail
    refine bodyPost_ret (v := .agg #[.float .f64 r.1, .float .f64 r.2.1, .bool r.2.2]) (res_sp _ 2 (by kernel_rfl) _ _ (w.heap.size + 1) _ _ _ ?_ (setsp_heap _ _ _ kk2)) rfl ?_
    · rfl
    · exact ⟨rfl, below_setsp _ _ _ (GB.out.trans (bb2.mono GB.out.size)) (by omega)⟩
theorem spNeg_any (al ah : Nat) (ab : Bool) (hal : al < 18446744073709551616) (hah : ah < 18446744073709551616) : ∃ r, UnR (SpR (-fval ah) (-fval al) 1) al ah ab r ∧ Ans 12 #[.agg #[.float .f64 al, .float .f64 ah, .bool ab]] r := by
  obtain ⟨r, h, c⟩ := spSub_any 0 0 al ah false ab (by decide) (by decide) hal hah
  refine ⟨r, ?_, spNegW_any al ah ab r c⟩
  have g0 : Good 0 0 false := by decide
  unfold BinR at h; unfold UnR
  have z0 : fval 0 = 0 := by decide
  by_cases hg : Good al ah ab
  · rw [if_pos ⟨g0, hg⟩, z0, Int.zero_sub, Int.zero_sub] at h; rw [if_pos hg]; exact h
  · rw [if_neg (fun c => hg c.2)] at h; rw [if_neg hg]; exact h
end Go.Proofs.YtnjjichanfpbhaaGreat
