import Derived.Test.YtnjjichanfpbhaaGreatMU
namespace Go.Proofs.YtnjjichanfpbhaaGreat
open Go.RowKit
set_option linter.unusedVariables false

/-- The span of the reals from X to Y (units of 2^-1074), if there are some. -/
def MkR (X Y : Int) (r : Nat × Nat × Bool) : Prop := if X ≤ Y then SpR X Y 1 r else r = (0, 0, true)
theorem makeS_R {x y : Nat} (hx : x < 18446744073709551616) (hy : y < 18446744073709551616) (fx : Fin x) (fy : Fin y) : MkR (fval x) (fval y) (makeS x y) := by
  unfold MkR makeS
  have h := srung_le x y
  by_cases hg : Good x y false
  · rw [if_pos hg, if_pos (h.1 hg.2.2.2)]
    exact ⟨(plainM x, true), (plainM y, true), RndZ.plain 2 hx fx (by decide), RndZ.plain 1 hy fy (by decide), by unfold spOf; rw [if_pos ⟨rfl, rfl⟩]⟩
  · rw [if_neg hg, if_neg (fun c => hg ⟨rfl, fx, fy, h.2 c⟩)]
def BinR (P : Nat × Nat × Bool → Prop) (al ah bl bh : Nat) (ab bb : Bool) (r : Nat × Nat × Bool) : Prop := if Good al ah ab ∧ Good bl bh bb then P r else r = (0, 0, true)
theorem otherSide_any (d : Int) (lo hi : Nat) (bad : Bool) (w : World) :
    Calls Tryz.prog 51 #[.int .i64 d, .agg #[.float .f64 lo, .float .f64 hi, .bool bad]] w fun e w' => e = .returned (.float .f64 (if d = 2 then hi else lo)) ∧ Below w.heap.size w w' := by
  by_cases hd : d = 2
  · subst hd
    go_enter Tryz.func51, Tryz.ntmps51
    go_wp2
    go_ret
    exact ⟨rfl, (Below.refl _ w).alloc (Nat.le_refl _) _⟩
  · have hdd : (d == 2) = false := by simpa using hd
    rw [if_neg hd]
    go_enter Tryz.func51, Tryz.ntmps51
    go_wp2
    go_ret
    exact ⟨rfl, (Below.refl _ w).alloc (Nat.le_refl _) _⟩
set_option maxRecDepth 100000 in
set_option maxHeartbeats 2000000 in
theorem add1_any (d : Int) (B1 B2 al ah bl bh x y : Nat) (ab bb : Bool) (hx : (if d = 2 then al else ah) = x) (hy : (if d = 2 then bl else bh) = y) (w : World) (h1 : w.heap[B1]? = some (Obj.cells #[Value.float .f64 al, .float .f64 ah, .bool ab] 24)) (h2 : w.heap[B2]? = some (Obj.cells #[Value.float .f64 bl, .float .f64 bh, .bool bb] 24)) (p : Nat × Bool)
    (hp : ∀ w, Calls Tryz.prog 37 #[.int .i64 d, .float .f64 x, .float .f64 y] w fun e w' => e = .returned (.tuple #[.float .f64 p.1, .bool p.2]) ∧ w' = w) :
    Calls Tryz.prog 36 #[.int .i64 d, .pointer (some ⟨B1, 0, none⟩), .pointer (some ⟨B2, 0, none⟩)] w fun e w' => e = .returned (.tuple #[.float .f64 p.1, .bool p.2]) ∧ Below w.heap.size w w' := by
  have H1 : Hid (∀ w, Calls Tryz.prog 38 #[.int .i64 d, .agg #[Value.float .f64 al, .float .f64 ah, .bool ab]] w fun e w' => e = .returned (.float .f64 x) ∧ Below w.heap.size w w') := by
    intro w; have := side_any d al ah ab w; rw [hx] at this; exact this
  have H2 : Hid (∀ w, Calls Tryz.prog 38 #[.int .i64 d, .agg #[Value.float .f64 bl, .float .f64 bh, .bool bb]] w fun e w' => e = .returned (.float .f64 y) ∧ Below w.heap.size w w') := by
    intro w; have := side_any d bl bh bb w; rw [hy] at this; exact this
  have HP : Hid _ := hp
  have HC : Hid (∀ wx wy, Below w.heap.size w wx → Below wx.heap.size wx wy → Below w.heap.size w wy ∧ (wy.cell? ⟨B1, 0, none⟩ = some (.float .f64 al) ∧ wy.cell? ⟨B1, 1, none⟩ = some (.float .f64 ah) ∧ wy.cell? ⟨B1, 2, none⟩ = some (.bool ab)) ∧ (wy.cell? ⟨B2, 0, none⟩ = some (.float .f64 bl) ∧ wy.cell? ⟨B2, 1, none⟩ = some (.float .f64 bh) ∧ wy.cell? ⟨B2, 2, none⟩ = some (.bool bb))) := by
    intro wx wy q1 q2
    have h := q1.trans (q2.mono q1.size)
    exact ⟨h, cells3 ((h.block _ (blk_lt h1)).trans h1), cells3 ((h.block _ (blk_lt h2)).trans h2)⟩
  obtain ⟨a0, a1, a2⟩ := cells3 h1
  obtain ⟨b0, b1, b2⟩ := cells3 h2
  clear hp hx hy h1 h2
  go_enter Tryz.func36, Tryz.ntmps36
  go_upto_region 1 with fail
  go_region_held3 (fun w' => (w'.cell? ⟨B1, 0, none⟩ = some (.float .f64 al) ∧ w'.cell? ⟨B1, 1, none⟩ = some (.float .f64 ah) ∧ w'.cell? ⟨B1, 2, none⟩ = some (.bool ab)) ∧ (w'.cell? ⟨B2, 0, none⟩ = some (.float .f64 bl) ∧ w'.cell? ⟨B2, 1, none⟩ = some (.float .f64 bh) ∧ w'.cell? ⟨B2, 2, none⟩ = some (.bool bb))) (go_keep) ((first
    | (go_at_call_of 38 (Value.agg #[Value.float FloatKind.f64 al, Value.float FloatKind.f64 ah, Value.bool ab]); refine Calls.mono (H1.out _) ?_; rintro e wx1 ⟨rfl, bx1⟩; obtain ⟨bb1, ⟨s0, s1, s2⟩, ⟨s3, s4, s5⟩⟩ := HC.out _ wx1 (by first | assumption | exact (Below.refl _ _).drew) bx1)
    | (go_at_call_of 38 (Value.agg #[Value.float FloatKind.f64 bl, Value.float FloatKind.f64 bh, Value.bool bb]); refine Calls.mono (H2.out _) ?_; rintro e wx2 ⟨rfl, bx2⟩; obtain ⟨bb2, ⟨t0, t1, t2⟩, ⟨t3, t4, t5⟩⟩ := HC.out _ wx2 (by first | assumption | exact (Below.refl _ _).drew) bx2)
    | (go_at_call 37; refine Calls.mono (HP.out _) ?_; rintro e wx3 ⟨rfl, rfl⟩)))
  all_goals
    go_wp2_with fail
    go_ret2
    exact ⟨rfl, by first | assumption | exact bb2 | exact bb1⟩
set_option maxRecDepth 100000 in
set_option maxHeartbeats 2000000 in
theorem sub1_any (d : Int) (B1 B2 al ah bl bh x y : Nat) (ab bb : Bool) (hx : (if d = 2 then al else ah) = x) (hy : (if d = 2 then bh else bl) = y) (w : World) (h1 : w.heap[B1]? = some (Obj.cells #[Value.float .f64 al, .float .f64 ah, .bool ab] 24)) (h2 : w.heap[B2]? = some (Obj.cells #[Value.float .f64 bl, .float .f64 bh, .bool bb] 24)) (p : Nat × Bool)
    (hp : ∀ w, Calls Tryz.prog 50 #[.int .i64 d, .float .f64 x, .float .f64 y] w fun e w' => e = .returned (.tuple #[.float .f64 p.1, .bool p.2]) ∧ w' = w) :
    Calls Tryz.prog 49 #[.int .i64 d, .pointer (some ⟨B1, 0, none⟩), .pointer (some ⟨B2, 0, none⟩)] w fun e w' => e = .returned (.tuple #[.float .f64 p.1, .bool p.2]) ∧ Below w.heap.size w w' := by
  have H1 : Hid (∀ w, Calls Tryz.prog 38 #[.int .i64 d, .agg #[Value.float .f64 al, .float .f64 ah, .bool ab]] w fun e w' => e = .returned (.float .f64 x) ∧ Below w.heap.size w w') := by
    intro w; have := side_any d al ah ab w; rw [hx] at this; exact this
  have H2 : Hid (∀ w, Calls Tryz.prog 51 #[.int .i64 d, .agg #[Value.float .f64 bl, .float .f64 bh, .bool bb]] w fun e w' => e = .returned (.float .f64 y) ∧ Below w.heap.size w w') := by
    intro w; have := otherSide_any d bl bh bb w; rw [hy] at this; exact this
  have HP : Hid _ := hp
  have HC : Hid (∀ wx wy, Below w.heap.size w wx → Below wx.heap.size wx wy → Below w.heap.size w wy ∧ (wy.cell? ⟨B1, 0, none⟩ = some (.float .f64 al) ∧ wy.cell? ⟨B1, 1, none⟩ = some (.float .f64 ah) ∧ wy.cell? ⟨B1, 2, none⟩ = some (.bool ab)) ∧ (wy.cell? ⟨B2, 0, none⟩ = some (.float .f64 bl) ∧ wy.cell? ⟨B2, 1, none⟩ = some (.float .f64 bh) ∧ wy.cell? ⟨B2, 2, none⟩ = some (.bool bb))) := by
    intro wx wy q1 q2
    have h := q1.trans (q2.mono q1.size)
    exact ⟨h, cells3 ((h.block _ (blk_lt h1)).trans h1), cells3 ((h.block _ (blk_lt h2)).trans h2)⟩
  obtain ⟨a0, a1, a2⟩ := cells3 h1
  obtain ⟨b0, b1, b2⟩ := cells3 h2
  clear hp hx hy h1 h2
  go_enter Tryz.func49, Tryz.ntmps49
  go_upto_region 1 with fail
  go_region_held3 (fun w' => (w'.cell? ⟨B1, 0, none⟩ = some (.float .f64 al) ∧ w'.cell? ⟨B1, 1, none⟩ = some (.float .f64 ah) ∧ w'.cell? ⟨B1, 2, none⟩ = some (.bool ab)) ∧ (w'.cell? ⟨B2, 0, none⟩ = some (.float .f64 bl) ∧ w'.cell? ⟨B2, 1, none⟩ = some (.float .f64 bh) ∧ w'.cell? ⟨B2, 2, none⟩ = some (.bool bb))) (go_keep) ((first
    | (go_at_call_of 38 (Value.agg #[Value.float FloatKind.f64 al, Value.float FloatKind.f64 ah, Value.bool ab]); refine Calls.mono (H1.out _) ?_; rintro e wx1 ⟨rfl, bx1⟩; obtain ⟨bb1, ⟨s0, s1, s2⟩, ⟨s3, s4, s5⟩⟩ := HC.out _ wx1 (by first | assumption | exact (Below.refl _ _).drew) bx1)
    | (go_at_call_of 51 (Value.agg #[Value.float FloatKind.f64 bl, Value.float FloatKind.f64 bh, Value.bool bb]); refine Calls.mono (H2.out _) ?_; rintro e wx2 ⟨rfl, bx2⟩; obtain ⟨bb2, ⟨t0, t1, t2⟩, ⟨t3, t4, t5⟩⟩ := HC.out _ wx2 (by first | assumption | exact (Below.refl _ _).drew) bx2)
    | (go_at_call 50; refine Calls.mono (HP.out _) ?_; rintro e wx3 ⟨rfl, rfl⟩)))
  all_goals
    go_wp2_with fail
    go_ret2
    exact ⟨rfl, by first | assumption | exact bb2 | exact bb1⟩
set_option maxRecDepth 100000 in
set_option maxHeartbeats 2000000 in
theorem spAddG_any (al ah bl bh x2 y2 x1 y1 : Nat) (ab bb : Bool) (hal : al < 18446744073709551616) (hah : ah < 18446744073709551616) (hbl : bl < 18446744073709551616) (hbh : bh < 18446744073709551616) (p q : Nat × Bool) (hg : Good al ah ab ∧ Good bl bh bb)
    (hp : ∀ (w w' : World), w'.heap[w.heap.size]? = some (Obj.cells #[Value.float .f64 al, .float .f64 ah, .bool ab] 24) → w'.heap[w.heap.size + 1]? = some (Obj.cells #[Value.float .f64 bl, .float .f64 bh, .bool bb] 24) → Calls Tryz.prog 36 #[.int .i64 2, .pointer (some ⟨w.heap.size, 0, none⟩), .pointer (some ⟨w.heap.size + 1, 0, none⟩)] w' fun e w2 => e = .returned (.tuple #[.float .f64 p.1, .bool p.2]) ∧ Below w'.heap.size w' w2)
    (hq : ∀ (w w' : World), w'.heap[w.heap.size]? = some (Obj.cells #[Value.float .f64 al, .float .f64 ah, .bool ab] 24) → w'.heap[w.heap.size + 1]? = some (Obj.cells #[Value.float .f64 bl, .float .f64 bh, .bool bb] 24) → Calls Tryz.prog 36 #[.int .i64 1, .pointer (some ⟨w.heap.size, 0, none⟩), .pointer (some ⟨w.heap.size + 1, 0, none⟩)] w' fun e w2 => e = .returned (.tuple #[.float .f64 q.1, .bool q.2]) ∧ Below w'.heap.size w' w2) :
    Ans 7 #[.agg #[.float .f64 al, .float .f64 ah, .bool ab], .agg #[.float .f64 bl, .float .f64 bh, .bool bb]] (spOf p q) := by
  intro w
  have HP : Hid _ := hp w
  have HQ : Hid _ := hq w
  have hgd : decide (Good al ah ab ∧ Good bl bh bb) = true := decide_eq_true hg
  have hmf := hMakeFunc
  clear hp hq hg
  obtain ⟨g0, g1, g2, gz, gb⟩ := alloc3_facts w (Obj.cells #[Value.float .f64 al, .float .f64 ah, .bool ab] 24) (Obj.cells #[Value.float .f64 bl, .float .f64 bh, .bool bb] 24) (Obj.cells #[Value.float .f64 0, .float .f64 0, .bool false] 24)
  have G0 : Hid _ := g0
  have G1 : Hid _ := g1
  have G2 : Hid _ := g2
  have GB : Hid _ := gb
  clear g0 g1 g2 gz gb
  have hsf := run_store_f
  go_enter Tryz.func7, Tryz.ntmps7
  go_upto_region 1 with fail
  generalize (((w.alloc (Obj.cells #[Value.float .f64 al, .float .f64 ah, .bool ab] 24)).alloc (Obj.cells #[Value.float .f64 bl, .float .f64 bh, .bool bb] 24)).alloc (Obj.cells #[Value.float .f64 0, .float .f64 0, .bool false] 24)) = W3 at G0 G1 G2 GB ⊢
  obtain ⟨a0, a1, a2⟩ := cells3 G0.out
  obtain ⟨b0, b1, b2⟩ := cells3 G1.out
  have N4 : Hid _ := heap_alloc_new W3 (Obj.cells #[Value.float .f64 al, .float .f64 ah, .bool ab, .float .f64 bl, .float .f64 bh, .bool bb] 24)
  have P0 : Hid _ := alloc4 G0.out GB.out (Obj.cells #[Value.float .f64 al, .float .f64 ah, .bool ab, .float .f64 bl, .float .f64 bh, .bool bb] 24)
  have P1 : Hid _ := alloc4 G1.out GB.out (Obj.cells #[Value.float .f64 al, .float .f64 ah, .bool ab, .float .f64 bl, .float .f64 bh, .bool bb] 24)
  have P2 : Hid _ := alloc4 G2.out GB.out (Obj.cells #[Value.float .f64 al, .float .f64 ah, .bool ab, .float .f64 bl, .float .f64 bh, .bool bb] 24)
  clear G0 G1 G2 GB
  go_wp2_with fail
  clear a0 a1 a2 b0 b1 b2
  generalize W3.alloc (Obj.cells #[Value.float .f64 al, .float .f64 ah, .bool ab, .float .f64 bl, .float .f64 bh, .bool bb] 24) = W4 at N4 P0 P1 P2 ⊢
  refine Calls.mono (good2_any N4.out hal hah hbl hbh) ?_
  rintro e w1 ⟨rfl, bw⟩
  have A1 : Hid (w1.heap[w.heap.size]? = some (Obj.cells #[Value.float .f64 al, .float .f64 ah, .bool ab] 24)) := (bw.block _ (blk_lt P0.out.1)).trans P0.out.1
  have B1 : Hid (w1.heap[w.heap.size + 1]? = some (Obj.cells #[Value.float .f64 bl, .float .f64 bh, .bool bb] 24)) := (bw.block _ (blk_lt P1.out.1)).trans P1.out.1
  have R1 : Hid (w1.heap[w.heap.size + 1 + 1]? = some (Obj.cells #[Value.float .f64 0, .float .f64 0, .bool false] 24)) := (bw.block _ (blk_lt P2.out.1)).trans P2.out.1
  have C1 : Hid (Below w.heap.size w w1) := P0.out.2.trans (bw.mono P0.out.2.size)
  clear bw N4 P0 P1 P2
  rw [hgd]
  have T2 : Hid (Tells 36 #[.pointer (some ⟨w.heap.size, 0, none⟩), .pointer (some ⟨w.heap.size + 1, 0, none⟩)] w1 2 p) := fun w' hb => HP.out w' ((hb.block _ (blk_lt A1.out)).trans A1.out) ((hb.block _ (blk_lt B1.out)).trans B1.out)
  have T1 : Hid (Tells 36 #[.pointer (some ⟨w.heap.size, 0, none⟩), .pointer (some ⟨w.heap.size + 1, 0, none⟩)] w1 1 q) := fun w' hb => HQ.out w' ((hb.block _ (blk_lt A1.out)).trans A1.out) ((hb.block _ (blk_lt B1.out)).trans B1.out)
  clear HP HQ A1 B1
  go_wp2_with fail
  refine Calls.mono (spanOf_any 36 _ (enters_of Tryz.func36 (by kernel_rfl) rfl) _ p q T2.out T1.out) ?_
  rintro e w3 ⟨rfl, bw⟩
  generalize hrr : spOf p q = rr
  have HRR : Hid (spOf p q = rr) := hrr
  clear hrr
  have R3 : Hid _ := (bw.block _ (blk_lt R1.out)).trans R1.out
  have C3 : Hid (Below w.heap.size w w3) := C1.out.trans (bw.mono C1.out.size)
  clear bw R1 C1 T1 T2
  obtain ⟨r0, r1, r2⟩ := cells3 R3.out
  have fz := fun j => frozen_of_row _ _ j _ _ R3.out
  go_wp2_with fail
  refine bodyPost_ret (v := .agg #[.float .f64 rr.1, .float .f64 rr.2.1, .bool rr.2.2]) (res_sp _ 4 (by kernel_rfl) _ _ (w.heap.size + 1 + 1) _ _ _ ?_ (setsp_heap _ _ _ R3.out)) rfl ?_
  · rfl
  · exact ⟨by rw [HRR.out], below_setsp _ _ _ C3.out (by omega)⟩
set_option maxRecDepth 100000 in
set_option maxHeartbeats 2000000 in
theorem spAddB_any (al ah bl bh : Nat) (ab bb : Bool) (hal : al < 18446744073709551616) (hah : ah < 18446744073709551616) (hbl : bl < 18446744073709551616) (hbh : bh < 18446744073709551616) (hg : ¬ (Good al ah ab ∧ Good bl bh bb)) :
    Ans 7 #[.agg #[.float .f64 al, .float .f64 ah, .bool ab], .agg #[.float .f64 bl, .float .f64 bh, .bool bb]] (0, 0, true) := by
  intro w
  have hgd : decide (Good al ah ab ∧ Good bl bh bb) = false := decide_eq_false hg
  clear hg
  obtain ⟨g0, g1, g2, gz, gb⟩ := alloc3_facts w (Obj.cells #[Value.float .f64 al, .float .f64 ah, .bool ab] 24) (Obj.cells #[Value.float .f64 bl, .float .f64 bh, .bool bb] 24) (Obj.cells #[Value.float .f64 0, .float .f64 0, .bool false] 24)
  have G0 : Hid _ := g0
  have G1 : Hid _ := g1
  have G2 : Hid _ := g2
  have GB : Hid _ := gb
  clear g0 g1 g2 gz gb
  have hsf := run_store_f
  go_enter Tryz.func7, Tryz.ntmps7
  go_upto_region 1 with fail
  generalize (((w.alloc (Obj.cells #[Value.float .f64 al, .float .f64 ah, .bool ab] 24)).alloc (Obj.cells #[Value.float .f64 bl, .float .f64 bh, .bool bb] 24)).alloc (Obj.cells #[Value.float .f64 0, .float .f64 0, .bool false] 24)) = W3 at G0 G1 G2 GB ⊢
  obtain ⟨a0, a1, a2⟩ := cells3 G0.out
  obtain ⟨b0, b1, b2⟩ := cells3 G1.out
  have N4 : Hid _ := heap_alloc_new W3 (Obj.cells #[Value.float .f64 al, .float .f64 ah, .bool ab, .float .f64 bl, .float .f64 bh, .bool bb] 24)
  have P0 : Hid _ := alloc4 G0.out GB.out (Obj.cells #[Value.float .f64 al, .float .f64 ah, .bool ab, .float .f64 bl, .float .f64 bh, .bool bb] 24)
  have P1 : Hid _ := alloc4 G1.out GB.out (Obj.cells #[Value.float .f64 al, .float .f64 ah, .bool ab, .float .f64 bl, .float .f64 bh, .bool bb] 24)
  have P2 : Hid _ := alloc4 G2.out GB.out (Obj.cells #[Value.float .f64 al, .float .f64 ah, .bool ab, .float .f64 bl, .float .f64 bh, .bool bb] 24)
  clear G0 G1 G2 GB
  go_wp2_with fail
  clear a0 a1 a2 b0 b1 b2
  generalize W3.alloc (Obj.cells #[Value.float .f64 al, .float .f64 ah, .bool ab, .float .f64 bl, .float .f64 bh, .bool bb] 24) = W4 at N4 P0 P1 P2 ⊢
  refine Calls.mono (good2_any N4.out hal hah hbl hbh) ?_
  rintro e w1 ⟨rfl, bw⟩
  have A1 : Hid (w1.heap[w.heap.size]? = some (Obj.cells #[Value.float .f64 al, .float .f64 ah, .bool ab] 24)) := (bw.block _ (blk_lt P0.out.1)).trans P0.out.1
  have B1 : Hid (w1.heap[w.heap.size + 1]? = some (Obj.cells #[Value.float .f64 bl, .float .f64 bh, .bool bb] 24)) := (bw.block _ (blk_lt P1.out.1)).trans P1.out.1
  have R1 : Hid (w1.heap[w.heap.size + 1 + 1]? = some (Obj.cells #[Value.float .f64 0, .float .f64 0, .bool false] 24)) := (bw.block _ (blk_lt P2.out.1)).trans P2.out.1
  have C1 : Hid (Below w.heap.size w w1) := P0.out.2.trans (bw.mono P0.out.2.size)
  clear bw N4 P0 P1 P2
  rw [hgd]
  go_wp2_with fail
  refine Calls.mono (spBad_any _) ?_
  rintro e w2 ⟨rfl, bw⟩
  have R2 : Hid _ := (bw.block _ (blk_lt R1.out)).trans R1.out
  have C2 : Hid (Below w.heap.size w w2) := C1.out.trans (bw.mono C1.out.size)
  clear bw
  obtain ⟨r0, r1, r2⟩ := cells3 R2.out
  have fz := fun j => frozen_of_row _ _ j _ _ R2.out
  go_wp2_with fail
  refine bodyPost_ret (v := .agg #[.float .f64 0, .float .f64 0, .bool true]) (res_sp _ 4 (by kernel_rfl) _ _ (w.heap.size + 1 + 1) _ _ _ ?_ (setsp_heap _ _ _ R2.out)) rfl ?_
  · rfl
  · exact ⟨rfl, below_setsp _ _ _ C2.out (by omega)⟩
set_option maxRecDepth 100000 in
set_option maxHeartbeats 2000000 in
theorem spSubG_any (al ah bl bh x2 y2 x1 y1 : Nat) (ab bb : Bool) (hal : al < 18446744073709551616) (hah : ah < 18446744073709551616) (hbl : bl < 18446744073709551616) (hbh : bh < 18446744073709551616) (p q : Nat × Bool) (hg : Good al ah ab ∧ Good bl bh bb)
    (hp : ∀ (w w' : World), w'.heap[w.heap.size]? = some (Obj.cells #[Value.float .f64 al, .float .f64 ah, .bool ab] 24) → w'.heap[w.heap.size + 1]? = some (Obj.cells #[Value.float .f64 bl, .float .f64 bh, .bool bb] 24) → Calls Tryz.prog 49 #[.int .i64 2, .pointer (some ⟨w.heap.size, 0, none⟩), .pointer (some ⟨w.heap.size + 1, 0, none⟩)] w' fun e w2 => e = .returned (.tuple #[.float .f64 p.1, .bool p.2]) ∧ Below w'.heap.size w' w2)
    (hq : ∀ (w w' : World), w'.heap[w.heap.size]? = some (Obj.cells #[Value.float .f64 al, .float .f64 ah, .bool ab] 24) → w'.heap[w.heap.size + 1]? = some (Obj.cells #[Value.float .f64 bl, .float .f64 bh, .bool bb] 24) → Calls Tryz.prog 49 #[.int .i64 1, .pointer (some ⟨w.heap.size, 0, none⟩), .pointer (some ⟨w.heap.size + 1, 0, none⟩)] w' fun e w2 => e = .returned (.tuple #[.float .f64 q.1, .bool q.2]) ∧ Below w'.heap.size w' w2) :
    Ans 15 #[.agg #[.float .f64 al, .float .f64 ah, .bool ab], .agg #[.float .f64 bl, .float .f64 bh, .bool bb]] (spOf p q) := by
  intro w
  have HP : Hid _ := hp w
  have HQ : Hid _ := hq w
  have hgd : decide (Good al ah ab ∧ Good bl bh bb) = true := decide_eq_true hg
  have hmf := hMakeFunc
  clear hp hq hg
  obtain ⟨g0, g1, g2, gz, gb⟩ := alloc3_facts w (Obj.cells #[Value.float .f64 al, .float .f64 ah, .bool ab] 24) (Obj.cells #[Value.float .f64 bl, .float .f64 bh, .bool bb] 24) (Obj.cells #[Value.float .f64 0, .float .f64 0, .bool false] 24)
  have G0 : Hid _ := g0
  have G1 : Hid _ := g1
  have G2 : Hid _ := g2
  have GB : Hid _ := gb
  clear g0 g1 g2 gz gb
  have hsf := run_store_f
  go_enter Tryz.func15, Tryz.ntmps15
  go_upto_region 1 with fail
  generalize (((w.alloc (Obj.cells #[Value.float .f64 al, .float .f64 ah, .bool ab] 24)).alloc (Obj.cells #[Value.float .f64 bl, .float .f64 bh, .bool bb] 24)).alloc (Obj.cells #[Value.float .f64 0, .float .f64 0, .bool false] 24)) = W3 at G0 G1 G2 GB ⊢
  obtain ⟨a0, a1, a2⟩ := cells3 G0.out
  obtain ⟨b0, b1, b2⟩ := cells3 G1.out
  have N4 : Hid _ := heap_alloc_new W3 (Obj.cells #[Value.float .f64 al, .float .f64 ah, .bool ab, .float .f64 bl, .float .f64 bh, .bool bb] 24)
  have P0 : Hid _ := alloc4 G0.out GB.out (Obj.cells #[Value.float .f64 al, .float .f64 ah, .bool ab, .float .f64 bl, .float .f64 bh, .bool bb] 24)
  have P1 : Hid _ := alloc4 G1.out GB.out (Obj.cells #[Value.float .f64 al, .float .f64 ah, .bool ab, .float .f64 bl, .float .f64 bh, .bool bb] 24)
  have P2 : Hid _ := alloc4 G2.out GB.out (Obj.cells #[Value.float .f64 al, .float .f64 ah, .bool ab, .float .f64 bl, .float .f64 bh, .bool bb] 24)
  clear G0 G1 G2 GB
  go_wp2_with fail
  clear a0 a1 a2 b0 b1 b2
  generalize W3.alloc (Obj.cells #[Value.float .f64 al, .float .f64 ah, .bool ab, .float .f64 bl, .float .f64 bh, .bool bb] 24) = W4 at N4 P0 P1 P2 ⊢
  refine Calls.mono (good2_any N4.out hal hah hbl hbh) ?_
  rintro e w1 ⟨rfl, bw⟩
  have A1 : Hid (w1.heap[w.heap.size]? = some (Obj.cells #[Value.float .f64 al, .float .f64 ah, .bool ab] 24)) := (bw.block _ (blk_lt P0.out.1)).trans P0.out.1
  have B1 : Hid (w1.heap[w.heap.size + 1]? = some (Obj.cells #[Value.float .f64 bl, .float .f64 bh, .bool bb] 24)) := (bw.block _ (blk_lt P1.out.1)).trans P1.out.1
  have R1 : Hid (w1.heap[w.heap.size + 1 + 1]? = some (Obj.cells #[Value.float .f64 0, .float .f64 0, .bool false] 24)) := (bw.block _ (blk_lt P2.out.1)).trans P2.out.1
  have C1 : Hid (Below w.heap.size w w1) := P0.out.2.trans (bw.mono P0.out.2.size)
  clear bw N4 P0 P1 P2
  rw [hgd]
  have T2 : Hid (Tells 49 #[.pointer (some ⟨w.heap.size, 0, none⟩), .pointer (some ⟨w.heap.size + 1, 0, none⟩)] w1 2 p) := fun w' hb => HP.out w' ((hb.block _ (blk_lt A1.out)).trans A1.out) ((hb.block _ (blk_lt B1.out)).trans B1.out)
  have T1 : Hid (Tells 49 #[.pointer (some ⟨w.heap.size, 0, none⟩), .pointer (some ⟨w.heap.size + 1, 0, none⟩)] w1 1 q) := fun w' hb => HQ.out w' ((hb.block _ (blk_lt A1.out)).trans A1.out) ((hb.block _ (blk_lt B1.out)).trans B1.out)
  clear HP HQ A1 B1
  go_wp2_with fail
  refine Calls.mono (spanOf_any 49 _ (enters_of Tryz.func49 (by kernel_rfl) rfl) _ p q T2.out T1.out) ?_
  rintro e w3 ⟨rfl, bw⟩
  generalize hrr : spOf p q = rr
  have HRR : Hid (spOf p q = rr) := hrr
  clear hrr
  have R3 : Hid _ := (bw.block _ (blk_lt R1.out)).trans R1.out
  have C3 : Hid (Below w.heap.size w w3) := C1.out.trans (bw.mono C1.out.size)
  clear bw R1 C1 T1 T2
  obtain ⟨r0, r1, r2⟩ := cells3 R3.out
  have fz := fun j => frozen_of_row _ _ j _ _ R3.out
  go_wp2_with fail
  refine bodyPost_ret (v := .agg #[.float .f64 rr.1, .float .f64 rr.2.1, .bool rr.2.2]) (res_sp _ 4 (by kernel_rfl) _ _ (w.heap.size + 1 + 1) _ _ _ ?_ (setsp_heap _ _ _ R3.out)) rfl ?_
  · rfl
  · exact ⟨by rw [HRR.out], below_setsp _ _ _ C3.out (by omega)⟩
set_option maxRecDepth 100000 in
set_option maxHeartbeats 2000000 in
theorem spSubB_any (al ah bl bh : Nat) (ab bb : Bool) (hal : al < 18446744073709551616) (hah : ah < 18446744073709551616) (hbl : bl < 18446744073709551616) (hbh : bh < 18446744073709551616) (hg : ¬ (Good al ah ab ∧ Good bl bh bb)) :
    Ans 15 #[.agg #[.float .f64 al, .float .f64 ah, .bool ab], .agg #[.float .f64 bl, .float .f64 bh, .bool bb]] (0, 0, true) := by
  intro w
  have hgd : decide (Good al ah ab ∧ Good bl bh bb) = false := decide_eq_false hg
  clear hg
  obtain ⟨g0, g1, g2, gz, gb⟩ := alloc3_facts w (Obj.cells #[Value.float .f64 al, .float .f64 ah, .bool ab] 24) (Obj.cells #[Value.float .f64 bl, .float .f64 bh, .bool bb] 24) (Obj.cells #[Value.float .f64 0, .float .f64 0, .bool false] 24)
  have G0 : Hid _ := g0
  have G1 : Hid _ := g1
  have G2 : Hid _ := g2
  have GB : Hid _ := gb
  clear g0 g1 g2 gz gb
  have hsf := run_store_f
  go_enter Tryz.func15, Tryz.ntmps15
  go_upto_region 1 with fail
  generalize (((w.alloc (Obj.cells #[Value.float .f64 al, .float .f64 ah, .bool ab] 24)).alloc (Obj.cells #[Value.float .f64 bl, .float .f64 bh, .bool bb] 24)).alloc (Obj.cells #[Value.float .f64 0, .float .f64 0, .bool false] 24)) = W3 at G0 G1 G2 GB ⊢
  obtain ⟨a0, a1, a2⟩ := cells3 G0.out
  obtain ⟨b0, b1, b2⟩ := cells3 G1.out
  have N4 : Hid _ := heap_alloc_new W3 (Obj.cells #[Value.float .f64 al, .float .f64 ah, .bool ab, .float .f64 bl, .float .f64 bh, .bool bb] 24)
  have P0 : Hid _ := alloc4 G0.out GB.out (Obj.cells #[Value.float .f64 al, .float .f64 ah, .bool ab, .float .f64 bl, .float .f64 bh, .bool bb] 24)
  have P1 : Hid _ := alloc4 G1.out GB.out (Obj.cells #[Value.float .f64 al, .float .f64 ah, .bool ab, .float .f64 bl, .float .f64 bh, .bool bb] 24)
  have P2 : Hid _ := alloc4 G2.out GB.out (Obj.cells #[Value.float .f64 al, .float .f64 ah, .bool ab, .float .f64 bl, .float .f64 bh, .bool bb] 24)
  clear G0 G1 G2 GB
  go_wp2_with fail
  clear a0 a1 a2 b0 b1 b2
  generalize W3.alloc (Obj.cells #[Value.float .f64 al, .float .f64 ah, .bool ab, .float .f64 bl, .float .f64 bh, .bool bb] 24) = W4 at N4 P0 P1 P2 ⊢
  refine Calls.mono (good2_any N4.out hal hah hbl hbh) ?_
  rintro e w1 ⟨rfl, bw⟩
  have A1 : Hid (w1.heap[w.heap.size]? = some (Obj.cells #[Value.float .f64 al, .float .f64 ah, .bool ab] 24)) := (bw.block _ (blk_lt P0.out.1)).trans P0.out.1
  have B1 : Hid (w1.heap[w.heap.size + 1]? = some (Obj.cells #[Value.float .f64 bl, .float .f64 bh, .bool bb] 24)) := (bw.block _ (blk_lt P1.out.1)).trans P1.out.1
  have R1 : Hid (w1.heap[w.heap.size + 1 + 1]? = some (Obj.cells #[Value.float .f64 0, .float .f64 0, .bool false] 24)) := (bw.block _ (blk_lt P2.out.1)).trans P2.out.1
  have C1 : Hid (Below w.heap.size w w1) := P0.out.2.trans (bw.mono P0.out.2.size)
  clear bw N4 P0 P1 P2
  rw [hgd]
  go_wp2_with fail
  refine Calls.mono (spBad_any _) ?_
  rintro e w2 ⟨rfl, bw⟩
  have R2 : Hid _ := (bw.block _ (blk_lt R1.out)).trans R1.out
  have C2 : Hid (Below w.heap.size w w2) := C1.out.trans (bw.mono C1.out.size)
  clear bw
  obtain ⟨r0, r1, r2⟩ := cells3 R2.out
  have fz := fun j => frozen_of_row _ _ j _ _ R2.out
  go_wp2_with fail
  refine bodyPost_ret (v := .agg #[.float .f64 0, .float .f64 0, .bool true]) (res_sp _ 4 (by kernel_rfl) _ _ (w.heap.size + 1 + 1) _ _ _ ?_ (setsp_heap _ _ _ R2.out)) rfl ?_
  · rfl
  · exact ⟨rfl, below_setsp _ _ _ C2.out (by omega)⟩
theorem spAdd_any (al ah bl bh : Nat) (ab bb : Bool) (hal : al < 18446744073709551616) (hah : ah < 18446744073709551616) (hbl : bl < 18446744073709551616) (hbh : bh < 18446744073709551616) :
    ∃ r, BinR (SpR (fval al + fval bl) (fval ah + fval bh) 1) al ah bl bh ab bb r ∧ Ans 7 #[.agg #[.float .f64 al, .float .f64 ah, .bool ab], .agg #[.float .f64 bl, .float .f64 bh, .bool bb]] r := by
  by_cases hg : Good al ah ab ∧ Good bl bh bb
  · obtain ⟨p, p1, -, p2⟩ := add_any 2 al bl (by assumption) (by assumption)
    obtain ⟨q, q1, -, q2⟩ := add_any 1 ah bh (by assumption) (by assumption)
    have fa := hg.1.2.1
    have fb := hg.1.2.2.1
    have fc := hg.2.2.1
    have fd := hg.2.2.2.1
    refine ⟨_, ?_, spAddG_any al ah bl bh 0 0 0 0 ab bb hal hah hbl hbh p q hg (fun w w' h1 h2 => add1_any 2 _ _ al ah bl bh _ _ ab bb rfl rfl w' h1 h2 p p2) (fun w w' h1 h2 => add1_any 1 _ _ al ah bl bh _ _ ab bb rfl rfl w' h1 h2 q q2)⟩
    unfold BinR; rw [if_pos hg]
    exact ⟨p, q, p1 (by assumption) (by assumption), q1 (by assumption) (by assumption), rfl⟩
  · exact ⟨(0, 0, true), by unfold BinR; rw [if_neg hg], spAddB_any al ah bl bh ab bb hal hah hbl hbh hg⟩
theorem spSub_any (al ah bl bh : Nat) (ab bb : Bool) (hal : al < 18446744073709551616) (hah : ah < 18446744073709551616) (hbl : bl < 18446744073709551616) (hbh : bh < 18446744073709551616) :
    ∃ r, BinR (SpR (fval al - fval bh) (fval ah - fval bl) 1) al ah bl bh ab bb r ∧ Ans 15 #[.agg #[.float .f64 al, .float .f64 ah, .bool ab], .agg #[.float .f64 bl, .float .f64 bh, .bool bb]] r := by
  by_cases hg : Good al ah ab ∧ Good bl bh bb
  · obtain ⟨p, p1, -, p2⟩ := sub_any 2 al bh (by assumption) (by assumption)
    obtain ⟨q, q1, -, q2⟩ := sub_any 1 ah bl (by assumption) (by assumption)
    have fa := hg.1.2.1
    have fb := hg.1.2.2.1
    have fc := hg.2.2.1
    have fd := hg.2.2.2.1
    refine ⟨_, ?_, spSubG_any al ah bl bh 0 0 0 0 ab bb hal hah hbl hbh p q hg (fun w w' h1 h2 => sub1_any 2 _ _ al ah bl bh _ _ ab bb rfl rfl w' h1 h2 p p2) (fun w w' h1 h2 => sub1_any 1 _ _ al ah bl bh _ _ ab bb rfl rfl w' h1 h2 q q2)⟩
    unfold BinR; rw [if_pos hg]
    exact ⟨p, q, p1 (by assumption) (by assumption), q1 (by assumption) (by assumption), rfl⟩
  · exact ⟨(0, 0, true), by unfold BinR; rw [if_neg hg], spSubB_any al ah bl bh ab bb hal hah hbl hbh hg⟩
end Go.Proofs.YtnjjichanfpbhaaGreat
