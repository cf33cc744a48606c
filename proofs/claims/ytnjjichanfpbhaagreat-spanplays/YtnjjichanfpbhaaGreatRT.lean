import Derived.Test.YtnjjichanfpbhaaGreatRS
namespace Go.Proofs.YtnjjichanfpbhaaGreat
open Go.RowKit
set_option linter.unusedVariables false

theorem scaleV_rnd {d : Int} {u : Nat} {neg : Bool} {m : Nat} {e c : Int} (he : -1074 ≤ e) (E : Nat) (hE : E = 1074) (hz : zv E neg m e = fval u) {p : Nat × Bool} (hr : Rnd d neg (nume m (if m = 0 then e else e + c)) (deno (if m = 0 then e else e + c)) p) :
    Rnd d (fneg u) (rmag (frung u) * 2 ^ c.toNat) (2 ^ (-c).toNat) p := by
  have ha := zv_abs E neg m e
  rw [hz, fval_abs] at ha
  by_cases h0 : m = 0
  · have hn : nume m (if m = 0 then e else e + c) = 0 := by unfold nume; rw [h0, Nat.zero_mul]
    rw [hn] at hr
    have hu : rmag (frung u) = 0 := by rw [ha, h0, Nat.zero_mul]
    rw [hu, Nat.zero_mul]
    obtain ⟨R, hR, rfl⟩ := hr
    have e1 := fl_zero hR
    subst e1
    have hf0 : Fl 0 (2 ^ (-c).toNat) 0 := by have := Fl.exact 0 (2 ^ (-c).toNat) (Nat.two_pow_pos _); rw [rmag_zero, Nat.zero_mul] at this; exact this
    have k1 := rnd_exact (d := d) (neg := neg) (k := 0) (D := deno (if m = 0 then e else e + c)) (by decide) ⟨0, by rw [rmag_zero, Nat.zero_mul]; exact hR, rfl⟩
    have k2 := rnd_exact (d := d) (neg := fneg u) (k := 0) (D := 2 ^ (-c).toNat) (by decide) ⟨0, by rw [rmag_zero, Nat.zero_mul]; exact hf0, rfl⟩
    have hs : ∀ g, sgnK g 0 = 0 := fun g => by unfold sgnK; simp
    rw [rmag_zero, Nat.zero_mul, hs] at k1 k2
    exact ⟨0, hf0, by rw [k1, k2]⟩
  · rw [if_neg h0] at hr
    have hp : 0 < m * 2 ^ (e + (E : Int)).toNat := Nat.mul_pos (by omega) (Nat.two_pow_pos _)
    have hne : zv E neg m e ≠ 0 := by rw [hz]; have := fval_abs u; omega
    have hs : neg = fneg u := by
      rw [zv_lt hne, hz]
      have hv : fval u = (if fneg u then -(rmag (frung u) : Int) else (rmag (frung u) : Int)) := rfl
      rw [ha] at hv
      generalize m * 2 ^ (e + (E : Int)).toNat = x at hv hp
      cases hf : fneg u
      · rw [hf] at hv; simp at hv; exact decide_eq_false (by omega)
      · rw [hf] at hv; simp at hv; exact decide_eq_true (by omega)
    subst hs
    refine hr.of_eq (Nat.two_pow_pos _) ?_
    unfold nume deno
    rw [ha]
    rw [Nat.mul_assoc, Nat.mul_assoc, Nat.mul_assoc, ← Nat.pow_add, ← Nat.pow_add, ← Nat.pow_add]
    congr 2
    omega
set_option maxRecDepth 100000 in
set_option maxHeartbeats 8000000 in
theorem refOfV_any (v u : Value) (n1 n2 : Bool) (m1 m2 : Nat) (e1 e2 : Int) (w : World) (h1 : NumV w v n1 m1 e1) (h2 : NumV w u n2 m2 e2) (hb1 : (-10000 ≤ e1 ∧ e1 ≤ 10000) ∧ bl m1 ≤ 9000) (hb2 : (-10000 ≤ e2 ∧ e2 ≤ 10000) ∧ bl m2 ≤ 9000) :
    Calls Tryz.prog 46 #[v, u] w fun e w' => RefAns w (fun r => ∃ p q, Rnd 2 n1 (nume m1 e1) (deno e1) p ∧ Rnd 1 n2 (nume m2 e2) (deno e2) q ∧ r = spOf p q) e w' := by
  have ZV : Hid (NumV w v n1 m1 e1) := h1
  have ZU : Hid (NumV w u n2 m2 e2) := h2
  obtain ⟨ao, len, cap, xs, rfl, -⟩ := h1
  obtain ⟨bo, blen, bcap, ys, rfl, -⟩ := h2
  obtain ⟨g0, g1, g2, gz, gb⟩ := alloc3_facts w (Obj.cells #[Value.bool n1, Value.slice ao len cap, Value.int IntKind.i64 e1] 61) (Obj.cells #[Value.bool n2, Value.slice bo blen bcap, Value.int IntKind.i64 e2] 61) (Obj.cells #[Value.int .u64 0, .int .u64 0, .bool false] 36)
  have G0 : Hid _ := g0
  have G1 : Hid _ := g1
  have G2 : Hid _ := g2
  have GB : Hid _ := gb
  clear g0 g1 g2 gz gb
  go_enter Tryz.func46, Tryz.ntmps46
  go_upto_region 1 with fail
  generalize (((w.alloc (Obj.cells #[Value.bool n1, Value.slice ao len cap, Value.int IntKind.i64 e1] 61)).alloc (Obj.cells #[Value.bool n2, Value.slice bo blen bcap, Value.int IntKind.i64 e2] 61)).alloc (Obj.cells #[Value.int .u64 0, .int .u64 0, .bool false] 36)) = W0 at G0 G1 G2 GB ⊢
  obtain ⟨x0, x1, x2⟩ := cells3 G0.out
  go_wp2_with fail
  refine Calls.mono (round_any 2 _ n1 m1 e1 _ (NumV.later ZV.out GB.out) hb1.1 hb1.2 (by decide) (by decide)) ?_
  rintro e' w1 ⟨p1, p2, rfl, hR1, bw⟩
  have RP : Hid (Rnd 2 n1 (nume m1 e1) (deno e1) (p1, p2)) := hR1
  have G1' : Hid _ := (bw.block _ (blk_lt G1.out)).trans G1.out
  have G2' : Hid _ := (bw.block _ (blk_lt G2.out)).trans G2.out
  have C1 : Hid (Below w.heap.size w w1) := GB.out.trans (bw.mono GB.out.size)
  clear bw hR1 G0 G1 G2 GB x0 x1 x2
  obtain ⟨y0, y1, y2⟩ := cells3 G1'.out
  go_wp2_with fail
  refine Calls.mono (round_any 1 _ n2 m2 e2 _ (NumV.later ZU.out C1.out) hb2.1 hb2.2 (by decide) (by decide)) ?_
  rintro e' w3 ⟨q1, q2, rfl, hR2, bw⟩
  have RQ : Hid (Rnd 1 n2 (nume m2 e2) (deno e2) (q1, q2)) := hR2
  have R3 : Hid _ := (bw.block _ (blk_lt G2'.out)).trans G2'.out
  have C3 : Hid (Below w.heap.size w w3) := C1.out.trans (bw.mono C1.out.size)
  clear bw hR2 G1' G2' C1 y0 y1 y2 ZV ZU
  cases p2
  · have HSP : Hid ((fun r => ∃ p q, Rnd 2 n1 (nume m1 e1) (deno e1) p ∧ Rnd 1 n2 (nume m2 e2) (deno e2) q ∧ r = spOf p q) (0, 0, true)) := ⟨_, _, RP.out, RQ.out, by unfold spOf; rw [if_neg (fun c => by have := c.1; cases this)]⟩
    clear RP RQ
    go_wp2_with fail
    refine Calls.mono (refBad_any _) ?_
    rintro e w4 ⟨rfl, bw⟩
    have R4 : Hid _ := (bw.block _ (blk_lt R3.out)).trans R3.out
    have C4 : Hid (Below w.heap.size w w4) := C3.out.trans (bw.mono C3.out.size)
    clear bw
    obtain ⟨r0, r1, r2⟩ := cells3 R4.out
    have fz := fun j => frozen_of_row _ _ j _ _ R4.out
    go_wp2_with fail
    refine bodyPost_ret (v := .agg #[.int .u64 0, .int .u64 0, .bool true]) (res_su _ 4 (by kernel_rfl) _ _ (w.heap.size + 1 + 1) _ _ _ ?_ (setsp_heap _ _ _ R4.out)) rfl ?_
    · rfl
    · exact ⟨(0, 0, true), rfl, HSP.out, below_setsp _ _ _ C4.out (by omega)⟩
  · cases q2
    · have HSP : Hid ((fun r => ∃ p q, Rnd 2 n1 (nume m1 e1) (deno e1) p ∧ Rnd 1 n2 (nume m2 e2) (deno e2) q ∧ r = spOf p q) (0, 0, true)) := ⟨_, _, RP.out, RQ.out, by unfold spOf; rw [if_neg (fun c => by have := c.2; cases this)]⟩
      clear RP RQ
      go_wp2_with fail
      refine Calls.mono (refBad_any _) ?_
      rintro e w4 ⟨rfl, bw⟩
      have R4 : Hid _ := (bw.block _ (blk_lt R3.out)).trans R3.out
      have C4 : Hid (Below w.heap.size w w4) := C3.out.trans (bw.mono C3.out.size)
      clear bw
      obtain ⟨r0, r1, r2⟩ := cells3 R4.out
      have fz := fun j => frozen_of_row _ _ j _ _ R4.out
      go_wp2_with fail
      refine bodyPost_ret (v := .agg #[.int .u64 0, .int .u64 0, .bool true]) (res_su _ 4 (by kernel_rfl) _ _ (w.heap.size + 1 + 1) _ _ _ ?_ (setsp_heap _ _ _ R4.out)) rfl ?_
      · rfl
      · exact ⟨(0, 0, true), rfl, HSP.out, below_setsp _ _ _ C4.out (by omega)⟩
    · have HSP : Hid ((fun r => ∃ p q, Rnd 2 n1 (nume m1 e1) (deno e1) p ∧ Rnd 1 n2 (nume m2 e2) (deno e2) q ∧ r = spOf p q) (p1, q1, false)) := ⟨_, _, RP.out, RQ.out, by unfold spOf; rw [if_pos ⟨rfl, rfl⟩]⟩
      clear RP RQ
      obtain ⟨r0, r1, r2⟩ := cells3 R3.out
      have fz := fun j => frozen_of_row _ _ j _ _ R3.out
      go_wp2_with fail
      refine bodyPost_ret (v := .agg #[.int .u64 (p1 : Int), .int .u64 (q1 : Int), .bool false]) (res_su _ 4 (by kernel_rfl) _ _ (w.heap.size + 1 + 1) _ _ _ ?_ (setsp_heap _ _ _ R3.out)) rfl ?_
      · rfl
      · exact ⟨(p1, q1, false), rfl, HSP.out, below_setsp _ _ _ C3.out (by omega)⟩
set_option maxRecDepth 100000 in
set_option maxHeartbeats 8000000 in
theorem refScale4_any (al ah : Nat) (ab : Bool) (n : Int) (hal : al < 18446744073709551616) (hah : ah < 18446744073709551616) (w : World) (E : Nat) (hE : E = 1074) :
    Calls Tryz.prog 21 #[.agg #[Value.int .u64 (al : Int), .int .u64 (ah : Int), .bool ab], .int .i64 n] w fun e w' => RefAns w (UnR (ScR n al ah) al ah ab) e w' := by
  have hcl : (if 5000 < (if n < -5000 then -5000 else n) then (5000 : Int) else (if n < -5000 then -5000 else n)) = clip5 n := by unfold clip5; omega
  have hcb : -5000 ≤ clip5 n ∧ clip5 n ≤ 5000 := by unfold clip5; omega
  obtain ⟨g0, g1, -, gb⟩ := alloc2_facts w (Obj.cells #[Value.int .u64 (al : Int), .int .u64 (ah : Int), .bool ab] 36) (Obj.cells #[Value.int .u64 0, .int .u64 0, .bool false] 36)
  have GA : Hid _ := g0
  have GR : Hid _ := g1
  have GB : Hid _ := gb
  clear g0 g1 gb
  go_enter Tryz.func21, Tryz.ntmps21
  go_upto_region 1 with fail
  generalize ((w.alloc (Obj.cells #[Value.int .u64 (al : Int), .int .u64 (ah : Int), .bool ab] 36)).alloc (Obj.cells #[Value.int .u64 0, .int .u64 0, .bool false] 36)) = W0 at GA GR GB ⊢
  obtain ⟨a0, a1, a2⟩ := cells3 GA.out
  go_wp2_with fail
  clear a0 a1 a2
  refine Calls.mono (ends_any al ah ab hal hah _ E hE) ?_
  rintro e w1 ⟨v1, u1, rfl, ⟨z1, hz1, hf1⟩, ⟨y1, hy1, hg1⟩, bw⟩
  have Z1 : Hid (NumZ w1 v1 E 1024 z1) := hz1
  have Y1 : Hid (NumZ w1 u1 E 1024 y1) := hy1
  have F1 : Hid (Fin al → z1 = fval al) := hf1
  have H1 : Hid (Fin ah → y1 = fval ah) := hg1
  obtain ⟨nx1, mx1, ex1, ⟨ao1, len1, cap1, xs1, rfl, -⟩, -⟩ := hz1
  obtain ⟨ny1, my1, ey1, ⟨bo1, blen1, bcap1, ys1, rfl, -⟩, -⟩ := hy1
  have GR_1 : Hid _ := (bw.block _ (blk_lt GR.out)).trans GR.out
  have C_1 : Hid (Below w.heap.size w w1) := GB.out.trans (bw.mono GB.out.size)
  clear bw hf1 hg1 GB GR
  by_cases hg : Good al ah ab
  · rw [decide_eq_true hg]
    have HZ : Hid (z1 = fval al ∧ y1 = fval ah) := ⟨F1.out hg.2.1, H1.out hg.2.2.1⟩
    have HSP : Hid (∀ r, (∃ p q, Rnd 2 (fneg al) (rmag (frung al) * 2 ^ (clip5 n).toNat) (2 ^ (-(clip5 n)).toNat) p ∧ Rnd 1 (fneg ah) (rmag (frung ah) * 2 ^ (clip5 n).toNat) (2 ^ (-(clip5 n)).toNat) q ∧ r = spOf p q) → UnR (ScR n al ah) al ah ab r) := by
      rintro r ⟨p, q, hp, hq, rfl⟩
      unfold UnR
      rw [if_pos hg]
      obtain ⟨p', p1, -, -⟩ := scale_any 2 al n hal
      obtain ⟨q', q1, -, -⟩ := scale_any 1 ah n hah
      have ep := far_same hg.2.1 (p1 hg.2.1) hp
      have eq := far_same hg.2.2.1 (q1 hg.2.2.1) hq
      exact ⟨p, q, ep ▸ p1 hg.2.1, eq ▸ q1 hg.2.2.1, rfl⟩
    clear hg F1 H1
    go_upto_region 2 with fail
    have HR1 : w.heap.size + 1 < w1.heap.size := blk_lt GR_1.out
    obtain ⟨k0, k1, -, kb⟩ := alloc2_facts w1 (Obj.cells #[Value.bool nx1, Value.slice ao1 len1 cap1, Value.int IntKind.i64 ex1] 61) (Obj.cells #[Value.bool ny1, Value.slice bo1 blen1 bcap1, Value.int IntKind.i64 ey1] 61)
    have K1x : Hid _ := k0
    have K1y : Hid _ := k1
    have C1' : Hid (Below w.heap.size w ((w1.alloc (Obj.cells #[Value.bool nx1, Value.slice ao1 len1 cap1, Value.int IntKind.i64 ex1] 61)).alloc (Obj.cells #[Value.bool ny1, Value.slice bo1 blen1 bcap1, Value.int IntKind.i64 ey1] 61))) := C_1.out.trans (kb.mono C_1.out.size)
    have GR_1' : Hid _ := (kb.block _ (blk_lt GR_1.out)).trans GR_1.out
    have Z1' : Hid _ := NumZ.later Z1.out kb
    have Y1' : Hid _ := NumZ.later Y1.out kb
    clear k0 k1 kb C_1 GR_1 Z1 Y1
    generalize ((w1.alloc (Obj.cells #[Value.bool nx1, Value.slice ao1 len1 cap1, Value.int IntKind.i64 ex1] 61)).alloc (Obj.cells #[Value.bool ny1, Value.slice bo1 blen1 bcap1, Value.int IntKind.i64 ey1] 61)) = V1 at K1x K1y C1' GR_1' Z1' Y1' ⊢
    obtain ⟨bx, mx, fx, hNx, hex, hTx, hzx⟩ := Z1'.out
    obtain ⟨by', my, fy, hNy, hey, hTy, hzy⟩ := Y1'.out
    have NXV : Hid _ := hNx
    have NYV : Hid _ := hNy
    clear hNx hNy
    have hbx : 0 ≤ (bl mx : Int) := by omega
    have hby : 0 ≤ (bl my : Int) := by omega
    go_upto_region 5 with fail
    all_goals
      try (rw [hcl])
      clear hcl
      have hS : ∀ W, Below V1.heap.size V1 W → (W.heap[w1.heap.size]? = some (Obj.cells #[Value.bool nx1, Value.slice ao1 len1 cap1, Value.int IntKind.i64 ex1] 61) ∧ W.heap[w1.heap.size + 1]? = some (Obj.cells #[Value.bool ny1, Value.slice bo1 blen1 bcap1, Value.int IntKind.i64 ey1] 61)) := fun W h => ⟨keep0 K1x.out h, keep0 K1y.out h⟩
      refine wp_region_noPanic ?_
      refine wp_region_held_drew (S := fun W => W.heap[w1.heap.size]? = some (Obj.cells #[Value.bool nx1, Value.slice ao1 len1 cap1, Value.int IntKind.i64 ex1] 61) ∧ W.heap[w1.heap.size + 1]? = some (Obj.cells #[Value.bool ny1, Value.slice bo1 blen1 bcap1, Value.int IntKind.i64 ey1] 61)) (by kernel_rfl) (hS _ (Below.refl _ _).drew) (fun _ => ?_)
      refine takeH 20 (i := 0) (v := (Value.agg #[Value.bool nx1, Value.slice ao1 len1 cap1, Value.int IntKind.i64 ex1])) rfl rfl (by kernel_rfl) (by kernel_rfl) (by kernel_rfl) (fun _ _ _ h => h) (Or.inl ⟨(by kernel_rfl), fun w' hq => ex_load3 _ _ rfl (w1.heap.size) (by kernel_rfl) w' nx1 ao1 len1 cap1 ex1 (cells3 (hq.1))⟩) (hS _ (Below.refl _ _).drew) ?_
      refine takeH 21 (i := 1) (v := .int .i64 (clip5 n)) rfl rfl (by kernel_rfl) (by kernel_rfl) (by kernel_rfl) (fun _ _ _ h => h) (Or.inl ⟨(by kernel_rfl), fun w' _ => by kernel_rfl⟩) (hS _ (Below.refl _ _).drew) ?_
      refine takeH 23 (i := 3) (v := (Value.agg #[Value.bool ny1, Value.slice bo1 blen1 bcap1, Value.int IntKind.i64 ey1])) rfl rfl (by kernel_rfl) (by kernel_rfl) (by kernel_rfl) (fun _ _ _ h => h) (Or.inl ⟨(by kernel_rfl), fun w' hq => ex_load3 _ _ rfl (w1.heap.size + 1) (by kernel_rfl) w' ny1 bo1 blen1 bcap1 ey1 (cells3 (hq.2))⟩) (hS _ (Below.refl _ _).drew) ?_
      refine takeH 24 (i := 4) (v := .int .i64 (clip5 n)) rfl rfl (by kernel_rfl) (by kernel_rfl) (by kernel_rfl) (fun _ _ _ h => h) (Or.inl ⟨(by kernel_rfl), fun w' _ => by kernel_rfl⟩) (hS _ (Below.refl _ _).drew) ?_
      try (simp only [Act.put, List.setIfInBounds_toArray, List.set_cons_zero, List.set_cons_succ])
      refine wpAnyH_ready (rs := [2]) (by kernel_rfl) (by simp) ?_
      refine consH _ rfl ?_ AllReadyH.nil
      refine hopCd 22 rfl (by kernel_rfl) rfl (by kernel_rfl) (Calls.mono (moved_any _ bx mx fx (clip5 n) (by omega) (by omega) _ (NumV.later NXV.out (Below.refl _ _).drew)) ?_)
      rintro e m0 ⟨va, rfl, za, g0⟩
      have h0 : Below V1.heap.size V1 m0 := Below.trans ((Below.refl _ _).drew : Below V1.heap.size V1 _) (g0.mono (Below.size ((Below.refl _ _).drew : Below V1.heap.size V1 _)))
      refine ⟨_, rfl, hS _ h0, ?_⟩
      try (simp only [Act.put, List.setIfInBounds_toArray, List.set_cons_zero, List.set_cons_succ])
      refine wpAnyH_ready (rs := [5]) (by kernel_rfl) (by simp) ?_
      refine consH _ rfl ?_ AllReadyH.nil
      refine hopCd 25 rfl (by kernel_rfl) rfl (by kernel_rfl) (Calls.mono (moved_any _ by' my fy (clip5 n) (by omega) (by omega) _ (NumV.later NYV.out h0)) ?_)
      rintro e m1 ⟨vb, rfl, zb, g1⟩
      have h1 : Below V1.heap.size V1 m1 := Below.trans (h0 : Below V1.heap.size V1 _) (g1.mono (Below.size (h0 : Below V1.heap.size V1 _)))
      refine ⟨_, rfl, hS _ h1, ?_⟩
      try (simp only [Act.put, List.setIfInBounds_toArray, List.set_cons_zero, List.set_cons_succ])
      refine wpAnyH_ready (rs := [6]) (by kernel_rfl) (by simp) ?_
      refine consH _ rfl ?_ AllReadyH.nil
      refine hopCd 26 rfl (by kernel_rfl) rfl (by kernel_rfl) (Calls.mono (refOfV_any va vb _ _ _ _ _ _ _ (NumV.later za g1) zb ⟨by split <;> omega, by omega⟩ ⟨by split <;> omega, by omega⟩) ?_)
      rintro e m2 ⟨r, rfl, ⟨pp, qq, hp1, hq1, hrr⟩, g2⟩
      have h2 : Below V1.heap.size V1 m2 := Below.trans (h1 : Below V1.heap.size V1 _) (g2.mono (Below.size (h1 : Below V1.heap.size V1 _)))
      refine ⟨_, rfl, hS _ h2, ?_⟩
      have hr : ∃ p q, Rnd 2 (fneg al) (rmag (frung al) * 2 ^ (clip5 n).toNat) (2 ^ (-(clip5 n)).toNat) p ∧ Rnd 1 (fneg ah) (rmag (frung ah) * 2 ^ (clip5 n).toNat) (2 ^ (-(clip5 n)).toNat) q ∧ r = spOf p q := ⟨pp, qq, scaleV_rnd (by omega) E hE (hzx.trans HZ.out.1) hp1, scaleV_rnd (by omega) E hE (hzy.trans HZ.out.2) hq1, hrr⟩
      try (simp only [Act.put, List.setIfInBounds_toArray, List.set_cons_zero, List.set_cons_succ])
      refine wpAnyH_ready (rs := [7]) (by kernel_rfl) (by simp) ?_
      refine consH _ rfl ?_ AllReadyH.nil
      refine hopSU rfl rfl rfl _ _ rfl (w.heap.size + 1) (by kernel_rfl) r.1 r.2.1 r.2.2 (by kernel_rfl) 0 0 false (keep0 GR_1'.out h2) ?_
      intro W9 a9 t9 b9
      refine ⟨⟨(t9 _ (by omega)).trans (keep0 K1x.out h2), (t9 _ (by omega)).trans (keep0 K1y.out h2)⟩, ?_⟩
      refine wpAnyH_done (by kernel_rfl) ?_ _
      refine NoPanic.normal ?_
      try (simp only [Act.put, List.setIfInBounds_toArray, List.set_cons_zero, List.set_cons_succ])
      go_wp2_with fail
      all_goals
        refine bodyPost_ret (v := .agg #[.int .u64 (r.1 : Int), .int .u64 (r.2.1 : Int), .bool r.2.2]) (res_su _ 4 (by kernel_rfl) _ _ (w.heap.size + 1) _ _ _ ?_ a9) rfl ?_
        · rfl
        · exact ⟨r, rfl, HSP.out r hr, b9 _ _ (Below.trans C1'.out (h2.mono C1'.out.size)) (by omega)⟩
  · rw [decide_eq_false hg]
    have HSP : Hid (UnR (ScR n al ah) al ah ab (0, 0, true)) := by unfold Hid UnR; rw [if_neg hg]
    clear hg F1 H1
    go_upto_region 2 with fail
    have HR1 : w.heap.size + 1 < w1.heap.size := blk_lt GR_1.out
    obtain ⟨k0, k1, -, kb⟩ := alloc2_facts w1 (Obj.cells #[Value.bool nx1, Value.slice ao1 len1 cap1, Value.int IntKind.i64 ex1] 61) (Obj.cells #[Value.bool ny1, Value.slice bo1 blen1 bcap1, Value.int IntKind.i64 ey1] 61)
    have K1x : Hid _ := k0
    have K1y : Hid _ := k1
    have C1' : Hid (Below w.heap.size w ((w1.alloc (Obj.cells #[Value.bool nx1, Value.slice ao1 len1 cap1, Value.int IntKind.i64 ex1] 61)).alloc (Obj.cells #[Value.bool ny1, Value.slice bo1 blen1 bcap1, Value.int IntKind.i64 ey1] 61))) := C_1.out.trans (kb.mono C_1.out.size)
    have GR_1' : Hid _ := (kb.block _ (blk_lt GR_1.out)).trans GR_1.out
    have Z1' : Hid _ := NumZ.later Z1.out kb
    have Y1' : Hid _ := NumZ.later Y1.out kb
    clear k0 k1 kb C_1 GR_1 Z1 Y1
    generalize ((w1.alloc (Obj.cells #[Value.bool nx1, Value.slice ao1 len1 cap1, Value.int IntKind.i64 ex1] 61)).alloc (Obj.cells #[Value.bool ny1, Value.slice bo1 blen1 bcap1, Value.int IntKind.i64 ey1] 61)) = V1 at K1x K1y C1' GR_1' Z1' Y1' ⊢
    go_wp2_with fail
    refine Calls.mono (refBad_any _) ?_
    rintro e w4 ⟨rfl, bw⟩
    have R4 : Hid _ := (bw.block _ (blk_lt GR_1'.out)).trans GR_1'.out
    have C4 : Hid (Below w.heap.size w w4) := C1'.out.trans (bw.mono C1'.out.size)
    clear bw
    obtain ⟨r0, r1, r2⟩ := cells3 R4.out
    have fz := fun j => frozen_of_row _ _ j _ _ R4.out
    go_wp2_with fail
    refine bodyPost_ret (v := .agg #[.int .u64 0, .int .u64 0, .bool true]) (res_su _ 4 (by kernel_rfl) _ _ (w.heap.size + 1) _ _ _ ?_ (setsp_heap _ _ _ R4.out)) rfl ?_
    · rfl
    · exact ⟨(0, 0, true), rfl, HSP.out, below_setsp _ _ _ C4.out (by omega)⟩
end Go.Proofs.YtnjjichanfpbhaaGreat
