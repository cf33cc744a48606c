import Derived.Test.YtnjjichanfpbhaaGreatRR
import Derived.Test.YtnjjichanfpbhaaGreatZT
namespace Go.Proofs.YtnjjichanfpbhaaGreat
open Go.RowKit
set_option linter.unusedVariables false

set_option maxRecDepth 100000 in
set_option maxHeartbeats 8000000 in
theorem refNeg_any (al ah : Nat) (ab : Bool) (hal : al < 18446744073709551616) (hah : ah < 18446744073709551616) (w : World) (E : Nat) (hE : E = 1074) :
    Calls Tryz.prog 13 #[.agg #[Value.int .u64 (al : Int), .int .u64 (ah : Int), .bool ab]] w fun e w' => RefAns w (UnR (SpR (-fval ah) (-fval al) 1) al ah ab) e w' := by
  obtain ⟨g0, g1, -, gb⟩ := alloc2_facts w (Obj.cells #[Value.int .u64 (al : Int), .int .u64 (ah : Int), .bool ab] 36) (Obj.cells #[Value.int .u64 0, .int .u64 0, .bool false] 36)
  have GA : Hid _ := g0
  have GR : Hid _ := g1
  have GB : Hid _ := gb
  clear g0 g1 gb
  go_enter Tryz.func13, Tryz.ntmps13
  go_upto_region 1 with fail
  generalize ((w.alloc (Obj.cells #[Value.int .u64 (al : Int), .int .u64 (ah : Int), .bool ab] 36)).alloc (Obj.cells #[Value.int .u64 0, .int .u64 0, .bool false] 36)) = W0 at GA GR GB ⊢
  obtain ⟨a0, a1, a2⟩ := cells3 GA.out
  go_wp2_with fail
  clear a0 a1 a2
  refine Calls.mono (ends_any al ah ab hal hah _ E hE) ?_
  rintro e w1 ⟨v1, u1, rfl, ⟨z1, hz1, hf1⟩, ⟨y1, hy1, hg1⟩, bw⟩
  have Z1 : Hid (NumZ w1 v1 E 1024 z1) := hz1
  have Y1 : Hid (NumZ w1 u1 E 1024 y1) := hy1
  have F1 : Hid (Fin al → z1 = fval al) := hf1
  have H1 : Hid (Fin ah → y1 = fval ah) := hg1
  obtain ⟨nx1, mx1, ex1, ⟨ao1, len1, cap1, xs1, rfl, -⟩, -⟩ := hz1
  obtain ⟨ny1, my1, ey1, ⟨bo1, blen1, bcap1, ys1, rfl, -⟩, -⟩ := hy1
  have GR_1 : Hid _ := (bw.block _ (blk_lt GR.out)).trans GR.out
  have C_1 : Hid (Below w.heap.size w w1) := GB.out.trans (bw.mono GB.out.size)
  clear bw hf1 hg1 GB GR
  by_cases hg : Good al ah ab
  · rw [decide_eq_true hg]
    have HZ : Hid (z1 = fval al ∧ y1 = fval ah) := ⟨F1.out hg.2.1, H1.out hg.2.2.1⟩
    have HSP : Hid (∀ r, SpR (-y1) (-z1) (2 ^ 0) r → UnR (SpR (-fval ah) (-fval al) 1) al ah ab r) := by
      intro r hr
      unfold UnR
      rw [if_pos hg, ← HZ.out.1, ← HZ.out.2]
      exact hr
    clear hg F1 H1
    go_upto_region 2 with fail
    have HR1 : w.heap.size + 1 < w1.heap.size := blk_lt GR_1.out
    obtain ⟨k0, k1, -, kb⟩ := alloc2_facts w1 (Obj.cells #[Value.bool nx1, Value.slice ao1 len1 cap1, Value.int IntKind.i64 ex1] 61) (Obj.cells #[Value.bool ny1, Value.slice bo1 blen1 bcap1, Value.int IntKind.i64 ey1] 61)
    have K1x : Hid _ := k0
    have K1y : Hid _ := k1
    have C1' : Hid (Below w.heap.size w ((w1.alloc (Obj.cells #[Value.bool nx1, Value.slice ao1 len1 cap1, Value.int IntKind.i64 ex1] 61)).alloc (Obj.cells #[Value.bool ny1, Value.slice bo1 blen1 bcap1, Value.int IntKind.i64 ey1] 61))) := C_1.out.trans (kb.mono C_1.out.size)
    have GR_1' : Hid _ := (kb.block _ (blk_lt GR_1.out)).trans GR_1.out
    have Z1' : Hid _ := NumZ.later Z1.out kb
    have Y1' : Hid _ := NumZ.later Y1.out kb
    clear k0 k1 kb C_1 GR_1 Z1 Y1
    generalize ((w1.alloc (Obj.cells #[Value.bool nx1, Value.slice ao1 len1 cap1, Value.int IntKind.i64 ex1] 61)).alloc (Obj.cells #[Value.bool ny1, Value.slice bo1 blen1 bcap1, Value.int IntKind.i64 ey1] 61)) = V1 at K1x K1y C1' GR_1' Z1' Y1' ⊢
    go_upto_region 4 with fail
    have hS : ∀ W, Below V1.heap.size V1 W → (W.heap[w1.heap.size]? = some (Obj.cells #[Value.bool nx1, Value.slice ao1 len1 cap1, Value.int IntKind.i64 ex1] 61) ∧ W.heap[w1.heap.size + 1]? = some (Obj.cells #[Value.bool ny1, Value.slice bo1 blen1 bcap1, Value.int IntKind.i64 ey1] 61)) := fun W h => ⟨keep0 K1x.out h, keep0 K1y.out h⟩
    refine wp_region_noPanic ?_
    refine wp_region_held_drew (S := fun W => W.heap[w1.heap.size]? = some (Obj.cells #[Value.bool nx1, Value.slice ao1 len1 cap1, Value.int IntKind.i64 ex1] 61) ∧ W.heap[w1.heap.size + 1]? = some (Obj.cells #[Value.bool ny1, Value.slice bo1 blen1 bcap1, Value.int IntKind.i64 ey1] 61)) (by kernel_rfl) (hS _ (Below.refl _ _).drew) (fun _ => ?_)
    refine takeH 15 (i := 0) (v := (Value.agg #[Value.bool ny1, Value.slice bo1 blen1 bcap1, Value.int IntKind.i64 ey1])) rfl rfl (by kernel_rfl) (by kernel_rfl) (by kernel_rfl) (fun _ _ _ h => h) (Or.inl ⟨(by kernel_rfl), fun w' hq => ex_load3 _ _ rfl (w1.heap.size + 1) (by kernel_rfl) w' ny1 bo1 blen1 bcap1 ey1 (cells3 (hq.2))⟩) (hS _ (Below.refl _ _).drew) ?_
    refine takeH 17 (i := 2) (v := (Value.agg #[Value.bool nx1, Value.slice ao1 len1 cap1, Value.int IntKind.i64 ex1])) rfl rfl (by kernel_rfl) (by kernel_rfl) (by kernel_rfl) (fun _ _ _ h => h) (Or.inl ⟨(by kernel_rfl), fun w' hq => ex_load3 _ _ rfl (w1.heap.size) (by kernel_rfl) w' nx1 ao1 len1 cap1 ex1 (cells3 (hq.1))⟩) (hS _ (Below.refl _ _).drew) ?_
    try (simp only [Act.put, List.setIfInBounds_toArray, List.set_cons_zero, List.set_cons_succ])
    refine wpAnyH_ready (rs := [1]) (by kernel_rfl) (by simp) ?_
    refine consH _ rfl ?_ AllReadyH.nil
    refine hopCd 16 rfl (by kernel_rfl) rfl (by kernel_rfl) (Calls.mono (turnedZ_any _ E 1024 y1 _ (NumZ.later Y1'.out (Below.refl _ _).drew)) ?_)
    rintro e m0 ⟨va, rfl, za, g0⟩
    have h0 : Below V1.heap.size V1 m0 := Below.trans ((Below.refl _ _).drew : Below V1.heap.size V1 _) (g0.mono (Below.size ((Below.refl _ _).drew : Below V1.heap.size V1 _)))
    refine ⟨_, rfl, hS _ h0, ?_⟩
    try (simp only [Act.put, List.setIfInBounds_toArray, List.set_cons_zero, List.set_cons_succ])
    refine wpAnyH_ready (rs := [3]) (by kernel_rfl) (by simp) ?_
    refine consH _ rfl ?_ AllReadyH.nil
    refine hopCd 18 rfl (by kernel_rfl) rfl (by kernel_rfl) (Calls.mono (turnedZ_any _ E 1024 z1 _ (NumZ.later Z1'.out h0)) ?_)
    rintro e m1 ⟨vb, rfl, zb, g1⟩
    have h1 : Below V1.heap.size V1 m1 := Below.trans (h0 : Below V1.heap.size V1 _) (g1.mono (Below.size (h0 : Below V1.heap.size V1 _)))
    refine ⟨_, rfl, hS _ h1, ?_⟩
    try (simp only [Act.put, List.setIfInBounds_toArray, List.set_cons_zero, List.set_cons_succ])
    refine wpAnyH_ready (rs := [4]) (by kernel_rfl) (by simp) ?_
    refine consH _ rfl ?_ AllReadyH.nil
    refine hopCd 19 rfl (by kernel_rfl) rfl (by kernel_rfl) (Calls.mono (refOf_any va vb E 0 1024 1024 (-y1) (-z1) _ (NumZ.later za g1) zb E hE rfl (by omega) (by omega) (by omega)) ?_)
    rintro e m2 ⟨r, rfl, hr, g2⟩
    have h2 : Below V1.heap.size V1 m2 := Below.trans (h1 : Below V1.heap.size V1 _) (g2.mono (Below.size (h1 : Below V1.heap.size V1 _)))
    refine ⟨_, rfl, hS _ h2, ?_⟩
    try (simp only [Act.put, List.setIfInBounds_toArray, List.set_cons_zero, List.set_cons_succ])
    refine wpAnyH_ready (rs := [5]) (by kernel_rfl) (by simp) ?_
    refine consH _ rfl ?_ AllReadyH.nil
    refine hopSU rfl rfl rfl _ _ rfl (w.heap.size + 1) (by kernel_rfl) r.1 r.2.1 r.2.2 (by kernel_rfl) 0 0 false (keep0 GR_1'.out h2) ?_
    intro W9 a9 t9 b9
    refine ⟨⟨(t9 _ (by omega)).trans (keep0 K1x.out h2), (t9 _ (by omega)).trans (keep0 K1y.out h2)⟩, ?_⟩
    refine wpAnyH_done (by kernel_rfl) ?_ _
    refine NoPanic.normal ?_
    try (simp only [Act.put, List.setIfInBounds_toArray, List.set_cons_zero, List.set_cons_succ])
    go_wp2_with fail
    refine bodyPost_ret (v := .agg #[.int .u64 (r.1 : Int), .int .u64 (r.2.1 : Int), .bool r.2.2]) (res_su _ 2 (by kernel_rfl) _ _ (w.heap.size + 1) _ _ _ ?_ a9) rfl ?_
    · rfl
    · exact ⟨r, rfl, HSP.out r hr, b9 _ _ (Below.trans C1'.out (h2.mono C1'.out.size)) (by omega)⟩
  · rw [decide_eq_false hg]
    have HSP : Hid (UnR (SpR (-fval ah) (-fval al) 1) al ah ab (0, 0, true)) := by unfold Hid UnR; rw [if_neg hg]
    clear hg F1 H1
    go_upto_region 2 with fail
    have HR1 : w.heap.size + 1 < w1.heap.size := blk_lt GR_1.out
    obtain ⟨k0, k1, -, kb⟩ := alloc2_facts w1 (Obj.cells #[Value.bool nx1, Value.slice ao1 len1 cap1, Value.int IntKind.i64 ex1] 61) (Obj.cells #[Value.bool ny1, Value.slice bo1 blen1 bcap1, Value.int IntKind.i64 ey1] 61)
    have K1x : Hid _ := k0
    have K1y : Hid _ := k1
    have C1' : Hid (Below w.heap.size w ((w1.alloc (Obj.cells #[Value.bool nx1, Value.slice ao1 len1 cap1, Value.int IntKind.i64 ex1] 61)).alloc (Obj.cells #[Value.bool ny1, Value.slice bo1 blen1 bcap1, Value.int IntKind.i64 ey1] 61))) := C_1.out.trans (kb.mono C_1.out.size)
    have GR_1' : Hid _ := (kb.block _ (blk_lt GR_1.out)).trans GR_1.out
    have Z1' : Hid _ := NumZ.later Z1.out kb
    have Y1' : Hid _ := NumZ.later Y1.out kb
    clear k0 k1 kb C_1 GR_1 Z1 Y1
    generalize ((w1.alloc (Obj.cells #[Value.bool nx1, Value.slice ao1 len1 cap1, Value.int IntKind.i64 ex1] 61)).alloc (Obj.cells #[Value.bool ny1, Value.slice bo1 blen1 bcap1, Value.int IntKind.i64 ey1] 61)) = V1 at K1x K1y C1' GR_1' Z1' Y1' ⊢
    go_wp2_with fail
    refine Calls.mono (refBad_any _) ?_
    rintro e w4 ⟨rfl, bw⟩
    have R4 : Hid _ := (bw.block _ (blk_lt GR_1'.out)).trans GR_1'.out
    have C4 : Hid (Below w.heap.size w w4) := C1'.out.trans (bw.mono C1'.out.size)
    clear bw
    obtain ⟨r0, r1, r2⟩ := cells3 R4.out
    have fz := fun j => frozen_of_row _ _ j _ _ R4.out
    go_wp2_with fail
    refine bodyPost_ret (v := .agg #[.int .u64 0, .int .u64 0, .bool true]) (res_su _ 2 (by kernel_rfl) _ _ (w.heap.size + 1) _ _ _ ?_ (setsp_heap _ _ _ R4.out)) rfl ?_
    · rfl
    · exact ⟨(0, 0, true), rfl, HSP.out, below_setsp _ _ _ C4.out (by omega)⟩
set_option maxRecDepth 100000 in
set_option maxHeartbeats 8000000 in
theorem refAdd4_any (al ah bl bh : Nat) (ab bb : Bool) (hal : al < 18446744073709551616) (hah : ah < 18446744073709551616) (hbl : bl < 18446744073709551616) (hbh : bh < 18446744073709551616) (w : World) (E : Nat) (hE : E = 1074) :
    Calls Tryz.prog 14 #[.agg #[Value.int .u64 (al : Int), .int .u64 (ah : Int), .bool ab], .agg #[Value.int .u64 (bl : Int), .int .u64 (bh : Int), .bool bb]] w fun e w' => RefAns w (BinR (SpR ((fval al) + (fval bl)) ((fval ah) + (fval bh)) 1) al ah bl bh ab bb) e w' := by
  obtain ⟨g0, g1, g2, gz, gb⟩ := alloc3_facts w (Obj.cells #[Value.int .u64 (al : Int), .int .u64 (ah : Int), .bool ab] 36) (Obj.cells #[Value.int .u64 (bl : Int), .int .u64 (bh : Int), .bool bb] 36) (Obj.cells #[Value.int .u64 0, .int .u64 0, .bool false] 36)
  have GA : Hid _ := g0
  have GC : Hid _ := g1
  have GR : Hid _ := g2
  have GB : Hid _ := gb
  clear g0 g1 g2 gz gb
  go_enter Tryz.func14, Tryz.ntmps14
  go_upto_region 1 with fail
  generalize (((w.alloc (Obj.cells #[Value.int .u64 (al : Int), .int .u64 (ah : Int), .bool ab] 36)).alloc (Obj.cells #[Value.int .u64 (bl : Int), .int .u64 (bh : Int), .bool bb] 36)).alloc (Obj.cells #[Value.int .u64 0, .int .u64 0, .bool false] 36)) = W0 at GA GC GR GB ⊢
  obtain ⟨a0, a1, a2⟩ := cells3 GA.out
  go_wp2_with fail
  clear a0 a1 a2
  refine Calls.mono (ends_any al ah ab hal hah _ E hE) ?_
  rintro e w1 ⟨v1, u1, rfl, ⟨z1, hz1, hf1⟩, ⟨y1, hy1, hg1⟩, bw⟩
  have Z1 : Hid (NumZ w1 v1 E 1024 z1) := hz1
  have Y1 : Hid (NumZ w1 u1 E 1024 y1) := hy1
  have F1 : Hid (Fin al → z1 = fval al) := hf1
  have H1 : Hid (Fin ah → y1 = fval ah) := hg1
  obtain ⟨nx1, mx1, ex1, ⟨ao1, len1, cap1, xs1, rfl, -⟩, -⟩ := hz1
  obtain ⟨ny1, my1, ey1, ⟨bo1, blen1, bcap1, ys1, rfl, -⟩, -⟩ := hy1
  have GC_1 : Hid _ := (bw.block _ (blk_lt GC.out)).trans GC.out
  have GR_1 : Hid _ := (bw.block _ (blk_lt GR.out)).trans GR.out
  have C_1 : Hid (Below w.heap.size w w1) := GB.out.trans (bw.mono GB.out.size)
  clear bw hf1 hg1 GB GC GR
  obtain ⟨dg, hdg⟩ : ∃ d, decide (Good al ah ab) = d := ⟨_, rfl⟩
  have HDG : Hid _ := hdg
  rw [hdg]
  clear hdg
  go_upto_region 2 with fail
  have HR1 : w.heap.size + 1 + 1 < w1.heap.size := blk_lt GR_1.out
  obtain ⟨k0, k1, -, kb⟩ := alloc2_facts w1 (Obj.cells #[Value.bool nx1, Value.slice ao1 len1 cap1, Value.int IntKind.i64 ex1] 61) (Obj.cells #[Value.bool ny1, Value.slice bo1 blen1 bcap1, Value.int IntKind.i64 ey1] 61)
  have K1x : Hid _ := k0
  have K1y : Hid _ := k1
  have C1' : Hid (Below w.heap.size w ((w1.alloc (Obj.cells #[Value.bool nx1, Value.slice ao1 len1 cap1, Value.int IntKind.i64 ex1] 61)).alloc (Obj.cells #[Value.bool ny1, Value.slice bo1 blen1 bcap1, Value.int IntKind.i64 ey1] 61))) := C_1.out.trans (kb.mono C_1.out.size)
  have GC_1' : Hid _ := (kb.block _ (blk_lt GC_1.out)).trans GC_1.out
  have GR_1' : Hid _ := (kb.block _ (blk_lt GR_1.out)).trans GR_1.out
  have Z1' : Hid _ := NumZ.later Z1.out kb
  have Y1' : Hid _ := NumZ.later Y1.out kb
  clear k0 k1 kb C_1 GC_1 GR_1 Z1 Y1
  generalize ((w1.alloc (Obj.cells #[Value.bool nx1, Value.slice ao1 len1 cap1, Value.int IntKind.i64 ex1] 61)).alloc (Obj.cells #[Value.bool ny1, Value.slice bo1 blen1 bcap1, Value.int IntKind.i64 ey1] 61)) = V1 at K1x K1y C1' GC_1' GR_1' Z1' Y1' ⊢
  obtain ⟨a0, a1, a2⟩ := cells3 GC_1'.out
  go_wp2_with fail
  clear a0 a1 a2
  refine Calls.mono (ends_any bl bh bb hbl hbh _ E hE) ?_
  rintro e w2 ⟨v2, u2, rfl, ⟨z2, hz2, hf2⟩, ⟨y2, hy2, hg2⟩, bw⟩
  have Z2 : Hid (NumZ w2 v2 E 1024 z2) := hz2
  have Y2 : Hid (NumZ w2 u2 E 1024 y2) := hy2
  have F2 : Hid (Fin bl → z2 = fval bl) := hf2
  have H2 : Hid (Fin bh → y2 = fval bh) := hg2
  obtain ⟨nx2, mx2, ex2, ⟨ao2, len2, cap2, xs2, rfl, -⟩, -⟩ := hz2
  obtain ⟨ny2, my2, ey2, ⟨bo2, blen2, bcap2, ys2, rfl, -⟩, -⟩ := hy2
  have K1x_2 : Hid _ := (bw.block _ (blk_lt K1x.out)).trans K1x.out
  have K1y_2 : Hid _ := (bw.block _ (blk_lt K1y.out)).trans K1y.out
  have GR_1'_2 : Hid _ := (bw.block _ (blk_lt GR_1'.out)).trans GR_1'.out
  have Z1'_2 : Hid _ := NumZ.later Z1'.out bw
  have Y1'_2 : Hid _ := NumZ.later Y1'.out bw
  have C_2 : Hid (Below w.heap.size w w2) := C1'.out.trans (bw.mono C1'.out.size)
  clear bw hf2 hg2 C1' K1x K1y GR_1' Z1' Y1'
  obtain ⟨df, hdf⟩ : ∃ d, decide (Good bl bh bb) = d := ⟨_, rfl⟩
  have HDF : Hid _ := hdf
  rw [hdf]
  clear hdf
  go_upto_region 3 with fail
  have HR2 : w.heap.size + 1 + 1 < w2.heap.size := blk_lt GR_1'_2.out
  obtain ⟨k0, k1, -, kb⟩ := alloc2_facts w2 (Obj.cells #[Value.bool nx2, Value.slice ao2 len2 cap2, Value.int IntKind.i64 ex2] 61) (Obj.cells #[Value.bool ny2, Value.slice bo2 blen2 bcap2, Value.int IntKind.i64 ey2] 61)
  have K2x : Hid _ := k0
  have K2y : Hid _ := k1
  have C2' : Hid (Below w.heap.size w ((w2.alloc (Obj.cells #[Value.bool nx2, Value.slice ao2 len2 cap2, Value.int IntKind.i64 ex2] 61)).alloc (Obj.cells #[Value.bool ny2, Value.slice bo2 blen2 bcap2, Value.int IntKind.i64 ey2] 61))) := C_2.out.trans (kb.mono C_2.out.size)
  have K1x_2' : Hid _ := (kb.block _ (blk_lt K1x_2.out)).trans K1x_2.out
  have K1y_2' : Hid _ := (kb.block _ (blk_lt K1y_2.out)).trans K1y_2.out
  have GR_1'_2' : Hid _ := (kb.block _ (blk_lt GR_1'_2.out)).trans GR_1'_2.out
  have Z1'_2' : Hid _ := NumZ.later Z1'_2.out kb
  have Y1'_2' : Hid _ := NumZ.later Y1'_2.out kb
  have Z2' : Hid _ := NumZ.later Z2.out kb
  have Y2' : Hid _ := NumZ.later Y2.out kb
  clear k0 k1 kb C_2 K1x_2 K1y_2 GR_1'_2 Z1'_2 Y1'_2 Z2 Y2
  generalize ((w2.alloc (Obj.cells #[Value.bool nx2, Value.slice ao2 len2 cap2, Value.int IntKind.i64 ex2] 61)).alloc (Obj.cells #[Value.bool ny2, Value.slice bo2 blen2 bcap2, Value.int IntKind.i64 ey2] 61)) = V2 at K2x K2y C2' K1x_2' K1y_2' GR_1'_2' Z1'_2' Y1'_2' Z2' Y2' ⊢
  by_cases hg : Good al ah ab ∧ Good bl bh bb
  · have HZ : Hid ((z1 = fval al ∧ y1 = fval ah) ∧ z2 = fval bl ∧ y2 = fval bh) := ⟨⟨F1.out hg.1.2.1, H1.out hg.1.2.2.1⟩, F2.out hg.2.2.1, H2.out hg.2.2.2.1⟩
    have HSP : Hid (∀ r, SpR (z1 + z2) (y1 + y2) (2 ^ 0) r → BinR (SpR ((fval al) + (fval bl)) ((fval ah) + (fval bh)) 1) al ah bl bh ab bb r) := by
      intro r hr
      unfold BinR
      rw [if_pos hg, ← HZ.out.1.1, ← HZ.out.1.2, ← HZ.out.2.1, ← HZ.out.2.2]
      exact hr
    obtain rfl : dg = true := by rw [← HDG.out]; exact decide_eq_true hg.1
    obtain rfl : df = true := by rw [← HDF.out]; exact decide_eq_true hg.2
    clear hg F1 H1 F2 H2 HDG HDF
    go_upto_region 5 with fail
    have hS : ∀ W, Below V2.heap.size V2 W → (W.heap[w1.heap.size]? = some (Obj.cells #[Value.bool nx1, Value.slice ao1 len1 cap1, Value.int IntKind.i64 ex1] 61) ∧ W.heap[w1.heap.size + 1]? = some (Obj.cells #[Value.bool ny1, Value.slice bo1 blen1 bcap1, Value.int IntKind.i64 ey1] 61) ∧ W.heap[w2.heap.size]? = some (Obj.cells #[Value.bool nx2, Value.slice ao2 len2 cap2, Value.int IntKind.i64 ex2] 61) ∧ W.heap[w2.heap.size + 1]? = some (Obj.cells #[Value.bool ny2, Value.slice bo2 blen2 bcap2, Value.int IntKind.i64 ey2] 61)) := fun W h => ⟨keep0 K1x_2'.out h, keep0 K1y_2'.out h, keep0 K2x.out h, keep0 K2y.out h⟩
    refine wp_region_noPanic ?_
    refine wp_region_held_drew (S := fun W => W.heap[w1.heap.size]? = some (Obj.cells #[Value.bool nx1, Value.slice ao1 len1 cap1, Value.int IntKind.i64 ex1] 61) ∧ W.heap[w1.heap.size + 1]? = some (Obj.cells #[Value.bool ny1, Value.slice bo1 blen1 bcap1, Value.int IntKind.i64 ey1] 61) ∧ W.heap[w2.heap.size]? = some (Obj.cells #[Value.bool nx2, Value.slice ao2 len2 cap2, Value.int IntKind.i64 ex2] 61) ∧ W.heap[w2.heap.size + 1]? = some (Obj.cells #[Value.bool ny2, Value.slice bo2 blen2 bcap2, Value.int IntKind.i64 ey2] 61)) (by kernel_rfl) (hS _ (Below.refl _ _).drew) (fun _ => ?_)
    refine takeH 30 (i := 0) (v := (Value.agg #[Value.bool nx1, Value.slice ao1 len1 cap1, Value.int IntKind.i64 ex1])) rfl rfl (by kernel_rfl) (by kernel_rfl) (by kernel_rfl) (fun _ _ _ h => h) (Or.inl ⟨(by kernel_rfl), fun w' hq => ex_load3 _ _ rfl (w1.heap.size) (by kernel_rfl) w' nx1 ao1 len1 cap1 ex1 (cells3 (hq.1))⟩) (hS _ (Below.refl _ _).drew) ?_
    refine takeH 31 (i := 1) (v := (Value.agg #[Value.bool nx2, Value.slice ao2 len2 cap2, Value.int IntKind.i64 ex2])) rfl rfl (by kernel_rfl) (by kernel_rfl) (by kernel_rfl) (fun _ _ _ h => h) (Or.inl ⟨(by kernel_rfl), fun w' hq => ex_load3 _ _ rfl (w2.heap.size) (by kernel_rfl) w' nx2 ao2 len2 cap2 ex2 (cells3 (hq.2.2.1))⟩) (hS _ (Below.refl _ _).drew) ?_
    refine takeH 33 (i := 3) (v := (Value.agg #[Value.bool ny1, Value.slice bo1 blen1 bcap1, Value.int IntKind.i64 ey1])) rfl rfl (by kernel_rfl) (by kernel_rfl) (by kernel_rfl) (fun _ _ _ h => h) (Or.inl ⟨(by kernel_rfl), fun w' hq => ex_load3 _ _ rfl (w1.heap.size + 1) (by kernel_rfl) w' ny1 bo1 blen1 bcap1 ey1 (cells3 (hq.2.1))⟩) (hS _ (Below.refl _ _).drew) ?_
    refine takeH 34 (i := 4) (v := (Value.agg #[Value.bool ny2, Value.slice bo2 blen2 bcap2, Value.int IntKind.i64 ey2])) rfl rfl (by kernel_rfl) (by kernel_rfl) (by kernel_rfl) (fun _ _ _ h => h) (Or.inl ⟨(by kernel_rfl), fun w' hq => ex_load3 _ _ rfl (w2.heap.size + 1) (by kernel_rfl) w' ny2 bo2 blen2 bcap2 ey2 (cells3 (hq.2.2.2))⟩) (hS _ (Below.refl _ _).drew) ?_
    try (simp only [Act.put, List.setIfInBounds_toArray, List.set_cons_zero, List.set_cons_succ])
    refine wpAnyH_ready (rs := [2]) (by kernel_rfl) (by simp) ?_
    refine consH _ rfl ?_ AllReadyH.nil
    refine hopCd 32 rfl (by kernel_rfl) rfl (by kernel_rfl) (Calls.mono (plusZ_any _ _ E 1024 z1 z2 _ (NumZ.later Z1'_2'.out (Below.refl _ _).drew) (NumZ.later Z2'.out (Below.refl _ _).drew) (by omega) (by omega)) ?_)
    rintro e m0 ⟨va, rfl, za, g0⟩
    have h0 : Below V2.heap.size V2 m0 := Below.trans ((Below.refl _ _).drew : Below V2.heap.size V2 _) (g0.mono (Below.size ((Below.refl _ _).drew : Below V2.heap.size V2 _)))
    refine ⟨_, rfl, hS _ h0, ?_⟩
    try (simp only [Act.put, List.setIfInBounds_toArray, List.set_cons_zero, List.set_cons_succ])
    refine wpAnyH_ready (rs := [5]) (by kernel_rfl) (by simp) ?_
    refine consH _ rfl ?_ AllReadyH.nil
    refine hopCd 35 rfl (by kernel_rfl) rfl (by kernel_rfl) (Calls.mono (plusZ_any _ _ E 1024 y1 y2 _ (NumZ.later Y1'_2'.out h0) (NumZ.later Y2'.out h0) (by omega) (by omega)) ?_)
    rintro e m1 ⟨vb, rfl, zb, g1⟩
    have h1 : Below V2.heap.size V2 m1 := Below.trans (h0 : Below V2.heap.size V2 _) (g1.mono (Below.size (h0 : Below V2.heap.size V2 _)))
    refine ⟨_, rfl, hS _ h1, ?_⟩
    try (simp only [Act.put, List.setIfInBounds_toArray, List.set_cons_zero, List.set_cons_succ])
    refine wpAnyH_ready (rs := [6]) (by kernel_rfl) (by simp) ?_
    refine consH _ rfl ?_ AllReadyH.nil
    refine hopCd 36 rfl (by kernel_rfl) rfl (by kernel_rfl) (Calls.mono (refOf_any va vb E 0 (1024 + 1) (1024 + 1) (z1 + z2) (y1 + y2) _ (NumZ.later za g1) zb E hE rfl (by omega) (by omega) (by omega)) ?_)
    rintro e m2 ⟨r, rfl, hr, g2⟩
    have h2 : Below V2.heap.size V2 m2 := Below.trans (h1 : Below V2.heap.size V2 _) (g2.mono (Below.size (h1 : Below V2.heap.size V2 _)))
    refine ⟨_, rfl, hS _ h2, ?_⟩
    try (simp only [Act.put, List.setIfInBounds_toArray, List.set_cons_zero, List.set_cons_succ])
    refine wpAnyH_ready (rs := [7]) (by kernel_rfl) (by simp) ?_
    refine consH _ rfl ?_ AllReadyH.nil
    refine hopSU rfl rfl rfl _ _ rfl (w.heap.size + 1 + 1) (by kernel_rfl) r.1 r.2.1 r.2.2 (by kernel_rfl) 0 0 false (keep0 GR_1'_2'.out h2) ?_
    intro W9 a9 t9 b9
    refine ⟨⟨(t9 _ (by omega)).trans (keep0 K1x_2'.out h2), (t9 _ (by omega)).trans (keep0 K1y_2'.out h2), (t9 _ (by omega)).trans (keep0 K2x.out h2), (t9 _ (by omega)).trans (keep0 K2y.out h2)⟩, ?_⟩
    refine wpAnyH_done (by kernel_rfl) ?_ _
    refine NoPanic.normal ?_
    try (simp only [Act.put, List.setIfInBounds_toArray, List.set_cons_zero, List.set_cons_succ])
    go_wp2_with fail
    refine bodyPost_ret (v := .agg #[.int .u64 (r.1 : Int), .int .u64 (r.2.1 : Int), .bool r.2.2]) (res_su _ 4 (by kernel_rfl) _ _ (w.heap.size + 1 + 1) _ _ _ ?_ a9) rfl ?_
    · rfl
    · exact ⟨r, rfl, HSP.out r hr, b9 _ _ (Below.trans C2'.out (h2.mono C2'.out.size)) (by omega)⟩
  · have HSP : Hid (BinR (SpR ((fval al) + (fval bl)) ((fval ah) + (fval bh)) 1) al ah bl bh ab bb (0, 0, true)) := by unfold Hid BinR; rw [if_neg hg]
    have hc : dg = false ∨ (dg = true ∧ df = false) := by
      rw [← HDG.out, ← HDF.out]
      by_cases h1 : Good al ah ab
      · exact .inr ⟨decide_eq_true h1, decide_eq_false fun h2 => hg ⟨h1, h2⟩⟩
      · exact .inl (decide_eq_false h1)
    clear hg F1 H1 F2 H2 HDG HDF
    rcases hc with rfl | ⟨rfl, rfl⟩
    all_goals
      go_wp2_with fail
      refine Calls.mono (refBad_any _) ?_
      rintro e w4 ⟨rfl, bw⟩
      have R4 : Hid _ := (bw.block _ (blk_lt GR_1'_2'.out)).trans GR_1'_2'.out
      have C4 : Hid (Below w.heap.size w w4) := C2'.out.trans (bw.mono C2'.out.size)
      clear bw
      obtain ⟨r0, r1, r2⟩ := cells3 R4.out
      have fz := fun j => frozen_of_row _ _ j _ _ R4.out
      go_wp2_with fail
      refine bodyPost_ret (v := .agg #[.int .u64 0, .int .u64 0, .bool true]) (res_su _ 4 (by kernel_rfl) _ _ (w.heap.size + 1 + 1) _ _ _ ?_ (setsp_heap _ _ _ R4.out)) rfl ?_
      · rfl
      · exact ⟨(0, 0, true), rfl, HSP.out, below_setsp _ _ _ C4.out (by omega)⟩
set_option maxRecDepth 100000 in
set_option maxHeartbeats 8000000 in
theorem refMax_any (al ah bl bh : Nat) (ab bb : Bool) (hal : al < 18446744073709551616) (hah : ah < 18446744073709551616) (hbl : bl < 18446744073709551616) (hbh : bh < 18446744073709551616) (w : World) (E : Nat) (hE : E = 1074) :
    Calls Tryz.prog 25 #[.agg #[Value.int .u64 (al : Int), .int .u64 (ah : Int), .bool ab], .agg #[Value.int .u64 (bl : Int), .int .u64 (bh : Int), .bool bb]] w fun e w' => RefAns w (BinR (SpR (max (fval al) (fval bl)) (max (fval ah) (fval bh)) 1) al ah bl bh ab bb) e w' := by
  obtain ⟨g0, g1, g2, gz, gb⟩ := alloc3_facts w (Obj.cells #[Value.int .u64 (al : Int), .int .u64 (ah : Int), .bool ab] 36) (Obj.cells #[Value.int .u64 (bl : Int), .int .u64 (bh : Int), .bool bb] 36) (Obj.cells #[Value.int .u64 0, .int .u64 0, .bool false] 36)
  have GA : Hid _ := g0
  have GC : Hid _ := g1
  have GR : Hid _ := g2
  have GB : Hid _ := gb
  clear g0 g1 g2 gz gb
  go_enter Tryz.func25, Tryz.ntmps25
  go_upto_region 1 with fail
  generalize (((w.alloc (Obj.cells #[Value.int .u64 (al : Int), .int .u64 (ah : Int), .bool ab] 36)).alloc (Obj.cells #[Value.int .u64 (bl : Int), .int .u64 (bh : Int), .bool bb] 36)).alloc (Obj.cells #[Value.int .u64 0, .int .u64 0, .bool false] 36)) = W0 at GA GC GR GB ⊢
  obtain ⟨a0, a1, a2⟩ := cells3 GA.out
  go_wp2_with fail
  clear a0 a1 a2
  refine Calls.mono (ends_any al ah ab hal hah _ E hE) ?_
  rintro e w1 ⟨v1, u1, rfl, ⟨z1, hz1, hf1⟩, ⟨y1, hy1, hg1⟩, bw⟩
  have Z1 : Hid (NumZ w1 v1 E 1024 z1) := hz1
  have Y1 : Hid (NumZ w1 u1 E 1024 y1) := hy1
  have F1 : Hid (Fin al → z1 = fval al) := hf1
  have H1 : Hid (Fin ah → y1 = fval ah) := hg1
  obtain ⟨nx1, mx1, ex1, ⟨ao1, len1, cap1, xs1, rfl, -⟩, -⟩ := hz1
  obtain ⟨ny1, my1, ey1, ⟨bo1, blen1, bcap1, ys1, rfl, -⟩, -⟩ := hy1
  have GC_1 : Hid _ := (bw.block _ (blk_lt GC.out)).trans GC.out
  have GR_1 : Hid _ := (bw.block _ (blk_lt GR.out)).trans GR.out
  have C_1 : Hid (Below w.heap.size w w1) := GB.out.trans (bw.mono GB.out.size)
  clear bw hf1 hg1 GB GC GR
  obtain ⟨dg, hdg⟩ : ∃ d, decide (Good al ah ab) = d := ⟨_, rfl⟩
  have HDG : Hid _ := hdg
  rw [hdg]
  clear hdg
  go_upto_region 2 with fail
  have HR1 : w.heap.size + 1 + 1 < w1.heap.size := blk_lt GR_1.out
  obtain ⟨k0, k1, -, kb⟩ := alloc2_facts w1 (Obj.cells #[Value.bool nx1, Value.slice ao1 len1 cap1, Value.int IntKind.i64 ex1] 61) (Obj.cells #[Value.bool ny1, Value.slice bo1 blen1 bcap1, Value.int IntKind.i64 ey1] 61)
  have K1x : Hid _ := k0
  have K1y : Hid _ := k1
  have C1' : Hid (Below w.heap.size w ((w1.alloc (Obj.cells #[Value.bool nx1, Value.slice ao1 len1 cap1, Value.int IntKind.i64 ex1] 61)).alloc (Obj.cells #[Value.bool ny1, Value.slice bo1 blen1 bcap1, Value.int IntKind.i64 ey1] 61))) := C_1.out.trans (kb.mono C_1.out.size)
  have GC_1' : Hid _ := (kb.block _ (blk_lt GC_1.out)).trans GC_1.out
  have GR_1' : Hid _ := (kb.block _ (blk_lt GR_1.out)).trans GR_1.out
  have Z1' : Hid _ := NumZ.later Z1.out kb
  have Y1' : Hid _ := NumZ.later Y1.out kb
  clear k0 k1 kb C_1 GC_1 GR_1 Z1 Y1
  generalize ((w1.alloc (Obj.cells #[Value.bool nx1, Value.slice ao1 len1 cap1, Value.int IntKind.i64 ex1] 61)).alloc (Obj.cells #[Value.bool ny1, Value.slice bo1 blen1 bcap1, Value.int IntKind.i64 ey1] 61)) = V1 at K1x K1y C1' GC_1' GR_1' Z1' Y1' ⊢
  obtain ⟨a0, a1, a2⟩ := cells3 GC_1'.out
  go_wp2_with fail
  clear a0 a1 a2
  refine Calls.mono (ends_any bl bh bb hbl hbh _ E hE) ?_
  rintro e w2 ⟨v2, u2, rfl, ⟨z2, hz2, hf2⟩, ⟨y2, hy2, hg2⟩, bw⟩
  have Z2 : Hid (NumZ w2 v2 E 1024 z2) := hz2
  have Y2 : Hid (NumZ w2 u2 E 1024 y2) := hy2
  have F2 : Hid (Fin bl → z2 = fval bl) := hf2
  have H2 : Hid (Fin bh → y2 = fval bh) := hg2
  obtain ⟨nx2, mx2, ex2, ⟨ao2, len2, cap2, xs2, rfl, -⟩, -⟩ := hz2
  obtain ⟨ny2, my2, ey2, ⟨bo2, blen2, bcap2, ys2, rfl, -⟩, -⟩ := hy2
  have K1x_2 : Hid _ := (bw.block _ (blk_lt K1x.out)).trans K1x.out
  have K1y_2 : Hid _ := (bw.block _ (blk_lt K1y.out)).trans K1y.out
  have GR_1'_2 : Hid _ := (bw.block _ (blk_lt GR_1'.out)).trans GR_1'.out
  have Z1'_2 : Hid _ := NumZ.later Z1'.out bw
  have Y1'_2 : Hid _ := NumZ.later Y1'.out bw
  have C_2 : Hid (Below w.heap.size w w2) := C1'.out.trans (bw.mono C1'.out.size)
  clear bw hf2 hg2 C1' K1x K1y GR_1' Z1' Y1'
  obtain ⟨df, hdf⟩ : ∃ d, decide (Good bl bh bb) = d := ⟨_, rfl⟩
  have HDF : Hid _ := hdf
  rw [hdf]
  clear hdf
  go_upto_region 3 with fail
  have HR2 : w.heap.size + 1 + 1 < w2.heap.size := blk_lt GR_1'_2.out
  obtain ⟨k0, k1, -, kb⟩ := alloc2_facts w2 (Obj.cells #[Value.bool nx2, Value.slice ao2 len2 cap2, Value.int IntKind.i64 ex2] 61) (Obj.cells #[Value.bool ny2, Value.slice bo2 blen2 bcap2, Value.int IntKind.i64 ey2] 61)
  have K2x : Hid _ := k0
  have K2y : Hid _ := k1
  have C2' : Hid (Below w.heap.size w ((w2.alloc (Obj.cells #[Value.bool nx2, Value.slice ao2 len2 cap2, Value.int IntKind.i64 ex2] 61)).alloc (Obj.cells #[Value.bool ny2, Value.slice bo2 blen2 bcap2, Value.int IntKind.i64 ey2] 61))) := C_2.out.trans (kb.mono C_2.out.size)
  have K1x_2' : Hid _ := (kb.block _ (blk_lt K1x_2.out)).trans K1x_2.out
  have K1y_2' : Hid _ := (kb.block _ (blk_lt K1y_2.out)).trans K1y_2.out
  have GR_1'_2' : Hid _ := (kb.block _ (blk_lt GR_1'_2.out)).trans GR_1'_2.out
  have Z1'_2' : Hid _ := NumZ.later Z1'_2.out kb
  have Y1'_2' : Hid _ := NumZ.later Y1'_2.out kb
  have Z2' : Hid _ := NumZ.later Z2.out kb
  have Y2' : Hid _ := NumZ.later Y2.out kb
  clear k0 k1 kb C_2 K1x_2 K1y_2 GR_1'_2 Z1'_2 Y1'_2 Z2 Y2
  generalize ((w2.alloc (Obj.cells #[Value.bool nx2, Value.slice ao2 len2 cap2, Value.int IntKind.i64 ex2] 61)).alloc (Obj.cells #[Value.bool ny2, Value.slice bo2 blen2 bcap2, Value.int IntKind.i64 ey2] 61)) = V2 at K2x K2y C2' K1x_2' K1y_2' GR_1'_2' Z1'_2' Y1'_2' Z2' Y2' ⊢
  by_cases hg : Good al ah ab ∧ Good bl bh bb
  · have HZ : Hid ((z1 = fval al ∧ y1 = fval ah) ∧ z2 = fval bl ∧ y2 = fval bh) := ⟨⟨F1.out hg.1.2.1, H1.out hg.1.2.2.1⟩, F2.out hg.2.2.1, H2.out hg.2.2.2.1⟩
    have HSP : Hid (∀ r, SpR (max z1 z2) (max y1 y2) (2 ^ 0) r → BinR (SpR (max (fval al) (fval bl)) (max (fval ah) (fval bh)) 1) al ah bl bh ab bb r) := by
      intro r hr
      unfold BinR
      rw [if_pos hg, ← HZ.out.1.1, ← HZ.out.1.2, ← HZ.out.2.1, ← HZ.out.2.2]
      exact hr
    obtain rfl : dg = true := by rw [← HDG.out]; exact decide_eq_true hg.1
    obtain rfl : df = true := by rw [← HDF.out]; exact decide_eq_true hg.2
    clear hg F1 H1 F2 H2 HDG HDF
    go_upto_region 5 with fail
    have hS : ∀ W, Below V2.heap.size V2 W → (W.heap[w1.heap.size]? = some (Obj.cells #[Value.bool nx1, Value.slice ao1 len1 cap1, Value.int IntKind.i64 ex1] 61) ∧ W.heap[w1.heap.size + 1]? = some (Obj.cells #[Value.bool ny1, Value.slice bo1 blen1 bcap1, Value.int IntKind.i64 ey1] 61) ∧ W.heap[w2.heap.size]? = some (Obj.cells #[Value.bool nx2, Value.slice ao2 len2 cap2, Value.int IntKind.i64 ex2] 61) ∧ W.heap[w2.heap.size + 1]? = some (Obj.cells #[Value.bool ny2, Value.slice bo2 blen2 bcap2, Value.int IntKind.i64 ey2] 61)) := fun W h => ⟨keep0 K1x_2'.out h, keep0 K1y_2'.out h, keep0 K2x.out h, keep0 K2y.out h⟩
    refine wp_region_noPanic ?_
    refine wp_region_held_drew (S := fun W => W.heap[w1.heap.size]? = some (Obj.cells #[Value.bool nx1, Value.slice ao1 len1 cap1, Value.int IntKind.i64 ex1] 61) ∧ W.heap[w1.heap.size + 1]? = some (Obj.cells #[Value.bool ny1, Value.slice bo1 blen1 bcap1, Value.int IntKind.i64 ey1] 61) ∧ W.heap[w2.heap.size]? = some (Obj.cells #[Value.bool nx2, Value.slice ao2 len2 cap2, Value.int IntKind.i64 ex2] 61) ∧ W.heap[w2.heap.size + 1]? = some (Obj.cells #[Value.bool ny2, Value.slice bo2 blen2 bcap2, Value.int IntKind.i64 ey2] 61)) (by kernel_rfl) (hS _ (Below.refl _ _).drew) (fun _ => ?_)
    refine takeH 30 (i := 0) (v := (Value.agg #[Value.bool nx1, Value.slice ao1 len1 cap1, Value.int IntKind.i64 ex1])) rfl rfl (by kernel_rfl) (by kernel_rfl) (by kernel_rfl) (fun _ _ _ h => h) (Or.inl ⟨(by kernel_rfl), fun w' hq => ex_load3 _ _ rfl (w1.heap.size) (by kernel_rfl) w' nx1 ao1 len1 cap1 ex1 (cells3 (hq.1))⟩) (hS _ (Below.refl _ _).drew) ?_
    refine takeH 31 (i := 1) (v := (Value.agg #[Value.bool nx2, Value.slice ao2 len2 cap2, Value.int IntKind.i64 ex2])) rfl rfl (by kernel_rfl) (by kernel_rfl) (by kernel_rfl) (fun _ _ _ h => h) (Or.inl ⟨(by kernel_rfl), fun w' hq => ex_load3 _ _ rfl (w2.heap.size) (by kernel_rfl) w' nx2 ao2 len2 cap2 ex2 (cells3 (hq.2.2.1))⟩) (hS _ (Below.refl _ _).drew) ?_
    refine takeH 33 (i := 3) (v := (Value.agg #[Value.bool ny1, Value.slice bo1 blen1 bcap1, Value.int IntKind.i64 ey1])) rfl rfl (by kernel_rfl) (by kernel_rfl) (by kernel_rfl) (fun _ _ _ h => h) (Or.inl ⟨(by kernel_rfl), fun w' hq => ex_load3 _ _ rfl (w1.heap.size + 1) (by kernel_rfl) w' ny1 bo1 blen1 bcap1 ey1 (cells3 (hq.2.1))⟩) (hS _ (Below.refl _ _).drew) ?_
    refine takeH 34 (i := 4) (v := (Value.agg #[Value.bool ny2, Value.slice bo2 blen2 bcap2, Value.int IntKind.i64 ey2])) rfl rfl (by kernel_rfl) (by kernel_rfl) (by kernel_rfl) (fun _ _ _ h => h) (Or.inl ⟨(by kernel_rfl), fun w' hq => ex_load3 _ _ rfl (w2.heap.size + 1) (by kernel_rfl) w' ny2 bo2 blen2 bcap2 ey2 (cells3 (hq.2.2.2))⟩) (hS _ (Below.refl _ _).drew) ?_
    try (simp only [Act.put, List.setIfInBounds_toArray, List.set_cons_zero, List.set_cons_succ])
    refine wpAnyH_ready (rs := [2]) (by kernel_rfl) (by simp) ?_
    refine consH _ rfl ?_ AllReadyH.nil
    refine hopCd 32 rfl (by kernel_rfl) rfl (by kernel_rfl) (Calls.mono (mostZ_any _ _ E 1024 z1 z2 _ (NumZ.later Z1'_2'.out (Below.refl _ _).drew) (NumZ.later Z2'.out (Below.refl _ _).drew) (by omega) (by omega)) ?_)
    rintro e m0 ⟨va, rfl, za, g0⟩
    have h0 : Below V2.heap.size V2 m0 := Below.trans ((Below.refl _ _).drew : Below V2.heap.size V2 _) (g0.mono (Below.size ((Below.refl _ _).drew : Below V2.heap.size V2 _)))
    refine ⟨_, rfl, hS _ h0, ?_⟩
    try (simp only [Act.put, List.setIfInBounds_toArray, List.set_cons_zero, List.set_cons_succ])
    refine wpAnyH_ready (rs := [5]) (by kernel_rfl) (by simp) ?_
    refine consH _ rfl ?_ AllReadyH.nil
    refine hopCd 35 rfl (by kernel_rfl) rfl (by kernel_rfl) (Calls.mono (mostZ_any _ _ E 1024 y1 y2 _ (NumZ.later Y1'_2'.out h0) (NumZ.later Y2'.out h0) (by omega) (by omega)) ?_)
    rintro e m1 ⟨vb, rfl, zb, g1⟩
    have h1 : Below V2.heap.size V2 m1 := Below.trans (h0 : Below V2.heap.size V2 _) (g1.mono (Below.size (h0 : Below V2.heap.size V2 _)))
    refine ⟨_, rfl, hS _ h1, ?_⟩
    try (simp only [Act.put, List.setIfInBounds_toArray, List.set_cons_zero, List.set_cons_succ])
    refine wpAnyH_ready (rs := [6]) (by kernel_rfl) (by simp) ?_
    refine consH _ rfl ?_ AllReadyH.nil
    refine hopCd 36 rfl (by kernel_rfl) rfl (by kernel_rfl) (Calls.mono (refOf_any va vb E 0 1024 1024 (max z1 z2) (max y1 y2) _ (NumZ.later za g1) zb E hE rfl (by omega) (by omega) (by omega)) ?_)
    rintro e m2 ⟨r, rfl, hr, g2⟩
    have h2 : Below V2.heap.size V2 m2 := Below.trans (h1 : Below V2.heap.size V2 _) (g2.mono (Below.size (h1 : Below V2.heap.size V2 _)))
    refine ⟨_, rfl, hS _ h2, ?_⟩
    try (simp only [Act.put, List.setIfInBounds_toArray, List.set_cons_zero, List.set_cons_succ])
    refine wpAnyH_ready (rs := [7]) (by kernel_rfl) (by simp) ?_
    refine consH _ rfl ?_ AllReadyH.nil
    refine hopSU rfl rfl rfl _ _ rfl (w.heap.size + 1 + 1) (by kernel_rfl) r.1 r.2.1 r.2.2 (by kernel_rfl) 0 0 false (keep0 GR_1'_2'.out h2) ?_
    intro W9 a9 t9 b9
    refine ⟨⟨(t9 _ (by omega)).trans (keep0 K1x_2'.out h2), (t9 _ (by omega)).trans (keep0 K1y_2'.out h2), (t9 _ (by omega)).trans (keep0 K2x.out h2), (t9 _ (by omega)).trans (keep0 K2y.out h2)⟩, ?_⟩
    refine wpAnyH_done (by kernel_rfl) ?_ _
    refine NoPanic.normal ?_
    try (simp only [Act.put, List.setIfInBounds_toArray, List.set_cons_zero, List.set_cons_succ])
    go_wp2_with fail
    refine bodyPost_ret (v := .agg #[.int .u64 (r.1 : Int), .int .u64 (r.2.1 : Int), .bool r.2.2]) (res_su _ 4 (by kernel_rfl) _ _ (w.heap.size + 1 + 1) _ _ _ ?_ a9) rfl ?_
    · rfl
    · exact ⟨r, rfl, HSP.out r hr, b9 _ _ (Below.trans C2'.out (h2.mono C2'.out.size)) (by omega)⟩
  · have HSP : Hid (BinR (SpR (max (fval al) (fval bl)) (max (fval ah) (fval bh)) 1) al ah bl bh ab bb (0, 0, true)) := by unfold Hid BinR; rw [if_neg hg]
    have hc : dg = false ∨ (dg = true ∧ df = false) := by
      rw [← HDG.out, ← HDF.out]
      by_cases h1 : Good al ah ab
      · exact .inr ⟨decide_eq_true h1, decide_eq_false fun h2 => hg ⟨h1, h2⟩⟩
      · exact .inl (decide_eq_false h1)
    clear hg F1 H1 F2 H2 HDG HDF
    rcases hc with rfl | ⟨rfl, rfl⟩
    all_goals
      go_wp2_with fail
      refine Calls.mono (refBad_any _) ?_
      rintro e w4 ⟨rfl, bw⟩
      have R4 : Hid _ := (bw.block _ (blk_lt GR_1'_2'.out)).trans GR_1'_2'.out
      have C4 : Hid (Below w.heap.size w w4) := C2'.out.trans (bw.mono C2'.out.size)
      clear bw
      obtain ⟨r0, r1, r2⟩ := cells3 R4.out
      have fz := fun j => frozen_of_row _ _ j _ _ R4.out
      go_wp2_with fail
      refine bodyPost_ret (v := .agg #[.int .u64 0, .int .u64 0, .bool true]) (res_su _ 4 (by kernel_rfl) _ _ (w.heap.size + 1 + 1) _ _ _ ?_ (setsp_heap _ _ _ R4.out)) rfl ?_
      · rfl
      · exact ⟨(0, 0, true), rfl, HSP.out, below_setsp _ _ _ C4.out (by omega)⟩
set_option maxRecDepth 100000 in
set_option maxHeartbeats 8000000 in
theorem refHull_any (al ah bl bh : Nat) (ab bb : Bool) (hal : al < 18446744073709551616) (hah : ah < 18446744073709551616) (hbl : bl < 18446744073709551616) (hbh : bh < 18446744073709551616) (w : World) (E : Nat) (hE : E = 1074) :
    Calls Tryz.prog 26 #[.agg #[Value.int .u64 (al : Int), .int .u64 (ah : Int), .bool ab], .agg #[Value.int .u64 (bl : Int), .int .u64 (bh : Int), .bool bb]] w fun e w' => RefAns w (BinR (SpR (min (fval al) (fval bl)) (max (fval ah) (fval bh)) 1) al ah bl bh ab bb) e w' := by
  obtain ⟨g0, g1, g2, gz, gb⟩ := alloc3_facts w (Obj.cells #[Value.int .u64 (al : Int), .int .u64 (ah : Int), .bool ab] 36) (Obj.cells #[Value.int .u64 (bl : Int), .int .u64 (bh : Int), .bool bb] 36) (Obj.cells #[Value.int .u64 0, .int .u64 0, .bool false] 36)
  have GA : Hid _ := g0
  have GC : Hid _ := g1
  have GR : Hid _ := g2
  have GB : Hid _ := gb
  clear g0 g1 g2 gz gb
  go_enter Tryz.func26, Tryz.ntmps26
  go_upto_region 1 with fail
  generalize (((w.alloc (Obj.cells #[Value.int .u64 (al : Int), .int .u64 (ah : Int), .bool ab] 36)).alloc (Obj.cells #[Value.int .u64 (bl : Int), .int .u64 (bh : Int), .bool bb] 36)).alloc (Obj.cells #[Value.int .u64 0, .int .u64 0, .bool false] 36)) = W0 at GA GC GR GB ⊢
  obtain ⟨a0, a1, a2⟩ := cells3 GA.out
  go_wp2_with fail
  clear a0 a1 a2
  refine Calls.mono (ends_any al ah ab hal hah _ E hE) ?_
  rintro e w1 ⟨v1, u1, rfl, ⟨z1, hz1, hf1⟩, ⟨y1, hy1, hg1⟩, bw⟩
  have Z1 : Hid (NumZ w1 v1 E 1024 z1) := hz1
  have Y1 : Hid (NumZ w1 u1 E 1024 y1) := hy1
  have F1 : Hid (Fin al → z1 = fval al) := hf1
  have H1 : Hid (Fin ah → y1 = fval ah) := hg1
  obtain ⟨nx1, mx1, ex1, ⟨ao1, len1, cap1, xs1, rfl, -⟩, -⟩ := hz1
  obtain ⟨ny1, my1, ey1, ⟨bo1, blen1, bcap1, ys1, rfl, -⟩, -⟩ := hy1
  have GC_1 : Hid _ := (bw.block _ (blk_lt GC.out)).trans GC.out
  have GR_1 : Hid _ := (bw.block _ (blk_lt GR.out)).trans GR.out
  have C_1 : Hid (Below w.heap.size w w1) := GB.out.trans (bw.mono GB.out.size)
  clear bw hf1 hg1 GB GC GR
  obtain ⟨dg, hdg⟩ : ∃ d, decide (Good al ah ab) = d := ⟨_, rfl⟩
  have HDG : Hid _ := hdg
  rw [hdg]
  clear hdg
  go_upto_region 2 with fail
  have HR1 : w.heap.size + 1 + 1 < w1.heap.size := blk_lt GR_1.out
  obtain ⟨k0, k1, -, kb⟩ := alloc2_facts w1 (Obj.cells #[Value.bool nx1, Value.slice ao1 len1 cap1, Value.int IntKind.i64 ex1] 61) (Obj.cells #[Value.bool ny1, Value.slice bo1 blen1 bcap1, Value.int IntKind.i64 ey1] 61)
  have K1x : Hid _ := k0
  have K1y : Hid _ := k1
  have C1' : Hid (Below w.heap.size w ((w1.alloc (Obj.cells #[Value.bool nx1, Value.slice ao1 len1 cap1, Value.int IntKind.i64 ex1] 61)).alloc (Obj.cells #[Value.bool ny1, Value.slice bo1 blen1 bcap1, Value.int IntKind.i64 ey1] 61))) := C_1.out.trans (kb.mono C_1.out.size)
  have GC_1' : Hid _ := (kb.block _ (blk_lt GC_1.out)).trans GC_1.out
  have GR_1' : Hid _ := (kb.block _ (blk_lt GR_1.out)).trans GR_1.out
  have Z1' : Hid _ := NumZ.later Z1.out kb
  have Y1' : Hid _ := NumZ.later Y1.out kb
  clear k0 k1 kb C_1 GC_1 GR_1 Z1 Y1
  generalize ((w1.alloc (Obj.cells #[Value.bool nx1, Value.slice ao1 len1 cap1, Value.int IntKind.i64 ex1] 61)).alloc (Obj.cells #[Value.bool ny1, Value.slice bo1 blen1 bcap1, Value.int IntKind.i64 ey1] 61)) = V1 at K1x K1y C1' GC_1' GR_1' Z1' Y1' ⊢
  obtain ⟨a0, a1, a2⟩ := cells3 GC_1'.out
  go_wp2_with fail
  clear a0 a1 a2
  refine Calls.mono (ends_any bl bh bb hbl hbh _ E hE) ?_
  rintro e w2 ⟨v2, u2, rfl, ⟨z2, hz2, hf2⟩, ⟨y2, hy2, hg2⟩, bw⟩
  have Z2 : Hid (NumZ w2 v2 E 1024 z2) := hz2
  have Y2 : Hid (NumZ w2 u2 E 1024 y2) := hy2
  have F2 : Hid (Fin bl → z2 = fval bl) := hf2
  have H2 : Hid (Fin bh → y2 = fval bh) := hg2
  obtain ⟨nx2, mx2, ex2, ⟨ao2, len2, cap2, xs2, rfl, -⟩, -⟩ := hz2
  obtain ⟨ny2, my2, ey2, ⟨bo2, blen2, bcap2, ys2, rfl, -⟩, -⟩ := hy2
  have K1x_2 : Hid _ := (bw.block _ (blk_lt K1x.out)).trans K1x.out
  have K1y_2 : Hid _ := (bw.block _ (blk_lt K1y.out)).trans K1y.out
  have GR_1'_2 : Hid _ := (bw.block _ (blk_lt GR_1'.out)).trans GR_1'.out
  have Z1'_2 : Hid _ := NumZ.later Z1'.out bw
  have Y1'_2 : Hid _ := NumZ.later Y1'.out bw
  have C_2 : Hid (Below w.heap.size w w2) := C1'.out.trans (bw.mono C1'.out.size)
  clear bw hf2 hg2 C1' K1x K1y GR_1' Z1' Y1'
  obtain ⟨df, hdf⟩ : ∃ d, decide (Good bl bh bb) = d := ⟨_, rfl⟩
  have HDF : Hid _ := hdf
  rw [hdf]
  clear hdf
  go_upto_region 3 with fail
  have HR2 : w.heap.size + 1 + 1 < w2.heap.size := blk_lt GR_1'_2.out
  obtain ⟨k0, k1, -, kb⟩ := alloc2_facts w2 (Obj.cells #[Value.bool nx2, Value.slice ao2 len2 cap2, Value.int IntKind.i64 ex2] 61) (Obj.cells #[Value.bool ny2, Value.slice bo2 blen2 bcap2, Value.int IntKind.i64 ey2] 61)
  have K2x : Hid _ := k0
  have K2y : Hid _ := k1
  have C2' : Hid (Below w.heap.size w ((w2.alloc (Obj.cells #[Value.bool nx2, Value.slice ao2 len2 cap2, Value.int IntKind.i64 ex2] 61)).alloc (Obj.cells #[Value.bool ny2, Value.slice bo2 blen2 bcap2, Value.int IntKind.i64 ey2] 61))) := C_2.out.trans (kb.mono C_2.out.size)
  have K1x_2' : Hid _ := (kb.block _ (blk_lt K1x_2.out)).trans K1x_2.out
  have K1y_2' : Hid _ := (kb.block _ (blk_lt K1y_2.out)).trans K1y_2.out
  have GR_1'_2' : Hid _ := (kb.block _ (blk_lt GR_1'_2.out)).trans GR_1'_2.out
  have Z1'_2' : Hid _ := NumZ.later Z1'_2.out kb
  have Y1'_2' : Hid _ := NumZ.later Y1'_2.out kb
  have Z2' : Hid _ := NumZ.later Z2.out kb
  have Y2' : Hid _ := NumZ.later Y2.out kb
  clear k0 k1 kb C_2 K1x_2 K1y_2 GR_1'_2 Z1'_2 Y1'_2 Z2 Y2
  generalize ((w2.alloc (Obj.cells #[Value.bool nx2, Value.slice ao2 len2 cap2, Value.int IntKind.i64 ex2] 61)).alloc (Obj.cells #[Value.bool ny2, Value.slice bo2 blen2 bcap2, Value.int IntKind.i64 ey2] 61)) = V2 at K2x K2y C2' K1x_2' K1y_2' GR_1'_2' Z1'_2' Y1'_2' Z2' Y2' ⊢
  by_cases hg : Good al ah ab ∧ Good bl bh bb
  · have HZ : Hid ((z1 = fval al ∧ y1 = fval ah) ∧ z2 = fval bl ∧ y2 = fval bh) := ⟨⟨F1.out hg.1.2.1, H1.out hg.1.2.2.1⟩, F2.out hg.2.2.1, H2.out hg.2.2.2.1⟩
    have HSP : Hid (∀ r, SpR (min z1 z2) (max y1 y2) (2 ^ 0) r → BinR (SpR (min (fval al) (fval bl)) (max (fval ah) (fval bh)) 1) al ah bl bh ab bb r) := by
      intro r hr
      unfold BinR
      rw [if_pos hg, ← HZ.out.1.1, ← HZ.out.1.2, ← HZ.out.2.1, ← HZ.out.2.2]
      exact hr
    obtain rfl : dg = true := by rw [← HDG.out]; exact decide_eq_true hg.1
    obtain rfl : df = true := by rw [← HDF.out]; exact decide_eq_true hg.2
    clear hg F1 H1 F2 H2 HDG HDF
    go_upto_region 5 with fail
    have hS : ∀ W, Below V2.heap.size V2 W → (W.heap[w1.heap.size]? = some (Obj.cells #[Value.bool nx1, Value.slice ao1 len1 cap1, Value.int IntKind.i64 ex1] 61) ∧ W.heap[w1.heap.size + 1]? = some (Obj.cells #[Value.bool ny1, Value.slice bo1 blen1 bcap1, Value.int IntKind.i64 ey1] 61) ∧ W.heap[w2.heap.size]? = some (Obj.cells #[Value.bool nx2, Value.slice ao2 len2 cap2, Value.int IntKind.i64 ex2] 61) ∧ W.heap[w2.heap.size + 1]? = some (Obj.cells #[Value.bool ny2, Value.slice bo2 blen2 bcap2, Value.int IntKind.i64 ey2] 61)) := fun W h => ⟨keep0 K1x_2'.out h, keep0 K1y_2'.out h, keep0 K2x.out h, keep0 K2y.out h⟩
    refine wp_region_noPanic ?_
    refine wp_region_held_drew (S := fun W => W.heap[w1.heap.size]? = some (Obj.cells #[Value.bool nx1, Value.slice ao1 len1 cap1, Value.int IntKind.i64 ex1] 61) ∧ W.heap[w1.heap.size + 1]? = some (Obj.cells #[Value.bool ny1, Value.slice bo1 blen1 bcap1, Value.int IntKind.i64 ey1] 61) ∧ W.heap[w2.heap.size]? = some (Obj.cells #[Value.bool nx2, Value.slice ao2 len2 cap2, Value.int IntKind.i64 ex2] 61) ∧ W.heap[w2.heap.size + 1]? = some (Obj.cells #[Value.bool ny2, Value.slice bo2 blen2 bcap2, Value.int IntKind.i64 ey2] 61)) (by kernel_rfl) (hS _ (Below.refl _ _).drew) (fun _ => ?_)
    refine takeH 30 (i := 0) (v := (Value.agg #[Value.bool nx1, Value.slice ao1 len1 cap1, Value.int IntKind.i64 ex1])) rfl rfl (by kernel_rfl) (by kernel_rfl) (by kernel_rfl) (fun _ _ _ h => h) (Or.inl ⟨(by kernel_rfl), fun w' hq => ex_load3 _ _ rfl (w1.heap.size) (by kernel_rfl) w' nx1 ao1 len1 cap1 ex1 (cells3 (hq.1))⟩) (hS _ (Below.refl _ _).drew) ?_
    refine takeH 31 (i := 1) (v := (Value.agg #[Value.bool nx2, Value.slice ao2 len2 cap2, Value.int IntKind.i64 ex2])) rfl rfl (by kernel_rfl) (by kernel_rfl) (by kernel_rfl) (fun _ _ _ h => h) (Or.inl ⟨(by kernel_rfl), fun w' hq => ex_load3 _ _ rfl (w2.heap.size) (by kernel_rfl) w' nx2 ao2 len2 cap2 ex2 (cells3 (hq.2.2.1))⟩) (hS _ (Below.refl _ _).drew) ?_
    refine takeH 33 (i := 3) (v := (Value.agg #[Value.bool ny1, Value.slice bo1 blen1 bcap1, Value.int IntKind.i64 ey1])) rfl rfl (by kernel_rfl) (by kernel_rfl) (by kernel_rfl) (fun _ _ _ h => h) (Or.inl ⟨(by kernel_rfl), fun w' hq => ex_load3 _ _ rfl (w1.heap.size + 1) (by kernel_rfl) w' ny1 bo1 blen1 bcap1 ey1 (cells3 (hq.2.1))⟩) (hS _ (Below.refl _ _).drew) ?_
    refine takeH 34 (i := 4) (v := (Value.agg #[Value.bool ny2, Value.slice bo2 blen2 bcap2, Value.int IntKind.i64 ey2])) rfl rfl (by kernel_rfl) (by kernel_rfl) (by kernel_rfl) (fun _ _ _ h => h) (Or.inl ⟨(by kernel_rfl), fun w' hq => ex_load3 _ _ rfl (w2.heap.size + 1) (by kernel_rfl) w' ny2 bo2 blen2 bcap2 ey2 (cells3 (hq.2.2.2))⟩) (hS _ (Below.refl _ _).drew) ?_
    try (simp only [Act.put, List.setIfInBounds_toArray, List.set_cons_zero, List.set_cons_succ])
    refine wpAnyH_ready (rs := [2]) (by kernel_rfl) (by simp) ?_
    refine consH _ rfl ?_ AllReadyH.nil
    refine hopCd 32 rfl (by kernel_rfl) rfl (by kernel_rfl) (Calls.mono (leastZ_any _ _ E 1024 z1 z2 _ (NumZ.later Z1'_2'.out (Below.refl _ _).drew) (NumZ.later Z2'.out (Below.refl _ _).drew) (by omega) (by omega)) ?_)
    rintro e m0 ⟨va, rfl, za, g0⟩
    have h0 : Below V2.heap.size V2 m0 := Below.trans ((Below.refl _ _).drew : Below V2.heap.size V2 _) (g0.mono (Below.size ((Below.refl _ _).drew : Below V2.heap.size V2 _)))
    refine ⟨_, rfl, hS _ h0, ?_⟩
    try (simp only [Act.put, List.setIfInBounds_toArray, List.set_cons_zero, List.set_cons_succ])
    refine wpAnyH_ready (rs := [5]) (by kernel_rfl) (by simp) ?_
    refine consH _ rfl ?_ AllReadyH.nil
    refine hopCd 35 rfl (by kernel_rfl) rfl (by kernel_rfl) (Calls.mono (mostZ_any _ _ E 1024 y1 y2 _ (NumZ.later Y1'_2'.out h0) (NumZ.later Y2'.out h0) (by omega) (by omega)) ?_)
    rintro e m1 ⟨vb, rfl, zb, g1⟩
    have h1 : Below V2.heap.size V2 m1 := Below.trans (h0 : Below V2.heap.size V2 _) (g1.mono (Below.size (h0 : Below V2.heap.size V2 _)))
    refine ⟨_, rfl, hS _ h1, ?_⟩
    try (simp only [Act.put, List.setIfInBounds_toArray, List.set_cons_zero, List.set_cons_succ])
    refine wpAnyH_ready (rs := [6]) (by kernel_rfl) (by simp) ?_
    refine consH _ rfl ?_ AllReadyH.nil
    refine hopCd 36 rfl (by kernel_rfl) rfl (by kernel_rfl) (Calls.mono (refOf_any va vb E 0 1024 1024 (min z1 z2) (max y1 y2) _ (NumZ.later za g1) zb E hE rfl (by omega) (by omega) (by omega)) ?_)
    rintro e m2 ⟨r, rfl, hr, g2⟩
    have h2 : Below V2.heap.size V2 m2 := Below.trans (h1 : Below V2.heap.size V2 _) (g2.mono (Below.size (h1 : Below V2.heap.size V2 _)))
    refine ⟨_, rfl, hS _ h2, ?_⟩
    try (simp only [Act.put, List.setIfInBounds_toArray, List.set_cons_zero, List.set_cons_succ])
    refine wpAnyH_ready (rs := [7]) (by kernel_rfl) (by simp) ?_
    refine consH _ rfl ?_ AllReadyH.nil
    refine hopSU rfl rfl rfl _ _ rfl (w.heap.size + 1 + 1) (by kernel_rfl) r.1 r.2.1 r.2.2 (by kernel_rfl) 0 0 false (keep0 GR_1'_2'.out h2) ?_
    intro W9 a9 t9 b9
    refine ⟨⟨(t9 _ (by omega)).trans (keep0 K1x_2'.out h2), (t9 _ (by omega)).trans (keep0 K1y_2'.out h2), (t9 _ (by omega)).trans (keep0 K2x.out h2), (t9 _ (by omega)).trans (keep0 K2y.out h2)⟩, ?_⟩
    refine wpAnyH_done (by kernel_rfl) ?_ _
    refine NoPanic.normal ?_
    try (simp only [Act.put, List.setIfInBounds_toArray, List.set_cons_zero, List.set_cons_succ])
    go_wp2_with fail
    refine bodyPost_ret (v := .agg #[.int .u64 (r.1 : Int), .int .u64 (r.2.1 : Int), .bool r.2.2]) (res_su _ 4 (by kernel_rfl) _ _ (w.heap.size + 1 + 1) _ _ _ ?_ a9) rfl ?_
    · rfl
    · exact ⟨r, rfl, HSP.out r hr, b9 _ _ (Below.trans C2'.out (h2.mono C2'.out.size)) (by omega)⟩
  · have HSP : Hid (BinR (SpR (min (fval al) (fval bl)) (max (fval ah) (fval bh)) 1) al ah bl bh ab bb (0, 0, true)) := by unfold Hid BinR; rw [if_neg hg]
    have hc : dg = false ∨ (dg = true ∧ df = false) := by
      rw [← HDG.out, ← HDF.out]
      by_cases h1 : Good al ah ab
      · exact .inr ⟨decide_eq_true h1, decide_eq_false fun h2 => hg ⟨h1, h2⟩⟩
      · exact .inl (decide_eq_false h1)
    clear hg F1 H1 F2 H2 HDG HDF
    rcases hc with rfl | ⟨rfl, rfl⟩
    all_goals
      go_wp2_with fail
      refine Calls.mono (refBad_any _) ?_
      rintro e w4 ⟨rfl, bw⟩
      have R4 : Hid _ := (bw.block _ (blk_lt GR_1'_2'.out)).trans GR_1'_2'.out
      have C4 : Hid (Below w.heap.size w w4) := C2'.out.trans (bw.mono C2'.out.size)
      clear bw
      obtain ⟨r0, r1, r2⟩ := cells3 R4.out
      have fz := fun j => frozen_of_row _ _ j _ _ R4.out
      go_wp2_with fail
      refine bodyPost_ret (v := .agg #[.int .u64 0, .int .u64 0, .bool true]) (res_su _ 4 (by kernel_rfl) _ _ (w.heap.size + 1 + 1) _ _ _ ?_ (setsp_heap _ _ _ R4.out)) rfl ?_
      · rfl
      · exact ⟨(0, 0, true), rfl, HSP.out, below_setsp _ _ _ C4.out (by omega)⟩
end Go.Proofs.YtnjjichanfpbhaaGreat
