import Derived.Test.YtnjjichanfpbhaaGreatRN
namespace Go.Proofs.YtnjjichanfpbhaaGreat
open Go.RowKit
set_option linter.unusedVariables false

theorem neg_lt' {lo hi : Nat} {b : Bool} {r : Nat × Nat × Bool} {X Y : Int} (h : UnR (SpR X Y 1) lo hi b r) : r.1 < 18446744073709551616 ∧ r.2.1 < 18446744073709551616 := by
  unfold UnR at h
  split at h
  · exact h.lt
  · rw [h]; exact ⟨by decide, by decide⟩
theorem mk_of {al ah bl bh : Nat} {ab bb : Bool} {X Y : Int} (hXY : Good al ah ab ∧ Good bl bh bb → X ≤ Y) {r : Nat × Nat × Bool} (h : BinR (SpR X Y 1) al ah bl bh ab bb r) : BinR (MkR X Y) al ah bl bh ab bb r := by
  unfold BinR at h ⊢
  split at h
  · rename_i hg
    rw [if_pos hg]
    unfold MkR
    rw [if_pos (hXY hg)]
    exact h
  · rename_i hg
    rw [if_neg hg]
    exact h
theorem BinR.uniq {P : Nat × Nat × Bool → Prop} (hP : ∀ r s, P r → P s → r = s) {al ah bl bh : Nat} {ab bb : Bool} {r s : Nat × Nat × Bool} (h : BinR P al ah bl bh ab bb r) (h' : BinR P al ah bl bh ab bb s) : r = s := by
  unfold BinR at h h'
  split at h
  · rename_i hg
    rw [if_pos hg] at h'
    exact hP _ _ h h'
  · rename_i hg
    rw [if_neg hg] at h'
    rw [h, h']
theorem UnR.uniq {P : Nat × Nat × Bool → Prop} (hP : ∀ r s, P r → P s → r = s) {al ah : Nat} {ab : Bool} {r s : Nat × Nat × Bool} (h : UnR P al ah ab r) (h' : UnR P al ah ab s) : r = s := by
  unfold UnR at h h'
  split at h
  · rename_i hg
    rw [if_pos hg] at h'
    exact hP _ _ h h'
  · rename_i hg
    rw [if_neg hg] at h'
    rw [h, h']
theorem MkR.uniq {X Y : Int} {r s : Nat × Nat × Bool} (h : MkR X Y r) (h' : MkR X Y s) : r = s := by
  unfold MkR at h h'
  split at h
  · rename_i hg
    rw [if_pos hg] at h'
    exact h.uniq h'
  · rename_i hg
    rw [if_neg hg] at h'
    rw [h, h']
theorem sub_of {al ah bl bh : Nat} {ab bb : Bool} (hbl : bl < 18446744073709551616) (hbh : bh < 18446744073709551616) {n r : Nat × Nat × Bool} (hn : UnR (SpR (-fval bh) (-fval bl) 1) bl bh bb n) (hr : BinR (SpR (fval al + fval n.1) (fval ah + fval n.2.1) 1) al ah n.1 n.2.1 ab n.2.2 r) : BinR (SpR (fval al - fval bh) (fval ah - fval bl) 1) al ah bl bh ab bb r := by
  unfold UnR at hn
  by_cases hg : Good bl bh bb
  · rw [if_pos hg] at hn
    have fo := fopp_parts hbh
    have fl := fopp_parts hbl
    have fo1 : Fin (fopp bh) := by unfold Fin; rw [fo.1]; exact hg.2.2.1
    have fl1 : Fin (fopp bl) := by unfold Fin; rw [fl.1]; exact hg.2.1
    have v1 := fopp_fval hbh
    have v2 := fopp_fval hbl
    obtain ⟨p, q, hp, hq, rfl⟩ := hn
    rw [← v1] at hp
    rw [← v2] at hq
    obtain rfl := RndZ.exact fo.2.2 fo1 (by decide) hp
    obtain rfl := RndZ.exact fl.2.2 fl1 (by decide) hq
    have p1 := plain_fval fo.2.2 fo1
    have p2 := plain_fval fl.2.2 fl1
    have hgn : Good (plainM (fopp bh)) (plainM (fopp bl)) false := by
      refine ⟨rfl, p1.2.1, p2.2.1, ?_⟩
      rw [srung_le, p1.1, p2.1, v1, v2]
      have := (srung_le bl bh).1 hg.2.2.2
      omega
    have e : spOf (plainM (fopp bh), true) (plainM (fopp bl), true) = (plainM (fopp bh), plainM (fopp bl), false) := by unfold spOf; rw [if_pos ⟨rfl, rfl⟩]
    rw [e] at hr
    simp only [p1.1, p2.1, v1, v2] at hr
    unfold BinR at hr ⊢
    by_cases ha : Good al ah ab
    · rw [if_pos ⟨ha, hgn⟩] at hr
      rw [if_pos ⟨ha, hg⟩]
      exact hr
    · rw [if_neg (fun h => ha h.1)] at hr
      rw [if_neg (fun h => ha h.1)]
      exact hr
  · rw [if_neg hg] at hn
    subst hn
    unfold BinR at hr ⊢
    rw [if_neg (fun h => by have := h.2.1; simp at this)] at hr
    rw [if_neg (fun h => hg h.2)]
    exact hr
set_option maxRecDepth 100000 in
set_option maxHeartbeats 8000000 in
theorem refSub4_any (al ah bl bh : Nat) (ab bb : Bool) (hal : al < 18446744073709551616) (hah : ah < 18446744073709551616) (hbl : bl < 18446744073709551616) (hbh : bh < 18446744073709551616) (w : World) (E : Nat) (hE : E = 1074) :
    Calls Tryz.prog 16 #[.agg #[Value.int .u64 (al : Int), .int .u64 (ah : Int), .bool ab], .agg #[Value.int .u64 (bl : Int), .int .u64 (bh : Int), .bool bb]] w fun e w' => RefAns w (BinR (SpR (fval al - fval bh) (fval ah - fval bl) 1) al ah bl bh ab bb) e w' := by
  obtain ⟨g0, g1, g2, gz, gb⟩ := alloc3_facts w (Obj.cells #[Value.int .u64 (al : Int), .int .u64 (ah : Int), .bool ab] 36) (Obj.cells #[Value.int .u64 (bl : Int), .int .u64 (bh : Int), .bool bb] 36) (Obj.cells #[Value.int .u64 0, .int .u64 0, .bool false] 36)
  have GA : Hid _ := g0
  have GC : Hid _ := g1
  have GR : Hid _ := g2
  have GB : Hid _ := gb
  clear g0 g1 g2 gz gb
  go_enter Tryz.func16, Tryz.ntmps16
  go_upto_region 1 with fail
  generalize (((w.alloc (Obj.cells #[Value.int .u64 (al : Int), .int .u64 (ah : Int), .bool ab] 36)).alloc (Obj.cells #[Value.int .u64 (bl : Int), .int .u64 (bh : Int), .bool bb] 36)).alloc (Obj.cells #[Value.int .u64 0, .int .u64 0, .bool false] 36)) = V1 at GA GC GR GB ⊢
  have HSP : Hid (∀ r, BinR (SpR (fval al - fval bh) (fval ah - fval bl) 1) al ah bl bh ab bb r → BinR (SpR (fval al - fval bh) (fval ah - fval bl) 1) al ah bl bh ab bb r) := fun r h => h
  have hS : ∀ W, Below V1.heap.size V1 W → (W.heap[w.heap.size]? = some (Obj.cells #[Value.int .u64 (al : Int), .int .u64 (ah : Int), .bool ab] 36) ∧ W.heap[w.heap.size + 1]? = some (Obj.cells #[Value.int .u64 (bl : Int), .int .u64 (bh : Int), .bool bb] 36)) := fun W h => ⟨keep0 GA.out h, keep0 GC.out h⟩
  refine wp_region_noPanic ?_
  refine wp_region_held_drew (S := fun W => W.heap[w.heap.size]? = some (Obj.cells #[Value.int .u64 (al : Int), .int .u64 (ah : Int), .bool ab] 36) ∧ W.heap[w.heap.size + 1]? = some (Obj.cells #[Value.int .u64 (bl : Int), .int .u64 (bh : Int), .bool bb] 36)) (by kernel_rfl) (hS _ (Below.refl _ _).drew) (fun _ => ?_)
  refine takeH 5 (i := 0) (v := (Value.agg #[Value.int .u64 (al : Int), .int .u64 (ah : Int), .bool ab])) rfl rfl (by kernel_rfl) (by kernel_rfl) (by kernel_rfl) (fun _ _ _ h => h) (Or.inl ⟨(by kernel_rfl), fun w' hq => ex_loadU _ _ rfl w.heap.size (by kernel_rfl) w' _ _ _ hq.1⟩) (hS _ (Below.refl _ _).drew) ?_
  refine takeH 6 (i := 1) (v := (Value.agg #[Value.int .u64 (bl : Int), .int .u64 (bh : Int), .bool bb])) rfl rfl (by kernel_rfl) (by kernel_rfl) (by kernel_rfl) (fun _ _ _ h => h) (Or.inl ⟨(by kernel_rfl), fun w' hq => ex_loadU _ _ rfl (w.heap.size + 1) (by kernel_rfl) w' _ _ _ hq.2⟩) (hS _ (Below.refl _ _).drew) ?_
  try (simp only [Act.put, List.setIfInBounds_toArray, List.set_cons_zero, List.set_cons_succ])
  refine wpAnyH_ready (rs := [2]) (by kernel_rfl) (by simp) ?_
  refine consH _ rfl ?_ AllReadyH.nil
  refine hopCd 7 rfl (by kernel_rfl) rfl (by kernel_rfl) (Calls.mono (refNeg_any bl bh bb hbl hbh _ E hE) ?_)
  rintro e m0 ⟨n, rfl, hn, g0⟩
  have h0 : Below V1.heap.size V1 m0 := Below.trans ((Below.refl _ _).drew : Below V1.heap.size V1 _) (g0.mono (Below.size ((Below.refl _ _).drew : Below V1.heap.size V1 _)))
  refine ⟨_, rfl, hS _ h0, ?_⟩
  have hnl : n.1 < 18446744073709551616 ∧ n.2.1 < 18446744073709551616 := neg_lt' hn
  try (simp only [Act.put, List.setIfInBounds_toArray, List.set_cons_zero, List.set_cons_succ])
  refine wpAnyH_ready (rs := [3]) (by kernel_rfl) (by simp) ?_
  refine consH _ rfl ?_ AllReadyH.nil
  refine hopCd 8 rfl (by kernel_rfl) rfl (by kernel_rfl) (Calls.mono (refAdd4_any al ah n.1 n.2.1 ab n.2.2 hal hah hnl.1 hnl.2 _ E hE) ?_)
  rintro e m1 ⟨r, rfl, hrr, g1⟩
  have h1 : Below V1.heap.size V1 m1 := Below.trans (h0 : Below V1.heap.size V1 _) (g1.mono (Below.size (h0 : Below V1.heap.size V1 _)))
  refine ⟨_, rfl, hS _ h1, ?_⟩
  have hr := sub_of hbl hbh hn hrr
  try (simp only [Act.put, List.setIfInBounds_toArray, List.set_cons_zero, List.set_cons_succ])
  refine wpAnyH_ready (rs := [4]) (by kernel_rfl) (by simp) ?_
  refine consH _ rfl ?_ AllReadyH.nil
  refine hopSU rfl rfl rfl _ _ rfl (w.heap.size + 1 + 1) (by kernel_rfl) r.1 r.2.1 r.2.2 (by kernel_rfl) 0 0 false (keep0 GR.out h1) ?_
  intro W9 a9 t9 b9
  refine ⟨⟨(t9 _ (by omega)).trans (keep0 GA.out h1), (t9 _ (by omega)).trans (keep0 GC.out h1)⟩, ?_⟩
  refine wpAnyH_done (by kernel_rfl) ?_ _
  refine NoPanic.normal ?_
  try (simp only [Act.put, List.setIfInBounds_toArray, List.set_cons_zero, List.set_cons_succ])
  go_wp2_with fail
  refine bodyPost_ret (v := .agg #[.int .u64 (r.1 : Int), .int .u64 (r.2.1 : Int), .bool r.2.2]) (res_su _ 4 (by kernel_rfl) _ _ (w.heap.size + 1 + 1) _ _ _ ?_ a9) rfl ?_
  · rfl
  · exact ⟨r, rfl, HSP.out r hr, b9 _ _ (Below.trans GB.out (h1.mono GB.out.size)) (by omega)⟩
set_option maxRecDepth 100000 in
set_option maxHeartbeats 8000000 in
theorem refMeet_any (al ah bl bh : Nat) (ab bb : Bool) (hal : al < 18446744073709551616) (hah : ah < 18446744073709551616) (hbl : bl < 18446744073709551616) (hbh : bh < 18446744073709551616) (w : World) (E : Nat) (hE : E = 1074) :
    Calls Tryz.prog 28 #[.agg #[Value.int .u64 (al : Int), .int .u64 (ah : Int), .bool ab], .agg #[Value.int .u64 (bl : Int), .int .u64 (bh : Int), .bool bb]] w fun e w' => RefAns w (BinR (MkR (max (fval al) (fval bl)) (min (fval ah) (fval bh))) al ah bl bh ab bb) e w' := by
  obtain ⟨g0, g1, g2, gz, gb⟩ := alloc3_facts w (Obj.cells #[Value.int .u64 (al : Int), .int .u64 (ah : Int), .bool ab] 36) (Obj.cells #[Value.int .u64 (bl : Int), .int .u64 (bh : Int), .bool bb] 36) (Obj.cells #[Value.int .u64 0, .int .u64 0, .bool false] 36)
  have GA : Hid _ := g0
  have GC : Hid _ := g1
  have GR : Hid _ := g2
  have GB : Hid _ := gb
  clear g0 g1 g2 gz gb
  go_enter Tryz.func28, Tryz.ntmps28
  go_upto_region 1 with fail
  generalize (((w.alloc (Obj.cells #[Value.int .u64 (al : Int), .int .u64 (ah : Int), .bool ab] 36)).alloc (Obj.cells #[Value.int .u64 (bl : Int), .int .u64 (bh : Int), .bool bb] 36)).alloc (Obj.cells #[Value.int .u64 0, .int .u64 0, .bool false] 36)) = W0 at GA GC GR GB ⊢
  obtain ⟨a0, a1, a2⟩ := cells3 GA.out
  go_wp2_with fail
  clear a0 a1 a2
  refine Calls.mono (ends_any al ah ab hal hah _ E hE) ?_
  rintro e w1 ⟨v1, u1, rfl, ⟨z1, hz1, hf1⟩, ⟨y1, hy1, hg1⟩, bw⟩
  have Z1 : Hid (NumZ w1 v1 E 1024 z1) := hz1
  have Y1 : Hid (NumZ w1 u1 E 1024 y1) := hy1
  have F1 : Hid (Fin al → z1 = fval al) := hf1
  have H1 : Hid (Fin ah → y1 = fval ah) := hg1
  obtain ⟨nx1, mx1, ex1, ⟨ao1, len1, cap1, xs1, rfl, -⟩, -⟩ := hz1
  obtain ⟨ny1, my1, ey1, ⟨bo1, blen1, bcap1, ys1, rfl, -⟩, -⟩ := hy1
  have GC_1 : Hid _ := (bw.block _ (blk_lt GC.out)).trans GC.out
  have GR_1 : Hid _ := (bw.block _ (blk_lt GR.out)).trans GR.out
  have C_1 : Hid (Below w.heap.size w w1) := GB.out.trans (bw.mono GB.out.size)
  clear bw hf1 hg1 GB GC GR
  obtain ⟨dg, hdg⟩ : ∃ d, decide (Good al ah ab) = d := ⟨_, rfl⟩
  have HDG : Hid _ := hdg
  rw [hdg]
  clear hdg
  go_upto_region 2 with fail
  have HR1 : w.heap.size + 1 + 1 < w1.heap.size := blk_lt GR_1.out
  obtain ⟨k0, k1, -, kb⟩ := alloc2_facts w1 (Obj.cells #[Value.bool nx1, Value.slice ao1 len1 cap1, Value.int IntKind.i64 ex1] 61) (Obj.cells #[Value.bool ny1, Value.slice bo1 blen1 bcap1, Value.int IntKind.i64 ey1] 61)
  have K1x : Hid _ := k0
  have K1y : Hid _ := k1
  have C1' : Hid (Below w.heap.size w ((w1.alloc (Obj.cells #[Value.bool nx1, Value.slice ao1 len1 cap1, Value.int IntKind.i64 ex1] 61)).alloc (Obj.cells #[Value.bool ny1, Value.slice bo1 blen1 bcap1, Value.int IntKind.i64 ey1] 61))) := C_1.out.trans (kb.mono C_1.out.size)
  have GC_1' : Hid _ := (kb.block _ (blk_lt GC_1.out)).trans GC_1.out
  have GR_1' : Hid _ := (kb.block _ (blk_lt GR_1.out)).trans GR_1.out
  have Z1' : Hid _ := NumZ.later Z1.out kb
  have Y1' : Hid _ := NumZ.later Y1.out kb
  clear k0 k1 kb C_1 GC_1 GR_1 Z1 Y1
  generalize ((w1.alloc (Obj.cells #[Value.bool nx1, Value.slice ao1 len1 cap1, Value.int IntKind.i64 ex1] 61)).alloc (Obj.cells #[Value.bool ny1, Value.slice bo1 blen1 bcap1, Value.int IntKind.i64 ey1] 61)) = V1 at K1x K1y C1' GC_1' GR_1' Z1' Y1' ⊢
  obtain ⟨a0, a1, a2⟩ := cells3 GC_1'.out
  go_wp2_with fail
  clear a0 a1 a2
  refine Calls.mono (ends_any bl bh bb hbl hbh _ E hE) ?_
  rintro e w2 ⟨v2, u2, rfl, ⟨z2, hz2, hf2⟩, ⟨y2, hy2, hg2⟩, bw⟩
  have Z2 : Hid (NumZ w2 v2 E 1024 z2) := hz2
  have Y2 : Hid (NumZ w2 u2 E 1024 y2) := hy2
  have F2 : Hid (Fin bl → z2 = fval bl) := hf2
  have H2 : Hid (Fin bh → y2 = fval bh) := hg2
  obtain ⟨nx2, mx2, ex2, ⟨ao2, len2, cap2, xs2, rfl, -⟩, -⟩ := hz2
  obtain ⟨ny2, my2, ey2, ⟨bo2, blen2, bcap2, ys2, rfl, -⟩, -⟩ := hy2
  have K1x_2 : Hid _ := (bw.block _ (blk_lt K1x.out)).trans K1x.out
  have K1y_2 : Hid _ := (bw.block _ (blk_lt K1y.out)).trans K1y.out
  have GR_1'_2 : Hid _ := (bw.block _ (blk_lt GR_1'.out)).trans GR_1'.out
  have Z1'_2 : Hid _ := NumZ.later Z1'.out bw
  have Y1'_2 : Hid _ := NumZ.later Y1'.out bw
  have C_2 : Hid (Below w.heap.size w w2) := C1'.out.trans (bw.mono C1'.out.size)
  clear bw hf2 hg2 C1' K1x K1y GR_1' Z1' Y1'
  obtain ⟨df, hdf⟩ : ∃ d, decide (Good bl bh bb) = d := ⟨_, rfl⟩
  have HDF : Hid _ := hdf
  rw [hdf]
  clear hdf
  go_upto_region 3 with fail
  have HR2 : w.heap.size + 1 + 1 < w2.heap.size := blk_lt GR_1'_2.out
  obtain ⟨k0, k1, -, kb⟩ := alloc2_facts w2 (Obj.cells #[Value.bool nx2, Value.slice ao2 len2 cap2, Value.int IntKind.i64 ex2] 61) (Obj.cells #[Value.bool ny2, Value.slice bo2 blen2 bcap2, Value.int IntKind.i64 ey2] 61)
  have K2x : Hid _ := k0
  have K2y : Hid _ := k1
  have C2' : Hid (Below w.heap.size w ((w2.alloc (Obj.cells #[Value.bool nx2, Value.slice ao2 len2 cap2, Value.int IntKind.i64 ex2] 61)).alloc (Obj.cells #[Value.bool ny2, Value.slice bo2 blen2 bcap2, Value.int IntKind.i64 ey2] 61))) := C_2.out.trans (kb.mono C_2.out.size)
  have K1x_2' : Hid _ := (kb.block _ (blk_lt K1x_2.out)).trans K1x_2.out
  have K1y_2' : Hid _ := (kb.block _ (blk_lt K1y_2.out)).trans K1y_2.out
  have GR_1'_2' : Hid _ := (kb.block _ (blk_lt GR_1'_2.out)).trans GR_1'_2.out
  have Z1'_2' : Hid _ := NumZ.later Z1'_2.out kb
  have Y1'_2' : Hid _ := NumZ.later Y1'_2.out kb
  have Z2' : Hid _ := NumZ.later Z2.out kb
  have Y2' : Hid _ := NumZ.later Y2.out kb
  clear k0 k1 kb C_2 K1x_2 K1y_2 GR_1'_2 Z1'_2 Y1'_2 Z2 Y2
  generalize ((w2.alloc (Obj.cells #[Value.bool nx2, Value.slice ao2 len2 cap2, Value.int IntKind.i64 ex2] 61)).alloc (Obj.cells #[Value.bool ny2, Value.slice bo2 blen2 bcap2, Value.int IntKind.i64 ey2] 61)) = V2 at K2x K2y C2' K1x_2' K1y_2' GR_1'_2' Z1'_2' Y1'_2' Z2' Y2' ⊢
  obtain ⟨x0, x1, x2⟩ := cells3 K1x_2'.out
  obtain ⟨q0, q1, q2⟩ := cells3 K2x.out
  go_wp2_with fail
  refine Calls.mono (mostZ_any _ _ E 1024 z1 z2 _ Z1'_2'.out Z2'.out (by omega) (by omega)) ?_
  rintro e w5 ⟨v5, rfl, hz5, bw⟩
  have L5 : Hid (NumZ w5 v5 E 1024 (max z1 z2)) := hz5
  obtain ⟨n5, m5, e5, ⟨o5, l5, c5, xs5, rfl, -⟩, -⟩ := hz5
  have A5 : Hid _ := (bw.block _ (blk_lt K1y_2'.out)).trans K1y_2'.out
  have B5 : Hid _ := (bw.block _ (blk_lt K2y.out)).trans K2y.out
  have R5 : Hid _ := (bw.block _ (blk_lt GR_1'_2'.out)).trans GR_1'_2'.out
  have Y5 : Hid _ := NumZ.later Y1'_2'.out bw
  have S5 : Hid _ := NumZ.later Y2'.out bw
  have C5 : Hid (Below w.heap.size w w5) := C2'.out.trans (bw.mono C2'.out.size)
  clear bw x0 x1 x2 q0 q1 q2 K1x_2' K1y_2' K2x K2y GR_1'_2' Z1'_2' Y1'_2' Z2' Y2' C2'
  go_upto_region 4 with fail
  obtain ⟨N6, b6⟩ := alloc1_facts w5 (Obj.cells #[Value.bool n5, Value.slice o5 l5 c5, Value.int IntKind.i64 e5] 61)
  have N6' : Hid _ := N6
  have A6 : Hid _ := (b6.block _ (blk_lt A5.out)).trans A5.out
  have B6 : Hid _ := (b6.block _ (blk_lt B5.out)).trans B5.out
  have R6 : Hid _ := (b6.block _ (blk_lt R5.out)).trans R5.out
  have L6 : Hid _ := NumZ.later L5.out b6
  have Y6 : Hid _ := NumZ.later Y5.out b6
  have S6 : Hid _ := NumZ.later S5.out b6
  have C6 : Hid (Below w.heap.size w _) := C5.out.trans (b6.mono C5.out.size)
  clear N6 b6 A5 B5 R5 L5 Y5 S5 C5
  generalize w5.alloc (Obj.cells #[Value.bool n5, Value.slice o5 l5 c5, Value.int IntKind.i64 e5] 61) = W6 at N6' A6 B6 R6 L6 Y6 S6 C6 ⊢
  obtain ⟨x0, x1, x2⟩ := cells3 A6.out
  obtain ⟨q0, q1, q2⟩ := cells3 B6.out
  go_wp2_with fail
  refine Calls.mono (leastZ_any _ _ E 1024 y1 y2 _ Y6.out S6.out (by omega) (by omega)) ?_
  rintro e w7 ⟨v7, rfl, hz7, bw⟩
  have H7 : Hid (NumZ w7 v7 E 1024 (min y1 y2)) := hz7
  obtain ⟨n7, m7, e7, ⟨o7, l7, c7, xs7, rfl, -⟩, -⟩ := hz7
  have N7 : Hid _ := (bw.block _ (blk_lt N6'.out)).trans N6'.out
  have R7 : Hid _ := (bw.block _ (blk_lt R6.out)).trans R6.out
  have L7 : Hid _ := NumZ.later L6.out bw
  have C7 : Hid (Below w.heap.size w w7) := C6.out.trans (bw.mono C6.out.size)
  clear bw x0 x1 x2 q0 q1 q2 A6 B6 R6 Y6 S6 C6 L6 N6'
  go_upto_region 5 with fail
  obtain ⟨n8, b8⟩ := alloc1_facts w7 (Obj.cells #[Value.bool n7, Value.slice o7 l7 c7, Value.int IntKind.i64 e7] 61)
  have M8 : Hid _ := n8
  have N8 : Hid _ := (b8.block _ (blk_lt N7.out)).trans N7.out
  have R8 : Hid _ := (b8.block _ (blk_lt R7.out)).trans R7.out
  have L8 : Hid _ := NumZ.later L7.out b8
  have H8 : Hid _ := NumZ.later H7.out b8
  have C8 : Hid (Below w.heap.size w _) := C7.out.trans (b8.mono C7.out.size)
  clear n8 b8 N7 R7 L7 H7 C7
  generalize w7.alloc (Obj.cells #[Value.bool n7, Value.slice o7 l7 c7, Value.int IntKind.i64 e7] 61) = W8 at M8 N8 R8 L8 H8 C8 ⊢
  obtain ⟨x0, x1, x2⟩ := cells3 N8.out
  obtain ⟨q0, q1, q2⟩ := cells3 M8.out
  by_cases hg : Good al ah ab ∧ Good bl bh bb
  · have HZ : Hid ((z1 = fval al ∧ y1 = fval ah) ∧ z2 = fval bl ∧ y2 = fval bh) := ⟨⟨F1.out hg.1.2.1, H1.out hg.1.2.2.1⟩, F2.out hg.2.2.1, H2.out hg.2.2.2.1⟩
    have HG : Hid _ := hg
    obtain rfl : dg = true := by rw [← HDG.out]; exact decide_eq_true hg.1
    obtain rfl : df = true := by rw [← HDF.out]; exact decide_eq_true hg.2
    clear hg F1 H1 F2 H2 HDG HDF
    go_wp2_with fail
    refine Calls.mono (cmpZ_any _ _ E 1024 (max z1 z2) (min y1 y2) _ L8.out H8.out (by omega) (by omega)) ?_
    rintro e w9 ⟨rfl, bw⟩
    have N9 : Hid _ := (bw.block _ (blk_lt N8.out)).trans N8.out
    have M9 : Hid _ := (bw.block _ (blk_lt M8.out)).trans M8.out
    have R9 : Hid _ := (bw.block _ (blk_lt R8.out)).trans R8.out
    have L9 : Hid _ := NumZ.later L8.out bw
    have H9 : Hid _ := NumZ.later H8.out bw
    have C9 : Hid (Below w.heap.size w w9) := C8.out.trans (bw.mono C8.out.size)
    clear bw x0 x1 x2 q0 q1 q2 N8 M8 R8 L8 H8 C8
    by_cases hx : max z1 z2 ≤ min y1 y2
    · have hd : decide (0 < sgi (max z1 z2 - min y1 y2)) = false := decide_eq_false (by unfold sgi; split; omega; split <;> omega)
      have HSP : Hid (∀ r, SpR (max z1 z2) (min y1 y2) (2 ^ 0) r → BinR (MkR (max (fval al) (fval bl)) (min (fval ah) (fval bh))) al ah bl bh ab bb r) := by
        intro r hr
        unfold BinR MkR
        rw [if_pos HG.out, ← HZ.out.1.1, ← HZ.out.1.2, ← HZ.out.2.1, ← HZ.out.2.2, if_pos hx]
        exact hr
      obtain ⟨sg, hsg⟩ : ∃ s, sgi (max z1 z2 - min y1 y2) = s := ⟨_, rfl⟩
      rw [hsg] at hd ⊢
      clear hx hsg
      obtain ⟨x0, x1, x2⟩ := cells3 N9.out
      obtain ⟨q0, q1, q2⟩ := cells3 M9.out
      go_wp2_with fail
      refine Calls.mono (refOf_any _ _ E 0 1024 1024 _ _ _ L9.out H9.out E hE rfl (by omega) (by omega) (by omega)) ?_
      rintro e w4 ⟨r, rfl, hr, bw⟩
      have HR : Hid _ := hr
      have R4 : Hid _ := (bw.block _ (blk_lt R9.out)).trans R9.out
      have C4 : Hid (Below w.heap.size w w4) := C9.out.trans (bw.mono C9.out.size)
      clear bw hr x0 x1 x2 q0 q1 q2
      obtain ⟨r0, r1, r2⟩ := cells3 R4.out
      have fz := fun j => frozen_of_row _ _ j _ _ R4.out
      go_wp2_with fail
      refine bodyPost_ret (v := .agg #[.int .u64 (r.1 : Int), .int .u64 (r.2.1 : Int), .bool r.2.2]) (res_su _ 4 (by kernel_rfl) _ _ (w.heap.size + 1 + 1) _ _ _ ?_ (setsp_heap _ _ _ R4.out)) rfl ?_
      · rfl
      · exact ⟨r, rfl, HSP.out r HR.out, below_setsp _ _ _ C4.out (by omega)⟩
    · have hd : decide (0 < sgi (max z1 z2 - min y1 y2)) = true := decide_eq_true (by unfold sgi; split; omega; split <;> omega)
      have HSP : Hid (BinR (MkR (max (fval al) (fval bl)) (min (fval ah) (fval bh))) al ah bl bh ab bb (0, 0, true)) := by
        unfold Hid BinR MkR
        rw [if_pos HG.out, ← HZ.out.1.1, ← HZ.out.1.2, ← HZ.out.2.1, ← HZ.out.2.2, if_neg hx]
      obtain ⟨sg, hsg⟩ : ∃ s, sgi (max z1 z2 - min y1 y2) = s := ⟨_, rfl⟩
      rw [hsg] at hd ⊢
      clear hx hsg
      go_wp2_with fail
      refine Calls.mono (refBad_any _) ?_
      rintro e w4 ⟨rfl, bw⟩
      have R4 : Hid _ := (bw.block _ (blk_lt R9.out)).trans R9.out
      have C4 : Hid (Below w.heap.size w w4) := C9.out.trans (bw.mono C9.out.size)
      clear bw
      obtain ⟨r0, r1, r2⟩ := cells3 R4.out
      have fz := fun j => frozen_of_row _ _ j _ _ R4.out
      go_wp2_with fail
      refine bodyPost_ret (v := .agg #[.int .u64 0, .int .u64 0, .bool true]) (res_su _ 4 (by kernel_rfl) _ _ (w.heap.size + 1 + 1) _ _ _ ?_ (setsp_heap _ _ _ R4.out)) rfl ?_
      · rfl
      · exact ⟨(0, 0, true), rfl, HSP.out, below_setsp _ _ _ C4.out (by omega)⟩
  · have HSP : Hid (BinR (MkR (max (fval al) (fval bl)) (min (fval ah) (fval bh))) al ah bl bh ab bb (0, 0, true)) := by unfold Hid BinR; rw [if_neg hg]
    have hc : dg = false ∨ (dg = true ∧ df = false) := by
      rw [← HDG.out, ← HDF.out]
      by_cases h1 : Good al ah ab
      · exact .inr ⟨decide_eq_true h1, decide_eq_false fun h2 => hg ⟨h1, h2⟩⟩
      · exact .inl (decide_eq_false h1)
    clear hg F1 H1 F2 H2 HDG HDF x0 x1 x2 q0 q1 q2
    rcases hc with rfl | ⟨rfl, rfl⟩
    all_goals
      go_wp2_with fail
      refine Calls.mono (refBad_any _) ?_
      rintro e w4 ⟨rfl, bw⟩
      have R4 : Hid _ := (bw.block _ (blk_lt R8.out)).trans R8.out
      have C4 : Hid (Below w.heap.size w w4) := C8.out.trans (bw.mono C8.out.size)
      clear bw
      obtain ⟨r0, r1, r2⟩ := cells3 R4.out
      have fz := fun j => frozen_of_row _ _ j _ _ R4.out
      go_wp2_with fail
      refine bodyPost_ret (v := .agg #[.int .u64 0, .int .u64 0, .bool true]) (res_su _ 4 (by kernel_rfl) _ _ (w.heap.size + 1 + 1) _ _ _ ?_ (setsp_heap _ _ _ R4.out)) rfl ?_
      · rfl
      · exact ⟨(0, 0, true), rfl, HSP.out, below_setsp _ _ _ C4.out (by omega)⟩
end Go.Proofs.YtnjjichanfpbhaaGreat
