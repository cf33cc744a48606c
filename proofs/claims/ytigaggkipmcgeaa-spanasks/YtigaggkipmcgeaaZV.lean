import Derived.Test.YtigaggkipmcgeaaZU
namespace Go.Proofs.Ytigaggkipmcgeaa
open Go.RowKit
set_option linter.unusedVariables false

theorem hasB_good {lo hi x : Nat} {b : Bool} (hg : Good lo hi b) : hasB lo hi x = decide (Fin x ∧ fval lo ≤ fval x ∧ fval x ≤ fval hi) := by
  have k1 : frung lo ≤ infK := Nat.le_of_lt hg.2.1
  have k2 : frung hi ≤ infK := Nat.le_of_lt hg.2.2.1
  have s1 := srung_le lo x
  have s2 := srung_le x hi
  unfold hasB leF
  rw [← Bool.decide_and]
  congr 1; apply propext
  constructor
  · rintro ⟨⟨_, a, b⟩, _, _, c⟩
    refine ⟨?_, s1.1 b, s2.1 c⟩
    have f1 : frung lo < infK := hg.2.1
    have f2 : frung hi < infK := hg.2.2.1
    have e : ∀ y, (srung y = (frung y : Int) ∨ srung y = -(frung y : Int)) := fun y => by unfold srung; split <;> simp
    have e1 := e lo; have e2 := e x; have e3 := e hi
    unfold Fin
    omega
  · rintro ⟨a, b, c⟩
    have : frung x ≤ infK := Nat.le_of_lt a
    exact ⟨⟨k1, this, s1.2 b⟩, this, k2, s2.2 c⟩
theorem sgi_le (z : Int) : sgi z ≤ 0 ↔ z ≤ 0 := by
  unfold sgi; split
  · omega
  · split <;> omega
set_option maxRecDepth 100000 in
set_option maxHeartbeats 2000000 in
theorem number4_any (a : Nat) (ok : Bool) (w : World) :
    Calls Try.prog 40 #[.float .f64 a, .bool ok, .int .u64 (a : Int), .bool ok] w fun e w' => e = .returned (.bool true) ∧ w' = w := by
  have qb : (ok == ok) = true := by cases ok <;> rfl
  have HB : Hid (∀ w, Calls Try.prog 25 #[.float .f64 a] w fun e w' => e = .returned (.int .u64 (a : Int)) ∧ w' = w) := fun w => bits_any a w
  go_enter Try.func40, Try.ntmps40
  go_wp2_with fail
  refine Calls.mono (HB.out _) ?_
  rintro e w1 ⟨rfl, hw⟩
  rw [hw]; clear hw
  go_wp2_with fail
  go_ret
  exact ⟨rfl, rfl⟩
set_option maxRecDepth 100000 in
set_option maxHeartbeats 2000000 in
theorem refHas_any (al ah x : Nat) (ab : Bool) (hal : al < 18446744073709551616) (hah : ah < 18446744073709551616) (hx : x < 18446744073709551616) (w : World) (E : Nat) (hE : E = 1074) :
    Calls Try.prog 42 #[.agg #[Value.int .u64 (al : Int), .int .u64 (ah : Int), .bool ab], .int .u64 (x : Int)] w fun e w' => e = .returned (.bool (decide (Good al ah ab) && hasB al ah x)) ∧ Below w.heap.size w w' := by
  obtain ⟨g0, gb⟩ := alloc1_facts w (Obj.cells #[Value.int .u64 (al : Int), .int .u64 (ah : Int), .bool ab] 71)
  have GA : Hid _ := g0
  have GB : Hid _ := gb
  clear g0 gb
  go_enter Try.func42, Try.ntmps42
  go_upto_region 1 with fail
  generalize w.alloc (Obj.cells #[Value.int .u64 (al : Int), .int .u64 (ah : Int), .bool ab] 71) = W0 at GA GB ⊢
  obtain ⟨a0, a1, a2⟩ := cells3 GA.out
  go_wp2_with fail
  clear a0 a1 a2
  refine Calls.mono (ends_any al ah ab hal hah _ E hE) ?_
  rintro e w1 ⟨v1, u1, rfl, ⟨z1, hz1, hf1⟩, ⟨y1, hy1, hg1⟩, bw⟩
  have Z1 : Hid (NumZ w1 v1 E 1024 z1) := hz1
  have Y1 : Hid (NumZ w1 u1 E 1024 y1) := hy1
  have F1 : Hid (Fin al → z1 = fval al) := hf1
  have H1 : Hid (Fin ah → y1 = fval ah) := hg1
  obtain ⟨nx1, mx1, ex1, ⟨ao1, len1, cap1, xs1, rfl, -⟩, -⟩ := hz1
  obtain ⟨ny1, my1, ey1, ⟨bo1, blen1, bcap1, ys1, rfl, -⟩, -⟩ := hy1
  have GA_1 : Hid _ := (bw.block _ (blk_lt GA.out)).trans GA.out
  have C_1 : Hid (Below w.heap.size w w1) := GB.out.trans (bw.mono GB.out.size)
  clear bw hf1 hg1 GB GA
  obtain ⟨dg, hdg⟩ : ∃ d, decide (Good al ah ab) = d := ⟨_, rfl⟩
  have HDG : Hid _ := hdg
  rw [hdg]
  clear hdg
  go_upto_region 2 with fail
  obtain ⟨k0, k1, -, kb⟩ := alloc2_facts w1 (Obj.cells #[Value.bool nx1, Value.slice ao1 len1 cap1, Value.int IntKind.i64 ex1] 27) (Obj.cells #[Value.bool ny1, Value.slice bo1 blen1 bcap1, Value.int IntKind.i64 ey1] 27)
  have K1x : Hid _ := k0
  have K1y : Hid _ := k1
  have C1' : Hid (Below w.heap.size w ((w1.alloc (Obj.cells #[Value.bool nx1, Value.slice ao1 len1 cap1, Value.int IntKind.i64 ex1] 27)).alloc (Obj.cells #[Value.bool ny1, Value.slice bo1 blen1 bcap1, Value.int IntKind.i64 ey1] 27))) := C_1.out.trans (kb.mono C_1.out.size)
  have GA_1' : Hid _ := (kb.block _ (blk_lt GA_1.out)).trans GA_1.out
  have Z1' : Hid _ := NumZ.later Z1.out kb
  have Y1' : Hid _ := NumZ.later Y1.out kb
  clear k0 k1 kb C_1 GA_1 Z1 Y1
  generalize ((w1.alloc (Obj.cells #[Value.bool nx1, Value.slice ao1 len1 cap1, Value.int IntKind.i64 ex1] 27)).alloc (Obj.cells #[Value.bool ny1, Value.slice bo1 blen1 bcap1, Value.int IntKind.i64 ey1] 27)) = V1 at K1x K1y C1' GA_1' Z1' Y1' ⊢
  go_wp2_with fail
  refine Calls.mono (ofZ_any x hx _ E hE) ?_
  rintro e w2 ⟨v2, rfl, ⟨z2, hz2, hf2⟩, bw⟩
  have Z2 : Hid (NumZ w2 v2 E 1024 z2) := hz2
  have F2 : Hid (Fin x → z2 = fval x) := hf2
  obtain ⟨nx, mx, ex, ⟨ao, len, cap, xs, rfl, -⟩, -⟩ := hz2
  have Lx : Hid _ := (bw.block _ (blk_lt K1x.out)).trans K1x.out
  have Ly : Hid _ := (bw.block _ (blk_lt K1y.out)).trans K1y.out
  have Zp : Hid _ := NumZ.later Z1'.out bw
  have Zq : Hid _ := NumZ.later Y1'.out bw
  have C2 : Hid (Below w.heap.size w w2) := C1'.out.trans (bw.mono C1'.out.size)
  clear bw hf2 K1x K1y Z1' Y1' C1' GA_1'
  obtain ⟨df, hdf⟩ : ∃ d, decide (Fin x) = d := ⟨_, rfl⟩
  have HDF : Hid _ := hdf
  rw [hdf]
  clear hdf
  go_upto_region 3 with fail
  have Nv : Hid _ := heap_alloc_new w2 (Obj.cells #[Value.bool nx, Value.slice ao len cap, Value.int IntKind.i64 ex] 27)
  have Mx : Hid _ := alloc4 Lx.out C2.out (Obj.cells #[Value.bool nx, Value.slice ao len cap, Value.int IntKind.i64 ex] 27)
  have My : Hid _ := alloc4 Ly.out C2.out (Obj.cells #[Value.bool nx, Value.slice ao len cap, Value.int IntKind.i64 ex] 27)
  have Vp : Hid _ := NumZ.later Zp.out ((Below.refl _ w2).alloc (Nat.le_refl _) (Obj.cells #[Value.bool nx, Value.slice ao len cap, Value.int IntKind.i64 ex] 27))
  have Vq : Hid _ := NumZ.later Zq.out ((Below.refl _ w2).alloc (Nat.le_refl _) (Obj.cells #[Value.bool nx, Value.slice ao len cap, Value.int IntKind.i64 ex] 27))
  have Vx : Hid _ := NumZ.later Z2.out ((Below.refl _ w2).alloc (Nat.le_refl _) (Obj.cells #[Value.bool nx, Value.slice ao len cap, Value.int IntKind.i64 ex] 27))
  obtain ⟨Px, hPx⟩ : ∃ P, w2.heap.size = P := ⟨_, rfl⟩
  rw [hPx] at Nv ⊢
  generalize w2.alloc (Obj.cells #[Value.bool nx, Value.slice ao len cap, Value.int IntKind.i64 ex] 27) = W3 at Nv Mx My Vp Vq Vx ⊢
  clear hPx Lx Ly Zp Zq Z2 C2
  have HR : Hid ((dg && df && decide (z1 - z2 ≤ 0) && decide (z2 - y1 ≤ 0)) = (decide (Good al ah ab) && hasB al ah x)) := by
    unfold Hid
    rw [← HDG.out, ← HDF.out]
    by_cases hg : Good al ah ab
    · rw [hasB_good hg, decide_eq_true hg]
      by_cases hf : Fin x
      · rw [decide_eq_true hf, F1.out hg.2.1, H1.out hg.2.2.1, F2.out hf]
        simp only [Bool.true_and]
        rw [← Bool.decide_and]
        congr 1; apply propext
        constructor
        · intro h; exact ⟨hf, by omega, by omega⟩
        · intro h; exact ⟨by omega, by omega⟩
      · rw [decide_eq_false hf]
        simp [hf]
    · rw [decide_eq_false hg]; rfl
  have l1 : ∀ z : Int, decide (sgi z ≤ 0) = decide (z ≤ 0) := fun z => by congr 1; exact propext (sgi_le z)
  obtain ⟨x0, x1, x2⟩ := cells3 Mx.out.1
  obtain ⟨q0, q1, q2⟩ := cells3 My.out.1
  obtain ⟨t0, t1, t2⟩ := cells3 Nv.out
  have L1 : Hid _ := l1 (z1 - z2)
  have L2 : Hid _ := l1 (z2 - y1)
  clear l1 HDG HDF F1 H1 F2
  generalize decide (z1 - z2 ≤ 0) = e1 at HR L1
  generalize decide (z2 - y1 ≤ 0) = e2 at HR L2
  have hcase : (dg = false ∨ (dg = true ∧ df = false)) ∨ (dg = true ∧ df = true) := by cases dg <;> cases df <;> simp
  rcases hcase with (rfl | ⟨rfl, rfl⟩) | ⟨rfl, rfl⟩
  · go_wp2_with fail
    go_ret
    exact ⟨by rw [← HR.out]; rfl, Mx.out.2⟩
  · go_wp2_with fail
    go_ret
    exact ⟨by rw [← HR.out]; rfl, Mx.out.2⟩
  · go_wp2_with fail
    refine Calls.mono (cmpZ_any _ _ E 1024 z1 z2 _ Vp.out Vx.out (by omega) (by omega)) ?_
    rintro e wc ⟨rfl, bw⟩
    have CC : Hid (Below w.heap.size w wc) := Mx.out.2.trans (bw.mono Mx.out.2.size)
    have k2 := (bw.block _ (blk_lt My.out.1)).trans My.out.1
    have k3 := (bw.block _ (blk_lt Nv.out)).trans Nv.out
    have Vq' : Hid _ := NumZ.later Vq.out bw
    have Vx' : Hid _ := NumZ.later Vx.out bw
    clear bw x0 x1 x2 q0 q1 q2 t0 t1 t2
    obtain ⟨q0, q1, q2⟩ := cells3 k2
    obtain ⟨t0, t1, t2⟩ := cells3 k3
    clear k2 k3
    have l1 := L1.out
    cases e1
    · go_wp2_with fail
      go_ret
      exact ⟨by rw [← HR.out]; rfl, CC.out⟩
    · go_wp2_with fail
      refine Calls.mono (cmpZ_any _ _ E 1024 z2 y1 _ Vx'.out Vq'.out (by omega) (by omega)) ?_
      rintro e wd ⟨rfl, bw⟩
      have CD : Hid (Below w.heap.size w wd) := CC.out.trans (bw.mono CC.out.size)
      clear bw
      have l2 := L2.out
      cases e2
      all_goals
        go_wp2_with fail
        go_ret
        exact ⟨by rw [← HR.out]; rfl, CD.out⟩
set_option maxRecDepth 100000 in
set_option maxHeartbeats 2000000 in
theorem refInside_any (al ah bl bh : Nat) (ab bb : Bool) (hal : al < 18446744073709551616) (hah : ah < 18446744073709551616) (hbl : bl < 18446744073709551616) (hbh : bh < 18446744073709551616) (w : World) (E : Nat) (hE : E = 1074) :
    Calls Try.prog 44 #[.agg #[Value.int .u64 (al : Int), .int .u64 (ah : Int), .bool ab], .agg #[Value.int .u64 (bl : Int), .int .u64 (bh : Int), .bool bb]] w fun e w' => e = .returned (.bool (decide (Good al ah ab ∧ Good bl bh bb) && (leF bl al && leF ah bh))) ∧ Below w.heap.size w w' := by
  obtain ⟨g0, g1, -, gb⟩ := alloc2_facts w (Obj.cells #[Value.int .u64 (al : Int), .int .u64 (ah : Int), .bool ab] 71) (Obj.cells #[Value.int .u64 (bl : Int), .int .u64 (bh : Int), .bool bb] 71)
  have GA : Hid _ := g0
  have GC : Hid _ := g1
  have GB : Hid _ := gb
  clear g0 g1 gb
  go_enter Try.func44, Try.ntmps44
  go_upto_region 1 with fail
  generalize ((w.alloc (Obj.cells #[Value.int .u64 (al : Int), .int .u64 (ah : Int), .bool ab] 71)).alloc (Obj.cells #[Value.int .u64 (bl : Int), .int .u64 (bh : Int), .bool bb] 71)) = W0 at GA GC GB ⊢
  obtain ⟨a0, a1, a2⟩ := cells3 GA.out
  go_wp2_with fail
  clear a0 a1 a2
  refine Calls.mono (ends_any al ah ab hal hah _ E hE) ?_
  rintro e w1 ⟨v1, u1, rfl, ⟨z1, hz1, hf1⟩, ⟨y1, hy1, hg1⟩, bw⟩
  have Z1 : Hid (NumZ w1 v1 E 1024 z1) := hz1
  have Y1 : Hid (NumZ w1 u1 E 1024 y1) := hy1
  have F1 : Hid (Fin al → z1 = fval al) := hf1
  have H1 : Hid (Fin ah → y1 = fval ah) := hg1
  obtain ⟨nx1, mx1, ex1, ⟨ao1, len1, cap1, xs1, rfl, -⟩, -⟩ := hz1
  obtain ⟨ny1, my1, ey1, ⟨bo1, blen1, bcap1, ys1, rfl, -⟩, -⟩ := hy1
  have GC_1 : Hid _ := (bw.block _ (blk_lt GC.out)).trans GC.out
  have C_1 : Hid (Below w.heap.size w w1) := GB.out.trans (bw.mono GB.out.size)
  clear bw hf1 hg1 GB GC
  obtain ⟨dg, hdg⟩ : ∃ d, decide (Good al ah ab) = d := ⟨_, rfl⟩
  have HDG : Hid _ := hdg
  rw [hdg]
  clear hdg
  go_upto_region 2 with fail
  obtain ⟨k0, k1, -, kb⟩ := alloc2_facts w1 (Obj.cells #[Value.bool nx1, Value.slice ao1 len1 cap1, Value.int IntKind.i64 ex1] 27) (Obj.cells #[Value.bool ny1, Value.slice bo1 blen1 bcap1, Value.int IntKind.i64 ey1] 27)
  have K1x : Hid _ := k0
  have K1y : Hid _ := k1
  have C1' : Hid (Below w.heap.size w ((w1.alloc (Obj.cells #[Value.bool nx1, Value.slice ao1 len1 cap1, Value.int IntKind.i64 ex1] 27)).alloc (Obj.cells #[Value.bool ny1, Value.slice bo1 blen1 bcap1, Value.int IntKind.i64 ey1] 27))) := C_1.out.trans (kb.mono C_1.out.size)
  have GC_1' : Hid _ := (kb.block _ (blk_lt GC_1.out)).trans GC_1.out
  have Z1' : Hid _ := NumZ.later Z1.out kb
  have Y1' : Hid _ := NumZ.later Y1.out kb
  clear k0 k1 kb C_1 GC_1 Z1 Y1
  generalize ((w1.alloc (Obj.cells #[Value.bool nx1, Value.slice ao1 len1 cap1, Value.int IntKind.i64 ex1] 27)).alloc (Obj.cells #[Value.bool ny1, Value.slice bo1 blen1 bcap1, Value.int IntKind.i64 ey1] 27)) = V1 at K1x K1y C1' GC_1' Z1' Y1' ⊢
  obtain ⟨a0, a1, a2⟩ := cells3 GC_1'.out
  go_wp2_with fail
  clear a0 a1 a2
  refine Calls.mono (ends_any bl bh bb hbl hbh _ E hE) ?_
  rintro e w2 ⟨v2, u2, rfl, ⟨z2, hz2, hf2⟩, ⟨y2, hy2, hg2⟩, bw⟩
  have Z2 : Hid (NumZ w2 v2 E 1024 z2) := hz2
  have Y2 : Hid (NumZ w2 u2 E 1024 y2) := hy2
  have F2 : Hid (Fin bl → z2 = fval bl) := hf2
  have H2 : Hid (Fin bh → y2 = fval bh) := hg2
  obtain ⟨nx2, mx2, ex2, ⟨ao2, len2, cap2, xs2, rfl, -⟩, -⟩ := hz2
  obtain ⟨ny2, my2, ey2, ⟨bo2, blen2, bcap2, ys2, rfl, -⟩, -⟩ := hy2
  have K1x_2 : Hid _ := (bw.block _ (blk_lt K1x.out)).trans K1x.out
  have K1y_2 : Hid _ := (bw.block _ (blk_lt K1y.out)).trans K1y.out
  have Z1'_2 : Hid _ := NumZ.later Z1'.out bw
  have Y1'_2 : Hid _ := NumZ.later Y1'.out bw
  have C_2 : Hid (Below w.heap.size w w2) := C1'.out.trans (bw.mono C1'.out.size)
  clear bw hf2 hg2 C1' K1x K1y Z1' Y1'
  obtain ⟨df, hdf⟩ : ∃ d, decide (Good bl bh bb) = d := ⟨_, rfl⟩
  have HDF : Hid _ := hdf
  rw [hdf]
  clear hdf
  go_upto_region 3 with fail
  obtain ⟨k0, k1, -, kb⟩ := alloc2_facts w2 (Obj.cells #[Value.bool nx2, Value.slice ao2 len2 cap2, Value.int IntKind.i64 ex2] 27) (Obj.cells #[Value.bool ny2, Value.slice bo2 blen2 bcap2, Value.int IntKind.i64 ey2] 27)
  have K2x : Hid _ := k0
  have K2y : Hid _ := k1
  have C2' : Hid (Below w.heap.size w ((w2.alloc (Obj.cells #[Value.bool nx2, Value.slice ao2 len2 cap2, Value.int IntKind.i64 ex2] 27)).alloc (Obj.cells #[Value.bool ny2, Value.slice bo2 blen2 bcap2, Value.int IntKind.i64 ey2] 27))) := C_2.out.trans (kb.mono C_2.out.size)
  have K1x_2' : Hid _ := (kb.block _ (blk_lt K1x_2.out)).trans K1x_2.out
  have K1y_2' : Hid _ := (kb.block _ (blk_lt K1y_2.out)).trans K1y_2.out
  have Z1'_2' : Hid _ := NumZ.later Z1'_2.out kb
  have Y1'_2' : Hid _ := NumZ.later Y1'_2.out kb
  have Z2' : Hid _ := NumZ.later Z2.out kb
  have Y2' : Hid _ := NumZ.later Y2.out kb
  clear k0 k1 kb C_2 K1x_2 K1y_2 Z1'_2 Y1'_2 Z2 Y2
  generalize ((w2.alloc (Obj.cells #[Value.bool nx2, Value.slice ao2 len2 cap2, Value.int IntKind.i64 ex2] 27)).alloc (Obj.cells #[Value.bool ny2, Value.slice bo2 blen2 bcap2, Value.int IntKind.i64 ey2] 27)) = V2 at K2x K2y C2' K1x_2' K1y_2' Z1'_2' Y1'_2' Z2' Y2' ⊢
  have HR : Hid ((dg && df && decide (z2 - z1 ≤ 0) && decide (y1 - y2 ≤ 0)) = (decide (Good al ah ab ∧ Good bl bh bb) && (leF bl al && leF ah bh))) := by
    unfold Hid
    rw [← HDG.out, ← HDF.out]
    by_cases hg : Good al ah ab
    · by_cases hf : Good bl bh bb
      · rw [decide_eq_true hg, decide_eq_true hf, decide_eq_true (show Good al ah ab ∧ Good bl bh bb from ⟨hg, hf⟩), F1.out hg.2.1, H1.out hg.2.2.1, F2.out hf.2.1, H2.out hf.2.2.1]
        have s1 := srung_le bl al
        have s2 := srung_le ah bh
        have k1 : frung al ≤ infK := Nat.le_of_lt hg.2.1
        have k2 : frung ah ≤ infK := Nat.le_of_lt hg.2.2.1
        have k3 : frung bl ≤ infK := Nat.le_of_lt hf.2.1
        have k4 : frung bh ≤ infK := Nat.le_of_lt hf.2.2.1
        unfold leF
        simp only [Bool.true_and]
        rw [← Bool.decide_and, ← Bool.decide_and]
        congr 1; apply propext
        constructor
        · intro h; exact ⟨⟨k3, k1, s1.2 (by omega)⟩, k2, k4, s2.2 (by omega)⟩
        · intro h; have a := s1.1 h.1.2.2; have b := s2.1 h.2.2.2; exact ⟨by omega, by omega⟩
      · rw [decide_eq_false hf, decide_eq_false (fun c : Good al ah ab ∧ Good bl bh bb => hf c.2)]; simp
    · rw [decide_eq_false hg, decide_eq_false (fun c : Good al ah ab ∧ Good bl bh bb => hg c.1)]; rfl
  have l1 : ∀ z : Int, decide (sgi z ≤ 0) = decide (z ≤ 0) := fun z => by congr 1; exact propext (sgi_le z)
  obtain ⟨x0, x1, x2⟩ := cells3 K1x_2'.out
  obtain ⟨q0, q1, q2⟩ := cells3 K1y_2'.out
  obtain ⟨t0, t1, t2⟩ := cells3 K2x.out
  obtain ⟨u0, u1', u2'⟩ := cells3 K2y.out
  have L1 : Hid _ := l1 (z2 - z1)
  have L2 : Hid _ := l1 (y1 - y2)
  clear l1 HDG HDF F1 H1 F2 H2
  generalize decide (z2 - z1 ≤ 0) = e1 at HR L1
  generalize decide (y1 - y2 ≤ 0) = e2 at HR L2
  have hcase : (dg = false ∨ (dg = true ∧ df = false)) ∨ (dg = true ∧ df = true) := by cases dg <;> cases df <;> simp
  rcases hcase with (rfl | ⟨rfl, rfl⟩) | ⟨rfl, rfl⟩
  · go_wp2_with fail
    go_ret
    exact ⟨by rw [← HR.out]; rfl, C2'.out⟩
  · go_wp2_with fail
    go_ret
    exact ⟨by rw [← HR.out]; rfl, C2'.out⟩
  · go_wp2_with fail
    refine Calls.mono (cmpZ_any _ _ E 1024 z2 z1 _ Z2'.out Z1'_2'.out (by omega) (by omega)) ?_
    rintro e wc ⟨rfl, bw⟩
    have CC : Hid (Below w.heap.size w wc) := C2'.out.trans (bw.mono C2'.out.size)
    have k2 := (bw.block _ (blk_lt K1y_2'.out)).trans K1y_2'.out
    have k3 := (bw.block _ (blk_lt K2y.out)).trans K2y.out
    have Vq' : Hid _ := NumZ.later Y1'_2'.out bw
    have Vx' : Hid _ := NumZ.later Y2'.out bw
    clear bw x0 x1 x2 q0 q1 q2 t0 t1 t2 u0 u1' u2'
    obtain ⟨q0, q1, q2⟩ := cells3 k2
    obtain ⟨t0, t1, t2⟩ := cells3 k3
    clear k2 k3
    have l1 := L1.out
    cases e1
    · go_wp2_with fail
      go_ret
      exact ⟨by rw [← HR.out]; rfl, CC.out⟩
    · go_wp2_with fail
      refine Calls.mono (cmpZ_any _ _ E 1024 y1 y2 _ Vq'.out Vx'.out (by omega) (by omega)) ?_
      rintro e wd ⟨rfl, bw⟩
      have CD : Hid (Below w.heap.size w wd) := CC.out.trans (bw.mono CC.out.size)
      clear bw
      have l2 := L2.out
      cases e2
      all_goals
        go_wp2_with fail
        go_ret
        exact ⟨by rw [← HR.out]; rfl, CD.out⟩
end Go.Proofs.Ytigaggkipmcgeaa
