import Derived.Test.YtnjjichanfpbhaaGreatRYb
namespace Go.Proofs.YtnjjichanfpbhaaGreat
open Go.RowKit
set_option linter.unusedVariables false

set_option maxRecDepth 100000 in
set_option maxHeartbeats 8000000 in
theorem refDiv4_any (al ah bl bh : Nat) (ab bb : Bool) (hal : al < 18446744073709551616) (hah : ah < 18446744073709551616) (hbl : bl < 18446744073709551616) (hbh : bh < 18446744073709551616) (w : World) (E : Nat) (hE : E = 1074) :
    Calls Tryz.prog 19 #[.agg #[Value.int .u64 (al : Int), .int .u64 (ah : Int), .bool ab], .agg #[Value.int .u64 (bl : Int), .int .u64 (bh : Int), .bool bb]] w fun e w' => RefAns w (DivR al ah bl bh ab bb E) e w' := by
  obtain ⟨g0, g1, g2, gz, gb⟩ := alloc3_facts w (Obj.cells #[Value.int .u64 (al : Int), .int .u64 (ah : Int), .bool ab] 36) (Obj.cells #[Value.int .u64 (bl : Int), .int .u64 (bh : Int), .bool bb] 36) (Obj.cells #[Value.int .u64 0, .int .u64 0, .bool false] 36)
  have GA : Hid _ := g0
  have GC : Hid _ := g1
  have GR : Hid _ := g2
  have GB : Hid _ := gb
  clear g0 g1 g2 gz gb
  go_enter Tryz.func19, Tryz.ntmps19
  go_upto_region 1 with fail
  generalize (((w.alloc (Obj.cells #[Value.int .u64 (al : Int), .int .u64 (ah : Int), .bool ab] 36)).alloc (Obj.cells #[Value.int .u64 (bl : Int), .int .u64 (bh : Int), .bool bb] 36)).alloc (Obj.cells #[Value.int .u64 0, .int .u64 0, .bool false] 36)) = W0 at GA GC GR GB ⊢
  obtain ⟨a0, a1, a2⟩ := cells3 GA.out
  go_wp2_with fail
  clear a0 a1 a2
  refine Calls.mono (endsE_any al ah ab hal hah _ E hE) ?_
  rintro e w1 ⟨v1, u1, rfl, ⟨z1, hz1, hf1⟩, ⟨y1, hy1, hg1⟩, bw⟩
  have Z1 : Hid (NumE w1 v1 E 1024 z1) := hz1
  have Y1 : Hid (NumE w1 u1 E 1024 y1) := hy1
  have F1 : Hid (Fin al → z1 = fval al) := hf1
  have H1 : Hid (Fin ah → y1 = fval ah) := hg1
  obtain ⟨nx1, mx1, ex1, ⟨ao1, len1, cap1, xs1, rfl, -⟩, -⟩ := hz1
  obtain ⟨ny1, my1, ey1, ⟨bo1, blen1, bcap1, ys1, rfl, -⟩, -⟩ := hy1
  have GC_1 : Hid _ := (bw.block _ (blk_lt GC.out)).trans GC.out
  have GR_1 : Hid _ := (bw.block _ (blk_lt GR.out)).trans GR.out
  have C_1 : Hid (Below w.heap.size w w1) := GB.out.trans (bw.mono GB.out.size)
  clear bw hf1 hg1 GB GC GR
  obtain ⟨dg, hdg⟩ : ∃ d, decide (Good al ah ab) = d := ⟨_, rfl⟩
  have HDG : Hid _ := hdg
  rw [hdg]
  clear hdg
  go_upto_region 2 with fail
  have HR1 : w.heap.size + 1 + 1 < w1.heap.size := blk_lt GR_1.out
  obtain ⟨k0, k1, -, kb⟩ := alloc2_facts w1 (Obj.cells #[Value.bool nx1, Value.slice ao1 len1 cap1, Value.int IntKind.i64 ex1] 61) (Obj.cells #[Value.bool ny1, Value.slice bo1 blen1 bcap1, Value.int IntKind.i64 ey1] 61)
  have K1x : Hid _ := k0
  have K1y : Hid _ := k1
  have C1' : Hid (Below w.heap.size w ((w1.alloc (Obj.cells #[Value.bool nx1, Value.slice ao1 len1 cap1, Value.int IntKind.i64 ex1] 61)).alloc (Obj.cells #[Value.bool ny1, Value.slice bo1 blen1 bcap1, Value.int IntKind.i64 ey1] 61))) := C_1.out.trans (kb.mono C_1.out.size)
  have GC_1' : Hid _ := (kb.block _ (blk_lt GC_1.out)).trans GC_1.out
  have GR_1' : Hid _ := (kb.block _ (blk_lt GR_1.out)).trans GR_1.out
  have Z1' : Hid _ := NumE.later Z1.out kb
  have Y1' : Hid _ := NumE.later Y1.out kb
  clear k0 k1 kb C_1 GC_1 GR_1 Z1 Y1
  generalize ((w1.alloc (Obj.cells #[Value.bool nx1, Value.slice ao1 len1 cap1, Value.int IntKind.i64 ex1] 61)).alloc (Obj.cells #[Value.bool ny1, Value.slice bo1 blen1 bcap1, Value.int IntKind.i64 ey1] 61)) = V1 at K1x K1y C1' GC_1' GR_1' Z1' Y1' ⊢
  obtain ⟨a0, a1, a2⟩ := cells3 GC_1'.out
  go_wp2_with fail
  clear a0 a1 a2
  refine Calls.mono (endsE_any bl bh bb hbl hbh _ E hE) ?_
  rintro e w2 ⟨v2, u2, rfl, ⟨z2, hz2, hf2⟩, ⟨y2, hy2, hg2⟩, bw⟩
  have Z2 : Hid (NumE w2 v2 E 1024 z2) := hz2
  have Y2 : Hid (NumE w2 u2 E 1024 y2) := hy2
  have F2 : Hid (Fin bl → z2 = fval bl) := hf2
  have H2 : Hid (Fin bh → y2 = fval bh) := hg2
  obtain ⟨nx2, mx2, ex2, ⟨ao2, len2, cap2, xs2, rfl, -⟩, -⟩ := hz2
  obtain ⟨ny2, my2, ey2, ⟨bo2, blen2, bcap2, ys2, rfl, -⟩, -⟩ := hy2
  have K1x_2 : Hid _ := (bw.block _ (blk_lt K1x.out)).trans K1x.out
  have K1y_2 : Hid _ := (bw.block _ (blk_lt K1y.out)).trans K1y.out
  have GR_1'_2 : Hid _ := (bw.block _ (blk_lt GR_1'.out)).trans GR_1'.out
  have Z1'_2 : Hid _ := NumE.later Z1'.out bw
  have Y1'_2 : Hid _ := NumE.later Y1'.out bw
  have C_2 : Hid (Below w.heap.size w w2) := C1'.out.trans (bw.mono C1'.out.size)
  clear bw hf2 hg2 C1' K1x K1y GR_1' Z1' Y1'
  obtain ⟨df, hdf⟩ : ∃ d, decide (Good bl bh bb) = d := ⟨_, rfl⟩
  have HDF : Hid _ := hdf
  rw [hdf]
  clear hdf
  go_upto_region 3 with fail
  have HR2 : w.heap.size + 1 + 1 < w2.heap.size := blk_lt GR_1'_2.out
  obtain ⟨k0, k1, -, kb⟩ := alloc2_facts w2 (Obj.cells #[Value.bool nx2, Value.slice ao2 len2 cap2, Value.int IntKind.i64 ex2] 61) (Obj.cells #[Value.bool ny2, Value.slice bo2 blen2 bcap2, Value.int IntKind.i64 ey2] 61)
  have K2x : Hid _ := k0
  have K2y : Hid _ := k1
  have C2' : Hid (Below w.heap.size w ((w2.alloc (Obj.cells #[Value.bool nx2, Value.slice ao2 len2 cap2, Value.int IntKind.i64 ex2] 61)).alloc (Obj.cells #[Value.bool ny2, Value.slice bo2 blen2 bcap2, Value.int IntKind.i64 ey2] 61))) := C_2.out.trans (kb.mono C_2.out.size)
  have K1x_2' : Hid _ := (kb.block _ (blk_lt K1x_2.out)).trans K1x_2.out
  have K1y_2' : Hid _ := (kb.block _ (blk_lt K1y_2.out)).trans K1y_2.out
  have GR_1'_2' : Hid _ := (kb.block _ (blk_lt GR_1'_2.out)).trans GR_1'_2.out
  have Z1'_2' : Hid _ := NumE.later Z1'_2.out kb
  have Y1'_2' : Hid _ := NumE.later Y1'_2.out kb
  have Z2' : Hid _ := NumE.later Z2.out kb
  have Y2' : Hid _ := NumE.later Y2.out kb
  clear k0 k1 kb C_2 K1x_2 K1y_2 GR_1'_2 Z1'_2 Y1'_2 Z2 Y2
  generalize ((w2.alloc (Obj.cells #[Value.bool nx2, Value.slice ao2 len2 cap2, Value.int IntKind.i64 ex2] 61)).alloc (Obj.cells #[Value.bool ny2, Value.slice bo2 blen2 bcap2, Value.int IntKind.i64 ey2] 61)) = V2 at K2x K2y C2' K1x_2' K1y_2' GR_1'_2' Z1'_2' Y1'_2' Z2' Y2' ⊢
  obtain ⟨x0, x1, x2⟩ := cells3 K2x.out
  have HCX : Hid (∀ W, Below V2.heap.size V2 W → W.cell? ⟨w2.heap.size + 1, 0, none⟩ = some (.bool ny2) ∧ W.cell? ⟨w2.heap.size + 1, 1, none⟩ = some (.slice bo2 blen2 bcap2) ∧ W.cell? ⟨w2.heap.size + 1, 2, none⟩ = some (.int .i64 ey2)) := fun W h => cells3 (keep0 K2y.out h)
  obtain ⟨c, hc⟩ : ∃ c : Bool, (!dg || !df || (decide (z2 ≤ 0) && decide (0 ≤ y2))) = c := ⟨_, rfl⟩
  have HCC : Hid _ := hc
  go_cut [52] (fun s52 wx => s52 = .bool c ∧ Hid (Below V2.heap.size V2 wx))
  case first =>
    cases dg
    · subst hc
      go_wp2_with fail
      go_meet
      exact ⟨rfl, (Below.refl _ _ : Below V2.heap.size V2 V2)⟩
    · cases df
      · subst hc
        go_wp2_with fail
        go_meet
        exact ⟨rfl, (Below.refl _ _ : Below V2.heap.size V2 V2)⟩
      · have HCE : Hid ((decide (z2 ≤ 0) && decide (0 ≤ y2)) = c) := by unfold Hid; rw [← hc]; rfl
        clear hc HCC
        go_wp2_with fail
        refine Calls.mono (signZ_any _ E 1024 z2 _ (NumE.toZ Z2'.out)) ?_
        rintro e m0 ⟨rfl, g0⟩
        have B0 : Hid (Below V2.heap.size V2 m0) := g0
        have YM : Hid _ := (NumE.later Y2'.out g0)
        obtain ⟨y0, y1', y2'⟩ := HCX.out m0 g0
        clear g0
        by_cases hz : z2 ≤ 0
        · have hd1 : decide (sgi z2 ≤ 0) = true := decide_eq_true (by unfold sgi; split; omega; split <;> omega)
          generalize sgi z2 = s1 at hd1 ⊢
          go_wp2_with fail
          refine Calls.mono (signZ_any _ E 1024 y2 _ (NumE.toZ YM.out)) ?_
          rintro e m1 ⟨rfl, g1⟩
          have B1 : Hid (Below V2.heap.size V2 m1) := to_b B0.out g1
          clear g1
          have hd2 : decide (0 ≤ sgi y2) = decide (0 ≤ y2) := by congr 1; apply propext; unfold sgi; split; omega; split <;> omega
          have hce : decide (0 ≤ y2) = c := by rw [← HCE.out, decide_eq_true hz, Bool.true_and]
          rw [hce] at hd2
          generalize sgi y2 = s2 at hd2 ⊢
          clear hce HCE
          cases c
          all_goals
            go_wp2_with fail
            go_meet
            exact ⟨rfl, B1⟩
        · have hd1 : decide (sgi z2 ≤ 0) = false := decide_eq_false (by unfold sgi; split; omega; split <;> omega)
          have hce : c = false := by rw [← HCE.out, decide_eq_false hz, Bool.false_and]
          subst hce
          generalize sgi z2 = s1 at hd1 ⊢
          clear HCE
          go_wp2_with fail
          go_meet
          exact ⟨rfl, B0⟩
  case rest =>
  obtain ⟨rfl, BX⟩ := hcut
  have RX : Hid _ := keep0 GR_1'_2'.out BX.out
  have CX : Hid (Below w.heap.size w wc) := C2'.out.trans (BX.out.mono C2'.out.size)
  clear hc x0 x1 x2
  by_cases hq : Good al ah ab ∧ Good bl bh bb ∧ hasB bl bh 0 = false
  · have HZ : Hid ((z1 = fval al ∧ y1 = fval ah) ∧ z2 = fval bl ∧ y2 = fval bh) := ⟨⟨F1.out hq.1.2.1, H1.out hq.1.2.2.1⟩, F2.out hq.2.1.2.1, H2.out hq.2.1.2.2.1⟩
    obtain rfl : c = false := by
      rw [← HCC.out, ← HDG.out, ← HDF.out, decide_eq_true hq.1, decide_eq_true hq.2.1, HZ.out.2.1, HZ.out.2.2]
      have := hasB_zero hq.2.1
      rw [hq.2.2] at this
      rw [← this]; rfl
    have HQ : Hid _ := hq
    have KA : Hid _ := keep0 K1x_2'.out BX.out
    have KB : Hid _ := keep0 K1y_2'.out BX.out
    have KC : Hid _ := keep0 K2x.out BX.out
    have KD : Hid _ := keep0 K2y.out BX.out
    have NA : Hid _ := NumE.later Z1'_2'.out BX.out
    have NB : Hid _ := NumE.later Y1'_2'.out BX.out
    have NC : Hid _ := NumE.later Z2'.out BX.out
    have ND : Hid _ := NumE.later Y2'.out BX.out
    clear hq F1 H1 F2 H2 HDG HDF HCC HCX K1x_2' K1y_2' K2x K2y GR_1'_2' Z1'_2' Y1'_2' Z2' Y2' C2' BX
    obtain ⟨a0, a1, a2⟩ := cells3 KA.out
    obtain ⟨b0, b1, b2⟩ := cells3 KB.out
    go_upto_region 6 with fail
    have hqd := qd_any al ah bl bh ab bb hal hah hbl hbh HQ.out E hE
    obtain ⟨p, q, hqd⟩ := hqd
    have QQ : Hid (QD al ah bl bh ab bb E p q) := hqd
    clear hqd HQ
    obtain ⟨⟨e1, e2⟩, e3, e4⟩ := HZ.out
    rw [e1] at NA
    rw [e2] at NB
    rw [e3] at NC
    rw [e4] at ND
    clear e1 e2 e3 e4 HZ
    have bA : Below wc.heap.size wc (wc.alloc (Obj.cells #[Value.bool nx1, Value.slice ao1 len1 cap1, Value.int IntKind.i64 ex1, Value.bool nx1, Value.slice ao1 len1 cap1, Value.int IntKind.i64 ex1, Value.bool ny1, Value.slice bo1 blen1 bcap1, Value.int IntKind.i64 ey1, Value.bool ny1, Value.slice bo1 blen1 bcap1, Value.int IntKind.i64 ey1] 71)) := (Below.refl _ wc).alloc (Nat.le_refl _) _
    clear a0 a1 a2 b0 b1 b2
    obtain ⟨c0, c1, c2⟩ := cells3 (keep0 KC.out bA)
    obtain ⟨d0, d1, d2⟩ := cells3 (keep0 KD.out bA)
    obtain ⟨k0, k1, -, kb⟩ := alloc2_facts wc (Obj.cells #[Value.bool nx1, Value.slice ao1 len1 cap1, Value.int IntKind.i64 ex1, Value.bool nx1, Value.slice ao1 len1 cap1, Value.int IntKind.i64 ex1, Value.bool ny1, Value.slice bo1 blen1 bcap1, Value.int IntKind.i64 ey1, Value.bool ny1, Value.slice bo1 blen1 bcap1, Value.int IntKind.i64 ey1] 71) (Obj.cells #[Value.bool nx2, Value.slice ao2 len2 cap2, Value.int IntKind.i64 ex2, Value.bool ny2, Value.slice bo2 blen2 bcap2, Value.int IntKind.i64 ey2, Value.bool nx2, Value.slice ao2 len2 cap2, Value.int IntKind.i64 ex2, Value.bool ny2, Value.slice bo2 blen2 bcap2, Value.int IntKind.i64 ey2] 71)
    have hRlt : w.heap.size + 1 + 1 < wc.heap.size := blk_lt RX.out
    have DV : Hid (DvK w ((wc.alloc (Obj.cells #[Value.bool nx1, Value.slice ao1 len1 cap1, Value.int IntKind.i64 ex1, Value.bool nx1, Value.slice ao1 len1 cap1, Value.int IntKind.i64 ex1, Value.bool ny1, Value.slice bo1 blen1 bcap1, Value.int IntKind.i64 ey1, Value.bool ny1, Value.slice bo1 blen1 bcap1, Value.int IntKind.i64 ey1] 71)).alloc (Obj.cells #[Value.bool nx2, Value.slice ao2 len2 cap2, Value.int IntKind.i64 ex2, Value.bool ny2, Value.slice bo2 blen2 bcap2, Value.int IntKind.i64 ey2, Value.bool nx2, Value.slice ao2 len2 cap2, Value.int IntKind.i64 ex2, Value.bool ny2, Value.slice bo2 blen2 bcap2, Value.int IntKind.i64 ey2] 71)) (w.heap.size + 1 + 1) wc.heap.size (wc.heap.size + 1) (Obj.cells #[Value.bool nx1, Value.slice ao1 len1 cap1, Value.int IntKind.i64 ex1, Value.bool nx1, Value.slice ao1 len1 cap1, Value.int IntKind.i64 ex1, Value.bool ny1, Value.slice bo1 blen1 bcap1, Value.int IntKind.i64 ey1, Value.bool ny1, Value.slice bo1 blen1 bcap1, Value.int IntKind.i64 ey1] 71) (Obj.cells #[Value.bool nx2, Value.slice ao2 len2 cap2, Value.int IntKind.i64 ex2, Value.bool ny2, Value.slice bo2 blen2 bcap2, Value.int IntKind.i64 ey2, Value.bool nx2, Value.slice ao2 len2 cap2, Value.int IntKind.i64 ex2, Value.bool ny2, Value.slice bo2 blen2 bcap2, Value.int IntKind.i64 ey2] 71) (Value.agg #[Value.bool nx1, Value.slice ao1 len1 cap1, Value.int IntKind.i64 ex1]) (Value.agg #[Value.bool ny1, Value.slice bo1 blen1 bcap1, Value.int IntKind.i64 ey1]) (Value.agg #[Value.bool nx2, Value.slice ao2 len2 cap2, Value.int IntKind.i64 ex2]) (Value.agg #[Value.bool ny2, Value.slice bo2 blen2 bcap2, Value.int IntKind.i64 ey2]) E (fval al) (fval ah) (fval bl) (fval bh)) :=
      ⟨CX.out.trans (kb.mono CX.out.size), keep0 RX.out kb, k0, k1, NumE.later NA.out kb, NumE.later NB.out kb, NumE.later NC.out kb, NumE.later ND.out kb⟩
    clear bA k0 k1 kb
    go_upto_region 7 with fail
    clear c0 c1 c2 d0 d1 d2 KA KB KC KD NA NB NC ND RX CX
    have HEX : Hid (∀ W, DvK w W (w.heap.size + 1 + 1) wc.heap.size (wc.heap.size + 1) (Obj.cells #[Value.bool nx1, Value.slice ao1 len1 cap1, Value.int IntKind.i64 ex1, Value.bool nx1, Value.slice ao1 len1 cap1, Value.int IntKind.i64 ex1, Value.bool ny1, Value.slice bo1 blen1 bcap1, Value.int IntKind.i64 ey1, Value.bool ny1, Value.slice bo1 blen1 bcap1, Value.int IntKind.i64 ey1] 71) (Obj.cells #[Value.bool nx2, Value.slice ao2 len2 cap2, Value.int IntKind.i64 ex2, Value.bool ny2, Value.slice bo2 blen2 bcap2, Value.int IntKind.i64 ey2, Value.bool nx2, Value.slice ao2 len2 cap2, Value.int IntKind.i64 ex2, Value.bool ny2, Value.slice bo2 blen2 bcap2, Value.int IntKind.i64 ey2] 71) (Value.agg #[Value.bool nx1, Value.slice ao1 len1 cap1, Value.int IntKind.i64 ex1]) (Value.agg #[Value.bool ny1, Value.slice bo1 blen1 bcap1, Value.int IntKind.i64 ey1]) (Value.agg #[Value.bool nx2, Value.slice ao2 len2 cap2, Value.int IntKind.i64 ex2]) (Value.agg #[Value.bool ny2, Value.slice bo2 blen2 bcap2, Value.int IntKind.i64 ey2]) E (fval al) (fval ah) (fval bl) (fval bh) → ∀ k, k < 4 → (∃ n o l c e, (W.cell? ⟨wc.heap.size, k * 3, none⟩ = some (.bool n) ∧ W.cell? ⟨wc.heap.size, k * 3 + 1, none⟩ = some (.slice o l c) ∧ W.cell? ⟨wc.heap.size, k * 3 + 2, none⟩ = some (.int .i64 e)) ∧ NumE W (.agg #[.bool n, .slice o l c, .int .i64 e]) E 1024 (fval (XA al ah k))) ∧ (∃ n o l c e, (W.cell? ⟨wc.heap.size + 1, k * 3, none⟩ = some (.bool n) ∧ W.cell? ⟨wc.heap.size + 1, k * 3 + 1, none⟩ = some (.slice o l c) ∧ W.cell? ⟨wc.heap.size + 1, k * 3 + 2, none⟩ = some (.int .i64 e)) ∧ NumE W (.agg #[.bool n, .slice o l c, .int .i64 e]) E 1024 (fval (YA bl bh k)))) := by
      intro W h k hk
      have rx := row_cells h.ax
      have ry := row_cells h.ay
      match k, hk with
      | 0, _ => exact ⟨⟨_, _, _, _, _, ⟨rx _ _ rfl, rx _ _ rfl, rx _ _ rfl⟩, h.na⟩, ⟨_, _, _, _, _, ⟨ry _ _ rfl, ry _ _ rfl, ry _ _ rfl⟩, h.nc⟩⟩
      | 1, _ => exact ⟨⟨_, _, _, _, _, ⟨rx _ _ rfl, rx _ _ rfl, rx _ _ rfl⟩, h.na⟩, ⟨_, _, _, _, _, ⟨ry _ _ rfl, ry _ _ rfl, ry _ _ rfl⟩, h.nd⟩⟩
      | 2, _ => exact ⟨⟨_, _, _, _, _, ⟨rx _ _ rfl, rx _ _ rfl, rx _ _ rfl⟩, h.nb⟩, ⟨_, _, _, _, _, ⟨ry _ _ rfl, ry _ _ rfl, ry _ _ rfl⟩, h.nc⟩⟩
      | 3, _ => exact ⟨⟨_, _, _, _, _, ⟨rx _ _ rfl, rx _ _ rfl, rx _ _ rfl⟩, h.nb⟩, ⟨_, _, _, _, _, ⟨ry _ _ rfl, ry _ _ rfl, ry _ _ rfl⟩, h.nd⟩⟩
    generalize ((wc.alloc (Obj.cells #[Value.bool nx1, Value.slice ao1 len1 cap1, Value.int IntKind.i64 ex1, Value.bool nx1, Value.slice ao1 len1 cap1, Value.int IntKind.i64 ex1, Value.bool ny1, Value.slice bo1 blen1 bcap1, Value.int IntKind.i64 ey1, Value.bool ny1, Value.slice bo1 blen1 bcap1, Value.int IntKind.i64 ey1] 71)).alloc (Obj.cells #[Value.bool nx2, Value.slice ao2 len2 cap2, Value.int IntKind.i64 ex2, Value.bool ny2, Value.slice bo2 blen2 bcap2, Value.int IntKind.i64 ey2, Value.bool nx2, Value.slice ao2 len2 cap2, Value.int IntKind.i64 ex2, Value.bool ny2, Value.slice bo2 blen2 bcap2, Value.int IntKind.i64 ey2] 71)) = V3 at DV ⊢
    obtain ⟨Px, hPx⟩ : ∃ P, wc.heap.size = P := ⟨_, rfl⟩
    rw [hPx] at DV HEX hRlt ⊢
    obtain ⟨Py, hPy⟩ : ∃ P, Px + 1 = P := ⟨_, rfl⟩
    rw [hPy] at DV HEX ⊢
    generalize (Obj.cells #[Value.bool nx1, Value.slice ao1 len1 cap1, Value.int IntKind.i64 ex1, Value.bool nx1, Value.slice ao1 len1 cap1, Value.int IntKind.i64 ex1, Value.bool ny1, Value.slice bo1 blen1 bcap1, Value.int IntKind.i64 ey1, Value.bool ny1, Value.slice bo1 blen1 bcap1, Value.int IntKind.i64 ey1] 71) = OX at DV HEX
    generalize (Obj.cells #[Value.bool nx2, Value.slice ao2 len2 cap2, Value.int IntKind.i64 ex2, Value.bool ny2, Value.slice bo2 blen2 bcap2, Value.int IntKind.i64 ey2, Value.bool nx2, Value.slice ao2 len2 cap2, Value.int IntKind.i64 ex2, Value.bool ny2, Value.slice bo2 blen2 bcap2, Value.int IntKind.i64 ey2] 71) = OY at DV HEX
    generalize (Value.agg #[Value.bool nx1, Value.slice ao1 len1 cap1, Value.int IntKind.i64 ex1]) = vA at DV HEX
    generalize (Value.agg #[Value.bool ny1, Value.slice bo1 blen1 bcap1, Value.int IntKind.i64 ey1]) = vB at DV HEX
    generalize (Value.agg #[Value.bool nx2, Value.slice ao2 len2 cap2, Value.int IntKind.i64 ex2]) = vC at DV HEX
    generalize (Value.agg #[Value.bool ny2, Value.slice bo2 blen2 bcap2, Value.int IntKind.i64 ey2]) = vD at DV HEX
    clear hPx
    go_wp2_with fail
    refine Calls.mono (refBad_any _) ?_
    rintro e m0 ⟨rfl, g0⟩
    have D0 : Hid (DvK w m0 (w.heap.size + 1 + 1) Px Py OX OY vA vB vC vD E (fval al) (fval ah) (fval bl) (fval bh)) := DV.out.later g0
    clear g0 DV
    go_upto_region 9 with fail
    obtain ⟨k0, k1, k2, kz, kb⟩ := alloc3_facts m0 (Obj.cells #[Value.int .u64 0, .int .u64 0, .bool true] 36) (Obj.cells #[Value.bool false, Value.slice none 0 0, Value.int IntKind.i64 0] 61) (Obj.cells #[Value.bool false, Value.slice none 0 0, Value.int IntKind.i64 0] 61)
    have D1 : Hid (DvK w _ (w.heap.size + 1 + 1) Px Py OX OY vA vB vC vD E (fval al) (fval ah) (fval bl) (fval bh)) := D0.out.later kb
    have hSo : Py < m0.heap.size := blk_lt D0.out.ay
    have O1 : Hid (_) := k0
    have L1 : Hid (VarF _ (m0.heap.size + 1) E (fval 0)) := ⟨_, _, _, _, _, k1, ⟨false, 0, 0, ⟨none, 0, 0, [], rfl, Rd4.none _, Or.inl rfl, rfl⟩, by omega, by rw [bl_zero]; omega, by rw [zv_zero]; decide⟩⟩
    have U1 : Hid (VarF _ (m0.heap.size + 1 + 1) E (fval 0)) := ⟨_, _, _, _, _, k2, ⟨false, 0, 0, ⟨none, 0, 0, [], rfl, Rd4.none _, Or.inl rfl, rfl⟩, by omega, by rw [bl_zero]; omega, by rw [zv_zero]; decide⟩⟩
    clear k0 k1 k2 kz kb D0
    generalize (((m0.alloc (Obj.cells #[Value.int .u64 0, .int .u64 0, .bool true] 36)).alloc (Obj.cells #[Value.bool false, Value.slice none 0 0, Value.int IntKind.i64 0] 61)).alloc (Obj.cells #[Value.bool false, Value.slice none 0 0, Value.int IntKind.i64 0] 61)) = V4 at D1 O1 L1 U1 ⊢
    obtain ⟨So, hSo'⟩ : ∃ P, m0.heap.size = P := ⟨_, rfl⟩
    rw [hSo'] at O1 L1 U1 hSo ⊢
    clear hSo'
    go_wp2_with fail
    go_loopw [16] (fun iv wr => ∃ k : Nat, k ≤ 4 ∧ iv = .int .i64 k ∧ (∀ j, j < k → (p j).2 = true ∧ (q j).2 = true) ∧ Hid (DvK w wr (w.heap.size + 1 + 1) Px Py OX OY vA vB vC vD E (fval al) (fval ah) (fval bl) (fval bh)) ∧ Hid (wr.heap[So]? = some (Obj.cells #[Value.int .u64 (loF p k : Int), .int .u64 (hiF q k : Int), .bool true] 36)) ∧ Hid (VarF wr (So + 1) E (fval (loF p k))) ∧ Hid (VarF wr (So + 1 + 1) E (fval (hiF q k)))) (fun iv _ => 4 - (intOf iv).toNat)
    case atStart => exact ⟨0, by omega, rfl, fun j hj => by omega, D1, O1, L1, U1⟩
    case round =>
      obtain ⟨k, hk, rfl, hfl, DK, OK, LK, UK⟩ := hrel
      clear D1 O1 L1 U1
      by_cases hlt : k < 4
      · have hd : decide ((k : Int) < 4) = true := decide_eq_true (by omega)
        have i1 : (0 : Int) ≤ (k : Int) := by omega
        have i2 : (k : Int) < 4 := by omega
        obtain ⟨⟨nj, oj, lj, cj, ej, hcx, hnx⟩, ⟨ni, oi, li, ci, ei, hcy, hny⟩⟩ := HEX.out wr DK.out k hlt
        have NX : Hid _ := hnx
        have NY : Hid _ := hny
        have hpx : Px < wr.heap.size := blk_lt DK.out.ax
        have hpy : Py < wr.heap.size := blk_lt DK.out.ay
        have HCC : Hid (∀ W, Below wr.heap.size wr W → (W.cell? ⟨Px, k * 3, none⟩ = some (.bool nj) ∧ W.cell? ⟨Px, k * 3 + 1, none⟩ = some (.slice oj lj cj) ∧ W.cell? ⟨Px, k * 3 + 2, none⟩ = some (.int .i64 ej)) ∧ W.cell? ⟨Py, k * 3, none⟩ = some (.bool ni) ∧ W.cell? ⟨Py, k * 3 + 1, none⟩ = some (.slice oi li ci) ∧ W.cell? ⟨Py, k * 3 + 2, none⟩ = some (.int .i64 ei)) := fun W h =>
          ⟨⟨by rw [h.cell (p := ⟨Px, k * 3, none⟩) hpx]; exact hcx.1, by rw [h.cell (p := ⟨Px, k * 3 + 1, none⟩) hpx]; exact hcx.2.1, by rw [h.cell (p := ⟨Px, k * 3 + 2, none⟩) hpx]; exact hcx.2.2⟩, by rw [h.cell (p := ⟨Py, k * 3, none⟩) hpy]; exact hcy.1, by rw [h.cell (p := ⟨Py, k * 3 + 1, none⟩) hpy]; exact hcy.2.1, by rw [h.cell (p := ⟨Py, k * 3 + 2, none⟩) hpy]; exact hcy.2.2⟩
        clear hcx hcy hnx hny hpx hpy
        go_upto_region 12 with fail
        have hS : ∀ W, Below wr.heap.size wr W → ((W.cell? ⟨Px, k * 3, none⟩ = some (.bool nj) ∧ W.cell? ⟨Px, k * 3 + 1, none⟩ = some (.slice oj lj cj) ∧ W.cell? ⟨Px, k * 3 + 2, none⟩ = some (.int .i64 ej)) ∧ W.cell? ⟨Py, k * 3, none⟩ = some (.bool ni) ∧ W.cell? ⟨Py, k * 3 + 1, none⟩ = some (.slice oi li ci) ∧ W.cell? ⟨Py, k * 3 + 2, none⟩ = some (.int .i64 ei)) := fun W h => HCC.out W (h)
        refine wp_region_noPanic ?_
        refine wp_region_held_drew (S := fun W => (W.cell? ⟨Px, k * 3, none⟩ = some (.bool nj) ∧ W.cell? ⟨Px, k * 3 + 1, none⟩ = some (.slice oj lj cj) ∧ W.cell? ⟨Px, k * 3 + 2, none⟩ = some (.int .i64 ej)) ∧ W.cell? ⟨Py, k * 3, none⟩ = some (.bool ni) ∧ W.cell? ⟨Py, k * 3 + 1, none⟩ = some (.slice oi li ci) ∧ W.cell? ⟨Py, k * 3 + 2, none⟩ = some (.int .i64 ei)) (by kernel_rfl) (hS _ (Below.refl _ _).drew) (fun _ => ?_)
        refine takeH 70 (i := 0) (v := .int .i64 (k : Int)) rfl rfl (by kernel_rfl) (by kernel_rfl) (by kernel_rfl) (fun _ _ _ h => h) (Or.inl ⟨(by kernel_rfl), fun w' _ => by kernel_rfl⟩) (hS _ (Below.refl _ _).drew) ?_
        try (simp only [Act.put, List.setIfInBounds_toArray, List.set_cons_zero, List.set_cons_succ])
        refine takeH 71 (i := 1) (v := .pointer (some ⟨Px, k * 3, none⟩)) rfl rfl (by kernel_rfl) (by kernel_rfl) (by kernel_rfl) (fun _ _ _ h => h) (Or.inl ⟨(by kernel_rfl), by intro w' _; go_simp⟩) (hS _ (Below.refl _ _).drew) ?_
        refine takeH 72 (i := 2) (v := (Value.agg #[Value.bool nj, Value.slice oj lj cj, Value.int IntKind.i64 ej])) rfl rfl (by kernel_rfl) (by kernel_rfl) (by kernel_rfl) (fun _ _ _ h => h) (Or.inl ⟨(by kernel_rfl), fun w' hq => ex_loadA _ _ rfl Px (k * 3) (by kernel_rfl) w' nj oj lj cj ej hq.1⟩) (hS _ (Below.refl _ _).drew) ?_
        refine takeH 73 (i := 3) (v := .int .i64 (k : Int)) rfl rfl (by kernel_rfl) (by kernel_rfl) (by kernel_rfl) (fun _ _ _ h => h) (Or.inl ⟨(by kernel_rfl), fun w' _ => by kernel_rfl⟩) (hS _ (Below.refl _ _).drew) ?_
        try (simp only [Act.put, List.setIfInBounds_toArray, List.set_cons_zero, List.set_cons_succ])
        refine takeH 74 (i := 4) (v := .pointer (some ⟨Py, k * 3, none⟩)) rfl rfl (by kernel_rfl) (by kernel_rfl) (by kernel_rfl) (fun _ _ _ h => h) (Or.inl ⟨(by kernel_rfl), by intro w' _; go_simp⟩) (hS _ (Below.refl _ _).drew) ?_
        refine takeH 75 (i := 5) (v := (Value.agg #[Value.bool ni, Value.slice oi li ci, Value.int IntKind.i64 ei])) rfl rfl (by kernel_rfl) (by kernel_rfl) (by kernel_rfl) (fun _ _ _ h => h) (Or.inl ⟨(by kernel_rfl), fun w' hq => ex_loadA _ _ rfl Py (k * 3) (by kernel_rfl) w' ni oi li ci ei hq.2⟩) (hS _ (Below.refl _ _).drew) ?_
        try (simp only [Act.put, List.setIfInBounds_toArray, List.set_cons_zero, List.set_cons_succ])
        refine wpAnyH_ready (rs := [6]) (by kernel_rfl) (by simp) ?_
        refine consH _ rfl ?_ AllReadyH.nil
        refine hopCd 76 rfl (by kernel_rfl) rfl (by kernel_rfl) (Calls.mono (overE_any 2 _ _ (XA al ah k) (YA bl bh k) _ E hE (NumE.later NX.out ((Below.refl _ _).drew)) (NumE.later NY.out ((Below.refl _ _).drew)) (QQ.out.ny k) (by decide) (by decide) (p k) (QQ.out.dp k hlt)) ?_)
        rintro e ma ⟨rfl, gma⟩
        have bma : Below wr.heap.size wr ma := to_b (Below.refl _ _).drew gma
        refine ⟨_, rfl, hS _ bma, ?_⟩
        try (simp only [Act.put, List.setIfInBounds_toArray, List.set_cons_zero, List.set_cons_succ])
        refine takeH 69 (i := 7) (v := .tuple #[.int .u64 ((p k).1 : Int), .bool (p k).2]) rfl rfl (by kernel_rfl) (by kernel_rfl) (by kernel_rfl) (fun _ _ _ h => h) (Or.inl ⟨(by kernel_rfl), fun w' _ => by kernel_rfl⟩) (hS _ bma) ?_
        refine takeH 77 (i := 8) (v := .int .u64 ((p k).1 : Int)) rfl rfl (by kernel_rfl) (by kernel_rfl) (by kernel_rfl) (fun _ _ _ h => h) (Or.inl ⟨(by kernel_rfl), fun w' _ => by kernel_rfl⟩) (hS _ bma) ?_
        refine takeH 78 (i := 9) (v := .bool (p k).2) rfl rfl (by kernel_rfl) (by kernel_rfl) (by kernel_rfl) (fun _ _ _ h => h) (Or.inl ⟨(by kernel_rfl), fun w' _ => by kernel_rfl⟩) (hS _ bma) ?_
        refine takeH 17 (i := 10) (v := .int .u64 ((p k).1 : Int)) rfl rfl (by kernel_rfl) (by kernel_rfl) (by kernel_rfl) (fun _ _ _ h => h) (Or.inl ⟨(by kernel_rfl), fun w' _ => by kernel_rfl⟩) (hS _ bma) ?_
        refine takeH 18 (i := 11) (v := .bool (p k).2) rfl rfl (by kernel_rfl) (by kernel_rfl) (by kernel_rfl) (fun _ _ _ h => h) (Or.inl ⟨(by kernel_rfl), fun w' _ => by kernel_rfl⟩) (hS _ bma) ?_
        refine wpAnyH_done (by kernel_rfl) ?_ _
        refine NoPanic.normal ?_
        try (simp only [Act.put, List.setIfInBounds_toArray, List.set_cons_zero, List.set_cons_succ])
        have BA : Hid (Below wr.heap.size wr ma) := bma
        clear hS bma gma
        go_upto_region 13 with fail
        have hS : ∀ W, Below ma.heap.size ma W → ((W.cell? ⟨Px, k * 3, none⟩ = some (.bool nj) ∧ W.cell? ⟨Px, k * 3 + 1, none⟩ = some (.slice oj lj cj) ∧ W.cell? ⟨Px, k * 3 + 2, none⟩ = some (.int .i64 ej)) ∧ W.cell? ⟨Py, k * 3, none⟩ = some (.bool ni) ∧ W.cell? ⟨Py, k * 3 + 1, none⟩ = some (.slice oi li ci) ∧ W.cell? ⟨Py, k * 3 + 2, none⟩ = some (.int .i64 ei)) := fun W h => HCC.out W (to_b BA.out h)
        refine wp_region_noPanic ?_
        refine wp_region_held_drew (S := fun W => (W.cell? ⟨Px, k * 3, none⟩ = some (.bool nj) ∧ W.cell? ⟨Px, k * 3 + 1, none⟩ = some (.slice oj lj cj) ∧ W.cell? ⟨Px, k * 3 + 2, none⟩ = some (.int .i64 ej)) ∧ W.cell? ⟨Py, k * 3, none⟩ = some (.bool ni) ∧ W.cell? ⟨Py, k * 3 + 1, none⟩ = some (.slice oi li ci) ∧ W.cell? ⟨Py, k * 3 + 2, none⟩ = some (.int .i64 ei)) (by kernel_rfl) (hS _ (Below.refl _ _).drew) (fun _ => ?_)
        refine takeH 80 (i := 0) (v := .int .i64 (k : Int)) rfl rfl (by kernel_rfl) (by kernel_rfl) (by kernel_rfl) (fun _ _ _ h => h) (Or.inl ⟨(by kernel_rfl), fun w' _ => by kernel_rfl⟩) (hS _ (Below.refl _ _).drew) ?_
        try (simp only [Act.put, List.setIfInBounds_toArray, List.set_cons_zero, List.set_cons_succ])
        refine takeH 81 (i := 1) (v := .pointer (some ⟨Px, k * 3, none⟩)) rfl rfl (by kernel_rfl) (by kernel_rfl) (by kernel_rfl) (fun _ _ _ h => h) (Or.inl ⟨(by kernel_rfl), by intro w' _; go_simp⟩) (hS _ (Below.refl _ _).drew) ?_
        refine takeH 82 (i := 2) (v := (Value.agg #[Value.bool nj, Value.slice oj lj cj, Value.int IntKind.i64 ej])) rfl rfl (by kernel_rfl) (by kernel_rfl) (by kernel_rfl) (fun _ _ _ h => h) (Or.inl ⟨(by kernel_rfl), fun w' hq => ex_loadA _ _ rfl Px (k * 3) (by kernel_rfl) w' nj oj lj cj ej hq.1⟩) (hS _ (Below.refl _ _).drew) ?_
        refine takeH 83 (i := 3) (v := .int .i64 (k : Int)) rfl rfl (by kernel_rfl) (by kernel_rfl) (by kernel_rfl) (fun _ _ _ h => h) (Or.inl ⟨(by kernel_rfl), fun w' _ => by kernel_rfl⟩) (hS _ (Below.refl _ _).drew) ?_
        try (simp only [Act.put, List.setIfInBounds_toArray, List.set_cons_zero, List.set_cons_succ])
        refine takeH 84 (i := 4) (v := .pointer (some ⟨Py, k * 3, none⟩)) rfl rfl (by kernel_rfl) (by kernel_rfl) (by kernel_rfl) (fun _ _ _ h => h) (Or.inl ⟨(by kernel_rfl), by intro w' _; go_simp⟩) (hS _ (Below.refl _ _).drew) ?_
        refine takeH 85 (i := 5) (v := (Value.agg #[Value.bool ni, Value.slice oi li ci, Value.int IntKind.i64 ei])) rfl rfl (by kernel_rfl) (by kernel_rfl) (by kernel_rfl) (fun _ _ _ h => h) (Or.inl ⟨(by kernel_rfl), fun w' hq => ex_loadA _ _ rfl Py (k * 3) (by kernel_rfl) w' ni oi li ci ei hq.2⟩) (hS _ (Below.refl _ _).drew) ?_
        try (simp only [Act.put, List.setIfInBounds_toArray, List.set_cons_zero, List.set_cons_succ])
        refine wpAnyH_ready (rs := [6]) (by kernel_rfl) (by simp) ?_
        refine consH _ rfl ?_ AllReadyH.nil
        refine hopCd 86 rfl (by kernel_rfl) rfl (by kernel_rfl) (Calls.mono (overE_any 1 _ _ (XA al ah k) (YA bl bh k) _ E hE (NumE.later NX.out (to_b BA.out (Below.refl _ _).drew)) (NumE.later NY.out (to_b BA.out (Below.refl _ _).drew)) (QQ.out.ny k) (by decide) (by decide) (q k) (QQ.out.dq k hlt)) ?_)
        rintro e mb ⟨rfl, gmb⟩
        have bmb : Below ma.heap.size ma mb := to_b (Below.refl _ _).drew gmb
        refine ⟨_, rfl, hS _ bmb, ?_⟩
        try (simp only [Act.put, List.setIfInBounds_toArray, List.set_cons_zero, List.set_cons_succ])
        refine takeH 79 (i := 7) (v := .tuple #[.int .u64 ((q k).1 : Int), .bool (q k).2]) rfl rfl (by kernel_rfl) (by kernel_rfl) (by kernel_rfl) (fun _ _ _ h => h) (Or.inl ⟨(by kernel_rfl), fun w' _ => by kernel_rfl⟩) (hS _ bmb) ?_
        refine takeH 87 (i := 8) (v := .int .u64 ((q k).1 : Int)) rfl rfl (by kernel_rfl) (by kernel_rfl) (by kernel_rfl) (fun _ _ _ h => h) (Or.inl ⟨(by kernel_rfl), fun w' _ => by kernel_rfl⟩) (hS _ bmb) ?_
        refine takeH 88 (i := 9) (v := .bool (q k).2) rfl rfl (by kernel_rfl) (by kernel_rfl) (by kernel_rfl) (fun _ _ _ h => h) (Or.inl ⟨(by kernel_rfl), fun w' _ => by kernel_rfl⟩) (hS _ bmb) ?_
        refine takeH 19 (i := 10) (v := .int .u64 ((q k).1 : Int)) rfl rfl (by kernel_rfl) (by kernel_rfl) (by kernel_rfl) (fun _ _ _ h => h) (Or.inl ⟨(by kernel_rfl), fun w' _ => by kernel_rfl⟩) (hS _ bmb) ?_
        refine takeH 20 (i := 11) (v := .bool (q k).2) rfl rfl (by kernel_rfl) (by kernel_rfl) (by kernel_rfl) (fun _ _ _ h => h) (Or.inl ⟨(by kernel_rfl), fun w' _ => by kernel_rfl⟩) (hS _ bmb) ?_
        refine wpAnyH_done (by kernel_rfl) ?_ _
        refine NoPanic.normal ?_
        try (simp only [Act.put, List.setIfInBounds_toArray, List.set_cons_zero, List.set_cons_succ])
        have BB : Hid (Below wr.heap.size wr mb) := to_b BA.out bmb
        clear hS bmb gmb BA HCC NX NY
        have DB : Hid (DvK w mb (w.heap.size + 1 + 1) Px Py OX OY vA vB vC vD E (fval al) (fval ah) (fval bl) (fval bh)) := DK.out.later BB.out
        have OB : Hid (mb.heap[So]? = some (Obj.cells #[Value.int .u64 (loF p k : Int), .int .u64 (hiF q k : Int), .bool true] 36)) := keep0 OK.out BB.out
        have LB : Hid (VarF mb (So + 1) E (fval (loF p k))) := LK.out.later BB.out
        have UB : Hid (VarF mb (So + 1 + 1) E (fval (hiF q k))) := UK.out.later BB.out
        clear DK OK LK UK BB
        cases hp2 : (p k).2
        · have HSP : Hid (DivR al ah bl bh ab bb E (0, 0, true)) := QQ.out.bad hlt (.inl hp2)
          have RS : Hid _ := DB.out.rs
          have CB : Hid _ := DB.out.bel
          clear QQ DB OB LB UB HEX hp2
          go_wp2_with fail
          refine Calls.mono (refBad_any _) ?_
          rintro e w4 ⟨rfl, bw⟩
          have R4 : Hid _ := (bw.block _ (blk_lt RS.out)).trans RS.out
          have C4 : Hid (Below w.heap.size w w4) := CB.out.trans (bw.mono CB.out.size)
          clear bw
          obtain ⟨r0, r1, r2⟩ := cells3 R4.out
          have fz := fun j => frozen_of_row _ _ j _ _ R4.out
          go_wp2_with fail
          refine bodyPost_ret (v := .agg #[.int .u64 0, .int .u64 0, .bool true]) (res_su _ 4 (by kernel_rfl) _ _ (w.heap.size + 1 + 1) _ _ _ ?_ (setsp_heap _ _ _ R4.out)) rfl ?_
          · rfl
          · exact ⟨(0, 0, true), rfl, HSP.out, below_setsp _ _ _ C4.out (by omega)⟩
        · cases hq2 : (q k).2
          · have HSP : Hid (DivR al ah bl bh ab bb E (0, 0, true)) := QQ.out.bad hlt (.inr hq2)
            have RS : Hid _ := DB.out.rs
            have CB : Hid _ := DB.out.bel
            clear QQ DB OB LB UB HEX hp2 hq2
            go_wp2_with fail
            refine Calls.mono (refBad_any _) ?_
            rintro e w4 ⟨rfl, bw⟩
            have R4 : Hid _ := (bw.block _ (blk_lt RS.out)).trans RS.out
            have C4 : Hid (Below w.heap.size w w4) := CB.out.trans (bw.mono CB.out.size)
            clear bw
            obtain ⟨r0, r1, r2⟩ := cells3 R4.out
            have fz := fun j => frozen_of_row _ _ j _ _ R4.out
            go_wp2_with fail
            refine bodyPost_ret (v := .agg #[.int .u64 0, .int .u64 0, .bool true]) (res_su _ 4 (by kernel_rfl) _ _ (w.heap.size + 1 + 1) _ _ _ ?_ (setsp_heap _ _ _ R4.out)) rfl ?_
            · rfl
            · exact ⟨(0, 0, true), rfl, HSP.out, below_setsp _ _ _ C4.out (by omega)⟩
          · have HFL : Hid (∀ j, j < k + 1 → (p j).2 = true ∧ (q j).2 = true) := fun j hj => by
              rcases Nat.lt_or_ge j k with c | c
              · exact hfl j c
              · obtain rfl : j = k := by omega
                exact ⟨hp2, hq2⟩
            clear hfl hp2 hq2 HEX
            go_wp2_with fail
            refine Calls.mono (ofZ_any (p k).1 (QQ.out.fp k hlt).2 _ E hE) ?_
            rintro e mx ⟨vx, rfl, ⟨zzx, hzx, hfx⟩, gx⟩
            obtain rfl := hfx (QQ.out.fp k hlt).1
            rw [decide_eq_true (QQ.out.fp k hlt).1]
            have Zx : Hid (NumZ mx vx E 1024 (fval (p k).1)) := hzx
            obtain ⟨nx, mmx, ex, ⟨ox, lx, cx, xsx, rfl, -⟩, -⟩ := hzx
            go_upto_region 17 with fail
            have belx : Below mb.heap.size mb (mx.alloc (Obj.cells #[Value.bool nx, Value.slice ox lx cx, Value.int IntKind.i64 ex] 61)) := to_b gx ((Below.refl _ _).alloc (Nat.le_refl _) _)
            have Vx : Hid (VarF (mx.alloc (Obj.cells #[Value.bool nx, Value.slice ox lx cx, Value.int IntKind.i64 ex] 61)) mx.heap.size E (fval (p k).1)) := ⟨_, _, _, _, _, heap_alloc_new mx _, NumZ.later Zx.out ((Below.refl _ _).alloc (Nat.le_refl _) _)⟩
            have hMx : So + 1 + 1 < mx.heap.size := by have h1 := (VarF.num UB.out).lt; have h2 := gx.size; omega
            have Dx : Hid (DvK w _ (w.heap.size + 1 + 1) Px Py OX OY vA vB vC vD E (fval al) (fval ah) (fval bl) (fval bh)) := DvK.later DB.out belx
            have Ox : Hid _ := keep0 OB.out belx
            have Lx : Hid _ := VarF.later LB.out belx
            have Ux : Hid _ := VarF.later UB.out belx
            generalize mx.alloc (Obj.cells #[Value.bool nx, Value.slice ox lx cx, Value.int IntKind.i64 ex] 61) = Wx at Vx Dx Ox Lx Ux  ⊢
            obtain ⟨Mx, hMMx⟩ : ∃ M, mx.heap.size = M := ⟨_, rfl⟩
            rw [hMMx] at Vx hMx ⊢
            clear hMMx hfx gx belx Zx DB OB LB UB
            go_wp2_with fail
            refine Calls.mono (ofZ_any (q k).1 (QQ.out.fq k hlt).2 _ E hE) ?_
            rintro e my ⟨vy, rfl, ⟨zzy, hzy, hfy⟩, gy⟩
            obtain rfl := hfy (QQ.out.fq k hlt).1
            rw [decide_eq_true (QQ.out.fq k hlt).1]
            have Zy : Hid (NumZ my vy E 1024 (fval (q k).1)) := hzy
            obtain ⟨ny, mmy, ey, ⟨oy, ly, cy, xsy, rfl, -⟩, -⟩ := hzy
            go_upto_region 18 with fail
            have bely : Below Wx.heap.size Wx (my.alloc (Obj.cells #[Value.bool ny, Value.slice oy ly cy, Value.int IntKind.i64 ey] 61)) := to_b gy ((Below.refl _ _).alloc (Nat.le_refl _) _)
            have Vy : Hid (VarF (my.alloc (Obj.cells #[Value.bool ny, Value.slice oy ly cy, Value.int IntKind.i64 ey] 61)) my.heap.size E (fval (q k).1)) := ⟨_, _, _, _, _, heap_alloc_new my _, NumZ.later Zy.out ((Below.refl _ _).alloc (Nat.le_refl _) _)⟩
            have hMy : So + 1 + 1 < my.heap.size := by have h1 := (VarF.num Ux.out).lt; have h2 := gy.size; omega
            have Dy : Hid (DvK w _ (w.heap.size + 1 + 1) Px Py OX OY vA vB vC vD E (fval al) (fval ah) (fval bl) (fval bh)) := DvK.later Dx.out bely
            have Oy : Hid _ := keep0 Ox.out bely
            have Ly : Hid _ := VarF.later Lx.out bely
            have Uy : Hid _ := VarF.later Ux.out bely
            have VV : Hid _ := VarF.later Vx.out bely
            generalize my.alloc (Obj.cells #[Value.bool ny, Value.slice oy ly cy, Value.int IntKind.i64 ey] 61) = Wy at Vy Dy Oy Ly Uy VV ⊢
            obtain ⟨My, hMMy⟩ : ∃ M, my.heap.size = M := ⟨_, rfl⟩
            rw [hMMy] at Vy hMy ⊢
            clear hMMy hfy gy bely Zy Dx Ox Lx Ux
            clear Vx
            by_cases hk0 : k = 0
            · have hl0 : loF p (k + 1) = (p k).1 := by rw [hk0]; rfl
              have hh0 : hiF q (k + 1) = (q k).1 := by rw [hk0]; rfl
              have ek : ((k : Int) == 0) = true := by simp; omega
              have ek' : decide ((k : Int) = 0) = true := decide_eq_true (by omega)
              clear hk0
              obtain ⟨na, oa, la, ca, ea, ha1, ha2⟩ := VV.out
              obtain ⟨a0, a1, a2⟩ := three_cells ha1
              have HA2 : Hid _ := ha2
              have NB1 : Hid (NumB Wy (So + 1)) := VarF.num Ly.out
              obtain ⟨nb', ob', lb', cb', eb', hb1⟩ := NB1.out
              obtain ⟨b0, b1, b2⟩ := three_cells hb1
              have fb := fun j => frozen_of_row _ _ j _ _ hb1
              have HB1 : Hid _ := hb1
              clear ha1 ha2 hb1
              go_upto_region 20 with fail
              have t3 : ∀ B, B ≠ (So + 1) → _ := fun B hB => set3_other (w := Wy) (Value.bool na) (Value.slice oa la ca) (Value.int IntKind.i64 ea) hB
              have D3 : Hid (DvK w _ (w.heap.size + 1 + 1) Px Py OX OY vA vB vC vD E (fval al) (fval ah) (fval bl) (fval bh)) := set3_dv Dy.out (by omega) (by have := hSo; have := hRlt; omega) NB1.out na oa la ca ea
              have O3 : Hid _ := (t3 So (by omega)).trans Oy.out
              have own3 : Hid (VarF _ (So + 1) E (fval (p k).1)) := ⟨na, oa, la, ca, ea, set3_heap _ _ _ HB1.out, NumZ.set3 _ _ _ NB1.out HA2.out⟩
              have oth3 : Hid _ := VarF.oth Uy.out (by omega) (NumB.not NB1.out) t3
              have ex3 : Hid _ := VarF.oth Vy.out (by omega) (NumB.not NB1.out) t3
              clear t3 a0 a1 a2 b0 b1 b2 fb HA2 HB1 NB1 Dy Oy Ly Uy VV Vy
              generalize (((Wy.setCell ⟨So + 1, 0, none⟩ (Value.bool na)).setCell ⟨So + 1, 1, none⟩ (Value.slice oa la ca)).setCell ⟨So + 1, 2, none⟩ (Value.int IntKind.i64 ea)) = W3 at D3 O3 own3 oth3 ex3 ⊢
              obtain ⟨q0, q1, q2⟩ := cells3 O3.out
              have fq := fun j => frozen_of_row _ _ j _ _ O3.out
              go_upto_region 21 with fail
              have t4 : ∀ B, B ≠ So → _ := fun B hB => heap_setCell_other W3 ⟨So, 0, none⟩ B (Value.int .u64 ((p k).1 : Int)) hB
              have Ds : Hid (DvK w _ (w.heap.size + 1 + 1) Px Py OX OY vA vB vC vD E (fval al) (fval ah) (fval bl) (fval bh)) := set1_dv (j := 0) D3.out (by omega) (by have := hSo; have := hRlt; omega) O3.out (Value.int .u64 ((p k).1 : Int))
              have Os : Hid _ := (set1_heap ((p k).1 : Int) O3.out).1
              have Ls : Hid _ := VarF.oth own3.out (by omega) (noU32 O3.out) t4
              have Us : Hid _ := VarF.oth oth3.out (by omega) (noU32 O3.out) t4
              have Vs : Hid _ := VarF.oth ex3.out (by omega) (noU32 O3.out) t4
              clear t4 q0 q1 q2 fq D3 O3 own3 oth3 ex3
              generalize (W3.setCell ⟨So, 0, none⟩ (Value.int .u64 ((p k).1 : Int))) = Ws at Ds Os Ls Us Vs ⊢
              obtain ⟨na, oa, la, ca, ea, ha1, ha2⟩ := Vs.out
              obtain ⟨a0, a1, a2⟩ := three_cells ha1
              have HA2 : Hid _ := ha2
              have NB1 : Hid (NumB Ws (So + 1 + 1)) := VarF.num Us.out
              obtain ⟨nb', ob', lb', cb', eb', hb1⟩ := NB1.out
              obtain ⟨b0, b1, b2⟩ := three_cells hb1
              have fb := fun j => frozen_of_row _ _ j _ _ hb1
              have HB1 : Hid _ := hb1
              clear ha1 ha2 hb1
              go_upto_region 23 with fail
              have t3 : ∀ B, B ≠ (So + 1 + 1) → _ := fun B hB => set3_other (w := Ws) (Value.bool na) (Value.slice oa la ca) (Value.int IntKind.i64 ea) hB
              have D3 : Hid (DvK w _ (w.heap.size + 1 + 1) Px Py OX OY vA vB vC vD E (fval al) (fval ah) (fval bl) (fval bh)) := set3_dv Ds.out (by omega) (by have := hSo; have := hRlt; omega) NB1.out na oa la ca ea
              have O3 : Hid _ := (t3 So (by omega)).trans Os.out
              have own3 : Hid (VarF _ (So + 1 + 1) E (fval (q k).1)) := ⟨na, oa, la, ca, ea, set3_heap _ _ _ HB1.out, NumZ.set3 _ _ _ NB1.out HA2.out⟩
              have oth3 : Hid _ := VarF.oth Ls.out (by omega) (NumB.not NB1.out) t3
              clear t3 a0 a1 a2 b0 b1 b2 fb HA2 HB1 NB1 Ds Os Ls Us Vs 
              generalize (((Ws.setCell ⟨So + 1 + 1, 0, none⟩ (Value.bool na)).setCell ⟨So + 1 + 1, 1, none⟩ (Value.slice oa la ca)).setCell ⟨So + 1 + 1, 2, none⟩ (Value.int IntKind.i64 ea)) = W3 at D3 O3 own3 oth3  ⊢
              obtain ⟨q0, q1, q2⟩ := cells3 O3.out
              have fq := fun j => frozen_of_row _ _ j _ _ O3.out
              go_upto_region 11 with fail
              have t4 : ∀ B, B ≠ So → _ := fun B hB => heap_setCell_other W3 ⟨So, 1, none⟩ B (Value.int .u64 ((q k).1 : Int)) hB
              have Dz : Hid (DvK w _ (w.heap.size + 1 + 1) Px Py OX OY vA vB vC vD E (fval al) (fval ah) (fval bl) (fval bh)) := set1_dv (j := 1) D3.out (by omega) (by have := hSo; have := hRlt; omega) O3.out (Value.int .u64 ((q k).1 : Int))
              have Oz : Hid _ := (set1_heap ((q k).1 : Int) O3.out).2.1
              have Uz : Hid _ := VarF.oth own3.out (by omega) (noU32 O3.out) t4
              have Lz : Hid _ := VarF.oth oth3.out (by omega) (noU32 O3.out) t4
              clear t4 q0 q1 q2 fq D3 O3 own3 oth3 
              generalize (W3.setCell ⟨So, 1, none⟩ (Value.int .u64 ((q k).1 : Int))) = Wz at Dz Oz Uz Lz  ⊢
              go_wp2_with fail
              go_roundw
              case rel => exact ⟨k + 1, by omega, by go_num, HFL.out, Dz, (by unfold Hid; rw [hl0, hh0]; exact Oz.out), (by unfold Hid; rw [hl0]; exact Lz.out), (by unfold Hid; rw [hh0]; exact Uz.out)⟩
              case measure => simp [intOf]; omega
            · have ek : ((k : Int) == 0) = false := by simp; omega
              have ek' : decide ((k : Int) = 0) = false := decide_eq_false (by omega)
              obtain ⟨na, oa, la, ca, ea, ha1, ha2⟩ := VV.out
              obtain ⟨a0, a1, a2⟩ := three_cells ha1
              obtain ⟨nb', ob', lb', cb', eb', hb1, hb2⟩ := Ly.out
              obtain ⟨b0, b1, b2⟩ := three_cells hb1
              have HA2 : Hid _ := ha2
              have HB2 : Hid _ := hb2
              clear ha1 ha2 hb1 hb2
              go_wp2_with fail
              refine Calls.mono (cmpZ_any _ _ E 1024 (fval (p k).1) (fval (loF p k)) _ HA2.out HB2.out (by omega) (by omega)) ?_
              rintro e Wd ⟨rfl, g⟩
              have Dd : Hid (DvK w Wd (w.heap.size + 1 + 1) Px Py OX OY vA vB vC vD E (fval al) (fval ah) (fval bl) (fval bh)) := DvK.later Dy.out g
              have Od : Hid _ := keep0 Oy.out g
              have Ld : Hid _ := VarF.later Ly.out g
              have Ud : Hid _ := VarF.later Uy.out g
              have Vd : Hid _ := VarF.later VV.out g
              have Xd : Hid _ := VarF.later Vy.out g
              clear g a0 a1 a2 b0 b1 b2 HA2 HB2 Dy Oy Ly Uy VV Vy
              by_cases hc1 : fval (p k).1 < fval (loF p k)
              · have hd1 : decide (sgi (fval (p k).1 - fval (loF p k)) < 0) = true := decide_eq_true (by unfold sgi; split; omega; split <;> omega)
                have hl := (lo_next (p := p) hk0).1 hc1
                generalize sgi (fval (p k).1 - fval (loF p k)) = s1 at hd1 ⊢
                clear hc1
                obtain ⟨na, oa, la, ca, ea, ha1, ha2⟩ := Vd.out
                obtain ⟨a0, a1, a2⟩ := three_cells ha1
                have HA2 : Hid _ := ha2
                have NB1 : Hid (NumB Wd (So + 1)) := VarF.num Ld.out
                obtain ⟨nb', ob', lb', cb', eb', hb1⟩ := NB1.out
                obtain ⟨b0, b1, b2⟩ := three_cells hb1
                have fb := fun j => frozen_of_row _ _ j _ _ hb1
                have HB1 : Hid _ := hb1
                clear ha1 ha2 hb1
                go_upto_region 20 with fail
                have t3 : ∀ B, B ≠ (So + 1) → _ := fun B hB => set3_other (w := Wd) (Value.bool na) (Value.slice oa la ca) (Value.int IntKind.i64 ea) hB
                have D3 : Hid (DvK w _ (w.heap.size + 1 + 1) Px Py OX OY vA vB vC vD E (fval al) (fval ah) (fval bl) (fval bh)) := set3_dv Dd.out (by omega) (by have := hSo; have := hRlt; omega) NB1.out na oa la ca ea
                have O3 : Hid _ := (t3 So (by omega)).trans Od.out
                have own3 : Hid (VarF _ (So + 1) E (fval (p k).1)) := ⟨na, oa, la, ca, ea, set3_heap _ _ _ HB1.out, NumZ.set3 _ _ _ NB1.out HA2.out⟩
                have oth3 : Hid _ := VarF.oth Ud.out (by omega) (NumB.not NB1.out) t3
                have ex3 : Hid _ := VarF.oth Xd.out (by omega) (NumB.not NB1.out) t3
                clear t3 a0 a1 a2 b0 b1 b2 fb HA2 HB1 NB1 Dd Od Ld Ud Vd Xd
                generalize (((Wd.setCell ⟨So + 1, 0, none⟩ (Value.bool na)).setCell ⟨So + 1, 1, none⟩ (Value.slice oa la ca)).setCell ⟨So + 1, 2, none⟩ (Value.int IntKind.i64 ea)) = W3 at D3 O3 own3 oth3 ex3 ⊢
                obtain ⟨q0, q1, q2⟩ := cells3 O3.out
                have fq := fun j => frozen_of_row _ _ j _ _ O3.out
                go_upto_region 21 with fail
                have t4 : ∀ B, B ≠ So → _ := fun B hB => heap_setCell_other W3 ⟨So, 0, none⟩ B (Value.int .u64 ((p k).1 : Int)) hB
                have Ds : Hid (DvK w _ (w.heap.size + 1 + 1) Px Py OX OY vA vB vC vD E (fval al) (fval ah) (fval bl) (fval bh)) := set1_dv (j := 0) D3.out (by omega) (by have := hSo; have := hRlt; omega) O3.out (Value.int .u64 ((p k).1 : Int))
                have Os : Hid _ := (set1_heap ((p k).1 : Int) O3.out).1
                have Ls : Hid _ := VarF.oth own3.out (by omega) (noU32 O3.out) t4
                have Us : Hid _ := VarF.oth oth3.out (by omega) (noU32 O3.out) t4
                have Vs : Hid _ := VarF.oth ex3.out (by omega) (noU32 O3.out) t4
                clear t4 q0 q1 q2 fq D3 O3 own3 oth3 ex3
                generalize (W3.setCell ⟨So, 0, none⟩ (Value.int .u64 ((p k).1 : Int))) = Ws at Ds Os Ls Us Vs ⊢
                obtain ⟨na, oa, la, ca, ea, ha1, ha2⟩ := Vs.out
                obtain ⟨a0, a1, a2⟩ := three_cells ha1
                obtain ⟨nb', ob', lb', cb', eb', hb1, hb2⟩ := Us.out
                obtain ⟨b0, b1, b2⟩ := three_cells hb1
                have HA2 : Hid _ := ha2
                have HB2 : Hid _ := hb2
                clear ha1 ha2 hb1 hb2
                go_wp2_with fail
                refine Calls.mono (cmpZ_any _ _ E 1024 (fval (q k).1) (fval (hiF q k)) _ HA2.out HB2.out (by omega) (by omega)) ?_
                rintro e Wc ⟨rfl, g⟩
                have Dc : Hid (DvK w Wc (w.heap.size + 1 + 1) Px Py OX OY vA vB vC vD E (fval al) (fval ah) (fval bl) (fval bh)) := DvK.later Ds.out g
                have Oc : Hid _ := keep0 Os.out g
                have Lc : Hid _ := VarF.later Ls.out g
                have Uc : Hid _ := VarF.later Us.out g
                have Vc : Hid _ := VarF.later Vs.out g
                clear g a0 a1 a2 b0 b1 b2 HA2 HB2 Ds Os Ls Us Vs 
                by_cases hc2 : fval (hiF q k) < fval (q k).1
                · have hd2 : decide (0 < sgi (fval (q k).1 - fval (hiF q k))) = true := decide_eq_true (by unfold sgi; split; omega; split <;> omega)
                  have hh := (hi_next (p := q) hk0).1 hc2
                  generalize sgi (fval (q k).1 - fval (hiF q k)) = s2 at hd2 ⊢
                  clear hc2
                  obtain ⟨na, oa, la, ca, ea, ha1, ha2⟩ := Vc.out
                  obtain ⟨a0, a1, a2⟩ := three_cells ha1
                  have HA2 : Hid _ := ha2
                  have NB1 : Hid (NumB Wc (So + 1 + 1)) := VarF.num Uc.out
                  obtain ⟨nb', ob', lb', cb', eb', hb1⟩ := NB1.out
                  obtain ⟨b0, b1, b2⟩ := three_cells hb1
                  have fb := fun j => frozen_of_row _ _ j _ _ hb1
                  have HB1 : Hid _ := hb1
                  clear ha1 ha2 hb1
                  go_upto_region 23 with fail
                  have t3 : ∀ B, B ≠ (So + 1 + 1) → _ := fun B hB => set3_other (w := Wc) (Value.bool na) (Value.slice oa la ca) (Value.int IntKind.i64 ea) hB
                  have D3 : Hid (DvK w _ (w.heap.size + 1 + 1) Px Py OX OY vA vB vC vD E (fval al) (fval ah) (fval bl) (fval bh)) := set3_dv Dc.out (by omega) (by have := hSo; have := hRlt; omega) NB1.out na oa la ca ea
                  have O3 : Hid _ := (t3 So (by omega)).trans Oc.out
                  have own3 : Hid (VarF _ (So + 1 + 1) E (fval (q k).1)) := ⟨na, oa, la, ca, ea, set3_heap _ _ _ HB1.out, NumZ.set3 _ _ _ NB1.out HA2.out⟩
                  have oth3 : Hid _ := VarF.oth Lc.out (by omega) (NumB.not NB1.out) t3
                  clear t3 a0 a1 a2 b0 b1 b2 fb HA2 HB1 NB1 Dc Oc Lc Uc Vc 
                  generalize (((Wc.setCell ⟨So + 1 + 1, 0, none⟩ (Value.bool na)).setCell ⟨So + 1 + 1, 1, none⟩ (Value.slice oa la ca)).setCell ⟨So + 1 + 1, 2, none⟩ (Value.int IntKind.i64 ea)) = W3 at D3 O3 own3 oth3  ⊢
                  obtain ⟨q0, q1, q2⟩ := cells3 O3.out
                  have fq := fun j => frozen_of_row _ _ j _ _ O3.out
                  go_upto_region 11 with fail
                  have t4 : ∀ B, B ≠ So → _ := fun B hB => heap_setCell_other W3 ⟨So, 1, none⟩ B (Value.int .u64 ((q k).1 : Int)) hB
                  have Dz : Hid (DvK w _ (w.heap.size + 1 + 1) Px Py OX OY vA vB vC vD E (fval al) (fval ah) (fval bl) (fval bh)) := set1_dv (j := 1) D3.out (by omega) (by have := hSo; have := hRlt; omega) O3.out (Value.int .u64 ((q k).1 : Int))
                  have Oz : Hid _ := (set1_heap ((q k).1 : Int) O3.out).2.1
                  have Uz : Hid _ := VarF.oth own3.out (by omega) (noU32 O3.out) t4
                  have Lz : Hid _ := VarF.oth oth3.out (by omega) (noU32 O3.out) t4
                  clear t4 q0 q1 q2 fq D3 O3 own3 oth3 
                  generalize (W3.setCell ⟨So, 1, none⟩ (Value.int .u64 ((q k).1 : Int))) = Wz at Dz Oz Uz Lz  ⊢
                  go_wp2_with fail
                  go_roundw
                  case rel => exact ⟨k + 1, by omega, by go_num, HFL.out, Dz, (by unfold Hid; rw [hl, hh]; exact Oz.out), (by unfold Hid; rw [hl]; exact Lz.out), (by unfold Hid; rw [hh]; exact Uz.out)⟩
                  case measure => simp [intOf]; omega
                · have hd2 : decide (0 < sgi (fval (q k).1 - fval (hiF q k))) = false := decide_eq_false (by unfold sgi; split; omega; split <;> omega)
                  have hh := (hi_next (p := q) hk0).2 hc2
                  generalize sgi (fval (q k).1 - fval (hiF q k)) = s2 at hd2 ⊢
                  clear hc2
                  go_wp2_with fail
                  go_roundw
                  case rel => exact ⟨k + 1, by omega, by go_num, HFL.out, Dc, (by unfold Hid; rw [hl, hh]; exact Oc.out), (by unfold Hid; rw [hl]; exact Lc.out), (by unfold Hid; rw [hh]; exact Uc.out)⟩
                  case measure => simp [intOf]; omega
              · have hd1 : decide (sgi (fval (p k).1 - fval (loF p k)) < 0) = false := decide_eq_false (by unfold sgi; split; omega; split <;> omega)
                have hl := (lo_next (p := p) hk0).2 hc1
                generalize sgi (fval (p k).1 - fval (loF p k)) = s1 at hd1 ⊢
                clear hc1
                go_upto_region 21 with fail
                obtain ⟨na, oa, la, ca, ea, ha1, ha2⟩ := Xd.out
                obtain ⟨a0, a1, a2⟩ := three_cells ha1
                obtain ⟨nb', ob', lb', cb', eb', hb1, hb2⟩ := Ud.out
                obtain ⟨b0, b1, b2⟩ := three_cells hb1
                have HA2 : Hid _ := ha2
                have HB2 : Hid _ := hb2
                clear ha1 ha2 hb1 hb2
                go_wp2_with fail
                refine Calls.mono (cmpZ_any _ _ E 1024 (fval (q k).1) (fval (hiF q k)) _ HA2.out HB2.out (by omega) (by omega)) ?_
                rintro e Wc ⟨rfl, g⟩
                have Dc : Hid (DvK w Wc (w.heap.size + 1 + 1) Px Py OX OY vA vB vC vD E (fval al) (fval ah) (fval bl) (fval bh)) := DvK.later Dd.out g
                have Oc : Hid _ := keep0 Od.out g
                have Lc : Hid _ := VarF.later Ld.out g
                have Uc : Hid _ := VarF.later Ud.out g
                have Vc : Hid _ := VarF.later Xd.out g
                clear g a0 a1 a2 b0 b1 b2 HA2 HB2 Dd Od Ld Ud Xd 
                by_cases hc2 : fval (hiF q k) < fval (q k).1
                · have hd2 : decide (0 < sgi (fval (q k).1 - fval (hiF q k))) = true := decide_eq_true (by unfold sgi; split; omega; split <;> omega)
                  have hh := (hi_next (p := q) hk0).1 hc2
                  generalize sgi (fval (q k).1 - fval (hiF q k)) = s2 at hd2 ⊢
                  clear hc2
                  obtain ⟨na, oa, la, ca, ea, ha1, ha2⟩ := Vc.out
                  obtain ⟨a0, a1, a2⟩ := three_cells ha1
                  have HA2 : Hid _ := ha2
                  have NB1 : Hid (NumB Wc (So + 1 + 1)) := VarF.num Uc.out
                  obtain ⟨nb', ob', lb', cb', eb', hb1⟩ := NB1.out
                  obtain ⟨b0, b1, b2⟩ := three_cells hb1
                  have fb := fun j => frozen_of_row _ _ j _ _ hb1
                  have HB1 : Hid _ := hb1
                  clear ha1 ha2 hb1
                  go_upto_region 23 with fail
                  have t3 : ∀ B, B ≠ (So + 1 + 1) → _ := fun B hB => set3_other (w := Wc) (Value.bool na) (Value.slice oa la ca) (Value.int IntKind.i64 ea) hB
                  have D3 : Hid (DvK w _ (w.heap.size + 1 + 1) Px Py OX OY vA vB vC vD E (fval al) (fval ah) (fval bl) (fval bh)) := set3_dv Dc.out (by omega) (by have := hSo; have := hRlt; omega) NB1.out na oa la ca ea
                  have O3 : Hid _ := (t3 So (by omega)).trans Oc.out
                  have own3 : Hid (VarF _ (So + 1 + 1) E (fval (q k).1)) := ⟨na, oa, la, ca, ea, set3_heap _ _ _ HB1.out, NumZ.set3 _ _ _ NB1.out HA2.out⟩
                  have oth3 : Hid _ := VarF.oth Lc.out (by omega) (NumB.not NB1.out) t3
                  clear t3 a0 a1 a2 b0 b1 b2 fb HA2 HB1 NB1 Dc Oc Lc Uc Vc 
                  generalize (((Wc.setCell ⟨So + 1 + 1, 0, none⟩ (Value.bool na)).setCell ⟨So + 1 + 1, 1, none⟩ (Value.slice oa la ca)).setCell ⟨So + 1 + 1, 2, none⟩ (Value.int IntKind.i64 ea)) = W3 at D3 O3 own3 oth3  ⊢
                  obtain ⟨q0, q1, q2⟩ := cells3 O3.out
                  have fq := fun j => frozen_of_row _ _ j _ _ O3.out
                  go_upto_region 11 with fail
                  have t4 : ∀ B, B ≠ So → _ := fun B hB => heap_setCell_other W3 ⟨So, 1, none⟩ B (Value.int .u64 ((q k).1 : Int)) hB
                  have Dz : Hid (DvK w _ (w.heap.size + 1 + 1) Px Py OX OY vA vB vC vD E (fval al) (fval ah) (fval bl) (fval bh)) := set1_dv (j := 1) D3.out (by omega) (by have := hSo; have := hRlt; omega) O3.out (Value.int .u64 ((q k).1 : Int))
                  have Oz : Hid _ := (set1_heap ((q k).1 : Int) O3.out).2.1
                  have Uz : Hid _ := VarF.oth own3.out (by omega) (noU32 O3.out) t4
                  have Lz : Hid _ := VarF.oth oth3.out (by omega) (noU32 O3.out) t4
                  clear t4 q0 q1 q2 fq D3 O3 own3 oth3 
                  generalize (W3.setCell ⟨So, 1, none⟩ (Value.int .u64 ((q k).1 : Int))) = Wz at Dz Oz Uz Lz  ⊢
                  go_wp2_with fail
                  go_roundw
                  case rel => exact ⟨k + 1, by omega, by go_num, HFL.out, Dz, (by unfold Hid; rw [hl, hh]; exact Oz.out), (by unfold Hid; rw [hl]; exact Lz.out), (by unfold Hid; rw [hh]; exact Uz.out)⟩
                  case measure => simp [intOf]; omega
                · have hd2 : decide (0 < sgi (fval (q k).1 - fval (hiF q k))) = false := decide_eq_false (by unfold sgi; split; omega; split <;> omega)
                  have hh := (hi_next (p := q) hk0).2 hc2
                  generalize sgi (fval (q k).1 - fval (hiF q k)) = s2 at hd2 ⊢
                  clear hc2
                  go_wp2_with fail
                  go_roundw
                  case rel => exact ⟨k + 1, by omega, by go_num, HFL.out, Dc, (by unfold Hid; rw [hl, hh]; exact Oc.out), (by unfold Hid; rw [hl]; exact Lc.out), (by unfold Hid; rw [hh]; exact Uc.out)⟩
                  case measure => simp [intOf]; omega
      · have hd : decide ((k : Int) < 4) = false := decide_eq_false (by omega)
        obtain rfl : k = 4 := by omega
        have HSP : Hid (DivR al ah bl bh ab bb E (loF p 4, hiF q 4, false)) := QQ.out.good hfl
        obtain ⟨q0, q1, q2⟩ := cells3 OK.out
        have fq := fun j => frozen_of_row _ _ j _ _ OK.out
        go_upto_region 25 with fail
        have t4 : ∀ B, B ≠ So → _ := fun B hB => heap_setCell_other wr ⟨So, 2, none⟩ B (Value.bool false) hB
        have O4 : Hid _ := (set1_heap 0 OK.out).2.2 false
        have R4 : Hid _ := (t4 _ (by omega)).trans DK.out.rs
        have C4 : Hid (Below w.heap.size w _) := below_set1 (j := 2) (Value.bool false) DK.out.bel (show w.heap.size ≤ So by have := hSo; have := hRlt; omega)
        clear t4 q0 q1 q2 fq DK OK LK UK
        generalize (wr.setCell ⟨So, 2, none⟩ (Value.bool false)) = W4 at O4 R4 C4 ⊢
        obtain ⟨q0, q1, q2⟩ := cells3 O4.out
        obtain ⟨r0, r1, r2⟩ := cells3 R4.out
        have fz := fun j => frozen_of_row _ _ j _ _ R4.out
        go_wp2_with fail
        refine bodyPost_ret (v := .agg #[.int .u64 (loF p 4 : Int), .int .u64 (hiF q 4 : Int), .bool false]) (res_su _ 4 (by kernel_rfl) _ _ (w.heap.size + 1 + 1) _ _ _ ?_ (setsp_heap _ _ _ R4.out)) rfl ?_
        · rfl
        · exact ⟨(loF p 4, hiF q 4, false), rfl, HSP.out, below_setsp _ _ _ C4.out (by omega)⟩
  · have HSP : Hid (DivR al ah bl bh ab bb E (0, 0, true)) := by unfold Hid DivR; rw [if_neg hq]
    obtain rfl : c = true := by
      rw [← HCC.out, ← HDG.out, ← HDF.out]
      by_cases h1 : Good al ah ab
      · by_cases h2 : Good bl bh bb
        · rw [decide_eq_true h1, decide_eq_true h2, F2.out h2.2.1, H2.out h2.2.2.1]
          have := hasB_zero h2
          have h3 : hasB bl bh 0 = true := by
            cases hh : hasB bl bh 0
            · exact absurd ⟨h1, h2, hh⟩ hq
            · rfl
          rw [h3] at this
          rw [← this]; rfl
        · rw [decide_eq_false h2]; simp
      · rw [decide_eq_false h1]; simp
    clear hq F1 H1 F2 H2 HDG HDF HCC HCX
    go_wp2_with fail
    refine Calls.mono (refBad_any _) ?_
    rintro e w4 ⟨rfl, bw⟩
    have R4 : Hid _ := (bw.block _ (blk_lt RX.out)).trans RX.out
    have C4 : Hid (Below w.heap.size w w4) := CX.out.trans (bw.mono CX.out.size)
    clear bw
    obtain ⟨r0, r1, r2⟩ := cells3 R4.out
    have fz := fun j => frozen_of_row _ _ j _ _ R4.out
    go_wp2_with fail
    refine bodyPost_ret (v := .agg #[.int .u64 0, .int .u64 0, .bool true]) (res_su _ 4 (by kernel_rfl) _ _ (w.heap.size + 1 + 1) _ _ _ ?_ (setsp_heap _ _ _ R4.out)) rfl ?_
    · rfl
    · exact ⟨(0, 0, true), rfl, HSP.out, below_setsp _ _ _ C4.out (by omega)⟩
end Go.Proofs.YtnjjichanfpbhaaGreat
