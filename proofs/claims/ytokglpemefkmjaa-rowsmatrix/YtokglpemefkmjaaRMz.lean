import Derived.Test.YtokglpemefkmjaaRMy
namespace Go.Proofs.Ytokglpemefkmjaa
open Go.RowKit
set_option linter.unusedVariables false
set_option linter.unusedSimpArgs false
set_option maxRecDepth 100000 in
set_option maxHeartbeats 8000000 in
theorem lawMA (kd : Int) (hkd : kd = 1 ∨ kd = 3 ∨ kd = 6) (g0 g1 g2 g3 g4 g5 g6 seed c h k : Int) (AV : Nat) (hM : ∀ w, Calls Try.prog 5 #[.agg #[.int .i64 kd, .int .i64 g0, .int .i64 g1, .int .i64 g2, .int .i64 g3, .int .i64 g4, .int .i64 g5, .int .i64 g6, .int .i64 seed], .agg #[.int .i64 c, .int .i64 h, .int .i64 k]] w fun e w' => MdM false kd g0 g1 g2 g3 g4 g5 g6 c h k AV (wrap64 (seed + 1)) w' e ∧ Below w.heap.size w w') (w : World) :
    Calls Try.prog 3 #[.agg #[.int .i64 kd, .int .i64 g0, .int .i64 g1, .int .i64 g2, .int .i64 g3, .int .i64 g4, .int .i64 g5, .int .i64 g6, .int .i64 seed], .agg #[.int .i64 c, .int .i64 h, .int .i64 k]] w fun e w' => e = .returned (.bool true) ∧ Below w.heap.size w w' := by
  have HM : Hid _ := hM
  have HTO : Hid _ := told7
  have HLI : Hid _ := linear_any
  clear hM
  have X0 : Below w.heap.size w ((w.alloc (.cells #[.int .i64 kd, .int .i64 g0, .int .i64 g1, .int .i64 g2, .int .i64 g3, .int .i64 g4, .int .i64 g5, .int .i64 g6, .int .i64 seed] 23)).alloc (.cells #[.int .i64 c, .int .i64 h, .int .i64 k] 25)) := ((Below.refl _ w).alloc (Nat.le_refl _) _).alloc (by simp only [alloc_size]; omega) _
  have HW0 : ((w.alloc (.cells #[.int .i64 kd, .int .i64 g0, .int .i64 g1, .int .i64 g2, .int .i64 g3, .int .i64 g4, .int .i64 g5, .int .i64 g6, .int .i64 seed] 23)).alloc (.cells #[.int .i64 c, .int .i64 h, .int .i64 k] 25)).heap[w.heap.size]? = some (.cells #[.int .i64 kd, .int .i64 g0, .int .i64 g1, .int .i64 g2, .int .i64 g3, .int .i64 g4, .int .i64 g5, .int .i64 g6, .int .i64 seed] 23) := alloc_kept (heap_alloc_new w _) _
  have HS0 : ((w.alloc (.cells #[.int .i64 kd, .int .i64 g0, .int .i64 g1, .int .i64 g2, .int .i64 g3, .int .i64 g4, .int .i64 g5, .int .i64 g6, .int .i64 seed] 23)).alloc (.cells #[.int .i64 c, .int .i64 h, .int .i64 k] 25)).heap[w.heap.size + 1]? = some (.cells #[.int .i64 c, .int .i64 h, .int .i64 k] 25) := heap_at _ _ (w.heap.size + 1) (by simp only [alloc_size])
  go_enter Try.func3, Try.ntmps3
  go_wp2_with (first | (refine wpList_load_row (by rfl) 23 _ (by rfl) w.heap.size _ (by rfl) HW0 _ Try.underlying23 rfl 9 Try.infoWholeM (by rfl) ?_) | (refine wpList_load_row (by rfl) 25 _ (by rfl) (w.heap.size + 1) _ (by rfl) HS0 _ Try.underlying25 rfl 3 Try.infoShape (by rfl) ?_))
  refine Calls.mono (HM.out _) ?_
  rintro e w1 ⟨hmd, hb⟩
  have H1 : Hid (Below w.heap.size w w1 ∧ w1.heap[w.heap.size + 1]? = _ ∧ w1.heap[w.heap.size]? = _) := ⟨to_call X0 hb, kept hb HS0, kept hb HW0⟩
  clear hb X0 HW0 HS0 HM
  rcases hmd with rfl | ⟨v1, v2, v3, v4, m4, N, n, want, rfl, hK, hP, hW⟩
  · go_upto_region 2 with (first | (refine wpList_store_row (by rfl) 30 _ _ (by rfl) w1 w1.heap.size w1.heap.size _ _ (by rfl) (by rfl) (heap_alloc_new w1 _) ((Below.refl _ w1).alloc (Nat.le_refl _) _) (Nat.le_refl _) 14 Try.infoLy (by rfl) (by rfl) (one14i _ _ _ _ _ _ _ _ _ _ _ _ _ _ rfl rfl rfl rfl) ?_; intro W2 e2 hb2 hs2 ho2))
    have H2 : Hid (Below w.heap.size w W2) := to_call H1.out.1 hb2
    clear hb2 hs2 ho2 e2 H1
    go_wp2_with fail
    refine Calls.mono (HTO.out _) ?_
    rintro e w7 ⟨rfl, hb7⟩
    have H7 : Hid (Below w.heap.size w w7) := to_call H2.out hb7
    clear hb7 H2
    go_wp2_with fail
    go_ret
    exact ⟨rfl, H7.out⟩
  have KT : Hid _ := hK
  have HPL : Hid _ := hP
  have HWN : Hid _ := hW
  clear hK hP hW
  go_upto_region 2 with (first | (refine wpList_store_row (by rfl) 30 _ _ (by rfl) w1 w1.heap.size w1.heap.size _ _ (by rfl) (by rfl) (heap_alloc_new w1 _) ((Below.refl _ w1).alloc (Nat.le_refl _) _) (Nat.le_refl _) 14 Try.infoLy (by rfl) (by rfl) (one14i _ _ _ _ _ _ _ _ _ _ _ _ _ _ KT.out.one.1 KT.out.one.2.1 KT.out.one.2.2.1 KT.out.one.2.2.2) ?_; intro W2 e2 hb2 hs2 ho2))
  obtain ⟨B, hB⟩ : ∃ B, w1.heap.size = B := ⟨_, rfl⟩
  have H2 : Hid (Below w1.heap.size w1 W2 ∧ Below w.heap.size w W2 ∧ W2.heap[w.heap.size + 1]? = _ ∧ W2.heap[B]? = _ ∧ W2.heap[w.heap.size]? = _) := ⟨hb2, to_call H1.out.1 hb2, kept hb2 H1.out.2.1, hB ▸ e2, kept hb2 H1.out.2.2⟩
  rw [hB]
  clear hb2 hs2 ho2 e2 H1 hB
  have l0 := cellAt H2.out.2.2.2.1 0 (.int .i64 kd) rfl
  have hli : decide (1 ≤ kd ∧ kd ≤ 6) = true := decide_eq_true (by omega)
  have k5 : (kd == 5) = false := beq_eq_false_iff_ne.2 (by omega)
  have k2 : (kd == 2) = false := beq_eq_false_iff_ne.2 (by omega)
  have k4 : (kd == 4) = false := beq_eq_false_iff_ne.2 (by omega)
  clear hkd
  go_wp2_with fail
  refine Calls.mono (HLI.out _ _) ?_
  rintro e wz ⟨rfl, hwz⟩
  rw [hwz]
  clear hwz wz
  rw [hli]
  have s0 := cellAt H2.out.2.2.1 0 (.int .i64 c) rfl
  have s1 := cellAt H2.out.2.2.1 1 (.int .i64 h) rfl
  have s2 := cellAt H2.out.2.2.1 2 (.int .i64 k) rfl
  have x8 := cellAt H2.out.2.2.2.2 8 (.int .i64 seed) rfl
  have p1 := KT.out.q4
  have p2 := KT.out.q5
  go_wp2_with fail
  refine Calls.mono (input_any seed _ n rfl (by have := KT.out.nn; omega) _) ?_
  rintro e W3 ⟨vv, rfl, ov, hb⟩
  obtain ⟨av, cv, rfl, hrd⟩ := rdM ov (by rw [inZ_len]; have := KT.out.nn; omega)
  rw [inZ_len] at hrd ⊢
  have H3 : Hid (Below w1.heap.size w1 W3 ∧ Below w.heap.size w W3 ∧ W3.heap[w.heap.size + 1]? = _ ∧ W3.heap[B]? = _ ∧ RdIn W3 av n cv (inZ (wrap64 (seed + 1)) n)) := ⟨to_call H2.out.1 hb, to_call H2.out.2.1 hb, kept hb H2.out.2.2.1, kept hb H2.out.2.2.2.1, hrd⟩
  clear hb H2 l0 s0 s1 s2 x8 p1 p2 hli ov hrd
  have HS0 := H3.out.2.2.1
  have HL0 := H3.out.2.2.2.1
  go_wp2_with (first | (refine wpList_load_row (by rfl) 30 _ (by rfl) B _ (by rfl) HL0 _ Try.underlying30 rfl 14 Try.infoLy (by rfl) ?_) | (refine wpList_load_row (by rfl) 25 _ (by rfl) (w.heap.size + 1) _ (by rfl) HS0 _ Try.underlying25 rfl 3 Try.infoShape (by rfl) ?_))
  refine Calls.mono (HPL.out _ _ _ H3.out.1 H3.out.2.2.2.2) ?_
  rintro e W4 ⟨pv, rfl, ow, hb⟩
  obtain ⟨aw, cw, hwv, hrw⟩ := rdM ow (by rw [if_neg (by decide), KT.out.len]; have := KT.out.nn; omega)
  subst hwv
  rw [if_neg (by decide), KT.out.len] at hrw
  rw [if_neg (by decide), KT.out.len]
  have H5 : Hid (Below w1.heap.size w1 W4 ∧ Below w.heap.size w W4 ∧ W4.heap[w.heap.size + 1]? = _ ∧ W4.heap[B]? = _ ∧ RdIn W4 av n cv (inZ (wrap64 (seed + 1)) n) ∧ RdIn W4 aw N cw want) := ⟨to_call H3.out.1 hb, to_call H3.out.2.1 hb, kept hb H3.out.2.2.1, kept hb H3.out.2.2.2.1, H3.out.2.2.2.2.later hb, hrw⟩
  clear hb H3 HS0 HL0 ow hrw
  have HS0 := H5.out.2.2.1
  have HL0 := H5.out.2.2.2.1
  have l0 := cellAt HL0 0 (.int .i64 kd) rfl
  go_wp2_with (first | (refine wpList_load_row (by rfl) 30 _ (by rfl) B _ (by rfl) HL0 _ Try.underlying30 rfl 14 Try.infoLy (by rfl) ?_) | (refine wpList_load_row (by rfl) 25 _ (by rfl) (w.heap.size + 1) _ (by rfl) HS0 _ Try.underlying25 rfl 3 Try.infoShape (by rfl) ?_))
  refine Calls.mono (KT.out.cnt _) ?_
  rintro e X ⟨rfl, hb⟩
  have H6 : Hid (Below w1.heap.size w1 X ∧ Below w.heap.size w X ∧ X.heap[w.heap.size + 1]? = _ ∧ X.heap[B]? = _ ∧ RdIn X av n cv (inZ (wrap64 (seed + 1)) n) ∧ RdIn X aw N cw want) := ⟨to_call H5.out.1 hb, to_call H5.out.2.1 hb, kept hb H5.out.2.2.1, kept hb H5.out.2.2.2.1, H5.out.2.2.2.2.1.later hb, H5.out.2.2.2.2.2.later hb⟩
  clear hb H5 l0 HS0 HL0
  go_wp2_with fail
  refine Calls.mono (HTO.out _) ?_
  rintro e Y ⟨rfl, hb⟩
  have HY : Hid (Below w1.heap.size w1 Y ∧ Below w.heap.size w Y ∧ Y.heap[w.heap.size + 1]? = _ ∧ Y.heap[B]? = _ ∧ RdIn Y av n cv (inZ (wrap64 (seed + 1)) n) ∧ RdIn Y aw N cw want) := ⟨to_call H6.out.1 hb, to_call H6.out.2.1 hb, kept hb H6.out.2.2.1, kept hb H6.out.2.2.2.1, H6.out.2.2.2.2.1.later hb, H6.out.2.2.2.2.2.later hb⟩
  clear hb H6 HTO
  obtain ⟨vs, hvs⟩ : ∃ vs, inZ (wrap64 (seed + 1)) n = vs := ⟨_, rfl⟩
  have HVB : Hid (∀ j : Nat, -9 ≤ vs[j]?.getD 0 ∧ vs[j]?.getD 0 ≤ 9) := fun j => hvs ▸ inZ_bd _ _ j
  rw [hvs] at KT HY
  clear hvs HPL HWN
  obtain ⟨bv, fv, hav, hvl, hvc⟩ := HY.out.2.2.2.2.1.at (by have := KT.out.nn; omega)
  obtain ⟨bw, fw, haw, hwl, hwc⟩ := HY.out.2.2.2.2.2.at (by have := KT.out.nn; omega)
  subst hav haw
  have HVC : Hid (bv < Y.heap.size ∧ ∀ j, j < n → Y.cell? ⟨bv, fv + j, none⟩ = some (.int .i64 (vs[j]?.getD 0))) := ⟨hvl, hvc⟩
  have HWC : Hid (bw < Y.heap.size ∧ ∀ j, j < N → Y.cell? ⟨bw, fw + j, none⟩ = some (.int .i64 (want[j]?.getD 0))) := ⟨hwl, hwc⟩
  clear hvl hvc hwl hwc
  go_wp2_with fail
  go_loopg [12] N (fun g v wx => ∃ i : Nat, v = .int .i64 i ∧ i + g = N ∧ Hid (Below Y.heap.size Y wx))
  case atStart => exact ⟨0, rfl, by omega, Below.refl _ _⟩
  case round =>
    obtain ⟨i, rfl, hi, HB⟩ := hrel
    obtain ⟨Z, rfl⟩ : ∃ Z, Z = wr := ⟨_, rfl⟩
    by_cases hlt : i < N
    · obtain ⟨g, rfl⟩ : ∃ g, gk = g + 1 := ⟨gk - 1, by omega⟩
      have HN : Hid (i < N ∧ N ≤ 256 ∧ i + (g + 1) = N) := ⟨hlt, KT.out.nn.2.1, hi⟩
      have hd : decide ((i : Int) < (N : Int)) = true := decide_eq_true (by omega)
      have HS0 := kept HB.out HY.out.2.2.1
      have HL0 := kept HB.out HY.out.2.2.2.1
      clear hi
      go_wp2_with (first | (refine wpList_load_row (by rfl) 30 _ (by rfl) B _ (by rfl) HL0 _ Try.underlying30 rfl 14 Try.infoLy (by rfl) ?_) | (refine wpList_load_row (by rfl) 25 _ (by rfl) (w.heap.size + 1) _ (by rfl) HS0 _ Try.underlying25 rfl 3 Try.infoShape (by rfl) ?_))
      refine Calls.mono (KT.out.row i HN.out.1 _ (to_call HY.out.1 HB.out)) ?_
      rintro e w7 ⟨u1, u2, b, xs, ws, rfl, hrv, hrg, hb7⟩
      obtain ⟨ap, cp, hu1, hrd⟩ := hrv.rdI (Nat.le_trans hrg.le (by decide))
      obtain ⟨aq, cq, hu2, hrq⟩ := hrv.rdF (by rw [hrg.len]; exact Nat.le_trans hrg.le (by decide)) hrg.lt
      subst hu1 hu2
      obtain ⟨L, hL⟩ : ∃ L, xs.length = L := ⟨_, rfl⟩
      have hLw : ws.length = L := hrg.len.trans hL
      rw [hL] at hrd ⊢
      rw [hLw] at hrq ⊢
      obtain ⟨bz, zs, hfb, hbz, hzs, hsum⟩ := hrg.sum
      rw [hL] at hzs hsum
      have HG : Hid (L ≤ 256 ∧ xs.Pairwise (· < ·) ∧ (∀ x ∈ xs, 0 ≤ x ∧ x < (n : Int)) ∧ (∀ k, k < L → FW (ws[k]?.getD 0) (zs k) ∧ (-9 ≤ zs k ∧ zs k ≤ 9)) ∧ bz + Sg (fun k => zs k * vs[(xs[k]?.getD 0).toNat]?.getD 0) L = want[i]?.getD 0 ∧ (-9 ≤ bz ∧ bz ≤ 9) ∧ xs.length = L) := ⟨hL ▸ hrg.le, hrg.rise, hrg.mem, hzs, hsum, hbz, hL⟩
      have HR7 : Hid (RdIn w7 ap L cp xs ∧ RdF w7 aq L cq ws) := ⟨hrd, hrq⟩
      have G7 : Hid (Below w1.heap.size w1 w7 ∧ Below Y.heap.size Y w7) := ⟨to_call HY.out.1 (to_call HB.out hb7), to_call HB.out hb7⟩
      have hcb : ∀ w, (convert 26 3 (.float .f64 b)).run Try.prog w = .ok (.int .i64 bz) w := fun w => conv_fw hfb (by omega) w
      clear hb7 HS0 HL0 HB hd hrv hrg hrd hrq hL hLw hzs hsum hfb hbz hlt
      go_wp2_with fail
      clear hcb
      go_loopg [17, 18] L (fun g sv v wx => ∃ (j : Nat) (s : Int), sv = .int .i64 s ∧ v = .int .i64 j ∧ j + g = L ∧ Hid (s = bz + Sg (fun k => zs k * vs[(xs[k]?.getD 0).toNat]?.getD 0) j) ∧ Hid (Below w7.heap.size w7 wx))
      case atStart => exact ⟨0, bz, rfl, rfl, by omega, (Int.add_zero bz).symm, Below.refl _ _⟩
      case round =>
        obtain ⟨j, s, rfl, rfl, hj, HS, HB2⟩ := hrel
        by_cases hlt : j < L
        · obtain ⟨g2, rfl⟩ : ∃ g2, gk = g2 + 1 := ⟨gk - 1, by omega⟩
          have HJ : Hid (j < L ∧ j + (g2 + 1) = L) := ⟨hlt, hj⟩
          have hdj : decide ((j : Int) < (L : Int)) = true := decide_eq_true (by omega)
          have hxm := HG.out.2.2.1 _ (getD_memI (cs := xs) (j := j) (by rw [HG.out.2.2.2.2.2.2]; exact hlt))
          obtain ⟨x, hxn⟩ : ∃ x, xs[j]?.getD 0 = x := ⟨_, rfl⟩
          rw [hxn] at hxm
          rcases HR7.out.1.cells with z0 | ⟨b1, o1, hap, hc1⟩
          · exact absurd z0 (by omega)
          rcases HR7.out.2.cells with z0 | ⟨b2, o2, haq, hc2⟩
          · exact absurd z0 (by omega)
          subst hap haq
          have t0' := hc1 j hlt
          rw [hxn] at t0'
          have t0 : wr.cell? ⟨b1, o1 + j, none⟩ = some (.int .i64 x) := by rw [HB2.out.cell (p := ⟨b1, o1 + j, none⟩) (World.block_lt_of_cell? _ _ t0')]; exact t0'
          have HC1 : Hid (∀ j, j < L → w7.cell? ⟨b1, o1 + j, none⟩ = some (.int .i64 (xs[j]?.getD 0))) := hc1
          have HC2 : Hid (∀ j, j < L → w7.cell? ⟨b2, o2 + j, none⟩ = some (.float .f64 (ws[j]?.getD 0))) := hc2
          have i0 : (0 : Int) ≤ (j : Int) := by omega
          have i1 : (j : Int) < (L : Int) := by omega
          have HXN : Hid (0 ≤ x ∧ x < (n : Int) ∧ xs[j]?.getD 0 = x) := ⟨hxm.1, hxm.2, hxn⟩
          have d0 : decide (x < 0) = false := decide_eq_false (by omega)
          have d1 : decide ((n : Int) ≤ x) = false := decide_eq_false (by omega)
          clear hj hxm hxn t0' hc1 hc2
          by_cases hj0 : 0 < j
          · obtain ⟨j0, hj1⟩ : ∃ j0, j0 + 1 = j := ⟨j - 1, by omega⟩
            have dj : decide ((j : Int) > 0) = true := decide_eq_true (by omega)
            have k0 : (0 : Int) ≤ (j0 : Int) := by omega
            have k1 : (j0 : Int) < (L : Int) := by omega
            have wj : IntKind.i64.wrap ((j : Int) - 1) = (j0 : Int) := (wi_s (by have := HG.out.1; omega)).trans (by omega)
            have hxm0 := HG.out.2.2.1 _ (getD_memI (cs := xs) (j := j0) (by rw [HG.out.2.2.2.2.2.2]; omega))
            have hri := rise_at HG.out.2.1 (j := j0) (by rw [HG.out.2.2.2.2.2.2]; omega)
            rw [hj1, HXN.out.2.2] at hri
            obtain ⟨x', hxe'⟩ : ∃ x, xs[j0]?.getD 0 = x := ⟨_, rfl⟩
            rw [hxe'] at hri
            have t1' := HC1.out j0 (by omega)
            rw [hxe'] at t1'
            have t1 : wr.cell? ⟨b1, o1 + j0, none⟩ = some (.int .i64 x') := by rw [HB2.out.cell (p := ⟨b1, o1 + j0, none⟩) (World.block_lt_of_cell? _ _ t1')]; exact t1'
            have dx : decide (x ≤ x') = false := decide_eq_false (by omega)
            clear hj1 hxe' t1' hri hxm0
            go_upto_region 22 with fail
            go_quiet (fail)
            have HB3 : Hid (Below w7.heap.size w7 (wr.drewN nq)) := below_drewN HB2.out nq
            clear t0 d0 d1 dj wj k0 k1 t1 dx hdj HB2
            generalize wr.drewN nq = wd at HB3 ⊢
            obtain ⟨xn, hxn⟩ : ∃ xn : Nat, x = (xn : Int) := ⟨x.toNat, by have := HXN.out; omega⟩
            subst hxn
            obtain ⟨u, hu⟩ : ∃ u, ws[j]?.getD 0 = u := ⟨_, rfl⟩
            obtain ⟨y, hy⟩ : ∃ y, vs[xn]?.getD 0 = y := ⟨_, rfl⟩
            have hfz := HG.out.2.2.2.1 j HJ.out.1
            rw [hu] at hfz
            obtain ⟨z, hz⟩ : ∃ z, zs j = z := ⟨_, rfl⟩
            rw [hz] at hfz
            have hyb : -9 ≤ y ∧ y ≤ 9 := hy ▸ HVB.out xn
            have hzy := mul_small hfz.2 hyb
            obtain ⟨zy, hzye⟩ : ∃ zy, z * y = zy := ⟨_, rfl⟩
            rw [hzye] at hzy
            obtain ⟨s', hs'⟩ : ∃ s', s + zy = s' := ⟨_, rfl⟩
            have hsb := sum_bd (xs := xs) (fun k hk => (HG.out.2.2.2.1 k hk).2) HVB.out j (by have := HJ.out; omega)
            have HE : Hid (s' = bz + Sg (fun k => zs k * vs[(xs[k]?.getD 0).toNat]?.getD 0) (j + 1)) := by
              unfold Hid Sg
              rw [HXN.out.2.2, Int.toNat_natCast, hz, hy, hzye, ← hs', HS.out, Int.add_assoc]
            have b1z : -20000000 ≤ zy ∧ zy ≤ 20000000 := by omega
            have b2z : -20000000 ≤ s' ∧ s' ≤ 20000000 := by have := HS.out; have := HG.out.2.2.2.2.2.1; have := HG.out.1; have := HJ.out; omega
            have t0' := HC1.out j HJ.out.1
            rw [HXN.out.2.2] at t0'
            have t2' := HC2.out j HJ.out.1
            rw [hu] at t2'
            have t3' := HVC.out.2 xn (by have := HXN.out; omega)
            rw [hy] at t3'
            have t0 : wd.cell? ⟨b1, o1 + j, none⟩ = some (.int .i64 (xn : Int)) := by rw [HB3.out.cell (p := ⟨b1, o1 + j, none⟩) (World.block_lt_of_cell? _ _ t0')]; exact t0'
            have t2 : wd.cell? ⟨b2, o2 + j, none⟩ = some (.float .f64 u) := by rw [HB3.out.cell (p := ⟨b2, o2 + j, none⟩) (World.block_lt_of_cell? _ _ t2')]; exact t2'
            have t3 : wd.cell? ⟨bv, fv + xn, none⟩ = some (.int .i64 y) := by rw [(to_call G7.out.2 HB3.out).cell (p := ⟨bv, fv + xn, none⟩) HVC.out.1]; exact t3'
            have x0 : (0 : Int) ≤ (xn : Int) := by omega
            have x1 : (xn : Int) < (n : Int) := HXN.out.2.1
            have hzb : z.natAbs ≤ 1000000 := by have := hfz.2; omega
            have hcz : ∀ w, (convert 26 3 (.float .f64 u)).run Try.prog w = .ok (.int .i64 z) w := fun w => conv_fw hfz.1 hzb w
            have hj1 : j < 1000 := by have := HJ.out; have := HG.out.1; omega
            have p3 : IntKind.i64.wrap (z * y) = zy := by rw [hzye]; exact wrI b1z
            have p4 : IntKind.i64.wrap (s + zy) = s' := by rw [hs']; exact wrI b2z
            have hw1 : IntKind.i64.wrap ((j : Int) + 1) = (j : Int) + 1 := wr_1 hj1
            have hw2 : wrap64 ((j : Int) + 1) = (j : Int) + 1 := wr_2 hj1
            clear hu hy hfz hz hyb hzy hzye hs' hsb b1z b2z t0' t2' t3' hj1 hzb
            go_upto_region 24 with fail
            go_quiet (fail)
            have S9 : Hid (Below w7.heap.size w7 (wd.drewN nq)) := below_drewN HB3.out nq
            clear t0 t2 t3 x0 x1 hcz p3 p4 i0 i1
            go_wp2_with fail
            go_roundg g2
            case measure => omega
            case rel => exact ⟨j + 1, s', rfl, by go_num, by have := HJ.out; omega, HE, S9⟩
          · have dj : decide ((j : Int) > 0) = false := decide_eq_false (by omega)
            go_upto_region 22 with fail
            go_quiet (fail)
            have HB3 : Hid (Below w7.heap.size w7 (wr.drewN nq)) := below_drewN HB2.out nq
            clear t0 d0 d1 dj hdj HB2
            generalize wr.drewN nq = wd at HB3 ⊢
            obtain ⟨xn, hxn⟩ : ∃ xn : Nat, x = (xn : Int) := ⟨x.toNat, by have := HXN.out; omega⟩
            subst hxn
            obtain ⟨u, hu⟩ : ∃ u, ws[j]?.getD 0 = u := ⟨_, rfl⟩
            obtain ⟨y, hy⟩ : ∃ y, vs[xn]?.getD 0 = y := ⟨_, rfl⟩
            have hfz := HG.out.2.2.2.1 j HJ.out.1
            rw [hu] at hfz
            obtain ⟨z, hz⟩ : ∃ z, zs j = z := ⟨_, rfl⟩
            rw [hz] at hfz
            have hyb : -9 ≤ y ∧ y ≤ 9 := hy ▸ HVB.out xn
            have hzy := mul_small hfz.2 hyb
            obtain ⟨zy, hzye⟩ : ∃ zy, z * y = zy := ⟨_, rfl⟩
            rw [hzye] at hzy
            obtain ⟨s', hs'⟩ : ∃ s', s + zy = s' := ⟨_, rfl⟩
            have hsb := sum_bd (xs := xs) (fun k hk => (HG.out.2.2.2.1 k hk).2) HVB.out j (by have := HJ.out; omega)
            have HE : Hid (s' = bz + Sg (fun k => zs k * vs[(xs[k]?.getD 0).toNat]?.getD 0) (j + 1)) := by
              unfold Hid Sg
              rw [HXN.out.2.2, Int.toNat_natCast, hz, hy, hzye, ← hs', HS.out, Int.add_assoc]
            have b1z : -20000000 ≤ zy ∧ zy ≤ 20000000 := by omega
            have b2z : -20000000 ≤ s' ∧ s' ≤ 20000000 := by have := HS.out; have := HG.out.2.2.2.2.2.1; have := HG.out.1; have := HJ.out; omega
            have t0' := HC1.out j HJ.out.1
            rw [HXN.out.2.2] at t0'
            have t2' := HC2.out j HJ.out.1
            rw [hu] at t2'
            have t3' := HVC.out.2 xn (by have := HXN.out; omega)
            rw [hy] at t3'
            have t0 : wd.cell? ⟨b1, o1 + j, none⟩ = some (.int .i64 (xn : Int)) := by rw [HB3.out.cell (p := ⟨b1, o1 + j, none⟩) (World.block_lt_of_cell? _ _ t0')]; exact t0'
            have t2 : wd.cell? ⟨b2, o2 + j, none⟩ = some (.float .f64 u) := by rw [HB3.out.cell (p := ⟨b2, o2 + j, none⟩) (World.block_lt_of_cell? _ _ t2')]; exact t2'
            have t3 : wd.cell? ⟨bv, fv + xn, none⟩ = some (.int .i64 y) := by rw [(to_call G7.out.2 HB3.out).cell (p := ⟨bv, fv + xn, none⟩) HVC.out.1]; exact t3'
            have x0 : (0 : Int) ≤ (xn : Int) := by omega
            have x1 : (xn : Int) < (n : Int) := HXN.out.2.1
            have hzb : z.natAbs ≤ 1000000 := by have := hfz.2; omega
            have hcz : ∀ w, (convert 26 3 (.float .f64 u)).run Try.prog w = .ok (.int .i64 z) w := fun w => conv_fw hfz.1 hzb w
            have hj1 : j < 1000 := by have := HJ.out; have := HG.out.1; omega
            have p3 : IntKind.i64.wrap (z * y) = zy := by rw [hzye]; exact wrI b1z
            have p4 : IntKind.i64.wrap (s + zy) = s' := by rw [hs']; exact wrI b2z
            have hw1 : IntKind.i64.wrap ((j : Int) + 1) = (j : Int) + 1 := wr_1 hj1
            have hw2 : wrap64 ((j : Int) + 1) = (j : Int) + 1 := wr_2 hj1
            clear hu hy hfz hz hyb hzy hzye hs' hsb b1z b2z t0' t2' t3' hj1 hzb
            go_upto_region 24 with fail
            go_quiet (fail)
            have S9 : Hid (Below w7.heap.size w7 (wd.drewN nq)) := below_drewN HB3.out nq
            clear t0 t2 t3 x0 x1 hcz p3 p4 i0 i1
            go_wp2_with fail
            go_roundg g2
            case measure => omega
            case rel => exact ⟨j + 1, s', rfl, by go_num, by have := HJ.out; omega, HE, S9⟩
        · obtain rfl : L = j := by omega
          have hdj : decide ((L : Int) < (L : Int)) = false := decide_eq_false (by omega)
          have hse : s = want[i]?.getD 0 := HS.out.trans HG.out.2.2.2.2.1
          have t9' := HWC.out.2 i HN.out.1
          have hb9 : Below Y.heap.size Y wr := to_call G7.out.2 HB2.out
          have t9 : wr.cell? ⟨bw, fw + i, none⟩ = some (.int .i64 s) := by rw [hb9.cell (p := ⟨bw, fw + i, none⟩) HWC.out.1, hse]; exact t9'
          have i0 : (0 : Int) ≤ (i : Int) := by omega
          have i1 : (i : Int) < (N : Int) := by have := HN.out; omega
          have H9 : Hid (Below Y.heap.size Y wr) := hb9
          have hi1 : i < 1000 := by have := HN.out; omega
          have hw1 : IntKind.i64.wrap ((i : Int) + 1) = (i : Int) + 1 := wr_1 hi1
          have hw2 : wrap64 ((i : Int) + 1) = (i : Int) + 1 := wr_2 hi1
          clear hse t9' hb9 hj hi1
          go_wp2_with fail
          go_roundg g
          case measure => omega
          case rel => exact ⟨i + 1, by go_num, by have := HN.out; omega, H9⟩
    · obtain rfl : N = i := by omega
      have hd : decide ((N : Int) < (N : Int)) = false := decide_eq_false (by omega)
      have H9 : Hid (Below w.heap.size w Z) := to_call HY.out.2.1 HB.out
      clear hi
      go_wp2_with fail
      go_ret
      exact ⟨rfl, H9.out⟩
set_option maxRecDepth 100000 in
set_option maxHeartbeats 8000000 in
theorem lawMC (g0 g1 g2 g3 g4 g5 g6 seed c h k : Int) (AV : Nat) (hM : ∀ w, Calls Try.prog 5 #[.agg #[.int .i64 2, .int .i64 g0, .int .i64 g1, .int .i64 g2, .int .i64 g3, .int .i64 g4, .int .i64 g5, .int .i64 g6, .int .i64 seed], .agg #[.int .i64 c, .int .i64 h, .int .i64 k]] w fun e w' => MdM true 2 g0 g1 g2 g3 g4 g5 g6 c h k AV (wrap64 (seed + 1)) w' e ∧ Below w.heap.size w w') (w : World) :
    Calls Try.prog 3 #[.agg #[.int .i64 2, .int .i64 g0, .int .i64 g1, .int .i64 g2, .int .i64 g3, .int .i64 g4, .int .i64 g5, .int .i64 g6, .int .i64 seed], .agg #[.int .i64 c, .int .i64 h, .int .i64 k]] w fun e w' => e = .returned (.bool true) ∧ Below w.heap.size w w' := by
  have HM : Hid _ := hM
  have HTO : Hid _ := told7
  have HLI : Hid _ := linear_any
  clear hM
  have X0 : Below w.heap.size w ((w.alloc (.cells #[.int .i64 2, .int .i64 g0, .int .i64 g1, .int .i64 g2, .int .i64 g3, .int .i64 g4, .int .i64 g5, .int .i64 g6, .int .i64 seed] 23)).alloc (.cells #[.int .i64 c, .int .i64 h, .int .i64 k] 25)) := ((Below.refl _ w).alloc (Nat.le_refl _) _).alloc (by simp only [alloc_size]; omega) _
  have HW0 : ((w.alloc (.cells #[.int .i64 2, .int .i64 g0, .int .i64 g1, .int .i64 g2, .int .i64 g3, .int .i64 g4, .int .i64 g5, .int .i64 g6, .int .i64 seed] 23)).alloc (.cells #[.int .i64 c, .int .i64 h, .int .i64 k] 25)).heap[w.heap.size]? = some (.cells #[.int .i64 2, .int .i64 g0, .int .i64 g1, .int .i64 g2, .int .i64 g3, .int .i64 g4, .int .i64 g5, .int .i64 g6, .int .i64 seed] 23) := alloc_kept (heap_alloc_new w _) _
  have HS0 : ((w.alloc (.cells #[.int .i64 2, .int .i64 g0, .int .i64 g1, .int .i64 g2, .int .i64 g3, .int .i64 g4, .int .i64 g5, .int .i64 g6, .int .i64 seed] 23)).alloc (.cells #[.int .i64 c, .int .i64 h, .int .i64 k] 25)).heap[w.heap.size + 1]? = some (.cells #[.int .i64 c, .int .i64 h, .int .i64 k] 25) := heap_at _ _ (w.heap.size + 1) (by simp only [alloc_size])
  go_enter Try.func3, Try.ntmps3
  go_wp2_with (first | (refine wpList_load_row (by rfl) 23 _ (by rfl) w.heap.size _ (by rfl) HW0 _ Try.underlying23 rfl 9 Try.infoWholeM (by rfl) ?_) | (refine wpList_load_row (by rfl) 25 _ (by rfl) (w.heap.size + 1) _ (by rfl) HS0 _ Try.underlying25 rfl 3 Try.infoShape (by rfl) ?_))
  refine Calls.mono (HM.out _) ?_
  rintro e w1 ⟨hmd, hb⟩
  have H1 : Hid (Below w.heap.size w w1 ∧ w1.heap[w.heap.size + 1]? = _ ∧ w1.heap[w.heap.size]? = _) := ⟨to_call X0 hb, kept hb HS0, kept hb HW0⟩
  clear hb X0 HW0 HS0 HM
  rcases hmd with rfl | ⟨v1, v2, v3, v4, m4, N, n, want, rfl, hK, hP, hW⟩
  · go_upto_region 2 with (first | (refine wpList_store_row (by rfl) 30 _ _ (by rfl) w1 w1.heap.size w1.heap.size _ _ (by rfl) (by rfl) (heap_alloc_new w1 _) ((Below.refl _ w1).alloc (Nat.le_refl _) _) (Nat.le_refl _) 14 Try.infoLy (by rfl) (by rfl) (one14i _ _ _ _ _ _ _ _ _ _ _ _ _ _ rfl rfl rfl rfl) ?_; intro W2 e2 hb2 hs2 ho2))
    have H2 : Hid (Below w.heap.size w W2) := to_call H1.out.1 hb2
    clear hb2 hs2 ho2 e2 H1
    go_wp2_with fail
    refine Calls.mono (HTO.out _) ?_
    rintro e w7 ⟨rfl, hb7⟩
    have H7 : Hid (Below w.heap.size w w7) := to_call H2.out hb7
    clear hb7 H2
    go_wp2_with fail
    go_ret
    exact ⟨rfl, H7.out⟩
  have KT : Hid _ := hK
  have HPL : Hid _ := hP
  have HWN : Hid _ := hW
  clear hK hP hW
  go_upto_region 2 with (first | (refine wpList_store_row (by rfl) 30 _ _ (by rfl) w1 w1.heap.size w1.heap.size _ _ (by rfl) (by rfl) (heap_alloc_new w1 _) ((Below.refl _ w1).alloc (Nat.le_refl _) _) (Nat.le_refl _) 14 Try.infoLy (by rfl) (by rfl) (one14i _ _ _ _ _ _ _ _ _ _ _ _ _ _ KT.out.one.1 KT.out.one.2.1 KT.out.one.2.2.1 KT.out.one.2.2.2) ?_; intro W2 e2 hb2 hs2 ho2))
  obtain ⟨B, hB⟩ : ∃ B, w1.heap.size = B := ⟨_, rfl⟩
  have H2 : Hid (Below w1.heap.size w1 W2 ∧ Below w.heap.size w W2 ∧ W2.heap[w.heap.size + 1]? = _ ∧ W2.heap[B]? = _ ∧ W2.heap[w.heap.size]? = _) := ⟨hb2, to_call H1.out.1 hb2, kept hb2 H1.out.2.1, hB ▸ e2, kept hb2 H1.out.2.2⟩
  rw [hB]
  clear hb2 hs2 ho2 e2 H1 hB
  have l0 := cellAt H2.out.2.2.2.1 0 (.int .i64 2) rfl
  have hli : decide ((1 : Int) ≤ 2 ∧ (2 : Int) ≤ 6) = true := by decide
  go_wp2_with fail
  refine Calls.mono (HLI.out _ _) ?_
  rintro e wz ⟨rfl, hwz⟩
  rw [hwz]
  clear hwz wz
  rw [hli]
  have s0 := cellAt H2.out.2.2.1 0 (.int .i64 c) rfl
  have s1 := cellAt H2.out.2.2.1 1 (.int .i64 h) rfl
  have s2 := cellAt H2.out.2.2.1 2 (.int .i64 k) rfl
  have x8 := cellAt H2.out.2.2.2.2 8 (.int .i64 seed) rfl
  have p1 := KT.out.q4
  have p2 := KT.out.q5
  go_wp2_with fail
  refine Calls.mono (input_any seed _ n rfl (by have := KT.out.nn; omega) _) ?_
  rintro e W3 ⟨vv, rfl, ov, hb⟩
  obtain ⟨av, cv, rfl, hrd⟩ := rdM ov (by rw [inZ_len]; have := KT.out.nn; omega)
  rw [inZ_len] at hrd ⊢
  have H3 : Hid (Below w1.heap.size w1 W3 ∧ Below w.heap.size w W3 ∧ W3.heap[w.heap.size + 1]? = _ ∧ W3.heap[B]? = _ ∧ RdIn W3 av n cv (inZ (wrap64 (seed + 1)) n)) := ⟨to_call H2.out.1 hb, to_call H2.out.2.1 hb, kept hb H2.out.2.2.1, kept hb H2.out.2.2.2.1, hrd⟩
  clear hb H2 l0 s0 s1 s2 x8 p1 p2 hli ov hrd
  have HS0 := H3.out.2.2.1
  have HL0 := H3.out.2.2.2.1
  go_wp2_with (first | (refine wpList_load_row (by rfl) 30 _ (by rfl) B _ (by rfl) HL0 _ Try.underlying30 rfl 14 Try.infoLy (by rfl) ?_) | (refine wpList_load_row (by rfl) 25 _ (by rfl) (w.heap.size + 1) _ (by rfl) HS0 _ Try.underlying25 rfl 3 Try.infoShape (by rfl) ?_))
  refine Calls.mono (HPL.out _ _ _ H3.out.1 H3.out.2.2.2.2) ?_
  rintro e W4 ⟨pv, rfl, ow, hb⟩
  obtain ⟨ap, cp, hpv⟩ := slM ow (n := 0) rfl
  subst hpv
  have H4 : Hid (Below w1.heap.size w1 W4 ∧ Below w.heap.size w W4 ∧ W4.heap[w.heap.size + 1]? = _ ∧ W4.heap[B]? = _ ∧ RdIn W4 av n cv (inZ (wrap64 (seed + 1)) n)) := ⟨to_call H3.out.1 hb, to_call H3.out.2.1 hb, kept hb H3.out.2.2.1, kept hb H3.out.2.2.2.1, H3.out.2.2.2.2.later hb⟩
  clear hb H3 HS0 HL0 ow
  have HS0 := H4.out.2.2.1
  have HL0 := H4.out.2.2.2.1
  have l0 := cellAt HL0 0 (.int .i64 2) rfl
  go_wp2_with (first | (refine wpList_load_row (by rfl) 30 _ (by rfl) B _ (by rfl) HL0 _ Try.underlying30 rfl 14 Try.infoLy (by rfl) ?_) | (refine wpList_load_row (by rfl) 25 _ (by rfl) (w.heap.size + 1) _ (by rfl) HS0 _ Try.underlying25 rfl 3 Try.infoShape (by rfl) ?_))
  refine Calls.mono (HWN.out trivial _ _ _ H4.out.1 H4.out.2.2.2.2) ?_
  rintro e W5 ⟨wv, rfl, ow, hb⟩
  obtain ⟨aw, cw, hwv, hrw⟩ := rdM ow (by rw [KT.out.len]; have := KT.out.nn; omega)
  subst hwv
  rw [KT.out.len] at hrw ⊢
  have H5 : Hid (Below w1.heap.size w1 W5 ∧ Below w.heap.size w W5 ∧ W5.heap[w.heap.size + 1]? = _ ∧ W5.heap[B]? = _ ∧ RdIn W5 av n cv (inZ (wrap64 (seed + 1)) n) ∧ RdIn W5 aw N cw want) := ⟨to_call H4.out.1 hb, to_call H4.out.2.1 hb, kept hb H4.out.2.2.1, kept hb H4.out.2.2.2.1, H4.out.2.2.2.2.later hb, hrw⟩
  clear hb H4 HS0 HL0 ow hrw l0
  have HS0 := H5.out.2.2.1
  have HL0 := H5.out.2.2.2.1
  have l0 := cellAt HL0 0 (.int .i64 2) rfl
  go_wp2_with (first | (refine wpList_load_row (by rfl) 30 _ (by rfl) B _ (by rfl) HL0 _ Try.underlying30 rfl 14 Try.infoLy (by rfl) ?_) | (refine wpList_load_row (by rfl) 25 _ (by rfl) (w.heap.size + 1) _ (by rfl) HS0 _ Try.underlying25 rfl 3 Try.infoShape (by rfl) ?_))
  refine Calls.mono (KT.out.cnt _) ?_
  rintro e X ⟨rfl, hb⟩
  have H6 : Hid (Below w1.heap.size w1 X ∧ Below w.heap.size w X ∧ X.heap[w.heap.size + 1]? = _ ∧ X.heap[B]? = _ ∧ RdIn X av n cv (inZ (wrap64 (seed + 1)) n) ∧ RdIn X aw N cw want) := ⟨to_call H5.out.1 hb, to_call H5.out.2.1 hb, kept hb H5.out.2.2.1, kept hb H5.out.2.2.2.1, H5.out.2.2.2.2.1.later hb, H5.out.2.2.2.2.2.later hb⟩
  clear hb H5 l0 HS0 HL0
  go_wp2_with fail
  refine Calls.mono (HTO.out _) ?_
  rintro e Y ⟨rfl, hb⟩
  have HY : Hid (Below w1.heap.size w1 Y ∧ Below w.heap.size w Y ∧ Y.heap[w.heap.size + 1]? = _ ∧ Y.heap[B]? = _ ∧ RdIn Y av n cv (inZ (wrap64 (seed + 1)) n) ∧ RdIn Y aw N cw want) := ⟨to_call H6.out.1 hb, to_call H6.out.2.1 hb, kept hb H6.out.2.2.1, kept hb H6.out.2.2.2.1, H6.out.2.2.2.2.1.later hb, H6.out.2.2.2.2.2.later hb⟩
  clear hb H6 HTO
  obtain ⟨vs, hvs⟩ : ∃ vs, inZ (wrap64 (seed + 1)) n = vs := ⟨_, rfl⟩
  have HVB : Hid (∀ j : Nat, -9 ≤ vs[j]?.getD 0 ∧ vs[j]?.getD 0 ≤ 9) := fun j => hvs ▸ inZ_bd _ _ j
  rw [hvs] at KT HY
  clear hvs HPL HWN
  obtain ⟨bv, fv, hav, hvl, hvc⟩ := HY.out.2.2.2.2.1.at (by have := KT.out.nn; omega)
  obtain ⟨bw, fw, haw, hwl, hwc⟩ := HY.out.2.2.2.2.2.at (by have := KT.out.nn; omega)
  subst hav haw
  have HVC : Hid (bv < Y.heap.size ∧ ∀ j, j < n → Y.cell? ⟨bv, fv + j, none⟩ = some (.int .i64 (vs[j]?.getD 0))) := ⟨hvl, hvc⟩
  have HWC : Hid (bw < Y.heap.size ∧ ∀ j, j < N → Y.cell? ⟨bw, fw + j, none⟩ = some (.int .i64 (want[j]?.getD 0))) := ⟨hwl, hwc⟩
  clear hvl hvc hwl hwc
  go_wp2_with fail
  go_loopg [12] N (fun g v wx => ∃ i : Nat, v = .int .i64 i ∧ i + g = N ∧ Hid (Below Y.heap.size Y wx))
  case atStart => exact ⟨0, rfl, by omega, Below.refl _ _⟩
  case round =>
    obtain ⟨i, rfl, hi, HB⟩ := hrel
    obtain ⟨Z, rfl⟩ : ∃ Z, Z = wr := ⟨_, rfl⟩
    by_cases hlt : i < N
    · obtain ⟨g, rfl⟩ : ∃ g, gk = g + 1 := ⟨gk - 1, by omega⟩
      have HN : Hid (i < N ∧ N ≤ 256 ∧ i + (g + 1) = N) := ⟨hlt, KT.out.nn.2.1, hi⟩
      have hd : decide ((i : Int) < (N : Int)) = true := decide_eq_true (by omega)
      have HS0 := kept HB.out HY.out.2.2.1
      have HL0 := kept HB.out HY.out.2.2.2.1
      clear hi
      go_wp2_with (first | (refine wpList_load_row (by rfl) 30 _ (by rfl) B _ (by rfl) HL0 _ Try.underlying30 rfl 14 Try.infoLy (by rfl) ?_) | (refine wpList_load_row (by rfl) 25 _ (by rfl) (w.heap.size + 1) _ (by rfl) HS0 _ Try.underlying25 rfl 3 Try.infoShape (by rfl) ?_))
      refine Calls.mono (KT.out.row i HN.out.1 _ (to_call HY.out.1 HB.out)) ?_
      rintro e w7 ⟨u1, u2, b, xs, ws, rfl, hrv, hrg, hb7⟩
      obtain ⟨ap, cp, hu1, hrd⟩ := hrv.rdI (Nat.le_trans hrg.le (by decide))
      obtain ⟨aq, cq, hu2, hrq⟩ := hrv.rdF (by rw [hrg.len]; exact Nat.le_trans hrg.le (by decide)) hrg.lt
      subst hu1 hu2
      obtain ⟨L, hL⟩ : ∃ L, xs.length = L := ⟨_, rfl⟩
      have hLw : ws.length = L := hrg.len.trans hL
      rw [hL] at hrd ⊢
      rw [hLw] at hrq ⊢
      obtain ⟨bz, zs, hfb, hbz, hzs, hsum⟩ := hrg.sum
      rw [hL] at hzs hsum
      have HG : Hid (L ≤ 256 ∧ xs.Pairwise (· < ·) ∧ (∀ x ∈ xs, 0 ≤ x ∧ x < (n : Int)) ∧ (∀ k, k < L → FW (ws[k]?.getD 0) (zs k) ∧ (-9 ≤ zs k ∧ zs k ≤ 9)) ∧ bz + Sg (fun k => zs k * vs[(xs[k]?.getD 0).toNat]?.getD 0) L = want[i]?.getD 0 ∧ (-9 ≤ bz ∧ bz ≤ 9) ∧ xs.length = L) := ⟨hL ▸ hrg.le, hrg.rise, hrg.mem, hzs, hsum, hbz, hL⟩
      have HR7 : Hid (RdIn w7 ap L cp xs ∧ RdF w7 aq L cq ws) := ⟨hrd, hrq⟩
      have G7 : Hid (Below w1.heap.size w1 w7 ∧ Below Y.heap.size Y w7) := ⟨to_call HY.out.1 (to_call HB.out hb7), to_call HB.out hb7⟩
      have hcb : ∀ w, (convert 26 3 (.float .f64 b)).run Try.prog w = .ok (.int .i64 bz) w := fun w => conv_fw hfb (by omega) w
      clear hb7 HS0 HL0 HB hd hrv hrg hrd hrq hL hLw hzs hsum hfb hbz hlt
      go_wp2_with fail
      clear hcb
      go_loopg [17, 18] L (fun g sv v wx => ∃ (j : Nat) (s : Int), sv = .int .i64 s ∧ v = .int .i64 j ∧ j + g = L ∧ Hid (s = bz + Sg (fun k => zs k * vs[(xs[k]?.getD 0).toNat]?.getD 0) j) ∧ Hid (Below w7.heap.size w7 wx))
      case atStart => exact ⟨0, bz, rfl, rfl, by omega, (Int.add_zero bz).symm, Below.refl _ _⟩
      case round =>
        obtain ⟨j, s, rfl, rfl, hj, HS, HB2⟩ := hrel
        by_cases hlt : j < L
        · obtain ⟨g2, rfl⟩ : ∃ g2, gk = g2 + 1 := ⟨gk - 1, by omega⟩
          have HJ : Hid (j < L ∧ j + (g2 + 1) = L) := ⟨hlt, hj⟩
          have hdj : decide ((j : Int) < (L : Int)) = true := decide_eq_true (by omega)
          have hxm := HG.out.2.2.1 _ (getD_memI (cs := xs) (j := j) (by rw [HG.out.2.2.2.2.2.2]; exact hlt))
          obtain ⟨x, hxn⟩ : ∃ x, xs[j]?.getD 0 = x := ⟨_, rfl⟩
          rw [hxn] at hxm
          rcases HR7.out.1.cells with z0 | ⟨b1, o1, hap, hc1⟩
          · exact absurd z0 (by omega)
          rcases HR7.out.2.cells with z0 | ⟨b2, o2, haq, hc2⟩
          · exact absurd z0 (by omega)
          subst hap haq
          have t0' := hc1 j hlt
          rw [hxn] at t0'
          have t0 : wr.cell? ⟨b1, o1 + j, none⟩ = some (.int .i64 x) := by rw [HB2.out.cell (p := ⟨b1, o1 + j, none⟩) (World.block_lt_of_cell? _ _ t0')]; exact t0'
          have HC1 : Hid (∀ j, j < L → w7.cell? ⟨b1, o1 + j, none⟩ = some (.int .i64 (xs[j]?.getD 0))) := hc1
          have HC2 : Hid (∀ j, j < L → w7.cell? ⟨b2, o2 + j, none⟩ = some (.float .f64 (ws[j]?.getD 0))) := hc2
          have i0 : (0 : Int) ≤ (j : Int) := by omega
          have i1 : (j : Int) < (L : Int) := by omega
          have HXN : Hid (0 ≤ x ∧ x < (n : Int) ∧ xs[j]?.getD 0 = x) := ⟨hxm.1, hxm.2, hxn⟩
          have d0 : decide (x < 0) = false := decide_eq_false (by omega)
          have d1 : decide ((n : Int) ≤ x) = false := decide_eq_false (by omega)
          clear hj hxm hxn t0' hc1 hc2
          by_cases hj0 : 0 < j
          · obtain ⟨j0, hj1⟩ : ∃ j0, j0 + 1 = j := ⟨j - 1, by omega⟩
            have dj : decide ((j : Int) > 0) = true := decide_eq_true (by omega)
            have k0 : (0 : Int) ≤ (j0 : Int) := by omega
            have k1 : (j0 : Int) < (L : Int) := by omega
            have wj : IntKind.i64.wrap ((j : Int) - 1) = (j0 : Int) := (wi_s (by have := HG.out.1; omega)).trans (by omega)
            have hxm0 := HG.out.2.2.1 _ (getD_memI (cs := xs) (j := j0) (by rw [HG.out.2.2.2.2.2.2]; omega))
            have hri := rise_at HG.out.2.1 (j := j0) (by rw [HG.out.2.2.2.2.2.2]; omega)
            rw [hj1, HXN.out.2.2] at hri
            obtain ⟨x', hxe'⟩ : ∃ x, xs[j0]?.getD 0 = x := ⟨_, rfl⟩
            rw [hxe'] at hri
            have t1' := HC1.out j0 (by omega)
            rw [hxe'] at t1'
            have t1 : wr.cell? ⟨b1, o1 + j0, none⟩ = some (.int .i64 x') := by rw [HB2.out.cell (p := ⟨b1, o1 + j0, none⟩) (World.block_lt_of_cell? _ _ t1')]; exact t1'
            have dx : decide (x ≤ x') = false := decide_eq_false (by omega)
            clear hj1 hxe' t1' hri hxm0
            go_upto_region 22 with fail
            go_quiet (fail)
            have HB3 : Hid (Below w7.heap.size w7 (wr.drewN nq)) := below_drewN HB2.out nq
            clear t0 d0 d1 dj wj k0 k1 t1 dx hdj HB2
            generalize wr.drewN nq = wd at HB3 ⊢
            obtain ⟨xn, hxn⟩ : ∃ xn : Nat, x = (xn : Int) := ⟨x.toNat, by have := HXN.out; omega⟩
            subst hxn
            obtain ⟨u, hu⟩ : ∃ u, ws[j]?.getD 0 = u := ⟨_, rfl⟩
            obtain ⟨y, hy⟩ : ∃ y, vs[xn]?.getD 0 = y := ⟨_, rfl⟩
            have hfz := HG.out.2.2.2.1 j HJ.out.1
            rw [hu] at hfz
            obtain ⟨z, hz⟩ : ∃ z, zs j = z := ⟨_, rfl⟩
            rw [hz] at hfz
            have hyb : -9 ≤ y ∧ y ≤ 9 := hy ▸ HVB.out xn
            have hzy := mul_small hfz.2 hyb
            obtain ⟨zy, hzye⟩ : ∃ zy, z * y = zy := ⟨_, rfl⟩
            rw [hzye] at hzy
            obtain ⟨s', hs'⟩ : ∃ s', s + zy = s' := ⟨_, rfl⟩
            have hsb := sum_bd (xs := xs) (fun k hk => (HG.out.2.2.2.1 k hk).2) HVB.out j (by have := HJ.out; omega)
            have HE : Hid (s' = bz + Sg (fun k => zs k * vs[(xs[k]?.getD 0).toNat]?.getD 0) (j + 1)) := by
              unfold Hid Sg
              rw [HXN.out.2.2, Int.toNat_natCast, hz, hy, hzye, ← hs', HS.out, Int.add_assoc]
            have b1z : -20000000 ≤ zy ∧ zy ≤ 20000000 := by omega
            have b2z : -20000000 ≤ s' ∧ s' ≤ 20000000 := by have := HS.out; have := HG.out.2.2.2.2.2.1; have := HG.out.1; have := HJ.out; omega
            have t0' := HC1.out j HJ.out.1
            rw [HXN.out.2.2] at t0'
            have t2' := HC2.out j HJ.out.1
            rw [hu] at t2'
            have t3' := HVC.out.2 xn (by have := HXN.out; omega)
            rw [hy] at t3'
            have t0 : wd.cell? ⟨b1, o1 + j, none⟩ = some (.int .i64 (xn : Int)) := by rw [HB3.out.cell (p := ⟨b1, o1 + j, none⟩) (World.block_lt_of_cell? _ _ t0')]; exact t0'
            have t2 : wd.cell? ⟨b2, o2 + j, none⟩ = some (.float .f64 u) := by rw [HB3.out.cell (p := ⟨b2, o2 + j, none⟩) (World.block_lt_of_cell? _ _ t2')]; exact t2'
            have t3 : wd.cell? ⟨bv, fv + xn, none⟩ = some (.int .i64 y) := by rw [(to_call G7.out.2 HB3.out).cell (p := ⟨bv, fv + xn, none⟩) HVC.out.1]; exact t3'
            have x0 : (0 : Int) ≤ (xn : Int) := by omega
            have x1 : (xn : Int) < (n : Int) := HXN.out.2.1
            have hzb : z.natAbs ≤ 1000000 := by have := hfz.2; omega
            have hcz : ∀ w, (convert 26 3 (.float .f64 u)).run Try.prog w = .ok (.int .i64 z) w := fun w => conv_fw hfz.1 hzb w
            have hj1 : j < 1000 := by have := HJ.out; have := HG.out.1; omega
            have p3 : IntKind.i64.wrap (z * y) = zy := by rw [hzye]; exact wrI b1z
            have p4 : IntKind.i64.wrap (s + zy) = s' := by rw [hs']; exact wrI b2z
            have hw1 : IntKind.i64.wrap ((j : Int) + 1) = (j : Int) + 1 := wr_1 hj1
            have hw2 : wrap64 ((j : Int) + 1) = (j : Int) + 1 := wr_2 hj1
            clear hu hy hfz hz hyb hzy hzye hs' hsb b1z b2z t0' t2' t3' hj1 hzb
            go_upto_region 24 with fail
            go_quiet (fail)
            have S9 : Hid (Below w7.heap.size w7 (wd.drewN nq)) := below_drewN HB3.out nq
            clear t0 t2 t3 x0 x1 hcz p3 p4 i0 i1
            go_wp2_with fail
            go_roundg g2
            case measure => omega
            case rel => exact ⟨j + 1, s', rfl, by go_num, by have := HJ.out; omega, HE, S9⟩
          · have dj : decide ((j : Int) > 0) = false := decide_eq_false (by omega)
            go_upto_region 22 with fail
            go_quiet (fail)
            have HB3 : Hid (Below w7.heap.size w7 (wr.drewN nq)) := below_drewN HB2.out nq
            clear t0 d0 d1 dj hdj HB2
            generalize wr.drewN nq = wd at HB3 ⊢
            obtain ⟨xn, hxn⟩ : ∃ xn : Nat, x = (xn : Int) := ⟨x.toNat, by have := HXN.out; omega⟩
            subst hxn
            obtain ⟨u, hu⟩ : ∃ u, ws[j]?.getD 0 = u := ⟨_, rfl⟩
            obtain ⟨y, hy⟩ : ∃ y, vs[xn]?.getD 0 = y := ⟨_, rfl⟩
            have hfz := HG.out.2.2.2.1 j HJ.out.1
            rw [hu] at hfz
            obtain ⟨z, hz⟩ : ∃ z, zs j = z := ⟨_, rfl⟩
            rw [hz] at hfz
            have hyb : -9 ≤ y ∧ y ≤ 9 := hy ▸ HVB.out xn
            have hzy := mul_small hfz.2 hyb
            obtain ⟨zy, hzye⟩ : ∃ zy, z * y = zy := ⟨_, rfl⟩
            rw [hzye] at hzy
            obtain ⟨s', hs'⟩ : ∃ s', s + zy = s' := ⟨_, rfl⟩
            have hsb := sum_bd (xs := xs) (fun k hk => (HG.out.2.2.2.1 k hk).2) HVB.out j (by have := HJ.out; omega)
            have HE : Hid (s' = bz + Sg (fun k => zs k * vs[(xs[k]?.getD 0).toNat]?.getD 0) (j + 1)) := by
              unfold Hid Sg
              rw [HXN.out.2.2, Int.toNat_natCast, hz, hy, hzye, ← hs', HS.out, Int.add_assoc]
            have b1z : -20000000 ≤ zy ∧ zy ≤ 20000000 := by omega
            have b2z : -20000000 ≤ s' ∧ s' ≤ 20000000 := by have := HS.out; have := HG.out.2.2.2.2.2.1; have := HG.out.1; have := HJ.out; omega
            have t0' := HC1.out j HJ.out.1
            rw [HXN.out.2.2] at t0'
            have t2' := HC2.out j HJ.out.1
            rw [hu] at t2'
            have t3' := HVC.out.2 xn (by have := HXN.out; omega)
            rw [hy] at t3'
            have t0 : wd.cell? ⟨b1, o1 + j, none⟩ = some (.int .i64 (xn : Int)) := by rw [HB3.out.cell (p := ⟨b1, o1 + j, none⟩) (World.block_lt_of_cell? _ _ t0')]; exact t0'
            have t2 : wd.cell? ⟨b2, o2 + j, none⟩ = some (.float .f64 u) := by rw [HB3.out.cell (p := ⟨b2, o2 + j, none⟩) (World.block_lt_of_cell? _ _ t2')]; exact t2'
            have t3 : wd.cell? ⟨bv, fv + xn, none⟩ = some (.int .i64 y) := by rw [(to_call G7.out.2 HB3.out).cell (p := ⟨bv, fv + xn, none⟩) HVC.out.1]; exact t3'
            have x0 : (0 : Int) ≤ (xn : Int) := by omega
            have x1 : (xn : Int) < (n : Int) := HXN.out.2.1
            have hzb : z.natAbs ≤ 1000000 := by have := hfz.2; omega
            have hcz : ∀ w, (convert 26 3 (.float .f64 u)).run Try.prog w = .ok (.int .i64 z) w := fun w => conv_fw hfz.1 hzb w
            have hj1 : j < 1000 := by have := HJ.out; have := HG.out.1; omega
            have p3 : IntKind.i64.wrap (z * y) = zy := by rw [hzye]; exact wrI b1z
            have p4 : IntKind.i64.wrap (s + zy) = s' := by rw [hs']; exact wrI b2z
            have hw1 : IntKind.i64.wrap ((j : Int) + 1) = (j : Int) + 1 := wr_1 hj1
            have hw2 : wrap64 ((j : Int) + 1) = (j : Int) + 1 := wr_2 hj1
            clear hu hy hfz hz hyb hzy hzye hs' hsb b1z b2z t0' t2' t3' hj1 hzb
            go_upto_region 24 with fail
            go_quiet (fail)
            have S9 : Hid (Below w7.heap.size w7 (wd.drewN nq)) := below_drewN HB3.out nq
            clear t0 t2 t3 x0 x1 hcz p3 p4 i0 i1
            go_wp2_with fail
            go_roundg g2
            case measure => omega
            case rel => exact ⟨j + 1, s', rfl, by go_num, by have := HJ.out; omega, HE, S9⟩
        · obtain rfl : L = j := by omega
          have hdj : decide ((L : Int) < (L : Int)) = false := decide_eq_false (by omega)
          have hse : s = want[i]?.getD 0 := HS.out.trans HG.out.2.2.2.2.1
          have t9' := HWC.out.2 i HN.out.1
          have hb9 : Below Y.heap.size Y wr := to_call G7.out.2 HB2.out
          have t9 : wr.cell? ⟨bw, fw + i, none⟩ = some (.int .i64 s) := by rw [hb9.cell (p := ⟨bw, fw + i, none⟩) HWC.out.1, hse]; exact t9'
          have i0 : (0 : Int) ≤ (i : Int) := by omega
          have i1 : (i : Int) < (N : Int) := by have := HN.out; omega
          have H9 : Hid (Below Y.heap.size Y wr) := hb9
          have hi1 : i < 1000 := by have := HN.out; omega
          have hw1 : IntKind.i64.wrap ((i : Int) + 1) = (i : Int) + 1 := wr_1 hi1
          have hw2 : wrap64 ((i : Int) + 1) = (i : Int) + 1 := wr_2 hi1
          clear hse t9' hb9 hj hi1
          go_wp2_with fail
          go_roundg g
          case measure => omega
          case rel => exact ⟨i + 1, by go_num, by have := HN.out; omega, H9⟩
    · obtain rfl : N = i := by omega
      have hd : decide ((N : Int) < (N : Int)) = false := decide_eq_false (by omega)
      have H9 : Hid (Below w.heap.size w Z) := to_call HY.out.2.1 HB.out
      clear hi
      go_wp2_with fail
      go_ret
      exact ⟨rfl, H9.out⟩
set_option maxRecDepth 100000 in
set_option maxHeartbeats 8000000 in
theorem lawMM (g0 g1 g2 g3 g4 g5 g6 seed c h k : Int) (AV : Nat) (hM : ∀ w, Calls Try.prog 5 #[.agg #[.int .i64 4, .int .i64 g0, .int .i64 g1, .int .i64 g2, .int .i64 g3, .int .i64 g4, .int .i64 g5, .int .i64 g6, .int .i64 seed], .agg #[.int .i64 c, .int .i64 h, .int .i64 k]] w fun e w' => MdM true 4 g0 g1 g2 g3 g4 g5 g6 c h k AV (wrap64 (seed + 1)) w' e ∧ Below w.heap.size w w') (w : World) :
    Calls Try.prog 3 #[.agg #[.int .i64 4, .int .i64 g0, .int .i64 g1, .int .i64 g2, .int .i64 g3, .int .i64 g4, .int .i64 g5, .int .i64 g6, .int .i64 seed], .agg #[.int .i64 c, .int .i64 h, .int .i64 k]] w fun e w' => e = .returned (.bool true) ∧ Below w.heap.size w w' := by
  have HM : Hid _ := hM
  have HTO : Hid _ := told7
  have HLI : Hid _ := linear_any
  clear hM
  have X0 : Below w.heap.size w ((w.alloc (.cells #[.int .i64 4, .int .i64 g0, .int .i64 g1, .int .i64 g2, .int .i64 g3, .int .i64 g4, .int .i64 g5, .int .i64 g6, .int .i64 seed] 23)).alloc (.cells #[.int .i64 c, .int .i64 h, .int .i64 k] 25)) := ((Below.refl _ w).alloc (Nat.le_refl _) _).alloc (by simp only [alloc_size]; omega) _
  have HW0 : ((w.alloc (.cells #[.int .i64 4, .int .i64 g0, .int .i64 g1, .int .i64 g2, .int .i64 g3, .int .i64 g4, .int .i64 g5, .int .i64 g6, .int .i64 seed] 23)).alloc (.cells #[.int .i64 c, .int .i64 h, .int .i64 k] 25)).heap[w.heap.size]? = some (.cells #[.int .i64 4, .int .i64 g0, .int .i64 g1, .int .i64 g2, .int .i64 g3, .int .i64 g4, .int .i64 g5, .int .i64 g6, .int .i64 seed] 23) := alloc_kept (heap_alloc_new w _) _
  have HS0 : ((w.alloc (.cells #[.int .i64 4, .int .i64 g0, .int .i64 g1, .int .i64 g2, .int .i64 g3, .int .i64 g4, .int .i64 g5, .int .i64 g6, .int .i64 seed] 23)).alloc (.cells #[.int .i64 c, .int .i64 h, .int .i64 k] 25)).heap[w.heap.size + 1]? = some (.cells #[.int .i64 c, .int .i64 h, .int .i64 k] 25) := heap_at _ _ (w.heap.size + 1) (by simp only [alloc_size])
  go_enter Try.func3, Try.ntmps3
  go_wp2_with (first | (refine wpList_load_row (by rfl) 23 _ (by rfl) w.heap.size _ (by rfl) HW0 _ Try.underlying23 rfl 9 Try.infoWholeM (by rfl) ?_) | (refine wpList_load_row (by rfl) 25 _ (by rfl) (w.heap.size + 1) _ (by rfl) HS0 _ Try.underlying25 rfl 3 Try.infoShape (by rfl) ?_))
  refine Calls.mono (HM.out _) ?_
  rintro e w1 ⟨hmd, hb⟩
  have H1 : Hid (Below w.heap.size w w1 ∧ w1.heap[w.heap.size + 1]? = _ ∧ w1.heap[w.heap.size]? = _) := ⟨to_call X0 hb, kept hb HS0, kept hb HW0⟩
  clear hb X0 HW0 HS0 HM
  rcases hmd with rfl | ⟨v1, v2, v3, v4, m4, N, n, want, rfl, hK, hP, hW⟩
  · go_upto_region 2 with (first | (refine wpList_store_row (by rfl) 30 _ _ (by rfl) w1 w1.heap.size w1.heap.size _ _ (by rfl) (by rfl) (heap_alloc_new w1 _) ((Below.refl _ w1).alloc (Nat.le_refl _) _) (Nat.le_refl _) 14 Try.infoLy (by rfl) (by rfl) (one14i _ _ _ _ _ _ _ _ _ _ _ _ _ _ rfl rfl rfl rfl) ?_; intro W2 e2 hb2 hs2 ho2))
    have H2 : Hid (Below w.heap.size w W2) := to_call H1.out.1 hb2
    clear hb2 hs2 ho2 e2 H1
    go_wp2_with fail
    refine Calls.mono (HTO.out _) ?_
    rintro e w7 ⟨rfl, hb7⟩
    have H7 : Hid (Below w.heap.size w w7) := to_call H2.out hb7
    clear hb7 H2
    go_wp2_with fail
    go_ret
    exact ⟨rfl, H7.out⟩
  have KT : Hid _ := hK
  have HPL : Hid _ := hP
  have HWN : Hid _ := hW
  clear hK hP hW
  go_upto_region 2 with (first | (refine wpList_store_row (by rfl) 30 _ _ (by rfl) w1 w1.heap.size w1.heap.size _ _ (by rfl) (by rfl) (heap_alloc_new w1 _) ((Below.refl _ w1).alloc (Nat.le_refl _) _) (Nat.le_refl _) 14 Try.infoLy (by rfl) (by rfl) (one14i _ _ _ _ _ _ _ _ _ _ _ _ _ _ KT.out.one.1 KT.out.one.2.1 KT.out.one.2.2.1 KT.out.one.2.2.2) ?_; intro W2 e2 hb2 hs2 ho2))
  obtain ⟨B, hB⟩ : ∃ B, w1.heap.size = B := ⟨_, rfl⟩
  have H2 : Hid (Below w1.heap.size w1 W2 ∧ Below w.heap.size w W2 ∧ W2.heap[w.heap.size + 1]? = _ ∧ W2.heap[B]? = _ ∧ W2.heap[w.heap.size]? = _) := ⟨hb2, to_call H1.out.1 hb2, kept hb2 H1.out.2.1, hB ▸ e2, kept hb2 H1.out.2.2⟩
  rw [hB]
  clear hb2 hs2 ho2 e2 H1 hB
  have l0 := cellAt H2.out.2.2.2.1 0 (.int .i64 4) rfl
  have hli : decide ((1 : Int) ≤ 4 ∧ (4 : Int) ≤ 6) = true := by decide
  go_wp2_with fail
  refine Calls.mono (HLI.out _ _) ?_
  rintro e wz ⟨rfl, hwz⟩
  rw [hwz]
  clear hwz wz
  rw [hli]
  have s0 := cellAt H2.out.2.2.1 0 (.int .i64 c) rfl
  have s1 := cellAt H2.out.2.2.1 1 (.int .i64 h) rfl
  have s2 := cellAt H2.out.2.2.1 2 (.int .i64 k) rfl
  have x8 := cellAt H2.out.2.2.2.2 8 (.int .i64 seed) rfl
  have p1 := KT.out.q4
  have p2 := KT.out.q5
  go_wp2_with fail
  refine Calls.mono (input_any seed _ n rfl (by have := KT.out.nn; omega) _) ?_
  rintro e W3 ⟨vv, rfl, ov, hb⟩
  obtain ⟨av, cv, rfl, hrd⟩ := rdM ov (by rw [inZ_len]; have := KT.out.nn; omega)
  rw [inZ_len] at hrd ⊢
  have H3 : Hid (Below w1.heap.size w1 W3 ∧ Below w.heap.size w W3 ∧ W3.heap[w.heap.size + 1]? = _ ∧ W3.heap[B]? = _ ∧ RdIn W3 av n cv (inZ (wrap64 (seed + 1)) n)) := ⟨to_call H2.out.1 hb, to_call H2.out.2.1 hb, kept hb H2.out.2.2.1, kept hb H2.out.2.2.2.1, hrd⟩
  clear hb H2 l0 s0 s1 s2 x8 p1 p2 hli ov hrd
  have HS0 := H3.out.2.2.1
  have HL0 := H3.out.2.2.2.1
  go_wp2_with (first | (refine wpList_load_row (by rfl) 30 _ (by rfl) B _ (by rfl) HL0 _ Try.underlying30 rfl 14 Try.infoLy (by rfl) ?_) | (refine wpList_load_row (by rfl) 25 _ (by rfl) (w.heap.size + 1) _ (by rfl) HS0 _ Try.underlying25 rfl 3 Try.infoShape (by rfl) ?_))
  refine Calls.mono (HPL.out _ _ _ H3.out.1 H3.out.2.2.2.2) ?_
  rintro e W4 ⟨pv, rfl, ow, hb⟩
  obtain ⟨ap, cp, hpv⟩ := slM ow (n := 0) rfl
  subst hpv
  have H4 : Hid (Below w1.heap.size w1 W4 ∧ Below w.heap.size w W4 ∧ W4.heap[w.heap.size + 1]? = _ ∧ W4.heap[B]? = _ ∧ RdIn W4 av n cv (inZ (wrap64 (seed + 1)) n)) := ⟨to_call H3.out.1 hb, to_call H3.out.2.1 hb, kept hb H3.out.2.2.1, kept hb H3.out.2.2.2.1, H3.out.2.2.2.2.later hb⟩
  clear hb H3 HS0 HL0 ow
  have HS0 := H4.out.2.2.1
  have HL0 := H4.out.2.2.2.1
  have l0 := cellAt HL0 0 (.int .i64 4) rfl
  go_wp2_with (first | (refine wpList_load_row (by rfl) 30 _ (by rfl) B _ (by rfl) HL0 _ Try.underlying30 rfl 14 Try.infoLy (by rfl) ?_) | (refine wpList_load_row (by rfl) 25 _ (by rfl) (w.heap.size + 1) _ (by rfl) HS0 _ Try.underlying25 rfl 3 Try.infoShape (by rfl) ?_))
  refine Calls.mono (HWN.out trivial _ _ _ H4.out.1 H4.out.2.2.2.2) ?_
  rintro e W5 ⟨wv, rfl, ow, hb⟩
  obtain ⟨aw, cw, hwv, hrw⟩ := rdM ow (by rw [KT.out.len]; have := KT.out.nn; omega)
  subst hwv
  rw [KT.out.len] at hrw ⊢
  have H5 : Hid (Below w1.heap.size w1 W5 ∧ Below w.heap.size w W5 ∧ W5.heap[w.heap.size + 1]? = _ ∧ W5.heap[B]? = _ ∧ RdIn W5 av n cv (inZ (wrap64 (seed + 1)) n) ∧ RdIn W5 aw N cw want) := ⟨to_call H4.out.1 hb, to_call H4.out.2.1 hb, kept hb H4.out.2.2.1, kept hb H4.out.2.2.2.1, H4.out.2.2.2.2.later hb, hrw⟩
  clear hb H4 HS0 HL0 ow hrw l0
  have HS0 := H5.out.2.2.1
  have HL0 := H5.out.2.2.2.1
  have l0 := cellAt HL0 0 (.int .i64 4) rfl
  go_wp2_with (first | (refine wpList_load_row (by rfl) 30 _ (by rfl) B _ (by rfl) HL0 _ Try.underlying30 rfl 14 Try.infoLy (by rfl) ?_) | (refine wpList_load_row (by rfl) 25 _ (by rfl) (w.heap.size + 1) _ (by rfl) HS0 _ Try.underlying25 rfl 3 Try.infoShape (by rfl) ?_))
  refine Calls.mono (KT.out.cnt _) ?_
  rintro e X ⟨rfl, hb⟩
  have H6 : Hid (Below w1.heap.size w1 X ∧ Below w.heap.size w X ∧ X.heap[w.heap.size + 1]? = _ ∧ X.heap[B]? = _ ∧ RdIn X av n cv (inZ (wrap64 (seed + 1)) n) ∧ RdIn X aw N cw want) := ⟨to_call H5.out.1 hb, to_call H5.out.2.1 hb, kept hb H5.out.2.2.1, kept hb H5.out.2.2.2.1, H5.out.2.2.2.2.1.later hb, H5.out.2.2.2.2.2.later hb⟩
  clear hb H5 l0 HS0 HL0
  go_wp2_with fail
  refine Calls.mono (HTO.out _) ?_
  rintro e Y ⟨rfl, hb⟩
  have HY : Hid (Below w1.heap.size w1 Y ∧ Below w.heap.size w Y ∧ Y.heap[w.heap.size + 1]? = _ ∧ Y.heap[B]? = _ ∧ RdIn Y av n cv (inZ (wrap64 (seed + 1)) n) ∧ RdIn Y aw N cw want) := ⟨to_call H6.out.1 hb, to_call H6.out.2.1 hb, kept hb H6.out.2.2.1, kept hb H6.out.2.2.2.1, H6.out.2.2.2.2.1.later hb, H6.out.2.2.2.2.2.later hb⟩
  clear hb H6 HTO
  obtain ⟨vs, hvs⟩ : ∃ vs, inZ (wrap64 (seed + 1)) n = vs := ⟨_, rfl⟩
  have HVB : Hid (∀ j : Nat, -9 ≤ vs[j]?.getD 0 ∧ vs[j]?.getD 0 ≤ 9) := fun j => hvs ▸ inZ_bd _ _ j
  rw [hvs] at KT HY
  clear hvs HPL HWN
  obtain ⟨bv, fv, hav, hvl, hvc⟩ := HY.out.2.2.2.2.1.at (by have := KT.out.nn; omega)
  obtain ⟨bw, fw, haw, hwl, hwc⟩ := HY.out.2.2.2.2.2.at (by have := KT.out.nn; omega)
  subst hav haw
  have HVC : Hid (bv < Y.heap.size ∧ ∀ j, j < n → Y.cell? ⟨bv, fv + j, none⟩ = some (.int .i64 (vs[j]?.getD 0))) := ⟨hvl, hvc⟩
  have HWC : Hid (bw < Y.heap.size ∧ ∀ j, j < N → Y.cell? ⟨bw, fw + j, none⟩ = some (.int .i64 (want[j]?.getD 0))) := ⟨hwl, hwc⟩
  clear hvl hvc hwl hwc
  go_wp2_with fail
  go_loopg [12] N (fun g v wx => ∃ i : Nat, v = .int .i64 i ∧ i + g = N ∧ Hid (Below Y.heap.size Y wx))
  case atStart => exact ⟨0, rfl, by omega, Below.refl _ _⟩
  case round =>
    obtain ⟨i, rfl, hi, HB⟩ := hrel
    obtain ⟨Z, rfl⟩ : ∃ Z, Z = wr := ⟨_, rfl⟩
    by_cases hlt : i < N
    · obtain ⟨g, rfl⟩ : ∃ g, gk = g + 1 := ⟨gk - 1, by omega⟩
      have HN : Hid (i < N ∧ N ≤ 256 ∧ i + (g + 1) = N) := ⟨hlt, KT.out.nn.2.1, hi⟩
      have hd : decide ((i : Int) < (N : Int)) = true := decide_eq_true (by omega)
      have HS0 := kept HB.out HY.out.2.2.1
      have HL0 := kept HB.out HY.out.2.2.2.1
      clear hi
      go_wp2_with (first | (refine wpList_load_row (by rfl) 30 _ (by rfl) B _ (by rfl) HL0 _ Try.underlying30 rfl 14 Try.infoLy (by rfl) ?_) | (refine wpList_load_row (by rfl) 25 _ (by rfl) (w.heap.size + 1) _ (by rfl) HS0 _ Try.underlying25 rfl 3 Try.infoShape (by rfl) ?_))
      refine Calls.mono (KT.out.row i HN.out.1 _ (to_call HY.out.1 HB.out)) ?_
      rintro e w7 ⟨u1, u2, b, xs, ws, rfl, hrv, hrg, hb7⟩
      obtain ⟨ap, cp, hu1, hrd⟩ := hrv.rdI (Nat.le_trans hrg.le (by decide))
      obtain ⟨aq, cq, hu2, hrq⟩ := hrv.rdF (by rw [hrg.len]; exact Nat.le_trans hrg.le (by decide)) hrg.lt
      subst hu1 hu2
      obtain ⟨L, hL⟩ : ∃ L, xs.length = L := ⟨_, rfl⟩
      have hLw : ws.length = L := hrg.len.trans hL
      rw [hL] at hrd ⊢
      rw [hLw] at hrq ⊢
      obtain ⟨bz, zs, hfb, hbz, hzs, hsum⟩ := hrg.sum
      rw [hL] at hzs hsum
      have HG : Hid (L ≤ 256 ∧ xs.Pairwise (· < ·) ∧ (∀ x ∈ xs, 0 ≤ x ∧ x < (n : Int)) ∧ (∀ k, k < L → FW (ws[k]?.getD 0) (zs k) ∧ (-9 ≤ zs k ∧ zs k ≤ 9)) ∧ bz + Sg (fun k => zs k * vs[(xs[k]?.getD 0).toNat]?.getD 0) L = want[i]?.getD 0 ∧ (-9 ≤ bz ∧ bz ≤ 9) ∧ xs.length = L) := ⟨hL ▸ hrg.le, hrg.rise, hrg.mem, hzs, hsum, hbz, hL⟩
      have HR7 : Hid (RdIn w7 ap L cp xs ∧ RdF w7 aq L cq ws) := ⟨hrd, hrq⟩
      have G7 : Hid (Below w1.heap.size w1 w7 ∧ Below Y.heap.size Y w7) := ⟨to_call HY.out.1 (to_call HB.out hb7), to_call HB.out hb7⟩
      have hcb : ∀ w, (convert 26 3 (.float .f64 b)).run Try.prog w = .ok (.int .i64 bz) w := fun w => conv_fw hfb (by omega) w
      clear hb7 HS0 HL0 HB hd hrv hrg hrd hrq hL hLw hzs hsum hfb hbz hlt
      go_wp2_with fail
      clear hcb
      go_loopg [17, 18] L (fun g sv v wx => ∃ (j : Nat) (s : Int), sv = .int .i64 s ∧ v = .int .i64 j ∧ j + g = L ∧ Hid (s = bz + Sg (fun k => zs k * vs[(xs[k]?.getD 0).toNat]?.getD 0) j) ∧ Hid (Below w7.heap.size w7 wx))
      case atStart => exact ⟨0, bz, rfl, rfl, by omega, (Int.add_zero bz).symm, Below.refl _ _⟩
      case round =>
        obtain ⟨j, s, rfl, rfl, hj, HS, HB2⟩ := hrel
        by_cases hlt : j < L
        · obtain ⟨g2, rfl⟩ : ∃ g2, gk = g2 + 1 := ⟨gk - 1, by omega⟩
          have HJ : Hid (j < L ∧ j + (g2 + 1) = L) := ⟨hlt, hj⟩
          have hdj : decide ((j : Int) < (L : Int)) = true := decide_eq_true (by omega)
          have hxm := HG.out.2.2.1 _ (getD_memI (cs := xs) (j := j) (by rw [HG.out.2.2.2.2.2.2]; exact hlt))
          obtain ⟨x, hxn⟩ : ∃ x, xs[j]?.getD 0 = x := ⟨_, rfl⟩
          rw [hxn] at hxm
          rcases HR7.out.1.cells with z0 | ⟨b1, o1, hap, hc1⟩
          · exact absurd z0 (by omega)
          rcases HR7.out.2.cells with z0 | ⟨b2, o2, haq, hc2⟩
          · exact absurd z0 (by omega)
          subst hap haq
          have t0' := hc1 j hlt
          rw [hxn] at t0'
          have t0 : wr.cell? ⟨b1, o1 + j, none⟩ = some (.int .i64 x) := by rw [HB2.out.cell (p := ⟨b1, o1 + j, none⟩) (World.block_lt_of_cell? _ _ t0')]; exact t0'
          have HC1 : Hid (∀ j, j < L → w7.cell? ⟨b1, o1 + j, none⟩ = some (.int .i64 (xs[j]?.getD 0))) := hc1
          have HC2 : Hid (∀ j, j < L → w7.cell? ⟨b2, o2 + j, none⟩ = some (.float .f64 (ws[j]?.getD 0))) := hc2
          have i0 : (0 : Int) ≤ (j : Int) := by omega
          have i1 : (j : Int) < (L : Int) := by omega
          have HXN : Hid (0 ≤ x ∧ x < (n : Int) ∧ xs[j]?.getD 0 = x) := ⟨hxm.1, hxm.2, hxn⟩
          have d0 : decide (x < 0) = false := decide_eq_false (by omega)
          have d1 : decide ((n : Int) ≤ x) = false := decide_eq_false (by omega)
          clear hj hxm hxn t0' hc1 hc2
          by_cases hj0 : 0 < j
          · obtain ⟨j0, hj1⟩ : ∃ j0, j0 + 1 = j := ⟨j - 1, by omega⟩
            have dj : decide ((j : Int) > 0) = true := decide_eq_true (by omega)
            have k0 : (0 : Int) ≤ (j0 : Int) := by omega
            have k1 : (j0 : Int) < (L : Int) := by omega
            have wj : IntKind.i64.wrap ((j : Int) - 1) = (j0 : Int) := (wi_s (by have := HG.out.1; omega)).trans (by omega)
            have hxm0 := HG.out.2.2.1 _ (getD_memI (cs := xs) (j := j0) (by rw [HG.out.2.2.2.2.2.2]; omega))
            have hri := rise_at HG.out.2.1 (j := j0) (by rw [HG.out.2.2.2.2.2.2]; omega)
            rw [hj1, HXN.out.2.2] at hri
            obtain ⟨x', hxe'⟩ : ∃ x, xs[j0]?.getD 0 = x := ⟨_, rfl⟩
            rw [hxe'] at hri
            have t1' := HC1.out j0 (by omega)
            rw [hxe'] at t1'
            have t1 : wr.cell? ⟨b1, o1 + j0, none⟩ = some (.int .i64 x') := by rw [HB2.out.cell (p := ⟨b1, o1 + j0, none⟩) (World.block_lt_of_cell? _ _ t1')]; exact t1'
            have dx : decide (x ≤ x') = false := decide_eq_false (by omega)
            clear hj1 hxe' t1' hri hxm0
            go_upto_region 22 with fail
            go_quiet (fail)
            have HB3 : Hid (Below w7.heap.size w7 (wr.drewN nq)) := below_drewN HB2.out nq
            clear t0 d0 d1 dj wj k0 k1 t1 dx hdj HB2
            generalize wr.drewN nq = wd at HB3 ⊢
            obtain ⟨xn, hxn⟩ : ∃ xn : Nat, x = (xn : Int) := ⟨x.toNat, by have := HXN.out; omega⟩
            subst hxn
            obtain ⟨u, hu⟩ : ∃ u, ws[j]?.getD 0 = u := ⟨_, rfl⟩
            obtain ⟨y, hy⟩ : ∃ y, vs[xn]?.getD 0 = y := ⟨_, rfl⟩
            have hfz := HG.out.2.2.2.1 j HJ.out.1
            rw [hu] at hfz
            obtain ⟨z, hz⟩ : ∃ z, zs j = z := ⟨_, rfl⟩
            rw [hz] at hfz
            have hyb : -9 ≤ y ∧ y ≤ 9 := hy ▸ HVB.out xn
            have hzy := mul_small hfz.2 hyb
            obtain ⟨zy, hzye⟩ : ∃ zy, z * y = zy := ⟨_, rfl⟩
            rw [hzye] at hzy
            obtain ⟨s', hs'⟩ : ∃ s', s + zy = s' := ⟨_, rfl⟩
            have hsb := sum_bd (xs := xs) (fun k hk => (HG.out.2.2.2.1 k hk).2) HVB.out j (by have := HJ.out; omega)
            have HE : Hid (s' = bz + Sg (fun k => zs k * vs[(xs[k]?.getD 0).toNat]?.getD 0) (j + 1)) := by
              unfold Hid Sg
              rw [HXN.out.2.2, Int.toNat_natCast, hz, hy, hzye, ← hs', HS.out, Int.add_assoc]
            have b1z : -20000000 ≤ zy ∧ zy ≤ 20000000 := by omega
            have b2z : -20000000 ≤ s' ∧ s' ≤ 20000000 := by have := HS.out; have := HG.out.2.2.2.2.2.1; have := HG.out.1; have := HJ.out; omega
            have t0' := HC1.out j HJ.out.1
            rw [HXN.out.2.2] at t0'
            have t2' := HC2.out j HJ.out.1
            rw [hu] at t2'
            have t3' := HVC.out.2 xn (by have := HXN.out; omega)
            rw [hy] at t3'
            have t0 : wd.cell? ⟨b1, o1 + j, none⟩ = some (.int .i64 (xn : Int)) := by rw [HB3.out.cell (p := ⟨b1, o1 + j, none⟩) (World.block_lt_of_cell? _ _ t0')]; exact t0'
            have t2 : wd.cell? ⟨b2, o2 + j, none⟩ = some (.float .f64 u) := by rw [HB3.out.cell (p := ⟨b2, o2 + j, none⟩) (World.block_lt_of_cell? _ _ t2')]; exact t2'
            have t3 : wd.cell? ⟨bv, fv + xn, none⟩ = some (.int .i64 y) := by rw [(to_call G7.out.2 HB3.out).cell (p := ⟨bv, fv + xn, none⟩) HVC.out.1]; exact t3'
            have x0 : (0 : Int) ≤ (xn : Int) := by omega
            have x1 : (xn : Int) < (n : Int) := HXN.out.2.1
            have hzb : z.natAbs ≤ 1000000 := by have := hfz.2; omega
            have hcz : ∀ w, (convert 26 3 (.float .f64 u)).run Try.prog w = .ok (.int .i64 z) w := fun w => conv_fw hfz.1 hzb w
            have hj1 : j < 1000 := by have := HJ.out; have := HG.out.1; omega
            have p3 : IntKind.i64.wrap (z * y) = zy := by rw [hzye]; exact wrI b1z
            have p4 : IntKind.i64.wrap (s + zy) = s' := by rw [hs']; exact wrI b2z
            have hw1 : IntKind.i64.wrap ((j : Int) + 1) = (j : Int) + 1 := wr_1 hj1
            have hw2 : wrap64 ((j : Int) + 1) = (j : Int) + 1 := wr_2 hj1
            clear hu hy hfz hz hyb hzy hzye hs' hsb b1z b2z t0' t2' t3' hj1 hzb
            go_upto_region 24 with fail
            go_quiet (fail)
            have S9 : Hid (Below w7.heap.size w7 (wd.drewN nq)) := below_drewN HB3.out nq
            clear t0 t2 t3 x0 x1 hcz p3 p4 i0 i1
            go_wp2_with fail
            go_roundg g2
            case measure => omega
            case rel => exact ⟨j + 1, s', rfl, by go_num, by have := HJ.out; omega, HE, S9⟩
          · have dj : decide ((j : Int) > 0) = false := decide_eq_false (by omega)
            go_upto_region 22 with fail
            go_quiet (fail)
            have HB3 : Hid (Below w7.heap.size w7 (wr.drewN nq)) := below_drewN HB2.out nq
            clear t0 d0 d1 dj hdj HB2
            generalize wr.drewN nq = wd at HB3 ⊢
            obtain ⟨xn, hxn⟩ : ∃ xn : Nat, x = (xn : Int) := ⟨x.toNat, by have := HXN.out; omega⟩
            subst hxn
            obtain ⟨u, hu⟩ : ∃ u, ws[j]?.getD 0 = u := ⟨_, rfl⟩
            obtain ⟨y, hy⟩ : ∃ y, vs[xn]?.getD 0 = y := ⟨_, rfl⟩
            have hfz := HG.out.2.2.2.1 j HJ.out.1
            rw [hu] at hfz
            obtain ⟨z, hz⟩ : ∃ z, zs j = z := ⟨_, rfl⟩
            rw [hz] at hfz
            have hyb : -9 ≤ y ∧ y ≤ 9 := hy ▸ HVB.out xn
            have hzy := mul_small hfz.2 hyb
            obtain ⟨zy, hzye⟩ : ∃ zy, z * y = zy := ⟨_, rfl⟩
            rw [hzye] at hzy
            obtain ⟨s', hs'⟩ : ∃ s', s + zy = s' := ⟨_, rfl⟩
            have hsb := sum_bd (xs := xs) (fun k hk => (HG.out.2.2.2.1 k hk).2) HVB.out j (by have := HJ.out; omega)
            have HE : Hid (s' = bz + Sg (fun k => zs k * vs[(xs[k]?.getD 0).toNat]?.getD 0) (j + 1)) := by
              unfold Hid Sg
              rw [HXN.out.2.2, Int.toNat_natCast, hz, hy, hzye, ← hs', HS.out, Int.add_assoc]
            have b1z : -20000000 ≤ zy ∧ zy ≤ 20000000 := by omega
            have b2z : -20000000 ≤ s' ∧ s' ≤ 20000000 := by have := HS.out; have := HG.out.2.2.2.2.2.1; have := HG.out.1; have := HJ.out; omega
            have t0' := HC1.out j HJ.out.1
            rw [HXN.out.2.2] at t0'
            have t2' := HC2.out j HJ.out.1
            rw [hu] at t2'
            have t3' := HVC.out.2 xn (by have := HXN.out; omega)
            rw [hy] at t3'
            have t0 : wd.cell? ⟨b1, o1 + j, none⟩ = some (.int .i64 (xn : Int)) := by rw [HB3.out.cell (p := ⟨b1, o1 + j, none⟩) (World.block_lt_of_cell? _ _ t0')]; exact t0'
            have t2 : wd.cell? ⟨b2, o2 + j, none⟩ = some (.float .f64 u) := by rw [HB3.out.cell (p := ⟨b2, o2 + j, none⟩) (World.block_lt_of_cell? _ _ t2')]; exact t2'
            have t3 : wd.cell? ⟨bv, fv + xn, none⟩ = some (.int .i64 y) := by rw [(to_call G7.out.2 HB3.out).cell (p := ⟨bv, fv + xn, none⟩) HVC.out.1]; exact t3'
            have x0 : (0 : Int) ≤ (xn : Int) := by omega
            have x1 : (xn : Int) < (n : Int) := HXN.out.2.1
            have hzb : z.natAbs ≤ 1000000 := by have := hfz.2; omega
            have hcz : ∀ w, (convert 26 3 (.float .f64 u)).run Try.prog w = .ok (.int .i64 z) w := fun w => conv_fw hfz.1 hzb w
            have hj1 : j < 1000 := by have := HJ.out; have := HG.out.1; omega
            have p3 : IntKind.i64.wrap (z * y) = zy := by rw [hzye]; exact wrI b1z
            have p4 : IntKind.i64.wrap (s + zy) = s' := by rw [hs']; exact wrI b2z
            have hw1 : IntKind.i64.wrap ((j : Int) + 1) = (j : Int) + 1 := wr_1 hj1
            have hw2 : wrap64 ((j : Int) + 1) = (j : Int) + 1 := wr_2 hj1
            clear hu hy hfz hz hyb hzy hzye hs' hsb b1z b2z t0' t2' t3' hj1 hzb
            go_upto_region 24 with fail
            go_quiet (fail)
            have S9 : Hid (Below w7.heap.size w7 (wd.drewN nq)) := below_drewN HB3.out nq
            clear t0 t2 t3 x0 x1 hcz p3 p4 i0 i1
            go_wp2_with fail
            go_roundg g2
            case measure => omega
            case rel => exact ⟨j + 1, s', rfl, by go_num, by have := HJ.out; omega, HE, S9⟩
        · obtain rfl : L = j := by omega
          have hdj : decide ((L : Int) < (L : Int)) = false := decide_eq_false (by omega)
          have hse : s = want[i]?.getD 0 := HS.out.trans HG.out.2.2.2.2.1
          have t9' := HWC.out.2 i HN.out.1
          have hb9 : Below Y.heap.size Y wr := to_call G7.out.2 HB2.out
          have t9 : wr.cell? ⟨bw, fw + i, none⟩ = some (.int .i64 s) := by rw [hb9.cell (p := ⟨bw, fw + i, none⟩) HWC.out.1, hse]; exact t9'
          have i0 : (0 : Int) ≤ (i : Int) := by omega
          have i1 : (i : Int) < (N : Int) := by have := HN.out; omega
          have H9 : Hid (Below Y.heap.size Y wr) := hb9
          have hi1 : i < 1000 := by have := HN.out; omega
          have hw1 : IntKind.i64.wrap ((i : Int) + 1) = (i : Int) + 1 := wr_1 hi1
          have hw2 : wrap64 ((i : Int) + 1) = (i : Int) + 1 := wr_2 hi1
          clear hse t9' hb9 hj hi1
          go_wp2_with fail
          go_roundg g
          case measure => omega
          case rel => exact ⟨i + 1, by go_num, by have := HN.out; omega, H9⟩
    · obtain rfl : N = i := by omega
      have hd : decide ((N : Int) < (N : Int)) = false := decide_eq_false (by omega)
      have H9 : Hid (Below w.heap.size w Z) := to_call HY.out.2.1 HB.out
      clear hi
      go_wp2_with fail
      go_ret
      exact ⟨rfl, H9.out⟩
set_option maxRecDepth 100000 in
set_option maxHeartbeats 8000000 in
theorem lawMN (kd g0 g1 g2 g3 g4 g5 g6 seed c h k : Int) (AV : Nat) (LK : Int → Int → Int → Int → Prop) (hno : ¬ (1 ≤ kd ∧ kd ≤ 6) ∨ kd = 5) (hM : ∀ w, Calls Try.prog 5 #[.agg #[.int .i64 kd, .int .i64 g0, .int .i64 g1, .int .i64 g2, .int .i64 g3, .int .i64 g4, .int .i64 g5, .int .i64 g6, .int .i64 seed], .agg #[.int .i64 c, .int .i64 h, .int .i64 k]] w fun e w' => MdP LK kd g0 g1 g2 g3 g4 g5 g6 seed AV w.heap.size w' e ∧ Below w.heap.size w w') (w : World) :
    Calls Try.prog 3 #[.agg #[.int .i64 kd, .int .i64 g0, .int .i64 g1, .int .i64 g2, .int .i64 g3, .int .i64 g4, .int .i64 g5, .int .i64 g6, .int .i64 seed], .agg #[.int .i64 c, .int .i64 h, .int .i64 k]] w fun e w' => e = .returned (.bool true) ∧ Below w.heap.size w w' := by
  have HM : Hid _ := hM
  have HTO : Hid _ := told7
  have HLI : Hid _ := linear_any
  clear hM
  have X0 : Below w.heap.size w ((w.alloc (.cells #[.int .i64 kd, .int .i64 g0, .int .i64 g1, .int .i64 g2, .int .i64 g3, .int .i64 g4, .int .i64 g5, .int .i64 g6, .int .i64 seed] 23)).alloc (.cells #[.int .i64 c, .int .i64 h, .int .i64 k] 25)) := ((Below.refl _ w).alloc (Nat.le_refl _) _).alloc (by simp only [alloc_size]; omega) _
  have HW0 : ((w.alloc (.cells #[.int .i64 kd, .int .i64 g0, .int .i64 g1, .int .i64 g2, .int .i64 g3, .int .i64 g4, .int .i64 g5, .int .i64 g6, .int .i64 seed] 23)).alloc (.cells #[.int .i64 c, .int .i64 h, .int .i64 k] 25)).heap[w.heap.size]? = _ := alloc_kept (heap_alloc_new w _) _
  have HS0 : ((w.alloc (.cells #[.int .i64 kd, .int .i64 g0, .int .i64 g1, .int .i64 g2, .int .i64 g3, .int .i64 g4, .int .i64 g5, .int .i64 g6, .int .i64 seed] 23)).alloc (.cells #[.int .i64 c, .int .i64 h, .int .i64 k] 25)).heap[w.heap.size + 1]? = _ := heap_at _ _ (w.heap.size + 1) (by simp only [alloc_size])
  go_enter Try.func3, Try.ntmps3
  go_wp2_with (first | (refine wpList_load_row (by rfl) 23 _ (by rfl) w.heap.size _ (by rfl) HW0 _ Try.underlying23 rfl 9 Try.infoWholeM (by rfl) ?_) | (refine wpList_load_row (by rfl) 25 _ (by rfl) (w.heap.size + 1) _ (by rfl) HS0 _ Try.underlying25 rfl 3 Try.infoShape (by rfl) ?_))
  refine Calls.mono (HM.out _) ?_
  rintro e w1 ⟨hmd, hb⟩
  have H1 : Hid (Below w.heap.size w w1) := to_call X0 hb
  clear hb X0 HW0 HS0 HM
  rcases hmd with rfl | ⟨q0, q1, q2, q3, v1, v2, v3, v4, hLK, hq0, hq2, rfl, o1, o2, o3, o4⟩
  · go_upto_region 2 with (first | (refine wpList_store_row (by rfl) 30 _ _ (by rfl) w1 w1.heap.size w1.heap.size _ _ (by rfl) (by rfl) (heap_alloc_new w1 _) ((Below.refl _ w1).alloc (Nat.le_refl _) _) (Nat.le_refl _) 14 Try.infoLy (by rfl) (by rfl) (one14i _ _ _ _ _ _ _ _ _ _ _ _ _ _ rfl rfl rfl rfl) ?_; intro W2 e2 hb2 hs2 ho2))
    have H2 : Hid (Below w.heap.size w W2) := to_call H1.out hb2
    clear hb2 hs2 ho2 e2 H1
    go_wp2_with fail
    refine Calls.mono (HTO.out _) ?_
    rintro e w7 ⟨rfl, hb7⟩
    have H7 : Hid (Below w.heap.size w w7) := to_call H2.out hb7
    clear hb7 H2
    go_wp2_with fail
    go_ret
    exact ⟨rfl, H7.out⟩
  have HON : Hid (v1.oneCell' = true ∧ v2.oneCell' = true ∧ v3.oneCell' = true ∧ v4.oneCell' = true) := ⟨(own_valM o1).1, (own_valM o2).1, (own_valM o3).1, (own_valM o4).1⟩
  clear hLK hq0 hq2 o1 o2 o3 o4
  go_upto_region 2 with (first | (refine wpList_store_row (by rfl) 30 _ _ (by rfl) w1 w1.heap.size w1.heap.size _ _ (by rfl) (by rfl) (heap_alloc_new w1 _) ((Below.refl _ w1).alloc (Nat.le_refl _) _) (Nat.le_refl _) 14 Try.infoLy (by rfl) (by rfl) (one14i _ _ _ _ _ _ _ _ _ _ _ _ _ _ HON.out.1 HON.out.2.1 HON.out.2.2.1 HON.out.2.2.2) ?_; intro W2 e2 hb2 hs2 ho2))
  obtain ⟨B, hB⟩ : ∃ B, w1.heap.size = B := ⟨_, rfl⟩
  have H2 : Hid (Below w.heap.size w W2) := to_call H1.out hb2
  have l0 := cellAt (hB ▸ e2 : W2.heap[B]? = _) 0 (.int .i64 kd) rfl
  rw [hB]
  clear hb2 hs2 ho2 e2 H1 hB
  rcases hno with hno | rfl
  · have hli : decide (1 ≤ kd ∧ kd ≤ 6) = false := decide_eq_false hno
    clear hno
    go_wp2_with fail
    refine Calls.mono (HLI.out _ _) ?_
    rintro e wz ⟨rfl, hwz⟩
    rw [hwz]
    clear hwz wz
    rw [hli]
    go_wp2_with fail
    refine Calls.mono (HTO.out _) ?_
    rintro e w7 ⟨rfl, hb7⟩
    have H7 : Hid (Below w.heap.size w w7) := to_call H2.out hb7
    clear hb7 H2
    go_wp2_with fail
    go_ret
    exact ⟨rfl, H7.out⟩
  have hli : decide ((1 : Int) ≤ 5 ∧ (5 : Int) ≤ 6) = true := by decide
  go_wp2_with fail
  refine Calls.mono (HLI.out _ _) ?_
  rintro e wz ⟨rfl, hwz⟩
  rw [hwz]
  clear hwz wz
  rw [hli]
  go_wp2_with fail
  refine Calls.mono (HTO.out _) ?_
  rintro e w7 ⟨rfl, hb7⟩
  have H7 : Hid (Below w.heap.size w w7) := to_call H2.out hb7
  clear hb7 H2
  go_wp2_with fail
  go_ret
  exact ⟨rfl, H7.out⟩
end Go.Proofs.Ytokglpemefkmjaa
