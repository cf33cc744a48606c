import Derived.Test.YtokglpemefkmjaaRWy
namespace Go.Proofs.Ytokglpemefkmjaa
open Go.RowKit
set_option linter.unusedVariables false
set_option linter.unusedSimpArgs false
theorem Try.infoWhole : (Try.prog.info? 23).map (·.size) = some 9 := by kernel_rfl
set_option maxRecDepth 100000 in
set_option maxHeartbeats 8000000 in
theorem lawR4 (g0 g1 g2 g3 g4 g5 g6 seed c h k : Int) (AV : Nat) (hM : ∀ w, Calls Try.prog 5 #[.agg #[.int .i64 4, .int .i64 g0, .int .i64 g1, .int .i64 g2, .int .i64 g3, .int .i64 g4, .int .i64 g5, .int .i64 g6, .int .i64 seed], .agg #[.int .i64 c, .int .i64 h, .int .i64 k]] w fun e w' => MdR 4 g0 g1 g2 g3 g4 g5 g6 c h k AV w' e ∧ Below w.heap.size w w') (w : World) :
    Calls Try.prog 4 #[.agg #[.int .i64 4, .int .i64 g0, .int .i64 g1, .int .i64 g2, .int .i64 g3, .int .i64 g4, .int .i64 g5, .int .i64 g6, .int .i64 seed], .agg #[.int .i64 c, .int .i64 h, .int .i64 k]] w fun e w' => e = .returned (.bool true) ∧ Below w.heap.size w w' := by
  have HM : Hid _ := hM
  have HTO : Hid _ := told7
  clear hM
  have X0 : Below w.heap.size w ((w.alloc (.cells #[.int .i64 4, .int .i64 g0, .int .i64 g1, .int .i64 g2, .int .i64 g3, .int .i64 g4, .int .i64 g5, .int .i64 g6, .int .i64 seed] 23)).alloc (.cells #[.int .i64 c, .int .i64 h, .int .i64 k] 25)) := ((Below.refl _ w).alloc (Nat.le_refl _) _).alloc (by simp only [alloc_size]; omega) _
  have HW0 : ((w.alloc (.cells #[.int .i64 4, .int .i64 g0, .int .i64 g1, .int .i64 g2, .int .i64 g3, .int .i64 g4, .int .i64 g5, .int .i64 g6, .int .i64 seed] 23)).alloc (.cells #[.int .i64 c, .int .i64 h, .int .i64 k] 25)).heap[w.heap.size]? = _ := alloc_kept (heap_alloc_new w _) _
  have HS0 : ((w.alloc (.cells #[.int .i64 4, .int .i64 g0, .int .i64 g1, .int .i64 g2, .int .i64 g3, .int .i64 g4, .int .i64 g5, .int .i64 g6, .int .i64 seed] 23)).alloc (.cells #[.int .i64 c, .int .i64 h, .int .i64 k] 25)).heap[w.heap.size + 1]? = _ := heap_at _ _ (w.heap.size + 1) (by simp only [alloc_size])
  go_enter Try.func4, Try.ntmps4
  go_wp2_with (first | (refine wpList_load_row (by rfl) 23 _ (by rfl) w.heap.size _ (by rfl) HW0 _ Try.underlying23 rfl 9 Try.infoWhole (by rfl) ?_) | (refine wpList_load_row (by rfl) 25 _ (by rfl) (w.heap.size + 1) _ (by rfl) HS0 _ Try.underlying25 rfl 3 Try.infoShape (by rfl) ?_))
  refine Calls.mono (HM.out _) ?_
  rintro e w1 ⟨hmd, hb⟩
  have H1 : Hid (Below w.heap.size w w1 ∧ w1.heap[w.heap.size + 1]? = _) := ⟨to_call X0 hb, kept hb HS0⟩
  clear hb X0 HW0 HS0 HM
  rcases hmd with rfl | ⟨v1, v2, v3, v4, m1, m2, m3, m4, m5, z, N, cs, rfl, hK⟩
  · go_upto_region 2 with (first | (refine wpList_store_row (by rfl) 30 _ _ (by rfl) w1 w1.heap.size w1.heap.size _ _ (by rfl) (by rfl) (heap_alloc_new w1 _) ((Below.refl _ w1).alloc (Nat.le_refl _) _) (Nat.le_refl _) 14 Try.infoLy (by rfl) (by rfl) (one14i _ _ _ _ _ _ _ _ _ _ _ _ _ _ rfl rfl rfl rfl) ?_; intro W2 e2 hb2 hs2 ho2))
    have H2 : Hid (Below w.heap.size w W2) := to_call H1.out.1 hb2
    clear hb2 hs2 ho2 e2 H1
    go_wp2_with fail
    refine Calls.mono (HTO.out _) ?_
    rintro e w7 ⟨rfl, hb7⟩
    have H7 : Hid (Below w.heap.size w w7) := to_call H2.out hb7
    clear hb7 H2
    go_wp2_with fail
    go_ret
    exact ⟨rfl, H7.out⟩
  have KT : Hid _ := hK
  clear hK
  go_upto_region 2 with (first | (refine wpList_store_row (by rfl) 30 _ _ (by rfl) w1 w1.heap.size w1.heap.size _ _ (by rfl) (by rfl) (heap_alloc_new w1 _) ((Below.refl _ w1).alloc (Nat.le_refl _) _) (Nat.le_refl _) 14 Try.infoLy (by rfl) (by rfl) (one14i _ _ _ _ _ _ _ _ _ _ _ _ _ _ KT.out.one.1 KT.out.one.2.1 KT.out.one.2.2.1 KT.out.one.2.2.2) ?_; intro W2 e2 hb2 hs2 ho2))
  obtain ⟨B, hB⟩ : ∃ B, w1.heap.size = B := ⟨_, rfl⟩
  have H2 : Hid (Below w1.heap.size w1 W2 ∧ Below w.heap.size w W2 ∧ W2.heap[w.heap.size + 1]? = _ ∧ W2.heap[B]? = _) := ⟨hb2, to_call H1.out.1 hb2, kept hb2 H1.out.2, hB ▸ e2⟩
  rw [hB]
  clear hb2 hs2 ho2 e2 H1 hB
  have l0 := cellAt H2.out.2.2.2 0 (.int .i64 4) rfl
  have HS0 := H2.out.2.2.1
  have HL0 := H2.out.2.2.2
  go_wp2_with (first | (refine wpList_load_row (by rfl) 30 _ (by rfl) B _ (by rfl) HL0 _ Try.underlying30 rfl 14 Try.infoLy (by rfl) ?_) | (refine wpList_load_row (by rfl) 25 _ (by rfl) (w.heap.size + 1) _ (by rfl) HS0 _ Try.underlying25 rfl 3 Try.infoShape (by rfl) ?_))
  refine Calls.mono (KT.out.cnt _) ?_
  rintro e X ⟨rfl, hb⟩
  have H3 : Hid (Below w1.heap.size w1 X ∧ Below w.heap.size w X ∧ X.heap[w.heap.size + 1]? = _ ∧ X.heap[B]? = _) := ⟨to_call H2.out.1 hb, to_call H2.out.2.1 hb, kept hb H2.out.2.2.1, kept hb H2.out.2.2.2⟩
  clear hb H2 l0 HS0 HL0
  have dn : decide ((N : Int) < 1) = false := decide_eq_false (by have := KT.out.n; omega)
  go_wp2_with fail
  refine Calls.mono (HTO.out _) ?_
  rintro e Y ⟨rfl, hb⟩
  have HY : Hid (Below w1.heap.size w1 Y ∧ Below w.heap.size w Y ∧ Y.heap[w.heap.size + 1]? = _ ∧ Y.heap[B]? = _) := ⟨to_call H3.out.1 hb, to_call H3.out.2.1 hb, kept hb H3.out.2.2.1, kept hb H3.out.2.2.2⟩
  clear hb H3 dn HTO
  have s0 := cellAt HY.out.2.2.1 0 (.int .i64 c) rfl
  have nc := KT.out.c0
  have q6 : wrap64 ((N : Int) / c) = z := by rw [← Int.tdiv_eq_ediv_of_nonneg (by omega)]; exact (wrap64_eq _).trans KT.out.q6
  go_wp2_with fail
  rw [q6]
  clear s0 nc q6
  go_loopg [10] N (fun g v wx => ∃ i : Nat, v = .int .i64 i ∧ i + g = N ∧ Hid (Below Y.heap.size Y wx))
  case atStart => exact ⟨0, rfl, by omega, Below.refl _ _⟩
  case round =>
    obtain ⟨i, rfl, hi, HB⟩ := hrel
    by_cases hlt : i < N
    · obtain ⟨g, rfl⟩ : ∃ g, gk = g + 1 := ⟨gk - 1, by omega⟩
      have HN : Hid (i < N ∧ N ≤ 256 ∧ i + (g + 1) = N) := ⟨hlt, KT.out.n.2, hi⟩
      have hv1 : IntKind.i64.wrap ((i : Int) + 1) = (i : Int) + 1 := by have := HN.out; rw [IntKind.wrap_i64]; omega
      have hv2 : wrap64 ((i : Int) + 1) = (i : Int) + 1 := by have := HN.out; unfold wrap64; omega
      have hd : decide ((i : Int) < (N : Int)) = true := decide_eq_true (by omega)
      have HS0 := kept HB.out HY.out.2.2.1
      have HL0 := kept HB.out HY.out.2.2.2
      clear hi
      go_wp2_with (first | (refine wpList_load_row (by rfl) 30 _ (by rfl) B _ (by rfl) HL0 _ Try.underlying30 rfl 14 Try.infoLy (by rfl) ?_) | (refine wpList_load_row (by rfl) 25 _ (by rfl) (w.heap.size + 1) _ (by rfl) HS0 _ Try.underlying25 rfl 3 Try.infoShape (by rfl) ?_))
      refine Calls.mono (KT.out.win i HN.out.1 _) ?_
      rintro e w7 ⟨vp, rfl, ow, hb7⟩
      have HLN : Hid _ := KT.out.len i HN.out.1
      obtain ⟨ap, cp, rfl, hrd⟩ := rdM ow (Nat.le_trans HLN.out.2.2 (by decide))
      obtain ⟨gb, go, rfl, hgl, hat⟩ := hrd.at HLN.out.1
      obtain ⟨n, hn⟩ : ∃ n, (cs i).length = n := ⟨_, rfl⟩
      obtain ⟨xs, hxs⟩ : ∃ xs, cs i = xs := ⟨_, rfl⟩
      have HRD : Hid (RdIn w7 (some ⟨gb, go, none⟩) n cp xs) := hxs ▸ hn ▸ hrd
      have HAT : Hid (gb < w7.heap.size ∧ ∀ j, j < n → w7.cell? ⟨gb, go + j, none⟩ = some (.int .i64 (xs[j]?.getD 0))) := ⟨hgl, hxs ▸ hn ▸ hat⟩
      have HXS : Hid (xs.length = n ∧ 0 < n ∧ (n : Int) ≤ m2 ∧ n ≤ 256) := ⟨by rw [← hxs]; exact hn, hn ▸ HLN.out⟩
      have HRI : Hid (xs.Pairwise (· < ·)) := hxs ▸ KT.out.rise i HN.out.1
      have HME : Hid (∀ x ∈ xs, 0 ≤ x ∧ x < m5 ∧ (¬ (4 : Int) = 2 → IntKind.i64.wrap (x.tdiv m3) = IntKind.i64.wrap ((i : Int).tdiv z))) := hxs ▸ KT.out.mem i HN.out.1
      have HRO : Hid _ := KT.out.row i HN.out.1
      rw [hxs] at HRO
      rw [hn]
      have G7 : Hid (Below w1.heap.size w1 w7 ∧ Below Y.heap.size Y w7 ∧ w7.heap[w.heap.size + 1]? = _ ∧ w7.heap[B]? = _) := ⟨to_call HY.out.1 (to_call HB.out hb7), to_call HB.out hb7, kept hb7 HS0, kept hb7 HL0⟩
      clear hb7 HS0 HL0 HB hd ow hrd hgl hat hn hxs HLN
      have HS0 := G7.out.2.2.1
      have HL0 := G7.out.2.2.2
      have l2 := cellAt HL0 2 (.int .i64 g1) rfl
      have l3 := cellAt HL0 3 (.int .i64 g2) rfl
      have s0 := cellAt HS0 0 (.int .i64 c) rfl
      have n0 : ((n : Int) == 0) = false := by have := HXS.out; simp; omega
      have nm : decide (m2 < (n : Int)) = false := decide_eq_false (by have := HXS.out; omega)
      have p1 := KT.out.q1
      have p2 := KT.out.q2
      have p1' : wrap64 (g1 * g2) = m1 := (wrap64_eq _).trans p1
      have p2' : wrap64 (m1 * c) = m2 := (wrap64_eq _).trans p2
      go_wp2_with fail
      clear l2 l3 s0 n0 nm p1 p2 p1' p2' HS0 HL0
      go_loopg [13] n (fun g v wx => ∃ j : Nat, v = .int .i64 j ∧ j + g = n ∧ Hid (Below w7.heap.size w7 wx))
      case atStart => exact ⟨0, rfl, by omega, Below.refl _ _⟩
      case round =>
        obtain ⟨j, rfl, hj, HB2⟩ := hrel
        by_cases hlt : j < n
        · obtain ⟨g2, rfl⟩ : ∃ g2, gk = g2 + 1 := ⟨gk - 1, by omega⟩
          have HJ : Hid (j < n ∧ j + (g2 + 1) = n) := ⟨hlt, hj⟩
          have hw1 : IntKind.i64.wrap ((j : Int) + 1) = (j : Int) + 1 := by have := HXS.out; rw [IntKind.wrap_i64]; omega
          have hw2 : wrap64 ((j : Int) + 1) = (j : Int) + 1 := by have := HXS.out; unfold wrap64; omega
          have hdj : decide ((j : Int) < (n : Int)) = true := decide_eq_true (by omega)
          obtain ⟨x, hxe⟩ : ∃ x, xs[j]?.getD 0 = x := ⟨_, rfl⟩
          have hx := HME.out x (hxe ▸ getD_memI (by rw [HXS.out.1]; exact hlt))
          have HXX : Hid (0 ≤ x ∧ x < m5) := ⟨hx.1, hx.2.1⟩
          have HX9 : Hid (xs[j]?.getD 0 = x) := hxe
          have HS0 := kept HB2.out G7.out.2.2.1
          have HL0 := kept HB2.out G7.out.2.2.2
          have t0 : wr.cell? ⟨gb, go + j, none⟩ = some (.int .i64 x) := by rw [HB2.out.cell (p := ⟨gb, go + j, none⟩) HAT.out.1, ← hxe]; exact HAT.out.2 j hlt
          have l0 := cellAt HL0 0 (.int .i64 4) rfl
          have s0 := cellAt HS0 0 (.int .i64 c) rfl
          have s1 := cellAt HS0 1 (.int .i64 h) rfl
          have s2 := cellAt HS0 2 (.int .i64 k) rfl
          have i0 : (0 : Int) ≤ (j : Int) := by omega
          have i1 : (j : Int) < (n : Int) := by omega
          have ow : (wrap64 (x.tdiv m3) == wrap64 ((i : Int) / z)) = true := by rw [← Int.tdiv_eq_ediv_of_nonneg (by omega), wrap64_eq, wrap64_eq, hx.2.2 (by decide)]; exact beq_self_eq_true _
          have n3 := KT.out.q0
          have n7 := KT.out.q7 (by decide)
          clear hj hxe hx
          go_upto_region 17 with fail
          have p3 := KT.out.q3
          go_quiet (fail)
          clear ow n3 n7
          have HB3 : Hid (Below w7.heap.size w7 (wr.drewN nq)) := below_drewN HB2.out nq
          clear t0 l0 s0 s1 s2 p3 HS0 HL0 HB2
          generalize wr.drewN nq = wd at HB3 ⊢
          have HS0 := kept HB3.out G7.out.2.2.1
          have t0 : wd.cell? ⟨gb, go + j, none⟩ = some (.int .i64 x) := by rw [HB3.out.cell (p := ⟨gb, go + j, none⟩) HAT.out.1, ← HX9.out]; exact HAT.out.2 j hlt
          have s0 := cellAt HS0 0 (.int .i64 c) rfl
          have s1 := cellAt HS0 1 (.int .i64 h) rfl
          have s2 := cellAt HS0 2 (.int .i64 k) rfl
          have d0 : decide (x < 0) = false := decide_eq_false (by have := HXX.out; omega)
          have d1 : decide (m5 ≤ x) = false := decide_eq_false (by have := HXX.out; omega)
          have p4 := KT.out.q4
          have p5 := KT.out.q5
          by_cases hj0 : 0 < j
          · obtain ⟨j0, hj1⟩ : ∃ j0, j0 + 1 = j := ⟨j - 1, by omega⟩
            have dj : decide ((j : Int) > 0) = true := decide_eq_true (by omega)
            have wj : IntKind.i64.wrap ((j : Int) - 1) = (j0 : Int) := by have := HXS.out; have := HJ.out; rw [IntKind.wrap_i64]; omega
            have k0 : (0 : Int) ≤ (j0 : Int) := by omega
            have k1 : (j0 : Int) < (n : Int) := by have := HJ.out; omega
            obtain ⟨x', hxe'⟩ : ∃ x, xs[j0]?.getD 0 = x := ⟨_, rfl⟩
            have t1 : wd.cell? ⟨gb, go + j0, none⟩ = some (.int .i64 x') := by rw [HB3.out.cell (p := ⟨gb, go + j0, none⟩) HAT.out.1, ← hxe']; exact HAT.out.2 j0 (by have := HJ.out; omega)
            have dx : decide (x ≤ x') = false := decide_eq_false (by have := rise_at HRI.out (j := j0) (by have := HXS.out; have := HJ.out; omega); rw [hxe', hj1, HX9.out] at this; omega)
            clear hj1
            clear hxe'
            go_upto_region 18 with fail
            go_quiet (fail)
            have S9 : Hid (Below w7.heap.size w7 (wd.drewN nq)) := below_drewN HB3.out nq
            clear t0 s0 s1 s2 d0 d1 p4 p5 dj HS0 i0 i1 wj k0 k1 t1 dx
            go_wp2_with fail
            go_roundg g2
            case measure => omega
            case rel => exact ⟨j + 1, by go_num, by have := HJ.out; omega, S9⟩
          · have dj : decide ((j : Int) > 0) = false := decide_eq_false (by omega)
            go_upto_region 18 with fail
            go_quiet (fail)
            have S9 : Hid (Below w7.heap.size w7 (wd.drewN nq)) := below_drewN HB3.out nq
            clear t0 s0 s1 s2 d0 d1 p4 p5 dj HS0 i0 i1
            go_wp2_with fail
            go_roundg g2
            case measure => omega
            case rel => exact ⟨j + 1, by go_num, by have := HJ.out; omega, S9⟩
        · obtain rfl : n = j := by omega
          have hdj : decide ((n : Int) < (n : Int)) = false := decide_eq_false (by omega)
          have HS0 := kept HB2.out G7.out.2.2.1
          have HL0 := kept HB2.out G7.out.2.2.2
          clear hlt hj
          go_wp2_with (first | (refine wpList_load_row (by rfl) 30 _ (by rfl) B _ (by rfl) HL0 _ Try.underlying30 rfl 14 Try.infoLy (by rfl) ?_) | (refine wpList_load_row (by rfl) 25 _ (by rfl) (w.heap.size + 1) _ (by rfl) HS0 _ Try.underlying25 rfl 3 Try.infoShape (by rfl) ?_))
          refine Calls.mono (HRO.out _ (to_call G7.out.1 HB2.out)) ?_
          rintro e w9 ⟨hre, hb9⟩
          have H9 : Hid (Below w7.heap.size w7 w9 ∧ w9.heap[B]? = _) := ⟨to_call HB2.out hb9, kept hb9 HL0⟩
          have l0 := cellAt H9.out.2 0 (.int .i64 4) rfl
          rcases hre with ⟨h12, rfl⟩ | ⟨h12, va, vb, b, ws, rfl, hrv⟩
          · exact absurd h12 (by decide)
          obtain ⟨aq, cq, rfl, hrq⟩ := hrv.rdI (by have := HXS.out; omega)
          rw [HXS.out.1] at hrq ⊢
          have HRQ : Hid (RdIn w9 aq n cq xs) := hrq
          have HRP : Hid (RdIn w9 (some ⟨gb, go, none⟩) n cp xs) := HRD.out.later H9.out.1
          clear hb9 HS0 HL0 HB2 hdj h12 hrq hrv
          go_wp2_with fail
          refine Calls.mono (sameInts_any aq (some ⟨gb, go, none⟩) n cq cp xs w9 HRQ.out HRP.out) ?_
          rintro e w10 ⟨rfl, hb10⟩
          have H10 : Hid (Below Y.heap.size Y w10) := to_call (to_call G7.out.2.1 H9.out.1) hb10
          have l9 := cellAt (kept hb10 H9.out.2) 0 (.int .i64 4) rfl
          clear hb10 HRQ HRP l0
          go_wp2_with fail
          go_roundg g
          case measure => omega
          case rel => exact ⟨i + 1, by go_num, by have := HN.out; omega, H10⟩
    · obtain rfl : N = i := by omega
      have hd : decide ((N : Int) < (N : Int)) = false := decide_eq_false (by omega)
      clear hlt hi
      go_wp2_with fail
      go_ret
      exact ⟨rfl, to_call HY.out.2.1 HB.out⟩
set_option maxRecDepth 100000 in
set_option maxHeartbeats 8000000 in
theorem lawR12 (g0 g1 g2 g3 g4 g5 g6 seed c h k : Int) (AV : Nat) (hM : ∀ w, Calls Try.prog 5 #[.agg #[.int .i64 12, .int .i64 g0, .int .i64 g1, .int .i64 g2, .int .i64 g3, .int .i64 g4, .int .i64 g5, .int .i64 g6, .int .i64 seed], .agg #[.int .i64 c, .int .i64 h, .int .i64 k]] w fun e w' => MdR 12 g0 g1 g2 g3 g4 g5 g6 c h k AV w' e ∧ Below w.heap.size w w') (w : World) :
    Calls Try.prog 4 #[.agg #[.int .i64 12, .int .i64 g0, .int .i64 g1, .int .i64 g2, .int .i64 g3, .int .i64 g4, .int .i64 g5, .int .i64 g6, .int .i64 seed], .agg #[.int .i64 c, .int .i64 h, .int .i64 k]] w fun e w' => e = .returned (.bool true) ∧ Below w.heap.size w w' := by
  have HM : Hid _ := hM
  have HTO : Hid _ := told7
  clear hM
  have X0 : Below w.heap.size w ((w.alloc (.cells #[.int .i64 12, .int .i64 g0, .int .i64 g1, .int .i64 g2, .int .i64 g3, .int .i64 g4, .int .i64 g5, .int .i64 g6, .int .i64 seed] 23)).alloc (.cells #[.int .i64 c, .int .i64 h, .int .i64 k] 25)) := ((Below.refl _ w).alloc (Nat.le_refl _) _).alloc (by simp only [alloc_size]; omega) _
  have HW0 : ((w.alloc (.cells #[.int .i64 12, .int .i64 g0, .int .i64 g1, .int .i64 g2, .int .i64 g3, .int .i64 g4, .int .i64 g5, .int .i64 g6, .int .i64 seed] 23)).alloc (.cells #[.int .i64 c, .int .i64 h, .int .i64 k] 25)).heap[w.heap.size]? = _ := alloc_kept (heap_alloc_new w _) _
  have HS0 : ((w.alloc (.cells #[.int .i64 12, .int .i64 g0, .int .i64 g1, .int .i64 g2, .int .i64 g3, .int .i64 g4, .int .i64 g5, .int .i64 g6, .int .i64 seed] 23)).alloc (.cells #[.int .i64 c, .int .i64 h, .int .i64 k] 25)).heap[w.heap.size + 1]? = _ := heap_at _ _ (w.heap.size + 1) (by simp only [alloc_size])
  go_enter Try.func4, Try.ntmps4
  go_wp2_with (first | (refine wpList_load_row (by rfl) 23 _ (by rfl) w.heap.size _ (by rfl) HW0 _ Try.underlying23 rfl 9 Try.infoWhole (by rfl) ?_) | (refine wpList_load_row (by rfl) 25 _ (by rfl) (w.heap.size + 1) _ (by rfl) HS0 _ Try.underlying25 rfl 3 Try.infoShape (by rfl) ?_))
  refine Calls.mono (HM.out _) ?_
  rintro e w1 ⟨hmd, hb⟩
  have H1 : Hid (Below w.heap.size w w1 ∧ w1.heap[w.heap.size + 1]? = _) := ⟨to_call X0 hb, kept hb HS0⟩
  clear hb X0 HW0 HS0 HM
  rcases hmd with rfl | ⟨v1, v2, v3, v4, m1, m2, m3, m4, m5, z, N, cs, rfl, hK⟩
  · go_upto_region 2 with (first | (refine wpList_store_row (by rfl) 30 _ _ (by rfl) w1 w1.heap.size w1.heap.size _ _ (by rfl) (by rfl) (heap_alloc_new w1 _) ((Below.refl _ w1).alloc (Nat.le_refl _) _) (Nat.le_refl _) 14 Try.infoLy (by rfl) (by rfl) (one14i _ _ _ _ _ _ _ _ _ _ _ _ _ _ rfl rfl rfl rfl) ?_; intro W2 e2 hb2 hs2 ho2))
    have H2 : Hid (Below w.heap.size w W2) := to_call H1.out.1 hb2
    clear hb2 hs2 ho2 e2 H1
    go_wp2_with fail
    refine Calls.mono (HTO.out _) ?_
    rintro e w7 ⟨rfl, hb7⟩
    have H7 : Hid (Below w.heap.size w w7) := to_call H2.out hb7
    clear hb7 H2
    go_wp2_with fail
    go_ret
    exact ⟨rfl, H7.out⟩
  have KT : Hid _ := hK
  clear hK
  go_upto_region 2 with (first | (refine wpList_store_row (by rfl) 30 _ _ (by rfl) w1 w1.heap.size w1.heap.size _ _ (by rfl) (by rfl) (heap_alloc_new w1 _) ((Below.refl _ w1).alloc (Nat.le_refl _) _) (Nat.le_refl _) 14 Try.infoLy (by rfl) (by rfl) (one14i _ _ _ _ _ _ _ _ _ _ _ _ _ _ KT.out.one.1 KT.out.one.2.1 KT.out.one.2.2.1 KT.out.one.2.2.2) ?_; intro W2 e2 hb2 hs2 ho2))
  obtain ⟨B, hB⟩ : ∃ B, w1.heap.size = B := ⟨_, rfl⟩
  have H2 : Hid (Below w1.heap.size w1 W2 ∧ Below w.heap.size w W2 ∧ W2.heap[w.heap.size + 1]? = _ ∧ W2.heap[B]? = _) := ⟨hb2, to_call H1.out.1 hb2, kept hb2 H1.out.2, hB ▸ e2⟩
  rw [hB]
  clear hb2 hs2 ho2 e2 H1 hB
  have l0 := cellAt H2.out.2.2.2 0 (.int .i64 12) rfl
  have HS0 := H2.out.2.2.1
  have HL0 := H2.out.2.2.2
  go_wp2_with (first | (refine wpList_load_row (by rfl) 30 _ (by rfl) B _ (by rfl) HL0 _ Try.underlying30 rfl 14 Try.infoLy (by rfl) ?_) | (refine wpList_load_row (by rfl) 25 _ (by rfl) (w.heap.size + 1) _ (by rfl) HS0 _ Try.underlying25 rfl 3 Try.infoShape (by rfl) ?_))
  refine Calls.mono (KT.out.cnt _) ?_
  rintro e X ⟨rfl, hb⟩
  have H3 : Hid (Below w1.heap.size w1 X ∧ Below w.heap.size w X ∧ X.heap[w.heap.size + 1]? = _ ∧ X.heap[B]? = _) := ⟨to_call H2.out.1 hb, to_call H2.out.2.1 hb, kept hb H2.out.2.2.1, kept hb H2.out.2.2.2⟩
  clear hb H2 l0 HS0 HL0
  have dn : decide ((N : Int) < 1) = false := decide_eq_false (by have := KT.out.n; omega)
  go_wp2_with fail
  refine Calls.mono (HTO.out _) ?_
  rintro e Y ⟨rfl, hb⟩
  have HY : Hid (Below w1.heap.size w1 Y ∧ Below w.heap.size w Y ∧ Y.heap[w.heap.size + 1]? = _ ∧ Y.heap[B]? = _) := ⟨to_call H3.out.1 hb, to_call H3.out.2.1 hb, kept hb H3.out.2.2.1, kept hb H3.out.2.2.2⟩
  clear hb H3 dn HTO
  have s0 := cellAt HY.out.2.2.1 0 (.int .i64 c) rfl
  have nc := KT.out.c0
  have q6 : wrap64 ((N : Int) / c) = z := by rw [← Int.tdiv_eq_ediv_of_nonneg (by omega)]; exact (wrap64_eq _).trans KT.out.q6
  go_wp2_with fail
  rw [q6]
  clear s0 nc q6
  go_loopg [10] N (fun g v wx => ∃ i : Nat, v = .int .i64 i ∧ i + g = N ∧ Hid (Below Y.heap.size Y wx))
  case atStart => exact ⟨0, rfl, by omega, Below.refl _ _⟩
  case round =>
    obtain ⟨i, rfl, hi, HB⟩ := hrel
    by_cases hlt : i < N
    · obtain ⟨g, rfl⟩ : ∃ g, gk = g + 1 := ⟨gk - 1, by omega⟩
      have HN : Hid (i < N ∧ N ≤ 256 ∧ i + (g + 1) = N) := ⟨hlt, KT.out.n.2, hi⟩
      have hv1 : IntKind.i64.wrap ((i : Int) + 1) = (i : Int) + 1 := by have := HN.out; rw [IntKind.wrap_i64]; omega
      have hv2 : wrap64 ((i : Int) + 1) = (i : Int) + 1 := by have := HN.out; unfold wrap64; omega
      have hd : decide ((i : Int) < (N : Int)) = true := decide_eq_true (by omega)
      have HS0 := kept HB.out HY.out.2.2.1
      have HL0 := kept HB.out HY.out.2.2.2
      clear hi
      go_wp2_with (first | (refine wpList_load_row (by rfl) 30 _ (by rfl) B _ (by rfl) HL0 _ Try.underlying30 rfl 14 Try.infoLy (by rfl) ?_) | (refine wpList_load_row (by rfl) 25 _ (by rfl) (w.heap.size + 1) _ (by rfl) HS0 _ Try.underlying25 rfl 3 Try.infoShape (by rfl) ?_))
      refine Calls.mono (KT.out.win i HN.out.1 _) ?_
      rintro e w7 ⟨vp, rfl, ow, hb7⟩
      have HLN : Hid _ := KT.out.len i HN.out.1
      obtain ⟨ap, cp, rfl, hrd⟩ := rdM ow (Nat.le_trans HLN.out.2.2 (by decide))
      obtain ⟨gb, go, rfl, hgl, hat⟩ := hrd.at HLN.out.1
      obtain ⟨n, hn⟩ : ∃ n, (cs i).length = n := ⟨_, rfl⟩
      obtain ⟨xs, hxs⟩ : ∃ xs, cs i = xs := ⟨_, rfl⟩
      have HRD : Hid (RdIn w7 (some ⟨gb, go, none⟩) n cp xs) := hxs ▸ hn ▸ hrd
      have HAT : Hid (gb < w7.heap.size ∧ ∀ j, j < n → w7.cell? ⟨gb, go + j, none⟩ = some (.int .i64 (xs[j]?.getD 0))) := ⟨hgl, hxs ▸ hn ▸ hat⟩
      have HXS : Hid (xs.length = n ∧ 0 < n ∧ (n : Int) ≤ m2 ∧ n ≤ 256) := ⟨by rw [← hxs]; exact hn, hn ▸ HLN.out⟩
      have HRI : Hid (xs.Pairwise (· < ·)) := hxs ▸ KT.out.rise i HN.out.1
      have HME : Hid (∀ x ∈ xs, 0 ≤ x ∧ x < m5 ∧ (¬ (12 : Int) = 2 → IntKind.i64.wrap (x.tdiv m3) = IntKind.i64.wrap ((i : Int).tdiv z))) := hxs ▸ KT.out.mem i HN.out.1
      have HRO : Hid _ := KT.out.row i HN.out.1
      rw [hxs] at HRO
      rw [hn]
      have G7 : Hid (Below w1.heap.size w1 w7 ∧ Below Y.heap.size Y w7 ∧ w7.heap[w.heap.size + 1]? = _ ∧ w7.heap[B]? = _) := ⟨to_call HY.out.1 (to_call HB.out hb7), to_call HB.out hb7, kept hb7 HS0, kept hb7 HL0⟩
      clear hb7 HS0 HL0 HB hd ow hrd hgl hat hn hxs HLN
      have HS0 := G7.out.2.2.1
      have HL0 := G7.out.2.2.2
      have l2 := cellAt HL0 2 (.int .i64 g1) rfl
      have l3 := cellAt HL0 3 (.int .i64 g2) rfl
      have s0 := cellAt HS0 0 (.int .i64 c) rfl
      have n0 : ((n : Int) == 0) = false := by have := HXS.out; simp; omega
      have nm : decide (m2 < (n : Int)) = false := decide_eq_false (by have := HXS.out; omega)
      have p1 := KT.out.q1
      have p2 := KT.out.q2
      have p1' : wrap64 (g1 * g2) = m1 := (wrap64_eq _).trans p1
      have p2' : wrap64 (m1 * c) = m2 := (wrap64_eq _).trans p2
      go_wp2_with fail
      clear l2 l3 s0 n0 nm p1 p2 p1' p2' HS0 HL0
      go_loopg [13] n (fun g v wx => ∃ j : Nat, v = .int .i64 j ∧ j + g = n ∧ Hid (Below w7.heap.size w7 wx))
      case atStart => exact ⟨0, rfl, by omega, Below.refl _ _⟩
      case round =>
        obtain ⟨j, rfl, hj, HB2⟩ := hrel
        by_cases hlt : j < n
        · obtain ⟨g2, rfl⟩ : ∃ g2, gk = g2 + 1 := ⟨gk - 1, by omega⟩
          have HJ : Hid (j < n ∧ j + (g2 + 1) = n) := ⟨hlt, hj⟩
          have hw1 : IntKind.i64.wrap ((j : Int) + 1) = (j : Int) + 1 := by have := HXS.out; rw [IntKind.wrap_i64]; omega
          have hw2 : wrap64 ((j : Int) + 1) = (j : Int) + 1 := by have := HXS.out; unfold wrap64; omega
          have hdj : decide ((j : Int) < (n : Int)) = true := decide_eq_true (by omega)
          obtain ⟨x, hxe⟩ : ∃ x, xs[j]?.getD 0 = x := ⟨_, rfl⟩
          have hx := HME.out x (hxe ▸ getD_memI (by rw [HXS.out.1]; exact hlt))
          have HXX : Hid (0 ≤ x ∧ x < m5) := ⟨hx.1, hx.2.1⟩
          have HX9 : Hid (xs[j]?.getD 0 = x) := hxe
          have HS0 := kept HB2.out G7.out.2.2.1
          have HL0 := kept HB2.out G7.out.2.2.2
          have t0 : wr.cell? ⟨gb, go + j, none⟩ = some (.int .i64 x) := by rw [HB2.out.cell (p := ⟨gb, go + j, none⟩) HAT.out.1, ← hxe]; exact HAT.out.2 j hlt
          have l0 := cellAt HL0 0 (.int .i64 12) rfl
          have s0 := cellAt HS0 0 (.int .i64 c) rfl
          have s1 := cellAt HS0 1 (.int .i64 h) rfl
          have s2 := cellAt HS0 2 (.int .i64 k) rfl
          have i0 : (0 : Int) ≤ (j : Int) := by omega
          have i1 : (j : Int) < (n : Int) := by omega
          have ow : (wrap64 (x.tdiv m3) == wrap64 ((i : Int) / z)) = true := by rw [← Int.tdiv_eq_ediv_of_nonneg (by omega), wrap64_eq, wrap64_eq, hx.2.2 (by decide)]; exact beq_self_eq_true _
          have n3 := KT.out.q0
          have n7 := KT.out.q7 (by decide)
          clear hj hxe hx
          go_upto_region 17 with fail
          have p3 := KT.out.q3
          go_quiet (fail)
          clear ow n3 n7
          have HB3 : Hid (Below w7.heap.size w7 (wr.drewN nq)) := below_drewN HB2.out nq
          clear t0 l0 s0 s1 s2 p3 HS0 HL0 HB2
          generalize wr.drewN nq = wd at HB3 ⊢
          have HS0 := kept HB3.out G7.out.2.2.1
          have t0 : wd.cell? ⟨gb, go + j, none⟩ = some (.int .i64 x) := by rw [HB3.out.cell (p := ⟨gb, go + j, none⟩) HAT.out.1, ← HX9.out]; exact HAT.out.2 j hlt
          have s0 := cellAt HS0 0 (.int .i64 c) rfl
          have s1 := cellAt HS0 1 (.int .i64 h) rfl
          have s2 := cellAt HS0 2 (.int .i64 k) rfl
          have d0 : decide (x < 0) = false := decide_eq_false (by have := HXX.out; omega)
          have d1 : decide (m5 ≤ x) = false := decide_eq_false (by have := HXX.out; omega)
          have p4 := KT.out.q4
          have p5 := KT.out.q5
          by_cases hj0 : 0 < j
          · obtain ⟨j0, hj1⟩ : ∃ j0, j0 + 1 = j := ⟨j - 1, by omega⟩
            have dj : decide ((j : Int) > 0) = true := decide_eq_true (by omega)
            have wj : IntKind.i64.wrap ((j : Int) - 1) = (j0 : Int) := by have := HXS.out; have := HJ.out; rw [IntKind.wrap_i64]; omega
            have k0 : (0 : Int) ≤ (j0 : Int) := by omega
            have k1 : (j0 : Int) < (n : Int) := by have := HJ.out; omega
            obtain ⟨x', hxe'⟩ : ∃ x, xs[j0]?.getD 0 = x := ⟨_, rfl⟩
            have t1 : wd.cell? ⟨gb, go + j0, none⟩ = some (.int .i64 x') := by rw [HB3.out.cell (p := ⟨gb, go + j0, none⟩) HAT.out.1, ← hxe']; exact HAT.out.2 j0 (by have := HJ.out; omega)
            have dx : decide (x ≤ x') = false := decide_eq_false (by have := rise_at HRI.out (j := j0) (by have := HXS.out; have := HJ.out; omega); rw [hxe', hj1, HX9.out] at this; omega)
            clear hj1
            clear hxe'
            go_upto_region 18 with fail
            go_quiet (fail)
            have S9 : Hid (Below w7.heap.size w7 (wd.drewN nq)) := below_drewN HB3.out nq
            clear t0 s0 s1 s2 d0 d1 p4 p5 dj HS0 i0 i1 wj k0 k1 t1 dx
            go_wp2_with fail
            go_roundg g2
            case measure => omega
            case rel => exact ⟨j + 1, by go_num, by have := HJ.out; omega, S9⟩
          · have dj : decide ((j : Int) > 0) = false := decide_eq_false (by omega)
            go_upto_region 18 with fail
            go_quiet (fail)
            have S9 : Hid (Below w7.heap.size w7 (wd.drewN nq)) := below_drewN HB3.out nq
            clear t0 s0 s1 s2 d0 d1 p4 p5 dj HS0 i0 i1
            go_wp2_with fail
            go_roundg g2
            case measure => omega
            case rel => exact ⟨j + 1, by go_num, by have := HJ.out; omega, S9⟩
        · obtain rfl : n = j := by omega
          have hdj : decide ((n : Int) < (n : Int)) = false := decide_eq_false (by omega)
          have HS0 := kept HB2.out G7.out.2.2.1
          have HL0 := kept HB2.out G7.out.2.2.2
          clear hlt hj
          go_wp2_with (first | (refine wpList_load_row (by rfl) 30 _ (by rfl) B _ (by rfl) HL0 _ Try.underlying30 rfl 14 Try.infoLy (by rfl) ?_) | (refine wpList_load_row (by rfl) 25 _ (by rfl) (w.heap.size + 1) _ (by rfl) HS0 _ Try.underlying25 rfl 3 Try.infoShape (by rfl) ?_))
          refine Calls.mono (HRO.out _ (to_call G7.out.1 HB2.out)) ?_
          rintro e w9 ⟨hre, hb9⟩
          have H9 : Hid (Below w7.heap.size w7 w9 ∧ w9.heap[B]? = _) := ⟨to_call HB2.out hb9, kept hb9 HL0⟩
          have l0 := cellAt H9.out.2 0 (.int .i64 12) rfl
          rcases hre with ⟨h12, rfl⟩ | ⟨h12, va, vb, b, ws, rfl, hrv⟩
          rotate_left
          · exact absurd rfl h12
          clear hb9 HS0 HL0 HB2 hdj h12
          go_wp2_with fail
          go_roundg g
          case measure => omega
          case rel => exact ⟨i + 1, by go_num, by have := HN.out; omega, to_call G7.out.2.1 H9.out.1⟩
    · obtain rfl : N = i := by omega
      have hd : decide ((N : Int) < (N : Int)) = false := decide_eq_false (by omega)
      clear hlt hi
      go_wp2_with fail
      go_ret
      exact ⟨rfl, to_call HY.out.2.1 HB.out⟩
set_option maxRecDepth 100000 in
set_option maxHeartbeats 8000000 in
theorem lawR2 (g0 g1 g2 g3 g4 g5 g6 seed c h k : Int) (AV : Nat) (hM : ∀ w, Calls Try.prog 5 #[.agg #[.int .i64 2, .int .i64 g0, .int .i64 g1, .int .i64 g2, .int .i64 g3, .int .i64 g4, .int .i64 g5, .int .i64 g6, .int .i64 seed], .agg #[.int .i64 c, .int .i64 h, .int .i64 k]] w fun e w' => MdR 2 g0 g1 g2 g3 g4 g5 g6 c h k AV w' e ∧ Below w.heap.size w w') (w : World) :
    Calls Try.prog 4 #[.agg #[.int .i64 2, .int .i64 g0, .int .i64 g1, .int .i64 g2, .int .i64 g3, .int .i64 g4, .int .i64 g5, .int .i64 g6, .int .i64 seed], .agg #[.int .i64 c, .int .i64 h, .int .i64 k]] w fun e w' => e = .returned (.bool true) ∧ Below w.heap.size w w' := by
  have HM : Hid _ := hM
  have HTO : Hid _ := told7
  clear hM
  have X0 : Below w.heap.size w ((w.alloc (.cells #[.int .i64 2, .int .i64 g0, .int .i64 g1, .int .i64 g2, .int .i64 g3, .int .i64 g4, .int .i64 g5, .int .i64 g6, .int .i64 seed] 23)).alloc (.cells #[.int .i64 c, .int .i64 h, .int .i64 k] 25)) := ((Below.refl _ w).alloc (Nat.le_refl _) _).alloc (by simp only [alloc_size]; omega) _
  have HW0 : ((w.alloc (.cells #[.int .i64 2, .int .i64 g0, .int .i64 g1, .int .i64 g2, .int .i64 g3, .int .i64 g4, .int .i64 g5, .int .i64 g6, .int .i64 seed] 23)).alloc (.cells #[.int .i64 c, .int .i64 h, .int .i64 k] 25)).heap[w.heap.size]? = _ := alloc_kept (heap_alloc_new w _) _
  have HS0 : ((w.alloc (.cells #[.int .i64 2, .int .i64 g0, .int .i64 g1, .int .i64 g2, .int .i64 g3, .int .i64 g4, .int .i64 g5, .int .i64 g6, .int .i64 seed] 23)).alloc (.cells #[.int .i64 c, .int .i64 h, .int .i64 k] 25)).heap[w.heap.size + 1]? = _ := heap_at _ _ (w.heap.size + 1) (by simp only [alloc_size])
  go_enter Try.func4, Try.ntmps4
  go_wp2_with (first | (refine wpList_load_row (by rfl) 23 _ (by rfl) w.heap.size _ (by rfl) HW0 _ Try.underlying23 rfl 9 Try.infoWhole (by rfl) ?_) | (refine wpList_load_row (by rfl) 25 _ (by rfl) (w.heap.size + 1) _ (by rfl) HS0 _ Try.underlying25 rfl 3 Try.infoShape (by rfl) ?_))
  refine Calls.mono (HM.out _) ?_
  rintro e w1 ⟨hmd, hb⟩
  have H1 : Hid (Below w.heap.size w w1 ∧ w1.heap[w.heap.size + 1]? = _) := ⟨to_call X0 hb, kept hb HS0⟩
  clear hb X0 HW0 HS0 HM
  rcases hmd with rfl | ⟨v1, v2, v3, v4, m1, m2, m3, m4, m5, z, N, cs, rfl, hK⟩
  · go_upto_region 2 with (first | (refine wpList_store_row (by rfl) 30 _ _ (by rfl) w1 w1.heap.size w1.heap.size _ _ (by rfl) (by rfl) (heap_alloc_new w1 _) ((Below.refl _ w1).alloc (Nat.le_refl _) _) (Nat.le_refl _) 14 Try.infoLy (by rfl) (by rfl) (one14i _ _ _ _ _ _ _ _ _ _ _ _ _ _ rfl rfl rfl rfl) ?_; intro W2 e2 hb2 hs2 ho2))
    have H2 : Hid (Below w.heap.size w W2) := to_call H1.out.1 hb2
    clear hb2 hs2 ho2 e2 H1
    go_wp2_with fail
    refine Calls.mono (HTO.out _) ?_
    rintro e w7 ⟨rfl, hb7⟩
    have H7 : Hid (Below w.heap.size w w7) := to_call H2.out hb7
    clear hb7 H2
    go_wp2_with fail
    go_ret
    exact ⟨rfl, H7.out⟩
  have KT : Hid _ := hK
  clear hK
  go_upto_region 2 with (first | (refine wpList_store_row (by rfl) 30 _ _ (by rfl) w1 w1.heap.size w1.heap.size _ _ (by rfl) (by rfl) (heap_alloc_new w1 _) ((Below.refl _ w1).alloc (Nat.le_refl _) _) (Nat.le_refl _) 14 Try.infoLy (by rfl) (by rfl) (one14i _ _ _ _ _ _ _ _ _ _ _ _ _ _ KT.out.one.1 KT.out.one.2.1 KT.out.one.2.2.1 KT.out.one.2.2.2) ?_; intro W2 e2 hb2 hs2 ho2))
  obtain ⟨B, hB⟩ : ∃ B, w1.heap.size = B := ⟨_, rfl⟩
  have H2 : Hid (Below w1.heap.size w1 W2 ∧ Below w.heap.size w W2 ∧ W2.heap[w.heap.size + 1]? = _ ∧ W2.heap[B]? = _) := ⟨hb2, to_call H1.out.1 hb2, kept hb2 H1.out.2, hB ▸ e2⟩
  rw [hB]
  clear hb2 hs2 ho2 e2 H1 hB
  have l0 := cellAt H2.out.2.2.2 0 (.int .i64 2) rfl
  have HS0 := H2.out.2.2.1
  have HL0 := H2.out.2.2.2
  go_wp2_with (first | (refine wpList_load_row (by rfl) 30 _ (by rfl) B _ (by rfl) HL0 _ Try.underlying30 rfl 14 Try.infoLy (by rfl) ?_) | (refine wpList_load_row (by rfl) 25 _ (by rfl) (w.heap.size + 1) _ (by rfl) HS0 _ Try.underlying25 rfl 3 Try.infoShape (by rfl) ?_))
  refine Calls.mono (KT.out.cnt _) ?_
  rintro e X ⟨rfl, hb⟩
  have H3 : Hid (Below w1.heap.size w1 X ∧ Below w.heap.size w X ∧ X.heap[w.heap.size + 1]? = _ ∧ X.heap[B]? = _) := ⟨to_call H2.out.1 hb, to_call H2.out.2.1 hb, kept hb H2.out.2.2.1, kept hb H2.out.2.2.2⟩
  clear hb H2 l0 HS0 HL0
  have dn : decide ((N : Int) < 1) = false := decide_eq_false (by have := KT.out.n; omega)
  go_wp2_with fail
  refine Calls.mono (HTO.out _) ?_
  rintro e Y ⟨rfl, hb⟩
  have HY : Hid (Below w1.heap.size w1 Y ∧ Below w.heap.size w Y ∧ Y.heap[w.heap.size + 1]? = _ ∧ Y.heap[B]? = _) := ⟨to_call H3.out.1 hb, to_call H3.out.2.1 hb, kept hb H3.out.2.2.1, kept hb H3.out.2.2.2⟩
  clear hb H3 dn HTO
  have s0 := cellAt HY.out.2.2.1 0 (.int .i64 c) rfl
  have nc := KT.out.c0
  have q6 : wrap64 ((N : Int) / c) = z := by rw [← Int.tdiv_eq_ediv_of_nonneg (by omega)]; exact (wrap64_eq _).trans KT.out.q6
  go_wp2_with fail
  rw [q6]
  clear s0 nc q6
  go_loopg [10] N (fun g v wx => ∃ i : Nat, v = .int .i64 i ∧ i + g = N ∧ Hid (Below Y.heap.size Y wx))
  case atStart => exact ⟨0, rfl, by omega, Below.refl _ _⟩
  case round =>
    obtain ⟨i, rfl, hi, HB⟩ := hrel
    by_cases hlt : i < N
    · obtain ⟨g, rfl⟩ : ∃ g, gk = g + 1 := ⟨gk - 1, by omega⟩
      have HN : Hid (i < N ∧ N ≤ 256 ∧ i + (g + 1) = N) := ⟨hlt, KT.out.n.2, hi⟩
      have hv1 : IntKind.i64.wrap ((i : Int) + 1) = (i : Int) + 1 := by have := HN.out; rw [IntKind.wrap_i64]; omega
      have hv2 : wrap64 ((i : Int) + 1) = (i : Int) + 1 := by have := HN.out; unfold wrap64; omega
      have hd : decide ((i : Int) < (N : Int)) = true := decide_eq_true (by omega)
      have HS0 := kept HB.out HY.out.2.2.1
      have HL0 := kept HB.out HY.out.2.2.2
      clear hi
      go_wp2_with (first | (refine wpList_load_row (by rfl) 30 _ (by rfl) B _ (by rfl) HL0 _ Try.underlying30 rfl 14 Try.infoLy (by rfl) ?_) | (refine wpList_load_row (by rfl) 25 _ (by rfl) (w.heap.size + 1) _ (by rfl) HS0 _ Try.underlying25 rfl 3 Try.infoShape (by rfl) ?_))
      refine Calls.mono (KT.out.win i HN.out.1 _) ?_
      rintro e w7 ⟨vp, rfl, ow, hb7⟩
      have HLN : Hid _ := KT.out.len i HN.out.1
      obtain ⟨ap, cp, rfl, hrd⟩ := rdM ow (Nat.le_trans HLN.out.2.2 (by decide))
      obtain ⟨gb, go, rfl, hgl, hat⟩ := hrd.at HLN.out.1
      obtain ⟨n, hn⟩ : ∃ n, (cs i).length = n := ⟨_, rfl⟩
      obtain ⟨xs, hxs⟩ : ∃ xs, cs i = xs := ⟨_, rfl⟩
      have HRD : Hid (RdIn w7 (some ⟨gb, go, none⟩) n cp xs) := hxs ▸ hn ▸ hrd
      have HAT : Hid (gb < w7.heap.size ∧ ∀ j, j < n → w7.cell? ⟨gb, go + j, none⟩ = some (.int .i64 (xs[j]?.getD 0))) := ⟨hgl, hxs ▸ hn ▸ hat⟩
      have HXS : Hid (xs.length = n ∧ 0 < n ∧ (n : Int) ≤ m2 ∧ n ≤ 256) := ⟨by rw [← hxs]; exact hn, hn ▸ HLN.out⟩
      have HRI : Hid (xs.Pairwise (· < ·)) := hxs ▸ KT.out.rise i HN.out.1
      have HME : Hid (∀ x ∈ xs, 0 ≤ x ∧ x < m5 ∧ (¬ (2 : Int) = 2 → IntKind.i64.wrap (x.tdiv m3) = IntKind.i64.wrap ((i : Int).tdiv z))) := hxs ▸ KT.out.mem i HN.out.1
      have HRO : Hid _ := KT.out.row i HN.out.1
      rw [hxs] at HRO
      rw [hn]
      have G7 : Hid (Below w1.heap.size w1 w7 ∧ Below Y.heap.size Y w7 ∧ w7.heap[w.heap.size + 1]? = _ ∧ w7.heap[B]? = _) := ⟨to_call HY.out.1 (to_call HB.out hb7), to_call HB.out hb7, kept hb7 HS0, kept hb7 HL0⟩
      clear hb7 HS0 HL0 HB hd ow hrd hgl hat hn hxs HLN
      have HS0 := G7.out.2.2.1
      have HL0 := G7.out.2.2.2
      have l2 := cellAt HL0 2 (.int .i64 g1) rfl
      have l3 := cellAt HL0 3 (.int .i64 g2) rfl
      have s0 := cellAt HS0 0 (.int .i64 c) rfl
      have n0 : ((n : Int) == 0) = false := by have := HXS.out; simp; omega
      have nm : decide (m2 < (n : Int)) = false := decide_eq_false (by have := HXS.out; omega)
      have p1 := KT.out.q1
      have p2 := KT.out.q2
      have p1' : wrap64 (g1 * g2) = m1 := (wrap64_eq _).trans p1
      have p2' : wrap64 (m1 * c) = m2 := (wrap64_eq _).trans p2
      go_wp2_with fail
      clear l2 l3 s0 n0 nm p1 p2 p1' p2' HS0 HL0
      go_loopg [13] n (fun g v wx => ∃ j : Nat, v = .int .i64 j ∧ j + g = n ∧ Hid (Below w7.heap.size w7 wx))
      case atStart => exact ⟨0, rfl, by omega, Below.refl _ _⟩
      case round =>
        obtain ⟨j, rfl, hj, HB2⟩ := hrel
        by_cases hlt : j < n
        · obtain ⟨g2, rfl⟩ : ∃ g2, gk = g2 + 1 := ⟨gk - 1, by omega⟩
          have HJ : Hid (j < n ∧ j + (g2 + 1) = n) := ⟨hlt, hj⟩
          have hw1 : IntKind.i64.wrap ((j : Int) + 1) = (j : Int) + 1 := by have := HXS.out; rw [IntKind.wrap_i64]; omega
          have hw2 : wrap64 ((j : Int) + 1) = (j : Int) + 1 := by have := HXS.out; unfold wrap64; omega
          have hdj : decide ((j : Int) < (n : Int)) = true := decide_eq_true (by omega)
          obtain ⟨x, hxe⟩ : ∃ x, xs[j]?.getD 0 = x := ⟨_, rfl⟩
          have hx := HME.out x (hxe ▸ getD_memI (by rw [HXS.out.1]; exact hlt))
          have HXX : Hid (0 ≤ x ∧ x < m5) := ⟨hx.1, hx.2.1⟩
          have HX9 : Hid (xs[j]?.getD 0 = x) := hxe
          have HS0 := kept HB2.out G7.out.2.2.1
          have HL0 := kept HB2.out G7.out.2.2.2
          have t0 : wr.cell? ⟨gb, go + j, none⟩ = some (.int .i64 x) := by rw [HB2.out.cell (p := ⟨gb, go + j, none⟩) HAT.out.1, ← hxe]; exact HAT.out.2 j hlt
          have l0 := cellAt HL0 0 (.int .i64 2) rfl
          have s0 := cellAt HS0 0 (.int .i64 c) rfl
          have s1 := cellAt HS0 1 (.int .i64 h) rfl
          have s2 := cellAt HS0 2 (.int .i64 k) rfl
          have i0 : (0 : Int) ≤ (j : Int) := by omega
          have i1 : (j : Int) < (n : Int) := by omega
          clear hj hxe hx
          go_upto_region 17 with fail
          have p3 := KT.out.q3
          go_quiet (fail)
          have HB3 : Hid (Below w7.heap.size w7 (wr.drewN nq)) := below_drewN HB2.out nq
          clear t0 l0 s0 s1 s2 p3 HS0 HL0 HB2
          generalize wr.drewN nq = wd at HB3 ⊢
          have HS0 := kept HB3.out G7.out.2.2.1
          have t0 : wd.cell? ⟨gb, go + j, none⟩ = some (.int .i64 x) := by rw [HB3.out.cell (p := ⟨gb, go + j, none⟩) HAT.out.1, ← HX9.out]; exact HAT.out.2 j hlt
          have s0 := cellAt HS0 0 (.int .i64 c) rfl
          have s1 := cellAt HS0 1 (.int .i64 h) rfl
          have s2 := cellAt HS0 2 (.int .i64 k) rfl
          have d0 : decide (x < 0) = false := decide_eq_false (by have := HXX.out; omega)
          have d1 : decide (m5 ≤ x) = false := decide_eq_false (by have := HXX.out; omega)
          have p4 := KT.out.q4
          have p5 := KT.out.q5
          by_cases hj0 : 0 < j
          · obtain ⟨j0, hj1⟩ : ∃ j0, j0 + 1 = j := ⟨j - 1, by omega⟩
            have dj : decide ((j : Int) > 0) = true := decide_eq_true (by omega)
            have wj : IntKind.i64.wrap ((j : Int) - 1) = (j0 : Int) := by have := HXS.out; have := HJ.out; rw [IntKind.wrap_i64]; omega
            have k0 : (0 : Int) ≤ (j0 : Int) := by omega
            have k1 : (j0 : Int) < (n : Int) := by have := HJ.out; omega
            obtain ⟨x', hxe'⟩ : ∃ x, xs[j0]?.getD 0 = x := ⟨_, rfl⟩
            have t1 : wd.cell? ⟨gb, go + j0, none⟩ = some (.int .i64 x') := by rw [HB3.out.cell (p := ⟨gb, go + j0, none⟩) HAT.out.1, ← hxe']; exact HAT.out.2 j0 (by have := HJ.out; omega)
            have dx : decide (x ≤ x') = false := decide_eq_false (by have := rise_at HRI.out (j := j0) (by have := HXS.out; have := HJ.out; omega); rw [hxe', hj1, HX9.out] at this; omega)
            clear hj1
            clear hxe'
            go_upto_region 18 with fail
            go_quiet (fail)
            have S9 : Hid (Below w7.heap.size w7 (wd.drewN nq)) := below_drewN HB3.out nq
            clear t0 s0 s1 s2 d0 d1 p4 p5 dj HS0 i0 i1 wj k0 k1 t1 dx
            go_wp2_with fail
            go_roundg g2
            case measure => omega
            case rel => exact ⟨j + 1, by go_num, by have := HJ.out; omega, S9⟩
          · have dj : decide ((j : Int) > 0) = false := decide_eq_false (by omega)
            go_upto_region 18 with fail
            go_quiet (fail)
            have S9 : Hid (Below w7.heap.size w7 (wd.drewN nq)) := below_drewN HB3.out nq
            clear t0 s0 s1 s2 d0 d1 p4 p5 dj HS0 i0 i1
            go_wp2_with fail
            go_roundg g2
            case measure => omega
            case rel => exact ⟨j + 1, by go_num, by have := HJ.out; omega, S9⟩
        · obtain rfl : n = j := by omega
          have hdj : decide ((n : Int) < (n : Int)) = false := decide_eq_false (by omega)
          have HS0 := kept HB2.out G7.out.2.2.1
          have HL0 := kept HB2.out G7.out.2.2.2
          clear hlt hj
          go_wp2_with (first | (refine wpList_load_row (by rfl) 30 _ (by rfl) B _ (by rfl) HL0 _ Try.underlying30 rfl 14 Try.infoLy (by rfl) ?_) | (refine wpList_load_row (by rfl) 25 _ (by rfl) (w.heap.size + 1) _ (by rfl) HS0 _ Try.underlying25 rfl 3 Try.infoShape (by rfl) ?_))
          refine Calls.mono (HRO.out _ (to_call G7.out.1 HB2.out)) ?_
          rintro e w9 ⟨hre, hb9⟩
          have H9 : Hid (Below w7.heap.size w7 w9 ∧ w9.heap[B]? = _) := ⟨to_call HB2.out hb9, kept hb9 HL0⟩
          have l0 := cellAt H9.out.2 0 (.int .i64 2) rfl
          rcases hre with ⟨h12, rfl⟩ | ⟨h12, va, vb, b, ws, rfl, hrv⟩
          · exact absurd h12 (by decide)
          obtain ⟨aq, cq, rfl, hrq⟩ := hrv.rdI (by have := HXS.out; omega)
          rw [HXS.out.1] at hrq ⊢
          have HRQ : Hid (RdIn w9 aq n cq xs) := hrq
          have HRP : Hid (RdIn w9 (some ⟨gb, go, none⟩) n cp xs) := HRD.out.later H9.out.1
          clear hb9 HS0 HL0 HB2 hdj h12 hrq hrv
          go_wp2_with fail
          refine Calls.mono (sameInts_any aq (some ⟨gb, go, none⟩) n cq cp xs w9 HRQ.out HRP.out) ?_
          rintro e w10 ⟨rfl, hb10⟩
          have H10 : Hid (Below Y.heap.size Y w10) := to_call (to_call G7.out.2.1 H9.out.1) hb10
          have l9 := cellAt (kept hb10 H9.out.2) 0 (.int .i64 2) rfl
          clear hb10 HRQ HRP l0
          go_wp2_with fail
          go_roundg g
          case measure => omega
          case rel => exact ⟨i + 1, by go_num, by have := HN.out; omega, H10⟩
    · obtain rfl : N = i := by omega
      have hd : decide ((N : Int) < (N : Int)) = false := decide_eq_false (by omega)
      clear hlt hi
      go_wp2_with fail
      go_ret
      exact ⟨rfl, to_call HY.out.2.1 HB.out⟩
end Go.Proofs.Ytokglpemefkmjaa
