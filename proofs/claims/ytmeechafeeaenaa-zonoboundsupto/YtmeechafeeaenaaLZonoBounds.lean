import Derived.Test.YtmeechafeeaenaaJYh
namespace Go.Proofs.Ytmeechafeeaenaa
open Go.RowKit Go.Shelf
set_option linter.unusedVariables false
set_option linter.unusedSimpArgs false

set_option maxRecDepth 100000 in
set_option maxHeartbeats 8000000 in
theorem zonoBounds_walk (z : ZD) (w : World) (hz : ZR w z) (hw : ZW z) :
    Calls Try.prog 3 #[.agg (zRow z)] w fun e w' => e = .returned (.bool true) ∧ Below w.heap.size w w' := by
  have HOF : Hid (∀ W', Below w.heap.size w W' → _) := fun W' hb => of10_any z W' (hz.later hb) hw
  have HZ : Hid (∀ W', Below w.heap.size w W' → ZR W' z) := fun W' hb => hz.later hb
  have HGL : Hid (∀ j, j < z.gn → (z.gs[j]?.getD []).length ≤ 1048576) := fun j hj => by rw [(hz.g.each j hj).length]; exact hw.coll j hj
  have HWZ : Hid _ := hw
  have H64 : Hid _ := zr_fin64 hz
  unfold zRow at HOF ⊢
  clear hz hw
  have X0 : Below w.heap.size w (w.alloc (.cells #[.int .i64 z.N, .slice z.co z.cn z.cc, .slice z.io z.dn z.dc, .slice z.go z.gn z.gc, .slice z.ro z.rn z.rc, .bool z.bad] 26)) := (Below.refl _ w).alloc (Nat.le_refl _) _
  have Y0 : (w.alloc (.cells #[.int .i64 z.N, .slice z.co z.cn z.cc, .slice z.io z.dn z.dc, .slice z.go z.gn z.gc, .slice z.ro z.rn z.rc, .bool z.bad] 26)).heap[w.heap.size]? = some (.cells #[.int .i64 z.N, .slice z.co z.cn z.cc, .slice z.io z.dn z.dc, .slice z.go z.gn z.gc, .slice z.ro z.rn z.rc, .bool z.bad] 26) := heap_alloc_new w _
  have HX : Hid _ := And.intro X0 Y0
  clear X0 Y0
  have HRE : Hid (∀ W' (u : ZD), ZU W' u → (u.N = z.N ∧ u.bad = z.bad ∧ u.cs = z.cs ∧ u.rs = z.rs ∧ u.ids = z.ids ∧ u.gs = z.gs ∧ u.dn = z.dn ∧ u.gn = z.gn ∧ u.cn = z.cn ∧ u.rn = z.rn) → Calls Try.prog 4 #[.agg #[.int .i64 u.N, .slice u.co u.cn u.cc, .slice u.io u.dn u.dc, .slice u.go u.gn u.gc, .slice u.ro u.rn u.rc, .bool u.bad]] W' fun e w' => ∃ N' a1 l1 c1 a2 l2 c2 a3 l3 c3 a4 l4 c4, e = .returned (.tuple #[.agg #[.int .i64 N', .slice a1 l1 c1, .slice a2 l2 c2, .slice a3 l3 c3, .slice a4 l4 c4], .bool (!z.bad && wholeB z)]) ∧ ((!z.bad && wholeB z) = true → N' = z.N) ∧ Below W'.heap.size W' w') := by
    rintro W' u hu ⟨k1, k2, k3, k4, k5, k6, k7, k8, k9, k10⟩
    have huw : UW u := ⟨by rw [k9]; exact HWZ.out.cl, by rw [k10]; exact HWZ.out.rl, by rw [k7]; exact HWZ.out.il, by rw [k8]; exact HWZ.out.gl, fun k hk => by rw [← (hu.g.each k hk).length, k6]; exact HGL.out k (by rw [← k8]; exact hk), by rw [k3]; exact H64.out.1, by rw [k4]; exact H64.out.2.1, by rw [k6]; exact H64.out.2.2⟩
    have hge := good_eq k2 (checkB_eq u z k1 k2 k3 k4 k5 k6 k9 k7 k8 k10)
    have h := reals_any u 1074 rfl W' hu huw
    rw [hge] at h
    refine Calls.mono h ?_
    rintro e w' ⟨⟨N', a1, l1, c1, a2, l2, c2, a3, l3, c3, a4, l4, c4, he, hN⟩, hb⟩
    exact ⟨N', a1, l1, c1, a2, l2, c2, a3, l3, c3, a4, l4, c4, he, fun g => by rw [(hN g).1, k1], hb⟩
  go_enter Try.func3, Try.ntmps3
  go_upto_region 2 with (first
    | (refine wpList_load_row (by rfl) 26 _ (by rfl) w.heap.size _ (by rfl) HX.out.2 _ Try.underlying26 rfl 6 Try.infoZ (by rfl) ?_)
    | (go_at_call 5; refine Calls.mono (HOF.out _ HX.out.1) ?_; rintro e w1 ⟨u, rfl, hu, u1, u2, u3, u4, u5, u6, u7, u8, u9, u10, b1⟩; have HU1 : Hid (u.N = z.N ∧ u.bad = z.bad ∧ u.cs = z.cs ∧ u.rs = z.rs ∧ u.ids = z.ids ∧ u.gs = z.gs ∧ u.dn = z.dn ∧ u.gn = z.gn ∧ u.cn = z.cn ∧ u.rn = z.rn) := ⟨u1, u2, u3, u4, u5, u6, u7, u8, u9, u10⟩; clear u1 u2 u3 u4 u5 u6 u7 u8 u9 u10)
    | (go_at_call 4; refine Calls.mono (HRE.out _ _ hu HU1.out) ?_; rintro e w2 ⟨N', a1, l1, c1, a2, l2, c2, a3, l3, c3, a4, l4, c4, rfl, hN, b2⟩; have HN : Hid _ := hN; clear hN))
  have A2 : Below w2.heap.size w2 (w2.alloc (.cells #[.int .i64 N', .slice a1 l1 c1, .slice a2 l2 c2, .slice a3 l3 c3, .slice a4 l4 c4] 30)) := (Below.refl _ w2).alloc (Nat.le_refl _) _
  have P2 : Hid (Below w.heap.size w (w2.alloc (.cells #[.int .i64 N', .slice a1 l1 c1, .slice a2 l2 c2, .slice a3 l3 c3, .slice a4 l4 c4] 30)) ∧ (w2.alloc (.cells #[.int .i64 N', .slice a1 l1 c1, .slice a2 l2 c2, .slice a3 l3 c3, .slice a4 l4 c4] 30)).heap[w.heap.size]? = some (.cells #[.int .i64 z.N, .slice z.co z.cn z.cc, .slice z.io z.dn z.dc, .slice z.go z.gn z.gc, .slice z.ro z.rn z.rc, .bool z.bad] 26) ∧ (w2.alloc (.cells #[.int .i64 N', .slice a1 l1 c1, .slice a2 l2 c2, .slice a3 l3 c3, .slice a4 l4 c4] 30)).heap[w2.heap.size]? = some (.cells #[.int .i64 N', .slice a1 l1 c1, .slice a2 l2 c2, .slice a3 l3 c3, .slice a4 l4 c4] 30)) := ⟨to_call (to_call (to_call HX.out.1 b1) b2) A2, kept A2 (kept b2 (kept b1 HX.out.2)), heap_alloc_new w2 _⟩
  obtain ⟨X, hX⟩ : ∃ X, w2.alloc (.cells #[.int .i64 N', .slice a1 l1 c1, .slice a2 l2 c2, .slice a3 l3 c3, .slice a4 l4 c4] 30) = X := ⟨_, rfl⟩
  obtain ⟨B3, hB3⟩ : ∃ B3, w2.heap.size = B3 := ⟨_, rfl⟩
  rw [hX, hB3] at P2
  rw [hX, hB3]
  clear hX hB3 A2 b1 b2 hu HX HOF HRE HU1
  cases hgd : (!z.bad && wholeB z) with
  | false =>
    have HBN : Hid (∀ W', Below w.heap.size w W' → _) := fun W' hb => bounds_no z W' (HZ.out W' hb) (tk_bad hgd)
    clear hgd
    go_wp2_with (first
      | (refine wpList_load_row (by rfl) 26 _ (by rfl) w.heap.size _ (by rfl) P2.out.2.1 _ Try.underlying26 rfl 6 Try.infoZ (by rfl) ?_)
      | (go_at_call 6; refine Calls.mono (HBN.out _ P2.out.1) ?_; rintro e w3 ⟨rfl, b3⟩)
      | (go_at_call 7; refine Calls.mono (started_any _) ?_; rintro e w9 ⟨rfl, b9⟩))
    go_ret
    exact ⟨rfl, to_call (to_call P2.out.1 b3) b9⟩
  | true =>
    obtain ⟨hb0, hwh, hck⟩ := tk_good hgd
    have HF : Hid (WhF z) := WhF.of (HZ.out w (Below.refl _ _)) HWZ.out.il hwh
    have HN' : N' = (z.rn : Int) := by rw [HN.out hgd]; exact HF.out.N
    have HBO : Hid (∀ W', Below w.heap.size w W' → _) := fun W' hb => bounds_ok z W' (HZ.out W' hb) hck hb0 HF.out.N (by have := HF.out.n2; omega) (Nat.le_of_eq HF.out.dg) HF.out.cn HF.out.gl
    have HSU : Hid (∀ W', Below w.heap.size w W' → ∀ (B i b : Nat) (s : Int), sgJ b s → W'.heap[B]? = some (.cells (fl2 (axL z.rn i b)).toArray 41) → Calls Try.prog 8 #[.agg #[.int .i64 z.N, .slice z.co z.cn z.cc, .slice z.io z.dn z.dc, .slice z.go z.gn z.gc, .slice z.ro z.rn z.rc, .bool z.bad], .slice (some ⟨B, 0, none⟩) z.rn z.rn] W' fun e w' => ∃ u b', e = .returned (.tuple #[.float .f64 u, .bool b']) ∧ Hid (RndO 1 (supO z (axL z.rn i b)) u b') ∧ Below W'.heap.size W' w') := fun W' hb B i b s hs hB => by
      refine Calls.mono (support_ok z (some ⟨B, 0, none⟩) z.rn z.rn (axL z.rn i b) W' (HZ.out W' hb) (rdF_blk hB (axL_len _ _ _) (by have := HF.out.n2; omega) (axL_lt hs)) hck hb0 (by rw [HF.out.N]; exact axL_num hs) ⟨HF.out.dg, by rw [axL_len]; exact HF.out.cl, by rw [axL_len]; exact HF.out.rl, fun k hk => by rw [axL_len]; exact HF.out.gl k hk⟩) ?_
      rintro e w' ⟨⟨u, b', he, hr⟩, hb'⟩
      exact ⟨u, b', he, hr, hb'⟩
    have hn2 : z.rn ≤ 256 := HF.out.n2
    have hne : ((z.rn : Int) != (z.rn : Int)) = false := by simp
    subst HN'
    clear hgd hb0 hwh hck HN
    go_upto_region 7 with (first
      | (refine wpList_load_row (by rfl) 26 _ (by rfl) w.heap.size _ (by rfl) P2.out.2.1 _ Try.underlying26 rfl 6 Try.infoZ (by rfl) ?_)
      | (go_at_call 6; refine Calls.mono (HBO.out _ P2.out.1) ?_; rintro e w3 ⟨⟨g, rfl, hg, hsp⟩, b3⟩; have HSP : Hid _ := hsp; clear hsp; have c0 : w3.cell? ⟨B3, 0, none⟩ = some (.int .i64 (z.rn : Int)) := cellAtJ (kept b3 P2.out.2.2) 0 _ rfl))
    have P3 : Hid (w3.heap[w.heap.size]? = some (.cells #[.int .i64 z.N, .slice z.co z.cn z.cc, .slice z.io z.dn z.dc, .slice z.go z.gn z.gc, .slice z.ro z.rn z.rc, .bool z.bad] 26) ∧ w3.heap[B3]? = some (.cells #[.int .i64 (z.rn : Int), .slice a1 l1 c1, .slice a2 l2 c2, .slice a3 l3 c3, .slice a4 l4 c4] 30) ∧ SpL w3 g z.rn z.rn (fun j r => AroR (z.cs[j]?.getD 0) (farZ z j) r) ∧ Below w.heap.size w w3) := ⟨kept b3 P2.out.2.1, kept b3 P2.out.2.2, HSP.out, to_call P2.out.1 b3⟩
    clear HBO b3 P2 HSP c0 hg
    go_wp2_with fail
    go_loopg [6] z.rn (fun q v6 wx => ∃ (k : Nat), v6 = .int .i64 k ∧ k + q = z.rn ∧ Hid (Below w3.heap.size w3 wx))
    case atStart => exact ⟨0, rfl, by omega, Below.refl _ _⟩
    case round =>
      obtain ⟨k, rfl, hk, HQ⟩ := hrel
      have c0 : wr.cell? ⟨B3, 0, none⟩ = some (.int .i64 (z.rn : Int)) := cellAtJ (kept HQ.out P3.out.2.1) 0 _ rfl
      by_cases h1 : k < z.rn
      · have hd1 : decide ((k : Int) < (z.rn : Int)) = true := decide_eq_true (by omega)
        by_cases h2 : k < 12
        · have hd2 : decide ((k : Int) < 12) = true := decide_eq_true (by omega)
          obtain ⟨q, rfl⟩ : ∃ q, gk = q + 1 := ⟨gk - 1, by omega⟩
          have HIG : Hid _ := hk
          clear hk
          have hmk := fun W => makeFJ4 z.rn (by omega) W
          go_upto_region 11 with fail
          have A1 : Below w3.heap.size w3 (wr.alloc (.cells (flN z.rn) 41)) := HQ.out.alloc HQ.out.size _
          have E1 : (wr.alloc (.cells (flN z.rn) 41)).heap[wr.heap.size]? = some (.cells (fl2 (List.replicate z.rn 0)).toArray 41) := by rw [← flN_fl2]; exact heap_alloc_new wr _
          have hBl : w3.heap.size ≤ wr.heap.size := HQ.out.size
          obtain ⟨W1, hW1⟩ : ∃ W1, wr.alloc (.cells (flN z.rn) 41) = W1 := ⟨_, rfl⟩
          obtain ⟨B, hB⟩ : ∃ B, wr.heap.size = B := ⟨_, rfl⟩
          rw [hW1, hB] at E1
          rw [hW1] at A1
          rw [hB] at hBl
          rw [hW1, hB]
          clear hW1 hB hmk c0
          go_upto_region 12 with (refine wpList_store_at (by rfl) 41 _ _ (by rfl) w3 w3.heap.size B k (.float .f64 4607182418800017408) _ (fl2 (axL z.rn k 4607182418800017408)).toArray 41 (by rfl) (by rfl) E1 A1 hBl 1 Try.szF1 rfl (by rw [List.size_toArray, fl2_len, List.length_replicate]; omega) (oneF _) (fl2_set _ _ _ (by rw [List.length_replicate]; exact h1)) ?_; intro W2 e2 b2 s2 o2)
          have E2 : Hid _ := And.intro e2 b2
          clear e2 b2 s2 o2 E1 A1
          go_upto_region 13 with (first
            | (refine wpList_load_row (by rfl) 26 _ (by rfl) w.heap.size _ (by rfl) (kept E2.out.2 P3.out.1) _ Try.underlying26 rfl 6 Try.infoZ (by rfl) ?_)
            | (go_at_call 8; refine Calls.mono (HSU.out _ (to_call P3.out.2.2.2 E2.out.2) B k _ 1 (.inl ⟨rfl, rfl⟩) E2.out.1) ?_; rintro e W4 ⟨s, ok, rfl, hs, b4⟩))
          have E4 : Hid (W4.heap[B]? = some (.cells (fl2 (axL z.rn k 4607182418800017408)).toArray 41) ∧ Below w3.heap.size w3 W4) := ⟨kept b4 E2.out.1, to_call E2.out.2 b4⟩
          clear E2 b4
          go_upto_region 14 with (refine wpList_store_at (by rfl) 41 _ _ (by rfl) w3 w3.heap.size B k (.float .f64 13830554455654793216) _ (fl2 (axL z.rn k 13830554455654793216)).toArray 41 (by rfl) (by rfl) E4.out.1 E4.out.2 hBl 1 Try.szF1 rfl (by rw [List.size_toArray, fl2_len, axL_len]; omega) (oneF _) (by rw [fl2_set _ _ _ (by rw [axL_len]; exact h1), axL_again]) ?_; intro W5 e5 b5 s5 o5)
          have E5 : Hid _ := And.intro e5 b5
          clear e5 b5 s5 o5 E4
          go_upto_region 15 with (first
            | (refine wpList_load_row (by rfl) 26 _ (by rfl) w.heap.size _ (by rfl) (kept E5.out.2 P3.out.1) _ Try.underlying26 rfl 6 Try.infoZ (by rfl) ?_)
            | (go_at_call 8; refine Calls.mono (HSU.out _ (to_call P3.out.2.2.2 E5.out.2) B k _ (-1) (.inr ⟨rfl, rfl⟩) E5.out.1) ?_; rintro e W6 ⟨t, is, rfl, ht, b6⟩))
          have Q6 : Hid (Below w3.heap.size w3 W6) := to_call E5.out.2 b6
          clear E5 b6
          obtain ⟨arr, ha1, ha2, ha3⟩ := P3.out.2.2.1.ex
          obtain ⟨r, hr, r1, r2, r3⟩ := ha3 k h1
          have hag := axes_agree HF.out.fin HF.out.rl rfl h1 (HF.out.pos k) (axL_at h1) (axL_len _ _ _) (axL_at h1) (axL_len _ _ _) hr hs.out ht.out
          have g1 := cellAtJ (kept Q6.out ha1) _ _ r1
          have g2 := cellAtJ (kept Q6.out ha1) _ _ r2
          have g3 := cellAtJ (kept Q6.out ha1) _ _ r3
          clear r1 r2 r3 ha1 ha2 ha3 hr hs ht arr
          obtain ⟨lo, hi, bd⟩ := r
          dsimp only at g1 g2 g3 hag
          obtain ⟨hbd, hrs⟩ := hag
          cases ok with
          | false =>
            have hb2 : bd = true := by rw [hbd]; simp
            clear hbd hrs
            subst hb2
            cases is <;> (go_wp2_with fail; go_roundg q; (case measure => omega); (case rel => exact ⟨k + 1, by go_num, by have := HIG.out; omega, Q6⟩))
          | true =>
            cases is with
            | false =>
              have hb2 : bd = true := by rw [hbd]; simp
              clear hbd hrs
              subst hb2
              go_wp2_with fail
              go_roundg q
              case measure => omega
              case rel => exact ⟨k + 1, by go_num, by have := HIG.out; omega, Q6⟩
            | true =>
              have hb2 : bd = false := by rw [hbd]; simp
              clear hbd
              subst hb2
              obtain ⟨rfl, hneg, f1, f2, f3, l1, l2, l3⟩ := hrs rfl
              have HNG : Hid _ := And.intro hneg (And.intro f1 (And.intro f3 (And.intro l1 l3)))
              clear hneg hrs
              have n1 : (FloatKind.f64.format.order hi hi != some Ordering.eq) = false := by rw [neq_ordN f2 f2]; simp
              have ft : Fin (fopp t) := by unfold Fin; rw [(fopp_parts HNG.out.2.2.2.2).1]; exact HNG.out.2.2.1
              have n2 : (FloatKind.f64.format.order lo (fopp t) != some Ordering.eq) = false := by rw [neq_ordN HNG.out.2.1 ft, fopp_srung HNG.out.2.2.2.2, HNG.out.1]; simp
              have hng := run_neg t
              go_wp2_with fail
              go_roundg q
              case measure => omega
              case rel => exact ⟨k + 1, by go_num, by have := HIG.out; omega, Q6⟩
        · have hd2 : decide ((k : Int) < 12) = false := decide_eq_false (by omega)
          go_wp2_with (go_at_call 7; refine Calls.mono (started_any _) ?_; rintro e w9 ⟨rfl, b9⟩)
          go_ret
          exact ⟨rfl, to_call P3.out.2.2.2 (to_call HQ.out b9)⟩
      · have hd1 : decide ((k : Int) < (z.rn : Int)) = false := decide_eq_false (by omega)
        go_wp2_with (go_at_call 7; refine Calls.mono (started_any _) ?_; rintro e w9 ⟨rfl, b9⟩)
        go_ret
        exact ⟨rfl, to_call P3.out.2.2.2 (to_call HQ.out b9)⟩
end Go.Proofs.Ytmeechafeeaenaa
