import Derived.Test.YtfepcpkfbnpbjaaGreatGJc
namespace Go.Proofs.YtfepcpkfbnpbjaaGreat
open Go.RowKit Go.Shelf
set_option linter.unusedVariables false
set_option linter.unusedSimpArgs false

/-- Are two zonotopes the same, as they are taken? -/
def sameZ (a b : ZD) : Bool := decide (a.N = b.N) && decide (a.bad = b.bad) && decide (a.ids = b.ids) && sameL a.cs b.cs && sameL a.rs b.rs && sameG a.gs b.gs
set_option maxRecDepth 100000 in
set_option maxHeartbeats 1500000 in
theorem same_anyJ (a b : ZD) (w : World) (ha : ZR w a) (hb : ZR w b) :
    Calls Tryz.prog 36 #[.agg #[.int .i64 a.N, .slice a.co a.cn a.cc, .slice a.io a.dn a.dc, .slice a.go a.gn a.gc, .slice a.ro a.rn a.rc, .bool a.bad], .agg #[.int .i64 b.N, .slice b.co b.cn b.cc, .slice b.io b.dn b.dc, .slice b.go b.gn b.gc, .slice b.ro b.rn b.rc, .bool b.bad]] w fun e w' => e = .returned (.bool (sameZ (tkZ a) (tkZ b))) ∧ Below w.heap.size w w' := by
  have HTa : Hid (∀ W', Below w.heap.size w W' → Calls Tryz.prog 21 #[.agg #[.int .i64 a.N, .slice a.co a.cn a.cc, .slice a.io a.dn a.dc, .slice a.go a.gn a.gc, .slice a.ro a.rn a.rc, .bool a.bad]] W' fun e w' => e = .returned (.agg (zRow (tkZ a))) ∧ Below W'.heap.size W' w') := fun W' h => takenZ_any a W' (ha.later h)
  have HTb : Hid (∀ W', Below w.heap.size w W' → Calls Tryz.prog 21 #[.agg #[.int .i64 b.N, .slice b.co b.cn b.cc, .slice b.io b.dn b.dc, .slice b.go b.gn b.gc, .slice b.ro b.rn b.rc, .bool b.bad]] W' fun e w' => e = .returned (.agg (zRow (tkZ b))) ∧ Below W'.heap.size W' w') := fun W' h => takenZ_any b W' (hb.later h)
  have Ra := tkZ_ZR ha
  have Rb := tkZ_ZR hb
  have Fa := tkZ_fin ha
  have Fb := tkZ_fin hb
  obtain ⟨a1, hea⟩ : ∃ a1, tkZ a = a1 := ⟨_, rfl⟩
  obtain ⟨b1, heb⟩ : ∃ b1, tkZ b = b1 := ⟨_, rfl⟩
  rw [hea] at HTa Ra Fa ⊢
  rw [heb] at HTb Rb Fb ⊢
  clear ha hb hea heb
  have HI : Hid (∀ W', Below w.heap.size w W' → Calls Tryz.prog 74 #[.slice a1.io a1.dn a1.dc, .slice b1.io b1.dn b1.dc] W' fun e w' => e = .returned (.bool (decide (a1.ids = b1.ids))) ∧ Below W'.heap.size W' w') := fun W' h => equalI_any _ _ _ _ _ _ _ _ W' (Ra.later h).i (Rb.later h).i
  have HC : Hid (∀ W', Below w.heap.size w W' → Calls Tryz.prog 75 #[.slice a1.co a1.cn a1.cc, .slice b1.co b1.cn b1.cc] W' fun e w' => e = .returned (.bool (sameL a1.cs b1.cs)) ∧ Below W'.heap.size W' w') := fun W' h => equalF_any _ _ _ _ _ _ _ _ Fa.c Fb.c W' (Ra.later h).c (Rb.later h).c
  have HR : Hid (∀ W', Below w.heap.size w W' → Calls Tryz.prog 75 #[.slice a1.ro a1.rn a1.rc, .slice b1.ro b1.rn b1.rc] W' fun e w' => e = .returned (.bool (sameL a1.rs b1.rs)) ∧ Below W'.heap.size W' w') := fun W' h => equalF_any _ _ _ _ _ _ _ _ Fa.r Fb.r W' (Ra.later h).r (Rb.later h).r
  have HG : Hid (∀ W', Below w.heap.size w W' → Calls Tryz.prog 76 #[.slice a1.go a1.gn a1.gc, .slice b1.go b1.gn b1.gc, .func (.func 75) #[] #[]] W' fun e w' => e = .returned (.bool (sameG a1.gs b1.gs)) ∧ Below W'.heap.size W' w') := fun W' h => equalG_any _ _ _ _ _ _ _ _ _ _ Fa.g Fb.g W' (Ra.later h).g (Rb.later h).g
  have HE : Hid (sameZ a1 b1 = (decide (a1.N = b1.N) && decide (a1.bad = b1.bad) && decide (a1.ids = b1.ids) && sameL a1.cs b1.cs && sameL a1.rs b1.rs && sameG a1.gs b1.gs)) := rfl
  obtain ⟨sz, hsz⟩ : ∃ sz, sameZ a1 b1 = sz := ⟨_, rfl⟩
  rw [hsz] at HE ⊢
  obtain ⟨i0, hi0⟩ : ∃ i0, decide (a1.ids = b1.ids) = i0 := ⟨_, rfl⟩
  obtain ⟨c0, hc0⟩ : ∃ c0, sameL a1.cs b1.cs = c0 := ⟨_, rfl⟩
  obtain ⟨r0, hr0⟩ : ∃ r0, sameL a1.rs b1.rs = r0 := ⟨_, rfl⟩
  obtain ⟨g0, hg0⟩ : ∃ g0, sameG a1.gs b1.gs = g0 := ⟨_, rfl⟩
  rw [hi0] at HI HE
  rw [hc0] at HC HE
  rw [hr0] at HR HE
  rw [hg0] at HG HE
  clear hsz hi0 hc0 hr0 hg0 Ra Rb Fa Fb
  obtain ⟨N1, co1, cn1, cc1, io1, dn1, dc1, go1, gn1, gc1, ro1, rn1, rc1, bad1, cs1, ids1, gv1, gs1, rs1⟩ := a1
  obtain ⟨N2, co2, cn2, cc2, io2, dn2, dc2, go2, gn2, gc2, ro2, rn2, rc2, bad2, cs2, ids2, gv2, gs2, rs2⟩ := b1
  unfold zRow at HTa HTb
  dsimp only at HTa HTb HI HC HR HG HE
  have X0 : Below w.heap.size w ((w.alloc (.cells #[.int .i64 a.N, .slice a.co a.cn a.cc, .slice a.io a.dn a.dc, .slice a.go a.gn a.gc, .slice a.ro a.rn a.rc, .bool a.bad] 26)).alloc (.cells #[.int .i64 b.N, .slice b.co b.cn b.cc, .slice b.io b.dn b.dc, .slice b.go b.gn b.gc, .slice b.ro b.rn b.rc, .bool b.bad] 26)) := ((Below.refl _ w).alloc (Nat.le_refl _) _).alloc (by simp only [alloc_size]; omega) _
  go_enter Tryz.func36, Tryz.ntmps36
  go_upto_region 1 with fail
  rename_i K hK
  have REST : ∀ W, Below w.heap.size w W → W.heap[w.heap.size]? = some (.cells #[.int .i64 N1, .slice co1 cn1 cc1, .slice io1 dn1 dc1, .slice go1 gn1 gc1, .slice ro1 rn1 rc1, .bool bad1] 26) → W.heap[w.heap.size + 1]? = some (.cells #[.int .i64 N2, .slice co2 cn2 cc2, .slice io2 dn2 dc2, .slice go2 gn2 gc2, .slice ro2 rn2 rc2, .bool bad2] 26) → K ⟨#[.agg #[.int .i64 a.N, .slice a.co a.cn a.cc, .slice a.io a.dn a.dc, .slice a.go a.gn a.gc, .slice a.ro a.rn a.rc, .bool a.bad], .agg #[.int .i64 b.N, .slice b.co b.cn b.cc, .slice b.io b.dn b.dc, .slice b.go b.gn b.gc, .slice b.ro b.rn b.rc, .bool b.bad], .pointer (some ⟨w.heap.size, 0, none⟩), .pointer (some ⟨w.heap.size + 1, 0, none⟩), .bool false, .agg #[.int .i64 a.N, .slice a.co a.cn a.cc, .slice a.io a.dn a.dc, .slice a.go a.gn a.gc, .slice a.ro a.rn a.rc, .bool a.bad], .agg #[.int .i64 N1, .slice co1 cn1 cc1, .slice io1 dn1 dc1, .slice go1 gn1 gc1, .slice ro1 rn1 rc1, .bool bad1], .agg #[.int .i64 b.N, .slice b.co b.cn b.cc, .slice b.io b.dn b.dc, .slice b.go b.gn b.gc, .slice b.ro b.rn b.rc, .bool b.bad], .agg #[.int .i64 N2, .slice co2 cn2 cc2, .slice io2 dn2 dc2, .slice go2 gn2 gc2, .slice ro2 rn2 rc2, .bool bad2], undef, undef, undef, undef, undef, undef, undef, undef, undef, undef, undef, undef, undef, undef, undef, undef, undef, undef, undef, undef, undef, undef, undef, undef, undef, undef, undef, undef, undef, undef, undef, undef, undef, undef, undef, undef, undef, undef, undef, undef], []⟩ W := by
    intro W bW eA eB
    refine hK _ _ ?_
    clear hK X0 HTa HTb
    obtain ⟨a0, a1, a2, a3, a4, a5⟩ := cells6 eA
    obtain ⟨b0, b1, b2, b3, b4, b5⟩ := cells6 eB
    have eAW := eA
    have eBW := eB
    have bWW := bW
    clear eA eB
    by_cases q0 : N1 = N2
    case neg =>
      have d0 : (N1 == N2) = false := by simpa using q0
      have HS : Hid (sz = false) := by unfold Hid; rw [HE.out]; simp [q0]
      go_wp2_with fail
      go_ret
      exact ⟨by rw [HS.out]; rfl, bW⟩
    subst q0
    by_cases q1 : bad1 = bad2
    case neg =>
      have d1 : (bad1 == bad2) = false := by simpa using q1
      have HS : Hid (sz = false) := by unfold Hid; rw [HE.out]; simp [q1]
      go_wp2_with fail
      go_ret
      exact ⟨by rw [HS.out]; rfl, bW⟩
    subst q1
    have HS0 : Hid (sz = (i0 && c0 && r0 && g0)) := by unfold Hid; rw [HE.out]; simp
    cases i0
    case false =>
      have HS : Hid (sz = false) := by unfold Hid; rw [HS0.out]; simp
      go_wp2_with (go_at_call 74; refine Calls.mono (HI.out _ bW) ?_; rintro e Wi ⟨rfl, hbWi⟩; have bWi := to_call bW hbWi; have eAWi := kept hbWi eAW; have eBWi := kept hbWi eBW; obtain ⟨a0Wi, a1Wi, a2Wi, a3Wi, a4Wi, a5Wi⟩ := cells6 eAWi; obtain ⟨b0Wi, b1Wi, b2Wi, b3Wi, b4Wi, b5Wi⟩ := cells6 eBWi)
      go_ret
      exact ⟨by rw [HS.out]; rfl, bWi⟩
    cases c0
    case false =>
      have HS : Hid (sz = false) := by unfold Hid; rw [HS0.out]; simp
      go_wp2_with (first | (go_at_call 74; refine Calls.mono (HI.out _ bW) ?_; rintro e Wi ⟨rfl, hbWi⟩; have bWi := to_call bW hbWi; have eAWi := kept hbWi eAW; have eBWi := kept hbWi eBW; obtain ⟨a0Wi, a1Wi, a2Wi, a3Wi, a4Wi, a5Wi⟩ := cells6 eAWi; obtain ⟨b0Wi, b1Wi, b2Wi, b3Wi, b4Wi, b5Wi⟩ := cells6 eBWi) | (go_at_call_of 75 (Value.slice co1 cn1 cc1); refine Calls.mono (HC.out _ bWi) ?_; rintro e Wc ⟨rfl, hbWc⟩; have bWc := to_call bWi hbWc; have eAWc := kept hbWc eAWi; have eBWc := kept hbWc eBWi; obtain ⟨a0Wc, a1Wc, a2Wc, a3Wc, a4Wc, a5Wc⟩ := cells6 eAWc; obtain ⟨b0Wc, b1Wc, b2Wc, b3Wc, b4Wc, b5Wc⟩ := cells6 eBWc))
      go_ret
      exact ⟨by rw [HS.out]; rfl, bWc⟩
    cases r0
    case false =>
      have HS : Hid (sz = false) := by unfold Hid; rw [HS0.out]; simp
      go_wp2_with (first | (go_at_call 74; refine Calls.mono (HI.out _ bW) ?_; rintro e Wi ⟨rfl, hbWi⟩; have bWi := to_call bW hbWi; have eAWi := kept hbWi eAW; have eBWi := kept hbWi eBW; obtain ⟨a0Wi, a1Wi, a2Wi, a3Wi, a4Wi, a5Wi⟩ := cells6 eAWi; obtain ⟨b0Wi, b1Wi, b2Wi, b3Wi, b4Wi, b5Wi⟩ := cells6 eBWi) | (go_at_call_of 75 (Value.slice co1 cn1 cc1); refine Calls.mono (HC.out _ bWi) ?_; rintro e Wc ⟨rfl, hbWc⟩; have bWc := to_call bWi hbWc; have eAWc := kept hbWc eAWi; have eBWc := kept hbWc eBWi; obtain ⟨a0Wc, a1Wc, a2Wc, a3Wc, a4Wc, a5Wc⟩ := cells6 eAWc; obtain ⟨b0Wc, b1Wc, b2Wc, b3Wc, b4Wc, b5Wc⟩ := cells6 eBWc) | (go_at_call_of 75 (Value.slice ro1 rn1 rc1); refine Calls.mono (HR.out _ bWc) ?_; rintro e Wr ⟨rfl, hbWr⟩; have bWr := to_call bWc hbWr; have eAWr := kept hbWr eAWc; have eBWr := kept hbWr eBWc; obtain ⟨a0Wr, a1Wr, a2Wr, a3Wr, a4Wr, a5Wr⟩ := cells6 eAWr; obtain ⟨b0Wr, b1Wr, b2Wr, b3Wr, b4Wr, b5Wr⟩ := cells6 eBWr))
      go_ret
      exact ⟨by rw [HS.out]; rfl, bWr⟩
    have HS : Hid (sz = g0) := by unfold Hid; rw [HS0.out]; simp
    go_wp2_with (first | (go_at_call 74; refine Calls.mono (HI.out _ bW) ?_; rintro e Wi ⟨rfl, hbWi⟩; have bWi := to_call bW hbWi; have eAWi := kept hbWi eAW; have eBWi := kept hbWi eBW; obtain ⟨a0Wi, a1Wi, a2Wi, a3Wi, a4Wi, a5Wi⟩ := cells6 eAWi; obtain ⟨b0Wi, b1Wi, b2Wi, b3Wi, b4Wi, b5Wi⟩ := cells6 eBWi) | (go_at_call_of 75 (Value.slice co1 cn1 cc1); refine Calls.mono (HC.out _ bWi) ?_; rintro e Wc ⟨rfl, hbWc⟩; have bWc := to_call bWi hbWc; have eAWc := kept hbWc eAWi; have eBWc := kept hbWc eBWi; obtain ⟨a0Wc, a1Wc, a2Wc, a3Wc, a4Wc, a5Wc⟩ := cells6 eAWc; obtain ⟨b0Wc, b1Wc, b2Wc, b3Wc, b4Wc, b5Wc⟩ := cells6 eBWc) | (go_at_call_of 75 (Value.slice ro1 rn1 rc1); refine Calls.mono (HR.out _ bWc) ?_; rintro e Wr ⟨rfl, hbWr⟩; have bWr := to_call bWc hbWr; have eAWr := kept hbWr eAWc; have eBWr := kept hbWr eBWc; obtain ⟨a0Wr, a1Wr, a2Wr, a3Wr, a4Wr, a5Wr⟩ := cells6 eAWr; obtain ⟨b0Wr, b1Wr, b2Wr, b3Wr, b4Wr, b5Wr⟩ := cells6 eBWr) | (go_at_call 76; refine Calls.mono (HG.out _ bWr) ?_; rintro e Wg ⟨rfl, hbWg⟩; have bWg := to_call bWr hbWg; have eAWg := kept hbWg eAWr; have eBWg := kept hbWg eBWr; obtain ⟨a0Wg, a1Wg, a2Wg, a3Wg, a4Wg, a5Wg⟩ := cells6 eAWg; obtain ⟨b0Wg, b1Wg, b2Wg, b3Wg, b4Wg, b5Wg⟩ := cells6 eBWg))
    go_ret
    exact ⟨by rw [HS.out]; rfl, bWg⟩
  refine wp_region_noPanic ?_
  refine wp_region_held_drew (S := (fun _ : World => True)) (by kernel_rfl) trivial (fun _ => ?_)
  have XD : Below w.heap.size w ((w.alloc (.cells #[.int .i64 a.N, .slice a.co a.cn a.cc, .slice a.io a.dn a.dc, .slice a.go a.gn a.gc, .slice a.ro a.rn a.rc, .bool a.bad] 26)).alloc (.cells #[.int .i64 b.N, .slice b.co b.cn b.cc, .slice b.io b.dn b.dc, .slice b.go b.gn b.gc, .slice b.ro b.rn b.rc, .bool b.bad] 26)).drew := X0.drew
  have eA0 : ((w.alloc (.cells #[.int .i64 a.N, .slice a.co a.cn a.cc, .slice a.io a.dn a.dc, .slice a.go a.gn a.gc, .slice a.ro a.rn a.rc, .bool a.bad] 26)).alloc (.cells #[.int .i64 b.N, .slice b.co b.cn b.cc, .slice b.io b.dn b.dc, .slice b.go b.gn b.gc, .slice b.ro b.rn b.rc, .bool b.bad] 26)).drew.heap[w.heap.size]? = some (.cells #[.int .i64 a.N, .slice a.co a.cn a.cc, .slice a.io a.dn a.dc, .slice a.go a.gn a.gc, .slice a.ro a.rn a.rc, .bool a.bad] 26) := alloc_kept (heap_alloc_new w _) _
  have eB0 : ((w.alloc (.cells #[.int .i64 a.N, .slice a.co a.cn a.cc, .slice a.io a.dn a.dc, .slice a.go a.gn a.gc, .slice a.ro a.rn a.rc, .bool a.bad] 26)).alloc (.cells #[.int .i64 b.N, .slice b.co b.cn b.cc, .slice b.io b.dn b.dc, .slice b.go b.gn b.gc, .slice b.ro b.rn b.rc, .bool b.bad] 26)).drew.heap[w.heap.size + 1]? = some (.cells #[.int .i64 b.N, .slice b.co b.cn b.cc, .slice b.io b.dn b.dc, .slice b.go b.gn b.gc, .slice b.ro b.rn b.rc, .bool b.bad] 26) := heap_at _ _ (w.heap.size + 1) (by simp only [alloc_size])
  obtain ⟨V0, hV0⟩ : ∃ V0, ((w.alloc (.cells #[.int .i64 a.N, .slice a.co a.cn a.cc, .slice a.io a.dn a.dc, .slice a.go a.gn a.gc, .slice a.ro a.rn a.rc, .bool a.bad] 26)).alloc (.cells #[.int .i64 b.N, .slice b.co b.cn b.cc, .slice b.io b.dn b.dc, .slice b.go b.gn b.gc, .slice b.ro b.rn b.rc, .bool b.bad] 26)).drew = V0 := ⟨_, rfl⟩
  rw [hV0] at XD eA0 eB0 ⊢
  clear hV0 X0 hK
  refine wpAnyH_ready (rs := [0, 2]) (by kernel_rfl) (by simp) ?_
  refine consH _ rfl (hopL rfl (wpList_load_row (by rfl) 26 _ (by rfl) w.heap.size _ (by rfl) eA0 _ Tryz.underlying26 rfl 6 Tryz.infoZ (by rfl) ?_)) (consH _ rfl (hopL rfl (wpList_load_row (by rfl) 26 _ (by rfl) (w.heap.size + 1) _ (by rfl) eB0 _ Tryz.underlying26 rfl 6 Tryz.infoZ (by rfl) ?_)) AllReadyH.nil)
  · skip
    refine (And.intro trivial ?_ : _ ∧ _)
    try simp only [Act.put, List.setIfInBounds_toArray, List.set_cons_zero, List.set_cons_succ]
    refine wpAnyH_ready (rs := [1, 2]) (by kernel_rfl) (by simp) ?_
    refine consH _ rfl (hopCd 6 rfl (by kernel_rfl) rfl (by kernel_rfl) (Calls.mono (HTa.out _ XD) ?_)) (consH _ rfl (hopL rfl (wpList_load_row (by rfl) 26 _ (by rfl) (w.heap.size + 1) _ (by rfl) eB0 _ Tryz.underlying26 rfl 6 Tryz.infoZ (by rfl) ?_)) AllReadyH.nil)
    · skip
      rintro e V2 ⟨rfl, hv2⟩
      have b2 := to_call XD hv2
      have ea2 := kept hv2 eA0
      have eb2 := kept hv2 eB0
      refine ⟨_, rfl, trivial, ?_⟩
      try simp only [Act.put, List.setIfInBounds_toArray, List.set_cons_zero, List.set_cons_succ]
      refine wpAnyH_ready (rs := [2]) (by kernel_rfl) (by simp) ?_
      refine consH _ rfl (hopL rfl (wpList_load_row (by rfl) 26 _ (by rfl) (w.heap.size + 1) _ (by rfl) eb2 _ Tryz.underlying26 rfl 6 Tryz.infoZ (by rfl) ?_)) AllReadyH.nil
      · skip
        refine (And.intro trivial ?_ : _ ∧ _)
        try simp only [Act.put, List.setIfInBounds_toArray, List.set_cons_zero, List.set_cons_succ]
        refine wpAnyH_ready (rs := [3]) (by kernel_rfl) (by simp) ?_
        refine consH _ rfl (hopCd 8 rfl (by kernel_rfl) rfl (by kernel_rfl) (Calls.mono (HTb.out _ b2) ?_)) AllReadyH.nil
        · skip
          rintro e V4 ⟨rfl, hv4⟩
          have b4 := to_call b2 hv4
          have ea4 := kept hv4 ea2
          have eb4 := kept hv4 eb2
          refine ⟨_, rfl, trivial, ?_⟩
          try simp only [Act.put, List.setIfInBounds_toArray, List.set_cons_zero, List.set_cons_succ]
          refine wpAnyH_ready (rs := [4]) (by kernel_rfl) (by simp) ?_
          refine consH _ rfl (hopL rfl (wpList_store_row (by rfl) 26 _ _ (by rfl) w w.heap.size w.heap.size #[.int .i64 N1, .slice co1 cn1 cc1, .slice io1 dn1 dc1, .slice go1 gn1 gc1, .slice ro1 rn1 rc1, .bool bad1] _ (by rfl) (by rfl) ea4 b4 (Nat.le_refl _) 6 Tryz.infoZ (by rfl) (by rfl) (oneZ _ _ _ _ _ rfl rfl rfl rfl _) ?_)) AllReadyH.nil
          · skip
            intro V5 ea5 b5 s5 o5
            have eb5 := (o5 (w.heap.size + 1) (by omega)).trans eb4
            refine (And.intro trivial ?_ : _ ∧ _)
            try simp only [Act.put, List.setIfInBounds_toArray, List.set_cons_zero, List.set_cons_succ]
            refine wpAnyH_ready (rs := [5]) (by kernel_rfl) (by simp) ?_
            refine consH _ rfl (hopL rfl (wpList_store_row (by rfl) 26 _ _ (by rfl) w w.heap.size (w.heap.size + 1) #[.int .i64 N2, .slice co2 cn2 cc2, .slice io2 dn2 dc2, .slice go2 gn2 gc2, .slice ro2 rn2 rc2, .bool bad2] _ (by rfl) (by rfl) eb5 b5 (Nat.le_succ _) 6 Tryz.infoZ (by rfl) (by rfl) (oneZ _ _ _ _ _ rfl rfl rfl rfl _) ?_)) AllReadyH.nil
            · skip
              intro V6 eb6 b6 s6 o6
              have ea6 := (o6 w.heap.size (by omega)).trans ea5
              refine (And.intro trivial ?_ : _ ∧ _)
              try simp only [Act.put, List.setIfInBounds_toArray, List.set_cons_zero, List.set_cons_succ]
              refine wpAnyH_done (by kernel_rfl) ?_ _
              refine NoPanic.normal ?_
              try simp only [Act.put, List.setIfInBounds_toArray, List.set_cons_zero, List.set_cons_succ]
              exact REST _ b6 ea6 eb6
    · skip
      refine (And.intro trivial ?_ : _ ∧ _)
      try simp only [Act.put, List.setIfInBounds_toArray, List.set_cons_zero, List.set_cons_succ]
      refine wpAnyH_ready (rs := [1]) (by kernel_rfl) (by simp) ?_
      refine consH _ rfl (hopCd 6 rfl (by kernel_rfl) rfl (by kernel_rfl) (Calls.mono (HTa.out _ XD) ?_)) AllReadyH.nil
      · skip
        rintro e V8 ⟨rfl, hv8⟩
        have b8 := to_call XD hv8
        have ea8 := kept hv8 eA0
        have eb8 := kept hv8 eB0
        refine ⟨_, rfl, trivial, ?_⟩
        try simp only [Act.put, List.setIfInBounds_toArray, List.set_cons_zero, List.set_cons_succ]
        refine wpAnyH_ready (rs := [3]) (by kernel_rfl) (by simp) ?_
        refine consH _ rfl (hopCd 8 rfl (by kernel_rfl) rfl (by kernel_rfl) (Calls.mono (HTb.out _ b8) ?_)) AllReadyH.nil
        · skip
          rintro e V9 ⟨rfl, hv9⟩
          have b9 := to_call b8 hv9
          have ea9 := kept hv9 ea8
          have eb9 := kept hv9 eb8
          refine ⟨_, rfl, trivial, ?_⟩
          try simp only [Act.put, List.setIfInBounds_toArray, List.set_cons_zero, List.set_cons_succ]
          refine wpAnyH_ready (rs := [4]) (by kernel_rfl) (by simp) ?_
          refine consH _ rfl (hopL rfl (wpList_store_row (by rfl) 26 _ _ (by rfl) w w.heap.size w.heap.size #[.int .i64 N1, .slice co1 cn1 cc1, .slice io1 dn1 dc1, .slice go1 gn1 gc1, .slice ro1 rn1 rc1, .bool bad1] _ (by rfl) (by rfl) ea9 b9 (Nat.le_refl _) 6 Tryz.infoZ (by rfl) (by rfl) (oneZ _ _ _ _ _ rfl rfl rfl rfl _) ?_)) AllReadyH.nil
          · skip
            intro V10 ea10 b10 s10 o10
            have eb10 := (o10 (w.heap.size + 1) (by omega)).trans eb9
            refine (And.intro trivial ?_ : _ ∧ _)
            try simp only [Act.put, List.setIfInBounds_toArray, List.set_cons_zero, List.set_cons_succ]
            refine wpAnyH_ready (rs := [5]) (by kernel_rfl) (by simp) ?_
            refine consH _ rfl (hopL rfl (wpList_store_row (by rfl) 26 _ _ (by rfl) w w.heap.size (w.heap.size + 1) #[.int .i64 N2, .slice co2 cn2 cc2, .slice io2 dn2 dc2, .slice go2 gn2 gc2, .slice ro2 rn2 rc2, .bool bad2] _ (by rfl) (by rfl) eb10 b10 (Nat.le_succ _) 6 Tryz.infoZ (by rfl) (by rfl) (oneZ _ _ _ _ _ rfl rfl rfl rfl _) ?_)) AllReadyH.nil
            · skip
              intro V11 eb11 b11 s11 o11
              have ea11 := (o11 w.heap.size (by omega)).trans ea10
              refine (And.intro trivial ?_ : _ ∧ _)
              try simp only [Act.put, List.setIfInBounds_toArray, List.set_cons_zero, List.set_cons_succ]
              refine wpAnyH_done (by kernel_rfl) ?_ _
              refine NoPanic.normal ?_
              try simp only [Act.put, List.setIfInBounds_toArray, List.set_cons_zero, List.set_cons_succ]
              exact REST _ b11 ea11 eb11
  · skip
    refine (And.intro trivial ?_ : _ ∧ _)
    try simp only [Act.put, List.setIfInBounds_toArray, List.set_cons_zero, List.set_cons_succ]
    refine wpAnyH_ready (rs := [0]) (by kernel_rfl) (by simp) ?_
    refine consH _ rfl (hopL rfl (wpList_load_row (by rfl) 26 _ (by rfl) w.heap.size _ (by rfl) eA0 _ Tryz.underlying26 rfl 6 Tryz.infoZ (by rfl) ?_)) AllReadyH.nil
    · skip
      refine (And.intro trivial ?_ : _ ∧ _)
      try simp only [Act.put, List.setIfInBounds_toArray, List.set_cons_zero, List.set_cons_succ]
      refine wpAnyH_ready (rs := [1]) (by kernel_rfl) (by simp) ?_
      refine consH _ rfl (hopCd 6 rfl (by kernel_rfl) rfl (by kernel_rfl) (Calls.mono (HTa.out _ XD) ?_)) AllReadyH.nil
      · skip
        rintro e V14 ⟨rfl, hv14⟩
        have b14 := to_call XD hv14
        have ea14 := kept hv14 eA0
        have eb14 := kept hv14 eB0
        refine ⟨_, rfl, trivial, ?_⟩
        try simp only [Act.put, List.setIfInBounds_toArray, List.set_cons_zero, List.set_cons_succ]
        refine wpAnyH_ready (rs := [3]) (by kernel_rfl) (by simp) ?_
        refine consH _ rfl (hopCd 8 rfl (by kernel_rfl) rfl (by kernel_rfl) (Calls.mono (HTb.out _ b14) ?_)) AllReadyH.nil
        · skip
          rintro e V15 ⟨rfl, hv15⟩
          have b15 := to_call b14 hv15
          have ea15 := kept hv15 ea14
          have eb15 := kept hv15 eb14
          refine ⟨_, rfl, trivial, ?_⟩
          try simp only [Act.put, List.setIfInBounds_toArray, List.set_cons_zero, List.set_cons_succ]
          refine wpAnyH_ready (rs := [4]) (by kernel_rfl) (by simp) ?_
          refine consH _ rfl (hopL rfl (wpList_store_row (by rfl) 26 _ _ (by rfl) w w.heap.size w.heap.size #[.int .i64 N1, .slice co1 cn1 cc1, .slice io1 dn1 dc1, .slice go1 gn1 gc1, .slice ro1 rn1 rc1, .bool bad1] _ (by rfl) (by rfl) ea15 b15 (Nat.le_refl _) 6 Tryz.infoZ (by rfl) (by rfl) (oneZ _ _ _ _ _ rfl rfl rfl rfl _) ?_)) AllReadyH.nil
          · skip
            intro V16 ea16 b16 s16 o16
            have eb16 := (o16 (w.heap.size + 1) (by omega)).trans eb15
            refine (And.intro trivial ?_ : _ ∧ _)
            try simp only [Act.put, List.setIfInBounds_toArray, List.set_cons_zero, List.set_cons_succ]
            refine wpAnyH_ready (rs := [5]) (by kernel_rfl) (by simp) ?_
            refine consH _ rfl (hopL rfl (wpList_store_row (by rfl) 26 _ _ (by rfl) w w.heap.size (w.heap.size + 1) #[.int .i64 N2, .slice co2 cn2 cc2, .slice io2 dn2 dc2, .slice go2 gn2 gc2, .slice ro2 rn2 rc2, .bool bad2] _ (by rfl) (by rfl) eb16 b16 (Nat.le_succ _) 6 Tryz.infoZ (by rfl) (by rfl) (oneZ _ _ _ _ _ rfl rfl rfl rfl _) ?_)) AllReadyH.nil
            · skip
              intro V17 eb17 b17 s17 o17
              have ea17 := (o17 w.heap.size (by omega)).trans ea16
              refine (And.intro trivial ?_ : _ ∧ _)
              try simp only [Act.put, List.setIfInBounds_toArray, List.set_cons_zero, List.set_cons_succ]
              refine wpAnyH_done (by kernel_rfl) ?_ _
              refine NoPanic.normal ?_
              try simp only [Act.put, List.setIfInBounds_toArray, List.set_cons_zero, List.set_cons_succ]
              exact REST _ b17 ea17 eb17
end Go.Proofs.YtfepcpkfbnpbjaaGreat
