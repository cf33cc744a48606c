import Derived.Test.YtoehhnildocihaaSPi
namespace Go.Proofs.Ytoehhnildocihaa
open Go.RowKit
set_option linter.unusedVariables false
set_option linter.unusedSimpArgs false
/-- What Ends tells. -/
def EnE (ls bs ss : List Int) (n sn : Nat) (D : Int) : Int := if regB ls bs n = true then (if sn = n then (if mayB (ls.zip bs) ss D = true then 0 else 1) else 63) else 180
/-- What Within tells. -/
def WiV (ls bs es : List Int) (n en : Nat) (D : Int) : Bool := regB ls bs n && decide (en = n) && decide (0 ≤ D) && decide (D ≤ 62) && wiB (ls.zip bs) es D.toNat
theorem mayB_at {zs : List (Int × Int)} {ss : List Int} {D : Int} (h : mayB zs ss D = true) : 0 ≤ D ∧ D ≤ 8 ∧ ∀ i, i < zs.length → -1 ≤ ss[i]?.getD 0 ∧ ss[i]?.getD 0 ≤ 1 ∧ (zs[i]?.getD (0, 0)).1 ≤ D := by
  unfold mayB at h
  simp only [Bool.and_eq_true, decide_eq_true_eq, List.all_eq_true, List.mem_range] at h
  exact ⟨h.1.1, h.1.2, fun i hi => ⟨(h.2 i hi).1.1, (h.2 i hi).1.2, (h.2 i hi).2⟩⟩
set_option maxRecDepth 100000 in
set_option maxHeartbeats 4000000 in
/-- Ends. -/
theorem ends_any (la ba so : Option Addr) (n m c d sn sc : Nat) (ls bs ss : List Int) (DI : Int) (w : World) (hl : RdIs w la n c ls) (ha : RdIs w ba m d bs) (hs : RdIs w so sn sc ss) :
    Calls Try.prog 22 #[.agg #[.slice la n c, .slice ba m d], .slice so sn sc, .int .i64 DI] w fun e w' => (∃ v, e = .returned (.tuple #[v, .int .i64 (EnE ls bs ss n sn DI)]) ∧ (EnE ls bs ss n sn DI = 0 → ∃ B, v = .slice (some ⟨B, 0, none⟩) n n ∧ w.heap.size ≤ B ∧ w'.heap[B]? = some (.cells (inC (enL (ls.zip bs) ss DI.toNat)) 3)) ∧ (EnE ls bs ss n sn DI ≠ 0 → v = .slice none 0 0)) ∧ Below w.heap.size w w' := by
  have X0 : Below w.heap.size w (w.alloc (.cells #[.slice la n c, .slice ba m d] 30)) := (Below.refl _ w).alloc (Nat.le_refl _) _
  have Y0 : (w.alloc (.cells #[.slice la n c, .slice ba m d] 30)).heap[w.heap.size]? = some (.cells #[.slice la n c, .slice ba m d] 30) := heap_alloc_new w _
  obtain ⟨g, hg⟩ : ∃ g, regB ls bs n = g := ⟨_, rfl⟩
  have HG : Hid (regB ls bs n = g) := hg
  have HN : Hid (ls.length = n ∧ bs.length = m) := ⟨hl.length, ha.length⟩
  obtain ⟨zs, hzs⟩ : ∃ zs, ls.zip bs = zs := ⟨_, rfl⟩
  have HZ : Hid (ls.zip bs = zs) := hzs
  have HP : Hid (∀ W, Below w.heap.size w W → Calls Try.prog 12 #[.agg #[.slice la n c, .slice ba m d], .int .i64 n] W fun e w' => (∃ v, e = .returned (.tuple #[v, .bool g]) ∧ Hid ((g = true → v = .slice (some ⟨W.heap.size + 1, 0, none⟩) n n ∧ w'.heap[W.heap.size + 1]? = some (.cells (ptC zs) 69)) ∧ (g = false → v = .slice none 0 0))) ∧ Below W.heap.size W w') := by
    intro W hb
    rw [← hg, ← hzs]
    exact partsOf_any la ba n m c d ls bs n W (hl.later hb) (ha.later hb)
  have HS : Hid (∀ W', Below w.heap.size w W' → RdIs W' so sn sc ss) := fun W' hb => hs.later hb
  clear hl ha hg hzs hs
  go_enter Try.func22, Try.ntmps22
  go_upto_region 1 with fail
  obtain ⟨X, hX⟩ : ∃ X, (w.alloc (.cells #[.slice la n c, .slice ba m d] 30)) = X := ⟨_, rfl⟩
  rw [hX] at X0 Y0 ⊢
  have k0 := cellAtJ Y0 0 _ rfl
  clear hX
  go_upto_region 2 with (first | (refine wpList_load_row (by rfl) 30 _ (by rfl) w.heap.size #[.slice la n c, .slice ba m d] (by rfl) Y0 _ Try.underlying30 rfl 2 Try.szRT (by rfl) ?_) | (go_at_call 12; refine Calls.mono (HP.out _ X0) ?_; rintro e' w1 ⟨⟨v, rfl, HV⟩, bb1⟩))
  obtain ⟨hv1, hv2⟩ := HV.out
  obtain ⟨PB, hPB⟩ : ∃ PB, X.heap.size + 1 = PB := ⟨_, rfl⟩
  rw [hPB] at hv1
  have hpb : w.heap.size < PB := by have := blk_lt Y0; omega
  have Q1 : Hid (Below w.heap.size w w1) := to_call X0 bb1
  clear X0 Y0 hPB bb1 HP HV k0
  cases g with
  | false =>
    obtain rfl := hv2 rfl
    clear hv1 hv2
    have HE : Hid (EnE ls bs ss n sn DI = 180) := by unfold Hid EnE; rw [HG.out]; rfl
    go_wp2_with fail
    refine bodyPost_ret (res_tt _ 6 7 (by kernel_rfl) _ _ _ _ rfl rfl) rfl ?_
    exact ⟨⟨_, by rw [HE.out]; rfl, fun h => (by rw [HE.out] at h; omega), fun _ => rfl⟩, Q1.out⟩
  | true =>
    obtain ⟨rfl, hvp⟩ := hv1 rfl
    clear hv1 hv2
    obtain ⟨hn', hln, hbn⟩ := regB_len HG.out
    have hn : n ≤ 256 := by omega
    have hmn : m = n := by have := HN.out.2; omega
    subst hmn
    have hzl : zs.length = m := by rw [← HZ.out, List.length_zip, HN.out.1, HN.out.2]; omega
    have HZA : Hid (∀ j, j < m → zs[j]? = some (ls[j]?.getD 0, bs[j]?.getD 0)) := fun j hj => by rw [← HZ.out]; exact zip_at HN.out.1 HN.out.2 hj
    have HLV : Hid (∀ j, j < m → 0 ≤ ls[j]?.getD 0 ∧ ls[j]?.getD 0 ≤ 8 ∧ 0 ≤ bs[j]?.getD 0 ∧ bs[j]?.getD 0 < 2 ^ (ls[j]?.getD 0).toNat) := fun j hj => regB_level HG.out j (by rw [HN.out.1]; exact hj)
    clear hn' hln hbn
    have HVP : Hid (w1.heap[PB]? = some (.cells (ptC zs) 69)) := hvp
    clear hvp
    by_cases h1 : sn = m
    · subst h1
      have d1 : ((sn : Int) != (sn : Int)) = false := by simp
      obtain ⟨mb, hmb⟩ : ∃ mb, mayB zs ss DI = mb := ⟨_, rfl⟩
      have HMB : Hid (mayB zs ss DI = mb) := hmb
      have HM : Hid (Calls Try.prog 43 #[.slice (some ⟨PB, 0, none⟩) sn sn, .slice so sn sc, .int .i64 DI] w1 fun e w' => e = .returned (.bool mb) ∧ Below w1.heap.size w1 w') := hmb ▸ mayEnd_any so sn sc PB zs ss DI w1 hn hzl (HS.out _ Q1.out) HVP.out
      clear hmb
      cases mb with
      | false =>
        have HE : Hid (EnE ls bs ss sn sn DI = 1) := by unfold Hid EnE; rw [HG.out, if_pos rfl, if_pos rfl, HZ.out, HMB.out]; rfl
        go_wp2_with (first | (go_at_call 43; refine Calls.mono HM.out ?_; rintro e' w2 ⟨rfl, bb2⟩))
        refine bodyPost_ret (res_tt _ 6 7 (by kernel_rfl) _ _ _ _ rfl rfl) rfl ?_
        exact ⟨⟨_, by rw [HE.out]; rfl, fun h => (by rw [HE.out] at h; omega), fun _ => rfl⟩, to_call Q1.out bb2⟩
      | true =>
        have HE : Hid (EnE ls bs ss sn sn DI = 0) := by unfold Hid EnE; rw [HG.out, if_pos rfl, if_pos rfl, HZ.out, HMB.out]; rfl
        obtain ⟨D0, D8, HMA⟩ := mayB_at HMB.out
        have HMA : Hid (∀ i, i < zs.length → -1 ≤ ss[i]?.getD 0 ∧ ss[i]?.getD 0 ≤ 1 ∧ (zs[i]?.getD (0, 0)).1 ≤ DI) := HMA
        obtain ⟨D, rfl⟩ : ∃ D : Nat, DI = D := ⟨DI.toNat, by omega⟩
        have hD8 : D ≤ 8 := by omega
        have hmk := makeIM sn (by omega)
        clear D0 D8 HMB
        go_upto_region 9 with (first | (go_at_call 43; refine Calls.mono HM.out ?_; rintro e' w2 ⟨rfl, bb2⟩))
        obtain ⟨EB, hEB⟩ : ∃ EB, w2.heap.size = EB := ⟨_, rfl⟩
        obtain ⟨V2, hV2⟩ : ∃ V2, w2.alloc (.cells (inC (List.replicate sn 0)) 3) = V2 := ⟨_, rfl⟩
        have A2 : Below w2.heap.size w2 V2 := by rw [← hV2]; exact (Below.refl _ w2).alloc (Nat.le_refl _) _
        have P1 : Hid (Below w.heap.size w V2 ∧ V2.heap[PB]? = some (.cells (ptC zs) 69) ∧ V2.heap[EB]? = some (.cells (inC (izL (enL zs ss D) 0)) 3)) := by
          refine ⟨to_call (to_call Q1.out bb2) A2, kept A2 (kept bb2 HVP.out), ?_⟩
          rw [izL_zero, enL_len, hzl, ← hV2, ← hEB]
          exact heap_alloc_new w2 _
        have hpe : PB < EB := by rw [← hEB]; exact blk_lt (kept bb2 HVP.out)
        rw [hEB, hV2]
        clear hV2 hEB A2 bb2 Q1 HVP HM hmk d1
        go_wp2_with fail
        go_loopg [41] sn (fun g iv wx => ∃ (j : Nat), iv = .int .i64 j ∧ j + g = sn ∧ Hid (Below w.heap.size w wx ∧ wx.heap[PB]? = some (.cells (ptC zs) 69) ∧ wx.heap[EB]? = some (.cells (inC (izL (enL zs ss D) j)) 3)))
        case atStart => exact ⟨0, rfl, by omega, P1⟩
        case round =>
          clear P1
          obtain ⟨j, rfl, hj, P2⟩ := hrel
          by_cases hlt : j < sn
          · have hdum := 0
            have e1 : decide ((j : Int) < (sn : Int)) = true := decide_eq_true (by omega)
            obtain ⟨q, rfl⟩ : ∃ q, gk = q + 1 := ⟨gk - 1, by omega⟩
            have HIG : Hid (j + (q + 1) = sn) := hj
            have hlt' : (j : Int) < (sn : Int) := by omega
            obtain ⟨l, hl⟩ : ∃ l, ls[j]?.getD 0 = l := ⟨_, rfl⟩
            obtain ⟨a, ha⟩ : ∃ a, bs[j]?.getD 0 = a := ⟨_, rfl⟩
            have hlv := HLV.out j hlt
            have hzj := HZA.out j hlt
            rw [hl, ha] at hlv hzj
            have HZJ : Hid (zs[j]?.getD (0, 0) = (l, a)) := by unfold Hid; rw [hzj]; rfl
            obtain ⟨o1, o2, o3, o4⟩ := hlv
            have hz := ptC_at hzj
            have g0 := cellAtJ P2.out.2.1 _ _ hz.1
            have g1 := cellAtJ P2.out.2.1 _ _ hz.2
            rcases (HS.out _ P2.out.1).cells with h0 | ⟨sb, so', rfl, hcs⟩
            · omega
            have gs := hcs j hlt
            obtain ⟨y, hy⟩ : ∃ y, ss[j]?.getD 0 = y := ⟨_, rfl⟩
            rw [hy] at gs
            have hma := HMA.out j (by rw [hzl]; exact hlt)
            rw [hy, HZJ.out] at hma
            obtain ⟨y1, y2, y3⟩ := hma
            obtain ⟨L, rfl⟩ : ∃ L : Nat, l = L := ⟨l.toNat, by omega⟩
            have hLD : L ≤ D := by simp only at y3; omega
            have o5 : a ≤ 256 := by have := pow8 (n := L) (by omega); rw [Int.toNat_natCast] at o4; omega
            obtain ⟨x, hx⟩ : ∃ x : Int, -2 ^ D + (2 * a + 1 + y) * 2 ^ (D - L) = x := ⟨_, rfl⟩
            have HS1 : Hid ((izL (enL zs ss D) j).set j x = izL (enL zs ss D) (j + 1)) := izL_set (by rw [enL_at _ _ _ _ (by rw [hzl]; exact hlt), HZJ.out, hy]; unfold enV; rw [Int.toNat_natCast, hx])
            have HEN : Hid (∀ W, Calls Try.prog 44 #[.agg #[.int .i64 (L : Int), .int .i64 a], .int .i64 y, .int .i64 (D : Int)] W fun e w' => e = .returned (.int .i64 x) ∧ Below W.heap.size W w') := fun W => hx ▸ end_any L D a y W hLD hD8 o3 o5 y1 y2
            clear hz hzj hl ha hj o4 HZJ hcs hy hx y3 hdum
            go_upto_region 12 with fail
            obtain ⟨B5, h5⟩ : ∃ B5, wr.heap.size = B5 := ⟨_, rfl⟩
            obtain ⟨W4, h4⟩ : ∃ W4, wr.alloc (.cells #[.int .i64 (L : Int), .int .i64 a] 69) = W4 := ⟨_, rfl⟩
            have A4 : Below wr.heap.size wr W4 := by rw [← h4]; exact (Below.refl _ wr).alloc (Nat.le_refl _) _
            have HB5 : W4.heap[B5]? = some (.cells #[.int .i64 (L : Int), .int .i64 a] 69) := by rw [← h4, ← h5]; exact heap_alloc_new wr _
            have P4 : Hid (Below w.heap.size w W4 ∧ W4.heap[PB]? = some (.cells (ptC zs) 69) ∧ W4.heap[EB]? = some (.cells (inC (izL (enL zs ss D) j)) 3)) := ⟨to_call P2.out.1 A4, kept A4 P2.out.2.1, kept A4 P2.out.2.2⟩
            have CM0 : Hid (W4.cell? ⟨B5, 0, none⟩ = some (.int .i64 (L : Int))) := cellAtJ HB5 0 _ rfl
            have CM1 : Hid (W4.cell? ⟨B5, 1, none⟩ = some (.int .i64 a)) := cellAtJ HB5 1 _ rfl
            have CS : Hid (W4.cell? ⟨sb, so' + j, none⟩ = some (.int .i64 y)) := cell_later gs A4
            rw [h4, h5]
            clear h4 h5 A4 P2 g0 g1 HB5 gs
            refine wp_region_noPanic ?_
            refine wp_region_P (S := (fun V => Below W4.heap.size W4 V)) (s := 10) (by kernel_rfl) ?_
            have SX : Below W4.heap.size W4 W4.drew := (Below.refl _ _).drew
            refine takeP 46 (i := 0) (v := ?_) rfl rfl (by kernel_rfl) (by kernel_rfl) (by kernel_rfl) (by kernel_rfl) rfl (by kernel_rfl) (fun _ _ _ h => h) (Or.inl ⟨by kernel_rfl, ?_⟩) SX ?_
            rotate_left
            · intro w' hSw; have s0 := cell_later CM0.out hSw; have s1 := cell_later CM1.out hSw; have s2 := cell_later CS.out hSw; go_simp; try with_reducible rfl
            try simp only [Act.put, List.setIfInBounds_toArray, List.set_cons_zero, List.set_cons_succ]
            refine takeP 47 (i := 1) (v := ?_) rfl rfl (by kernel_rfl) (by kernel_rfl) (by kernel_rfl) (by kernel_rfl) rfl (by kernel_rfl) (fun _ _ _ h => h) (Or.inl ⟨by kernel_rfl, ?_⟩) SX ?_
            rotate_left
            · intro w' hSw; have s0 := cell_later CM0.out hSw; have s1 := cell_later CM1.out hSw; have s2 := cell_later CS.out hSw; go_simp; try with_reducible rfl
            try simp only [Act.put, List.setIfInBounds_toArray, List.set_cons_zero, List.set_cons_succ]
            refine takeP 48 (i := 2) (v := ?_) rfl rfl (by kernel_rfl) (by kernel_rfl) (by kernel_rfl) (by kernel_rfl) rfl (by kernel_rfl) (fun _ _ _ h => h) (Or.inl ⟨by kernel_rfl, ?_⟩) SX ?_
            rotate_left
            · intro w' hSw; have s0 := cell_later CM0.out hSw; have s1 := cell_later CM1.out hSw; have s2 := cell_later CS.out hSw; go_simp; try with_reducible rfl
            try simp only [Act.put, List.setIfInBounds_toArray, List.set_cons_zero, List.set_cons_succ]
            refine takeP 49 (i := 3) (v := ?_) rfl rfl (by kernel_rfl) (by kernel_rfl) (by kernel_rfl) (by kernel_rfl) rfl (by kernel_rfl) (fun _ _ _ h => h) (Or.inl ⟨by kernel_rfl, ?_⟩) SX ?_
            rotate_left
            · intro w' hSw; have s0 := cell_later CM0.out hSw; have s1 := cell_later CM1.out hSw; have s2 := cell_later CS.out hSw; go_simp; try with_reducible rfl
            try simp only [Act.put, List.setIfInBounds_toArray, List.set_cons_zero, List.set_cons_succ]
            refine takeP 50 (i := 4) (v := ?_) rfl rfl (by kernel_rfl) (by kernel_rfl) (by kernel_rfl) (by kernel_rfl) rfl (by kernel_rfl) (fun _ _ _ h => h) (Or.inl ⟨by kernel_rfl, ?_⟩) SX ?_
            rotate_left
            · intro w' hSw; have s0 := cell_later CM0.out hSw; have s1 := cell_later CM1.out hSw; have s2 := cell_later CS.out hSw; go_simp; try with_reducible rfl
            try simp only [Act.put, List.setIfInBounds_toArray, List.set_cons_zero, List.set_cons_succ]
            refine takeP 51 (i := 5) (v := ?_) rfl rfl (by kernel_rfl) (by kernel_rfl) (by kernel_rfl) (by kernel_rfl) rfl (by kernel_rfl) (fun _ _ _ h => h) (Or.inl ⟨by kernel_rfl, ?_⟩) SX ?_
            rotate_left
            · intro w' hSw; have s0 := cell_later CM0.out hSw; have s1 := cell_later CM1.out hSw; have s2 := cell_later CS.out hSw; go_simp; try with_reducible rfl
            try simp only [Act.put, List.setIfInBounds_toArray, List.set_cons_zero, List.set_cons_succ]
            refine takeP 52 (i := 6) (v := ?_) rfl rfl (by kernel_rfl) (by kernel_rfl) (by kernel_rfl) (by kernel_rfl) rfl (by kernel_rfl) (fun _ _ _ h => h) (Or.inl ⟨by kernel_rfl, ?_⟩) SX ?_
            rotate_left
            · intro w' hSw; have s0 := cell_later CM0.out hSw; have s1 := cell_later CM1.out hSw; have s2 := cell_later CS.out hSw; go_simp; try with_reducible rfl
            try simp only [Act.put, List.setIfInBounds_toArray, List.set_cons_zero, List.set_cons_succ]
            refine takeP 53 (i := 7) (v := ?_) rfl rfl (by kernel_rfl) (by kernel_rfl) (by kernel_rfl) (by kernel_rfl) rfl (by kernel_rfl) (fun _ _ _ h => h) (Or.inl ⟨by kernel_rfl, ?_⟩) SX ?_
            rotate_left
            · intro w' hSw; have s0 := cell_later CM0.out hSw; have s1 := cell_later CM1.out hSw; have s2 := cell_later CS.out hSw; go_simp; try with_reducible rfl
            try simp only [Act.put, List.setIfInBounds_toArray, List.set_cons_zero, List.set_cons_succ]
            refine wpAnyP_ready (rs := [8]) (by kernel_rfl) (by simp) ?_
            refine consP _ rfl (hopCd 54 rfl (by kernel_rfl) rfl (by kernel_rfl) (Calls.mono (HEN.out _) ?_)) AllReadyP.nil
            rintro e V9 ⟨rfl, bb9⟩
            have SX : Below W4.heap.size W4 V9 := to_call SX bb9
            refine ⟨_, rfl, SX, ?_⟩
            try simp only [Act.put, List.setIfInBounds_toArray, List.set_cons_zero, List.set_cons_succ]
            refine takeP 55 (i := 9) (v := ?_) rfl rfl (by kernel_rfl) (by kernel_rfl) (by kernel_rfl) (by kernel_rfl) rfl (by kernel_rfl) (fun _ _ _ h => h) (Or.inl ⟨by kernel_rfl, ?_⟩) SX ?_
            rotate_left
            · intro w' hSw; have s0 := cell_later CM0.out hSw; have s1 := cell_later CM1.out hSw; have s2 := cell_later CS.out hSw; go_simp; try with_reducible rfl
            try simp only [Act.put, List.setIfInBounds_toArray, List.set_cons_zero, List.set_cons_succ]
            refine wpAnyP_ready (rs := [10]) (by kernel_rfl) (by simp) ?_
            refine consPs _ rfl (by kernel_rfl) (hopL rfl (wpList_store_at (by rfl) 3 _ _ (by rfl) w w.heap.size EB j (.int .i64 x) _ (inC (izL (enL zs ss D) (j + 1))) 3 (by kernel_rfl) (by kernel_rfl) (kept SX P4.out.2.2) (to_call P4.out.1 SX) (by omega) 1 Try.szIM rfl (by rw [inC_size, izL_len _ _ (by rw [enL_len, hzl]; omega), enL_len, hzl]; omega) (one_inM _) (by rw [inC_set _ _ _ (by rw [izL_len _ _ (by rw [enL_len, hzl]; omega), enL_len, hzl]; omega)]; exact congrArg inC HS1.out) fun W8 e8 b8 s8 o8 => ?_)) AllReadyP.nil
            refine ⟨trivial, ?_⟩
            try simp only [Act.put, List.setIfInBounds_toArray, List.set_cons_zero, List.set_cons_succ]
            refine wpAnyP_done (by kernel_rfl) ?_ _
            refine NoPanic.normal ?_
            try simp only [Act.put, List.setIfInBounds_toArray, List.set_cons_zero, List.set_cons_succ]
            have P6 : Hid (Below w.heap.size w W8 ∧ W8.heap[PB]? = some (.cells (ptC zs) 69) ∧ W8.heap[EB]? = some (.cells (inC (izL (enL zs ss D) (j + 1))) 3)) := ⟨b8, (o8 PB (by omega)).trans (kept SX P4.out.2.1), e8⟩
            clear P4 CM0 CM1 CS HS1 HEN e8 b8 s8 o8 SX bb9
            go_wp2_with fail
            go_roundg q
            case measure => omega
            case rel => exact ⟨j + 1, by go_num, by have := HIG.out; omega, P6⟩
          · have e1 : decide ((j : Int) < (sn : Int)) = false := decide_eq_false (by omega)
            have e2 : decide (j < sn) = false := decide_eq_false hlt
            have ej : j = (enL zs ss D).length := by rw [enL_len, hzl]; omega
            have P3 : Hid (wr.heap[EB]? = some (.cells (inC (enL zs ss D)) 3)) := by have := P2.out.2.2; rw [ej, izL_all] at this; exact this
            clear hj ej
            go_wp2_with fail
            refine bodyPost_ret (res_tt _ 6 7 (by kernel_rfl) _ _ _ _ rfl rfl) rfl ?_
            refine ⟨⟨_, by rw [HE.out]; rfl, fun _ => ⟨EB, rfl, by omega, ?_⟩, fun h => absurd HE.out h⟩, P2.out.1⟩
            rw [HZ.out]
            exact P3.out
    · have d1 : ((sn : Int) != (m : Int)) = true := by simp; omega
      have HE : Hid (EnE ls bs ss m sn DI = 63) := by unfold Hid EnE; rw [HG.out, if_pos rfl, if_neg h1]
      go_wp2_with fail
      refine bodyPost_ret (res_tt _ 6 7 (by kernel_rfl) _ _ _ _ rfl rfl) rfl ?_
      exact ⟨⟨_, by rw [HE.out]; rfl, fun h => (by rw [HE.out] at h; omega), fun _ => rfl⟩, Q1.out⟩
end Go.Proofs.Ytoehhnildocihaa
