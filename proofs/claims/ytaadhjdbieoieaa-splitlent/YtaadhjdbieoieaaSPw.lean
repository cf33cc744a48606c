import Derived.Test.YtaadhjdbieoieaaSPv
namespace Go.Proofs.Ytaadhjdbieoieaa
open Go.RowKit
set_option linter.unusedVariables false
set_option linter.unusedSimpArgs false
theorem sub_bd {m p : Int} (h1 : -1000000 ≤ m) (h2 : m ≤ 1000000) (h3 : 1 ≤ p) (h4 : p ≤ 256) : IntKind.i64.wrap (m - p) = m - p := wrI _ (by omega)
theorem cell_low {B : Nat} {w w' : World} {a : Addr} {v : Value} (h : w.cell? a = some v) (hb : Below B w w') (hl : a.block < B) : w'.cell? a = some v := (hb.cell hl).trans h
set_option maxRecDepth 100000 in
set_option maxHeartbeats 4000000 in
theorem refEnds_any (la ba so : Option Addr) (n m c d sn sc : Nat) (ls bs ss : List Int) (DI : Int) (w : World) (hl : RdIs w la n c ls) (ha : RdIs w ba m d bs) (hs : RdIs w so sn sc ss) :
    Calls Try.prog 20 #[.agg #[.slice la n c, .slice ba m d], .slice so sn sc, .int .i64 DI] w fun e w' => (∃ v, e = .returned (.tuple #[v, .int .i64 (EnE ls bs ss n sn DI)]) ∧ (EnE ls bs ss n sn DI = 0 → OwI w' w.heap.size v (enL (ls.zip bs) ss DI.toNat)) ∧ (EnE ls bs ss n sn DI ≠ 0 → v = .slice none 0 0)) ∧ Below w.heap.size w w' := by
  have HS : Hid (∀ W', Below w.heap.size w W' → RdIs W' so sn sc ss) := fun W' hb => hs.later hb
  have HSL : Hid (ss.length = sn) := hs.length
  have hsm : sn ≤ 9223372036854775807 := Nat.le_trans hs.max maxLen_le
  clear hs
  have HL : Hid (∀ W', Below w.heap.size w W' → RdIs W' la n c ls) := fun W' hb => hl.later hb
  have HA : Hid (∀ W', Below w.heap.size w W' → RdIs W' ba m d bs) := fun W' hb => ha.later hb
  have HN : Hid (ls.length = n ∧ bs.length = m) := ⟨hl.length, ha.length⟩
  obtain ⟨g, hg⟩ : ∃ g, regB ls bs n = g := ⟨_, rfl⟩
  have HG : Hid (regB ls bs n = g) := hg
  clear hl ha hg
  have X0 : Below w.heap.size w (w.alloc (.cells #[.slice la n c, .slice ba m d] 24)) := (Below.refl _ w).alloc (Nat.le_refl _) _
  have Y0 : (w.alloc (.cells #[.slice la n c, .slice ba m d] 24)).heap[w.heap.size]? = some (.cells #[.slice la n c, .slice ba m d] 24) := heap_alloc_new w _
  go_enter Try.func20, Try.ntmps20
  go_upto_region 1 with fail
  obtain ⟨X, hX⟩ : ∃ X, (w.alloc (.cells #[.slice la n c, .slice ba m d] 24)) = X := ⟨_, rfl⟩
  rw [hX] at X0 Y0 ⊢
  have k0 := cellAtJ Y0 0 _ rfl
  clear hX
  go_wp2_with (first | (refine wpList_load_row (by rfl) 24 _ (by rfl) w.heap.size #[.slice la n c, .slice ba m d] (by rfl) Y0 _ Try.underlying24 rfl 2 Try.szRT (by rfl) ?_))
  refine Calls.mono (refCheck_any la ba n m c d ls bs n _ (HL.out _ X0) (HA.out _ X0)) ?_
  rintro e' w1 ⟨rfl, bb1⟩
  have P1 : Hid (Below w.heap.size w w1 ∧ w1.heap[w.heap.size]? = some (.cells #[.slice la n c, .slice ba m d] 24)) := ⟨to_call X0 bb1, kept bb1 Y0⟩
  clear X0 Y0 k0 bb1
  cases g with
  | false =>
    have HE : Hid (EnE ls bs ss n sn DI = 180) := by unfold Hid EnE; rw [HG.out]; rfl
    rw [ckE_no HG.out]
    go_wp2_with fail
    refine bodyPost_ret (res_tt _ 6 7 (by kernel_rfl) _ _ _ _ rfl rfl) rfl ?_
    exact ⟨⟨_, by rw [HE.out]; rfl, fun h => (by rw [HE.out] at h; omega), fun _ => rfl⟩, P1.out.1⟩
  | true =>
    rw [ckE_ok HG.out]
    have hlen := regB_len HG.out
    have hn : n ≤ 256 := by omega
    obtain rfl : m = n := by have := HN.out; omega
    have k0 := cellAtJ P1.out.2 0 _ rfl
    clear hlen
    by_cases h1 : ¬ sn = m
    · have d1 : ((sn : Int) != (m : Int)) = true := by simp; omega
      have HE : Hid (EnE ls bs ss m sn DI = 63) := by unfold Hid EnE; rw [HG.out, if_pos rfl, if_neg h1]
      go_wp2_with fail
      refine bodyPost_ret (res_tt _ 6 7 (by kernel_rfl) _ _ _ _ rfl rfl) rfl ?_
      exact ⟨⟨_, by rw [HE.out]; rfl, fun h => (by rw [HE.out] at h; omega), fun _ => rfl⟩, P1.out.1⟩
    obtain rfl : sn = m := by omega
    have d1 : ((sn : Int) != (sn : Int)) = false := by simp
    have hzl := (zip_low HG.out).1
    have HNO : Hid (mayB (ls.zip bs) ss DI = false → EnE ls bs ss sn sn DI = 1) := fun h => by unfold EnE; rw [HG.out, if_pos rfl, if_pos rfl, h]; rfl
    go_wp2_with fail
    clear k0 d1
    go_loopg [8] sn (fun g iv wx => ∃ j : Nat, iv = .int .i64 j ∧ j + g = sn ∧ Hid (Below w.heap.size w wx ∧ wx.heap[w.heap.size]? = some (.cells #[.slice la sn c, .slice ba sn d] 24) ∧ ∀ i, i < j → -1 ≤ ss[i]?.getD 0 ∧ ss[i]?.getD 0 ≤ 1))
    case atStart => exact ⟨0, rfl, by omega, P1.out.1, P1.out.2, fun i hi => absurd hi (Nat.not_lt_zero _)⟩
    case round =>
      clear P1
      obtain ⟨j, rfl, hj, P2⟩ := hrel
      by_cases hlt : j < sn
      · have e1 : decide ((j : Int) < (sn : Int)) = true := decide_eq_true (by omega)
        obtain ⟨q, rfl⟩ : ∃ q, gk = q + 1 := ⟨gk - 1, by omega⟩
        have HIG : Hid (j + (q + 1) = sn) := hj
        have hlt' : (j : Int) < (sn : Int) := by omega
        rcases (HS.out _ P2.out.1).cells with h0 | ⟨sb, sf, rfl, hcs⟩
        · omega
        have gs := hcs j hlt
        obtain ⟨x, hx⟩ : ∃ x, ss[j]?.getD 0 = x := ⟨_, rfl⟩
        rw [hx] at gs
        have HXE : Hid (ss[j]?.getD 0 = x) := hx
        clear hcs hx hj
        by_cases g1 : x < -1
        · have f1 : decide (x < -1) = true := decide_eq_true g1
          have HE : Hid (EnE ls bs ss sn sn DI = 1) := HNO.out (by rw [Bool.eq_false_iff]; intro h; have := (mayB_at h).2.2 j (by rw [hzl]; exact hlt); rw [HXE.out] at this; omega)
          clear HNO
          go_wp2_with fail
          refine bodyPost_ret (res_tt _ 6 7 (by kernel_rfl) _ _ _ _ rfl rfl) rfl ?_
          exact ⟨⟨_, by rw [HE.out]; rfl, fun h => (by rw [HE.out] at h; omega), fun _ => rfl⟩, P2.out.1⟩
        have f1 : decide (x < -1) = false := decide_eq_false g1
        by_cases g2 : x > 1
        · have f2 : decide (x > 1) = true := decide_eq_true g2
          have HE : Hid (EnE ls bs ss sn sn DI = 1) := HNO.out (by rw [Bool.eq_false_iff]; intro h; have := (mayB_at h).2.2 j (by rw [hzl]; exact hlt); rw [HXE.out] at this; omega)
          clear HNO
          go_wp2_with fail
          refine bodyPost_ret (res_tt _ 6 7 (by kernel_rfl) _ _ _ _ rfl rfl) rfl ?_
          exact ⟨⟨_, by rw [HE.out]; rfl, fun h => (by rw [HE.out] at h; omega), fun _ => rfl⟩, P2.out.1⟩
        have f2 : decide (x > 1) = false := decide_eq_false g2
        have P4 : Hid (Below w.heap.size w wr ∧ wr.heap[w.heap.size]? = some (.cells #[.slice la sn c, .slice ba sn d] 24) ∧ ∀ i, i < j + 1 → -1 ≤ ss[i]?.getD 0 ∧ ss[i]?.getD 0 ≤ 1) := by
          refine ⟨P2.out.1, P2.out.2.1, fun i hi => ?_⟩
          rcases Nat.lt_or_ge i j with h | h
          · exact P2.out.2.2 i h
          · obtain rfl : i = j := by omega
            rw [HXE.out]; exact ⟨by omega, by omega⟩
        clear P2
        go_wp2_with fail
        clear gs
        go_roundg q
        case measure => omega
        case rel => exact ⟨j + 1, by go_num, by have := HIG.out; omega, P4⟩
      · have e1 : decide ((j : Int) < (sn : Int)) = false := decide_eq_false (by omega)
        have e2 : decide (j < sn) = false := decide_eq_false hlt
        have HSG : Hid (∀ i, i < sn → -1 ≤ ss[i]?.getD 0 ∧ ss[i]?.getD 0 ≤ 1) := fun i hi => P2.out.2.2 i (by omega)
        have P3 : Hid (Below w.heap.size w wr ∧ wr.heap[w.heap.size]? = some (.cells #[.slice la sn c, .slice ba sn d] 24)) := ⟨P2.out.1, P2.out.2.1⟩
        clear hj P2 hlt
        by_cases g1 : DI < 0
        · have f1 : decide (DI < 0) = true := decide_eq_true g1
          have HE : Hid (EnE ls bs ss sn sn DI = 1) := HNO.out (by rw [Bool.eq_false_iff]; intro h; have := (mayB_at h).1; omega)
          clear HNO
          go_wp2_with fail
          refine bodyPost_ret (res_tt _ 6 7 (by kernel_rfl) _ _ _ _ rfl rfl) rfl ?_
          exact ⟨⟨_, by rw [HE.out]; rfl, fun h => (by rw [HE.out] at h; omega), fun _ => rfl⟩, P3.out.1⟩
        have f1 : decide (DI < 0) = false := decide_eq_false g1
        by_cases g2 : DI > 8
        · have f2 : decide (DI > 8) = true := decide_eq_true g2
          have HE : Hid (EnE ls bs ss sn sn DI = 1) := HNO.out (by rw [Bool.eq_false_iff]; intro h; have := (mayB_at h).2.1; omega)
          clear HNO
          go_wp2_with fail
          refine bodyPost_ret (res_tt _ 6 7 (by kernel_rfl) _ _ _ _ rfl rfl) rfl ?_
          exact ⟨⟨_, by rw [HE.out]; rfl, fun h => (by rw [HE.out] at h; omega), fun _ => rfl⟩, P3.out.1⟩
        have f2 : decide (DI > 8) = false := decide_eq_false g2
        obtain ⟨D, rfl⟩ : ∃ D : Nat, DI = D := ⟨DI.toNat, by omega⟩
        have hD : D ≤ 8 := by omega
        have hD' : (D : Int) ≤ 8 := by omega
        go_wp2_with fail
        clear f1 f2 e1 e2
        have INV : Hid (Below w.heap.size w wr ∧ wr.heap[w.heap.size]? = some (.cells #[.slice la sn c, .slice ba sn d] 24) ∧ OwI wr (w.heap.size + 1) (.slice none 0 0) ((enL (ls.zip bs) ss D).take 0) ∧ ∀ i : Nat, i < 0 → ls[i]?.getD 0 ≤ D) := ⟨P3.out.1, P3.out.2, OwI.nil _ _, fun i hi => absurd hi (Nat.not_lt_zero _)⟩
        clear P3
        go_loopg [9, 10] sn (fun g v9 iv wx => ∃ j : Nat, iv = .int .i64 j ∧ j + g = sn ∧ Hid (Below w.heap.size w wx ∧ wx.heap[w.heap.size]? = some (.cells #[.slice la sn c, .slice ba sn d] 24) ∧ OwI wx (w.heap.size + 1) v9 ((enL (ls.zip bs) ss D).take j) ∧ ∀ i : Nat, i < j → ls[i]?.getD 0 ≤ D))
        case atStart => exact ⟨0, rfl, by omega, INV⟩
        case round =>
          clear INV
          obtain ⟨j, rfl, hj, P2⟩ := hrel
          by_cases hlt : j < sn
          · have e1 : decide ((j : Int) < (sn : Int)) = true := decide_eq_true (by omega)
            obtain ⟨q, rfl⟩ : ∃ q, gk = q + 1 := ⟨gk - 1, by omega⟩
            have HIG : Hid (j + (q + 1) = sn) := hj
            have hlt' : (j : Int) < (sn : Int) := by omega
            rcases (HL.out w (Below.refl _ _)).cells with h0 | ⟨lb, lo, rfl, hcl⟩
            · omega
            rcases (HA.out w (Below.refl _ _)).cells with h0 | ⟨bb, bo, rfl, hca⟩
            · omega
            rcases (HS.out w (Below.refl _ _)).cells with h0 | ⟨sb, sf, rfl, hcs⟩
            · omega
            have gl := hcl j hlt
            have ga := hca j hlt
            have gs := hcs j hlt
            obtain ⟨l, hl⟩ : ∃ l, ls[j]?.getD 0 = l := ⟨_, rfl⟩
            obtain ⟨a, ha⟩ : ∃ a, bs[j]?.getD 0 = a := ⟨_, rfl⟩
            obtain ⟨y, hy⟩ : ∃ y, ss[j]?.getD 0 = y := ⟨_, rfl⟩
            have hlv := regB_level HG.out j (by rw [HN.out.1]; exact hlt)
            have hsg := HSG.out j hlt
            rw [hl, ha] at hlv
            rw [hl] at gl
            rw [ha] at ga
            rw [hy] at gs hsg
            obtain ⟨o1, o2, o3, o4⟩ := hlv
            obtain ⟨L, rfl⟩ : ∃ L : Nat, l = L := ⟨l.toNat, by omega⟩
            rw [Int.toNat_natCast] at o4
            have hp8 := pow8 (n := L) (by omega)
            have o5 : a ≤ 256 := by omega
            obtain ⟨y1, y2⟩ := hsg
            have HLY : Hid (ls[j]?.getD 0 = L ∧ bs[j]?.getD 0 = a ∧ ss[j]?.getD 0 = y) := ⟨hl, ha, hy⟩
            have c0 := cellAtJ P2.out.2.1 0 _ rfl
            have cl := cell_later gl P2.out.1
            clear hl ha hy hj o4 hp8
            by_cases g3 : (D : Int) < (L : Int)
            · have f3 : decide ((D : Int) < (L : Int)) = true := decide_eq_true g3
              have HE : Hid (EnE ls bs ss sn sn D = 1) := HNO.out (by
                rw [Bool.eq_false_iff]; intro h
                have h2 := (mayB_at h).2.2 j (by rw [hzl]; exact hlt)
                rw [zip_at (n := sn) HN.out.1 HN.out.2 hlt] at h2
                have h3 := h2.2.2
                simp only [Option.getD_some] at h3
                rw [HLY.out.1] at h3
                omega)
              clear HNO
              go_wp2_with fail
              refine bodyPost_ret (res_tt _ 6 7 (by kernel_rfl) _ _ _ _ rfl rfl) rfl ?_
              exact ⟨⟨_, by rw [HE.out]; rfl, fun h => (by rw [HE.out] at h; omega), fun _ => rfl⟩, P2.out.1⟩
            have f3 : decide ((D : Int) < (L : Int)) = false := decide_eq_false g3
            have f4 : decide (D < L) = false := decide_eq_false (by omega)
            obtain ⟨m0, hm0⟩ : ∃ m0 : Int, (2 * a + 1 + y) * 2 ^ (D - L) = m0 := ⟨_, rfl⟩
            obtain ⟨p, hp⟩ : ∃ p : Int, (2 : Int) ^ D = p := ⟨_, rfl⟩
            have hpb := pow8 hD
            rw [hp] at hpb
            have hmb : -1000000 ≤ m0 ∧ m0 ≤ 1000000 := by
              rw [← hm0]
              have h5 := pow8 (n := D - L) (by omega)
              generalize (2 : Int) ^ (D - L) = r at h5
              have h6 : -1000 * r ≤ (2 * a + 1 + y) * r := Int.mul_le_mul_of_nonneg_right (by omega) (by omega)
              have h7 : (2 * a + 1 + y) * r ≤ 1000 * r := Int.mul_le_mul_of_nonneg_right (by omega) (by omega)
              generalize (2 * a + 1 + y) * r = z at h6 h7 ⊢
              omega
            have HV : Hid (enV ((ls.zip bs)[j]?.getD (0, 0)) (ss[j]?.getD 0) D = m0 - p) := by
              unfold Hid
              rw [zip_at (n := sn) HN.out.1 HN.out.2 hlt, HLY.out.1, HLY.out.2.1, HLY.out.2.2]
              show -2 ^ D + (2 * a + 1 + y) * 2 ^ (D - (L : Int).toNat) = m0 - p
              rw [Int.toNat_natCast, hm0, hp]
              omega
            have v1 : IntKind.i64.wrap (2 * a) = 2 * a := wrI _ (by omega)
            have v2 : IntKind.i64.wrap (2 * a + 1) = 2 * a + 1 := wrI _ (by omega)
            have v3 : IntKind.i64.wrap (2 * a + 1 + y) = 2 * a + 1 + y := wrI _ (by omega)
            have v4 : IntKind.i64.wrap ((2 * a + 1 + y) * 2 ^ (D - L)) = m0 := by rw [hm0]; exact wrI _ (by omega)
            have v5 : wrap64 ((2 * a + 1 + y) * 2 ^ (D - L)) = m0 := by rw [hm0]; exact wrap64_inS _ (by omega)
            have v6 : IntKind.i64.wrap (2 ^ D) = p := by rw [hp]; exact wrI _ (by omega)
            have v7 : wrap64 (2 ^ D) = p := by rw [hp]; exact wrap64_inS _ (by omega)
            have v8 : IntKind.i64.wrap (m0 - p) = m0 - p := sub_bd hmb.1 hmb.2 hpb.1 hpb.2
            have g4 : (0 : Int) ≤ (D : Int) - L := by omega
            have v9 : IntKind.i64.wrap ((D : Int) - (L : Int)) = ((D - L : Nat) : Int) := by rw [wrI _ (by omega)]; omega
            obtain ⟨mb1, mb2⟩ := hmb
            obtain ⟨pb1, pb2⟩ := hpb
            have K0 : Hid (wr.cell? ⟨w.heap.size, 0, none⟩ = _) := cellAtJ P2.out.2.1 0 _ rfl
            have K1 : Hid (wr.cell? ⟨w.heap.size, 1, none⟩ = _) := cellAtJ P2.out.2.1 1 _ rfl
            have K2 : Hid (wr.cell? ⟨lb, lo + j, none⟩ = some (.int .i64 (L : Int)) ∧ lb < w.heap.size + 1) := ⟨cell_later gl P2.out.1, Nat.lt_succ_of_lt (World.block_lt_of_cell? _ _ gl)⟩
            have K3 : Hid (wr.cell? ⟨bb, bo + j, none⟩ = some (.int .i64 a) ∧ bb < w.heap.size + 1) := ⟨cell_later ga P2.out.1, Nat.lt_succ_of_lt (World.block_lt_of_cell? _ _ ga)⟩
            have K4 : Hid (wr.cell? ⟨sb, sf + j, none⟩ = some (.int .i64 y) ∧ sb < w.heap.size + 1) := ⟨cell_later gs P2.out.1, Nat.lt_succ_of_lt (World.block_lt_of_cell? _ _ gs)⟩
            clear gl ga gs hcl hca hcs hm0 hp
            have HO : Hid (wr.drew.ownsRow (w.heap.size + 1) 3 1 u9 ((((enL (ls.zip bs) ss D).take j)).map (Value.int .i64)).length ((((enL (ls.zip bs) ss D).take j)).map (Value.int .i64))) := by
              have := P2.out.2.2.1; unfold OwI at this; unfold Hid; rw [List.length_map]; exact this
            go_upto_region 18 with fail
            clear c0 cl
            refine wp_region_noPanic ?_
            refine wp_region_P (S := (fun V => Below (w.heap.size + 1) wr V)) (s := 26) (by kernel_rfl) ?_
            have SX : Below (w.heap.size + 1) wr wr.drew := (Below.refl _ _).drew
            refine takeP 60 (i := 0) (v := ?_) rfl rfl (by kernel_rfl) (by kernel_rfl) (by kernel_rfl) (by kernel_rfl) rfl (by kernel_rfl) (fun _ _ _ h => h) (Or.inl ⟨by kernel_rfl, ?_⟩) SX ?_
            rotate_left
            · intro w' hSw; skip; go_simp; try with_reducible rfl
            try simp only [Act.put, List.setIfInBounds_toArray, List.set_cons_zero, List.set_cons_succ]
            refine takeP 61 (i := 1) (v := ?_) rfl rfl (by kernel_rfl) (by kernel_rfl) (by kernel_rfl) (by kernel_rfl) rfl (by kernel_rfl) (fun _ _ _ h => h) (Or.inl ⟨by kernel_rfl, ?_⟩) SX ?_
            rotate_left
            · intro w' hSw; skip; go_simp; try with_reducible rfl
            try simp only [Act.put, List.setIfInBounds_toArray, List.set_cons_zero, List.set_cons_succ]
            refine takeP 62 (i := 2) (v := ?_) rfl rfl (by kernel_rfl) (by kernel_rfl) (by kernel_rfl) (by kernel_rfl) rfl (by kernel_rfl) (fun _ _ _ h => h) (Or.inl ⟨by kernel_rfl, ?_⟩) SX ?_
            rotate_left
            · intro w' hSw; have t0 := cell_low K0.out hSw (Nat.lt_succ_self _); have t1 := cell_low K1.out hSw (Nat.lt_succ_self _); have t2 := cell_low K2.out.1 hSw K2.out.2; have t3 := cell_low K3.out.1 hSw K3.out.2; have t4 := cell_low K4.out.1 hSw K4.out.2; go_simp; try with_reducible rfl
            try simp only [Act.put, List.setIfInBounds_toArray, List.set_cons_zero, List.set_cons_succ]
            refine takeP 63 (i := 3) (v := ?_) rfl rfl (by kernel_rfl) (by kernel_rfl) (by kernel_rfl) (by kernel_rfl) rfl (by kernel_rfl) (fun _ _ _ h => h) (Or.inl ⟨by kernel_rfl, ?_⟩) SX ?_
            rotate_left
            · intro w' hSw; skip; go_simp; try with_reducible rfl
            try simp only [Act.put, List.setIfInBounds_toArray, List.set_cons_zero, List.set_cons_succ]
            refine takeP 64 (i := 4) (v := ?_) rfl rfl (by kernel_rfl) (by kernel_rfl) (by kernel_rfl) (by kernel_rfl) rfl (by kernel_rfl) (fun _ _ _ h => h) (Or.inl ⟨by kernel_rfl, ?_⟩) SX ?_
            rotate_left
            · intro w' hSw; skip; go_simp; try with_reducible rfl
            try simp only [Act.put, List.setIfInBounds_toArray, List.set_cons_zero, List.set_cons_succ]
            refine takeP 65 (i := 5) (v := ?_) rfl rfl (by kernel_rfl) (by kernel_rfl) (by kernel_rfl) (by kernel_rfl) rfl (by kernel_rfl) (fun _ _ _ h => h) (Or.inl ⟨by kernel_rfl, ?_⟩) SX ?_
            rotate_left
            · intro w' hSw; have t0 := cell_low K0.out hSw (Nat.lt_succ_self _); have t1 := cell_low K1.out hSw (Nat.lt_succ_self _); have t2 := cell_low K2.out.1 hSw K2.out.2; have t3 := cell_low K3.out.1 hSw K3.out.2; have t4 := cell_low K4.out.1 hSw K4.out.2; go_simp; try with_reducible rfl
            try simp only [Act.put, List.setIfInBounds_toArray, List.set_cons_zero, List.set_cons_succ]
            refine takeP 66 (i := 6) (v := ?_) rfl rfl (by kernel_rfl) (by kernel_rfl) (by kernel_rfl) (by kernel_rfl) rfl (by kernel_rfl) (fun _ _ _ h => h) (Or.inl ⟨by kernel_rfl, ?_⟩) SX ?_
            rotate_left
            · intro w' hSw; skip; go_simp; try with_reducible rfl
            try simp only [Act.put, List.setIfInBounds_toArray, List.set_cons_zero, List.set_cons_succ]
            refine takeP 67 (i := 7) (v := ?_) rfl rfl (by kernel_rfl) (by kernel_rfl) (by kernel_rfl) (by kernel_rfl) rfl (by kernel_rfl) (fun _ _ _ h => h) (Or.inl ⟨by kernel_rfl, ?_⟩) SX ?_
            rotate_left
            · intro w' hSw; skip; go_simp; try with_reducible rfl
            try simp only [Act.put, List.setIfInBounds_toArray, List.set_cons_zero, List.set_cons_succ]
            refine takeP 68 (i := 8) (v := ?_) rfl rfl (by kernel_rfl) (by kernel_rfl) (by kernel_rfl) (by kernel_rfl) rfl (by kernel_rfl) (fun _ _ _ h => h) (Or.inl ⟨by kernel_rfl, ?_⟩) SX ?_
            rotate_left
            · intro w' hSw; skip; go_simp; try with_reducible rfl
            try simp only [Act.put, List.setIfInBounds_toArray, List.set_cons_zero, List.set_cons_succ]
            refine takeP 69 (i := 9) (v := ?_) rfl rfl (by kernel_rfl) (by kernel_rfl) (by kernel_rfl) (by kernel_rfl) rfl (by kernel_rfl) (fun _ _ _ h => h) (Or.inl ⟨by kernel_rfl, ?_⟩) SX ?_
            rotate_left
            · intro w' hSw; skip; go_simp; try with_reducible rfl
            try simp only [Act.put, List.setIfInBounds_toArray, List.set_cons_zero, List.set_cons_succ]
            refine takeP 70 (i := 10) (v := ?_) rfl rfl (by kernel_rfl) (by kernel_rfl) (by kernel_rfl) (by kernel_rfl) rfl (by kernel_rfl) (fun _ _ _ h => h) (Or.inl ⟨by kernel_rfl, ?_⟩) SX ?_
            rotate_left
            · intro w' hSw; skip; go_simp; try with_reducible rfl
            try simp only [Act.put, List.setIfInBounds_toArray, List.set_cons_zero, List.set_cons_succ]
            refine takeP 71 (i := 11) (v := ?_) rfl rfl (by kernel_rfl) (by kernel_rfl) (by kernel_rfl) (by kernel_rfl) rfl (by kernel_rfl) (fun _ _ _ h => h) (Or.inl ⟨by kernel_rfl, ?_⟩) SX ?_
            rotate_left
            · intro w' hSw; have t0 := cell_low K0.out hSw (Nat.lt_succ_self _); have t1 := cell_low K1.out hSw (Nat.lt_succ_self _); have t2 := cell_low K2.out.1 hSw K2.out.2; have t3 := cell_low K3.out.1 hSw K3.out.2; have t4 := cell_low K4.out.1 hSw K4.out.2; go_simp; try with_reducible rfl
            try simp only [Act.put, List.setIfInBounds_toArray, List.set_cons_zero, List.set_cons_succ]
            refine takeP 72 (i := 12) (v := ?_) rfl rfl (by kernel_rfl) (by kernel_rfl) (by kernel_rfl) (by kernel_rfl) rfl (by kernel_rfl) (fun _ _ _ h => h) (Or.inl ⟨by kernel_rfl, ?_⟩) SX ?_
            rotate_left
            · intro w' hSw; skip; go_simp; try with_reducible rfl
            try simp only [Act.put, List.setIfInBounds_toArray, List.set_cons_zero, List.set_cons_succ]
            refine takeP 73 (i := 13) (v := ?_) rfl rfl (by kernel_rfl) (by kernel_rfl) (by kernel_rfl) (by kernel_rfl) rfl (by kernel_rfl) (fun _ _ _ h => h) (Or.inl ⟨by kernel_rfl, ?_⟩) SX ?_
            rotate_left
            · intro w' hSw; skip; go_simp; try with_reducible rfl
            try simp only [Act.put, List.setIfInBounds_toArray, List.set_cons_zero, List.set_cons_succ]
            refine takeP 74 (i := 14) (v := ?_) rfl rfl (by kernel_rfl) (by kernel_rfl) (by kernel_rfl) (by kernel_rfl) rfl (by kernel_rfl) (fun _ _ _ h => h) (Or.inl ⟨by kernel_rfl, ?_⟩) SX ?_
            rotate_left
            · intro w' hSw; skip; go_simp; try with_reducible rfl
            try simp only [Act.put, List.setIfInBounds_toArray, List.set_cons_zero, List.set_cons_succ]
            refine takeP 75 (i := 15) (v := ?_) rfl rfl (by kernel_rfl) (by kernel_rfl) (by kernel_rfl) (by kernel_rfl) rfl (by kernel_rfl) (fun _ _ _ h => h) (Or.inl ⟨by kernel_rfl, ?_⟩) SX ?_
            rotate_left
            · intro w' hSw; have t0 := cell_low K0.out hSw (Nat.lt_succ_self _); have t1 := cell_low K1.out hSw (Nat.lt_succ_self _); have t2 := cell_low K2.out.1 hSw K2.out.2; have t3 := cell_low K3.out.1 hSw K3.out.2; have t4 := cell_low K4.out.1 hSw K4.out.2; go_simp; try with_reducible rfl
            try simp only [Act.put, List.setIfInBounds_toArray, List.set_cons_zero, List.set_cons_succ]
            refine takeP 76 (i := 16) (v := ?_) rfl rfl (by kernel_rfl) (by kernel_rfl) (by kernel_rfl) (by kernel_rfl) rfl (by kernel_rfl) (fun _ _ _ h => h) (Or.inl ⟨by kernel_rfl, ?_⟩) SX ?_
            rotate_left
            · intro w' hSw; skip; go_simp; try with_reducible rfl
            try simp only [Act.put, List.setIfInBounds_toArray, List.set_cons_zero, List.set_cons_succ]
            refine takeP 77 (i := 17) (v := ?_) rfl rfl (by kernel_rfl) (by kernel_rfl) (by kernel_rfl) (by kernel_rfl) rfl (by kernel_rfl) (fun _ _ _ h => h) (Or.inl ⟨by kernel_rfl, ?_⟩) SX ?_
            rotate_left
            · intro w' hSw; skip; go_simp; try with_reducible rfl
            try simp only [Act.put, List.setIfInBounds_toArray, List.set_cons_zero, List.set_cons_succ]
            refine takeP 78 (i := 18) (v := ?_) rfl rfl (by kernel_rfl) (by kernel_rfl) (by kernel_rfl) (by kernel_rfl) rfl (by kernel_rfl) (fun _ _ _ h => h) (Or.inl ⟨by kernel_rfl, ?_⟩) SX ?_
            rotate_left
            · intro w' hSw; have t0 := cell_low K0.out hSw (Nat.lt_succ_self _); have t1 := cell_low K1.out hSw (Nat.lt_succ_self _); have t2 := cell_low K2.out.1 hSw K2.out.2; have t3 := cell_low K3.out.1 hSw K3.out.2; have t4 := cell_low K4.out.1 hSw K4.out.2; go_simp; try with_reducible rfl
            try simp only [Act.put, List.setIfInBounds_toArray, List.set_cons_zero, List.set_cons_succ]
            refine takeP 79 (i := 19) (v := ?_) rfl rfl (by kernel_rfl) (by kernel_rfl) (by kernel_rfl) (by kernel_rfl) rfl (by kernel_rfl) (fun _ _ _ h => h) (Or.inl ⟨by kernel_rfl, ?_⟩) SX ?_
            rotate_left
            · intro w' hSw; skip; go_simp; try with_reducible rfl
            try simp only [Act.put, List.setIfInBounds_toArray, List.set_cons_zero, List.set_cons_succ]
            refine takeP 80 (i := 20) (v := ?_) rfl rfl (by kernel_rfl) (by kernel_rfl) (by kernel_rfl) (by kernel_rfl) rfl (by kernel_rfl) (fun _ _ _ h => h) (Or.inl ⟨by kernel_rfl, ?_⟩) SX ?_
            rotate_left
            · intro w' hSw; skip; go_simp; try with_reducible rfl
            try simp only [Act.put, List.setIfInBounds_toArray, List.set_cons_zero, List.set_cons_succ]
            refine takeP 81 (i := 21) (v := ?_) rfl rfl (by kernel_rfl) (by kernel_rfl) (by kernel_rfl) (by kernel_rfl) rfl (by kernel_rfl) (fun _ _ _ h => h) (Or.inl ⟨by kernel_rfl, ?_⟩) SX ?_
            rotate_left
            · intro w' hSw; skip; go_simp; try with_reducible rfl
            try simp only [Act.put, List.setIfInBounds_toArray, List.set_cons_zero, List.set_cons_succ]
            refine takeP 82 (i := 22) (v := ?_) rfl rfl (by kernel_rfl) (by kernel_rfl) (by kernel_rfl) (by kernel_rfl) rfl (by kernel_rfl) (fun _ _ _ h => h) (Or.inl ⟨by kernel_rfl, ?_⟩) SX ?_
            rotate_left
            · intro w' hSw; skip; go_simp; try with_reducible rfl
            try simp only [Act.put, List.setIfInBounds_toArray, List.set_cons_zero, List.set_cons_succ]
            refine takeP 83 (i := 23) (v := ?_) rfl rfl (by kernel_rfl) (by kernel_rfl) (by kernel_rfl) (by kernel_rfl) rfl (by kernel_rfl) (fun _ _ _ h => h) (Or.inl ⟨by kernel_rfl, ?_⟩) SX ?_
            rotate_left
            · intro w' hSw; skip; go_simp; try with_reducible rfl
            try simp only [Act.put, List.setIfInBounds_toArray, List.set_cons_zero, List.set_cons_succ]
            refine wpAnyP_ready (rs := [24]) (by kernel_rfl) (by simp) ?_
            refine consP _ rfl (hopV 84 (v := .slice (some ⟨wr.drew.heap.size, 0, none⟩) 1 1) (w' := wr.drew.alloc (.cells #[.int .i64 (m0 - p)] 3)) rfl rfl rfl (by kernel_rfl) ?_) AllReadyP.nil
            have SX2 : Below (w.heap.size + 1) wr (wr.drew.alloc (.cells #[.int .i64 (m0 - p)] 3)) := SX.alloc (blk_lt P2.out.2.1) _
            refine ⟨SX2, ?_⟩
            try simp only [Act.put, List.setIfInBounds_toArray, List.set_cons_zero, List.set_cons_succ]
            refine wpAnyP_ready (rs := [25]) (by kernel_rfl) (by simp) ?_
            refine consP _ rfl (hopL rfl (append_gr1M Try.underlying22 Try.infoIJ rfl (by decide) wr.drew (by rfl) _ _ (by rfl) (w.heap.size + 1) u9 ((((enL (ls.zip bs) ss D).take j)).map (Value.int .i64)) (by kernel_rfl) HO.out (.int .i64 (m0 - p)) (by kernel_rfl) rfl (by rw [List.length_map, List.length_take, enL_len, hzl]; omega) (blk_lt P2.out.2.1) fun v4 w4 o4 g4 => ?_)) AllReadyP.nil
            have SX3 : Below (w.heap.size + 1) wr.drew w4 := g4.below (fun k hk => (World.ownsRow.lt HO.out k hk).1) (blk_lt P2.out.2.1)
            have SX4 : Below (w.heap.size + 1) wr w4 := SX.trans SX3
            refine ⟨SX4, ?_⟩
            try simp only [Act.put, List.setIfInBounds_toArray, List.set_cons_zero, List.set_cons_succ]
            refine wpAnyP_ready (rs := [26]) (by kernel_rfl) (by simp) ?_
            refine consPs _ rfl (by kernel_rfl) (hopV 9 (v := v4) (w' := w4) rfl rfl rfl (by kernel_rfl) ?_) AllReadyP.nil
            refine ⟨trivial, ?_⟩
            try simp only [Act.put, List.setIfInBounds_toArray, List.set_cons_zero, List.set_cons_succ]
            refine wpAnyP_done (by kernel_rfl) ?_ _
            refine NoPanic.normal ?_
            try simp only [Act.put, List.setIfInBounds_toArray, List.set_cons_zero, List.set_cons_succ]
            have P6 : Hid (Below w.heap.size w w4 ∧ w4.heap[w.heap.size]? = some (.cells #[.slice (some ⟨lb, lo, none⟩) sn c, .slice (some ⟨bb, bo, none⟩) sn d] 24) ∧ OwI w4 (w.heap.size + 1) v4 ((enL (ls.zip bs) ss D).take (j + 1)) ∧ ∀ i : Nat, i < j + 1 → ls[i]?.getD 0 ≤ D) := by
              refine ⟨P2.out.1.trans (SX4.mono (Nat.le_succ _)), (SX4.block _ (Nat.lt_succ_self _)).trans P2.out.2.1, ?_, fun i hi => ?_⟩
              · rw [List.take_succ_eq_append_getElem (by rw [enL_len, hzl]; exact hlt)]
                have hv : (enL (ls.zip bs) ss D)[j]'(by rw [enL_len, hzl]; exact hlt) = m0 - p := by
                  have h9 := enL_at (ls.zip bs) ss D j (by rw [hzl]; exact hlt)
                  rw [List.getElem?_eq_getElem (by rw [enL_len, hzl]; exact hlt), HV.out] at h9
                  exact Option.some.inj h9
                rw [hv]
                exact OwI.push o4
              · rcases Nat.lt_or_ge i j with h | h
                · exact P2.out.2.2.2 i h
                · obtain rfl : i = j := by omega
                  rw [HLY.out.1]; omega
            clear P2 K0 K1 K2 K3 K4 HO o4 g4 SX SX2 SX3 SX4 v1 v2 v3 v5 v6 v7 v8 v9
            go_wp2_with fail
            go_roundg q
            case measure => omega
            case rel => exact ⟨j + 1, by go_num, by have := HIG.out; omega, P6⟩
          · have e1 : decide ((j : Int) < (sn : Int)) = false := decide_eq_false (by omega)
            have e2 : decide (j < sn) = false := decide_eq_false hlt
            have ej : j = (enL (ls.zip bs) ss D).length := by rw [enL_len, hzl]; omega
            have hmb : mayB (ls.zip bs) ss D = true := by
              unfold mayB
              simp only [Bool.and_eq_true, decide_eq_true_eq, List.all_eq_true, List.mem_range]
              refine ⟨⟨by omega, by omega⟩, fun i hi => ?_⟩
              rw [hzl] at hi
              refine ⟨HSG.out i hi, ?_⟩
              rw [zip_at (n := sn) HN.out.1 HN.out.2 hi]
              exact P2.out.2.2.2 i (by omega)
            have HE : Hid (EnE ls bs ss sn sn D = 0) := EnE_ok HG.out rfl hmb
            have RR : Hid (OwI wr w.heap.size u9 (enL (ls.zip bs) ss D)) := by have h := P2.out.2.2.1; rw [ej, List.take_length] at h; exact h.mono (Nat.le_succ _)
            clear hj ej hmb
            go_wp2_with fail
            refine bodyPost_ret (res_tt _ 6 7 (by kernel_rfl) _ _ _ _ rfl rfl) rfl ?_
            refine ⟨⟨_, by rw [HE.out]; rfl, fun _ => ?_, fun h => absurd HE.out h⟩, P2.out.1⟩
            try rw [Int.toNat_natCast]
            exact RR.out
end Go.Proofs.Ytaadhjdbieoieaa
