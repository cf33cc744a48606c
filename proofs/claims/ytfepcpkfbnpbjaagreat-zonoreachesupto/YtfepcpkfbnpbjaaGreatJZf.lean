import Derived.Test.YtfepcpkfbnpbjaaGreatGJg
import Derived.Test.YtfepcpkfbnpbjaaGreatGJd
namespace Go.Proofs.YtfepcpkfbnpbjaaGreat
open Go.RowKit Go.Shelf
set_option linter.unusedVariables false
set_option linter.unusedSimpArgs false

theorem owns_monoJ {w : World} {E : TypeId} {base b size n : Nat} {v : Value} {xs : List Value} (h : w.ownsRow base E size v n xs) (hb : b ≤ base) : w.ownsRow b E size v n xs := by
  refine ⟨h.1, ?_⟩
  rcases h.2 with h2 | ⟨g, cap, cur, hv, hg, r⟩
  · exact .inl h2
  · exact .inr ⟨g, cap, cur, hv, Nat.le_trans hb hg, r⟩
theorem own_neD {w : World} {base n b B : Nat} {us : List Nat} {cur : Array Value} (h : OwB w base n b us) (hB : w.heap[B]? = some (.cells cur 26)) : B ≠ b := by
  rintro rfl
  obtain ⟨c, hc⟩ := h.cur
  rw [hB] at hc
  cases hc
theorem FrL.mono {w : World} {base base' n bc br : Nat} {cs rs : List Nat} {ids : List Int} {gs : List (List Nat)} {vi vg : Value} {gl : List Nat} (h : FrL w base n bc br cs rs ids gs vi vg gl) (hb : base' ≤ base) : FrL w base' n bc br cs rs ids gs vi vg gl :=
  ⟨h.c.mono hb, h.r.mono hb, owns_monoJ h.i hb, owns_monoJ h.g hb, ⟨h.col.len, fun j hj => (h.col.row j hj).mono hb, h.col.nodup⟩, h.cr, h.cg, h.rg⟩
set_option maxRecDepth 100000 in
set_option maxHeartbeats 4000000 in
theorem lift_ok (z : ZD) (next : Int) (w : World) (hz : ZR w z) (hb : (tkZ z).bad = false) (hN : (tkZ z).N = ((tkZ z).cn : Int)) (hrn : (tkZ z).cn = (tkZ z).rn) (hdg : (tkZ z).dn = (tkZ z).gn) (hn : (tkZ z).cn ≤ 100000) (hdn : (tkZ z).dn ≤ 2000000) (hw : ∀ k, k < (tkZ z).dn → ((tkZ z).gs[k]?.getD []).length = (tkZ z).cn)
    (hnx : -9223372036854775808 ≤ next ∧ next < 9223372036854775808) (hm : mayB (tkZ z) next = true) :
    Calls Tryz.prog 33 #[.agg (zRow z), .int .i64 next] w fun e w' => ∃ bc br vi vg gl, e = .returned (.tuple #[.agg #[.int .i64 (tkZ z).N, slN (tkZ z).cn bc, vi, vg, slN (tkZ z).cn br, .bool false], .int .i64 (lfS (tkZ z).cn ((tkZ z).rs.map plainM) next (tkZ z).cn).2.2]) ∧
      FrL w' w.heap.size (tkZ z).cn bc br ((tkZ z).cs.map plainM) (zrL ((tkZ z).rs.map plainM) (tkZ z).cn) ((tkZ z).ids ++ (lfS (tkZ z).cn ((tkZ z).rs.map plainM) next (tkZ z).cn).1) ((tkZ z).gs.map (·.map plainM) ++ (lfS (tkZ z).cn ((tkZ z).rs.map plainM) next (tkZ z).cn).2.1) vi vg gl ∧ Below w.heap.size w w' := by
  have X0 : Below w.heap.size w ((w.alloc (.cells #[.int .i64 z.N, .slice z.co z.cn z.cc, .slice z.io z.dn z.dc, .slice z.go z.gn z.gc, .slice z.ro z.rn z.rc, .bool z.bad] 26)).alloc (.cells #[.int .i64 0, .slice none 0 0, .slice none 0 0, .slice none 0 0, .slice none 0 0, .bool false] 26)) := ((Below.refl _ w).alloc (Nat.le_refl _) _).alloc (by simp only [alloc_size]; omega) _
  have Y0 : ((w.alloc (.cells #[.int .i64 z.N, .slice z.co z.cn z.cc, .slice z.io z.dn z.dc, .slice z.go z.gn z.gc, .slice z.ro z.rn z.rc, .bool z.bad] 26)).alloc (.cells #[.int .i64 0, .slice none 0 0, .slice none 0 0, .slice none 0 0, .slice none 0 0, .bool false] 26)).heap[w.heap.size]? = _ := alloc_kept (heap_alloc_new w _) _
  have Y1 : ((w.alloc (.cells #[.int .i64 z.N, .slice z.co z.cn z.cc, .slice z.io z.dn z.dc, .slice z.go z.gn z.gc, .slice z.ro z.rn z.rc, .bool z.bad] 26)).alloc (.cells #[.int .i64 0, .slice none 0 0, .slice none 0 0, .slice none 0 0, .slice none 0 0, .bool false] 26)).heap[w.heap.size + 1]? = _ := heap_at _ _ (w.heap.size + 1) (by simp only [alloc_size])
  have HT := takenZ_any z _ (hz.later X0)
  have HM : ∀ W', Below w.heap.size w W' → _ := fun W' h => mayNumber_any (tkZ z) next hnx W' ((tkZ_ZR hz).later h) (tkZ_fin hz).r (by rw [← hrn]; omega) (by omega)
  rw [hm] at HM
  have HFr : ∀ W', Below w.heap.size w W' → _ := fun W' h => fresh_ok (tkZ z) W' ((tkZ_ZR hz).later h) hb hrn hdg hn hdn hw (tkZ_fin hz)
  have HRL := (tkZ_ZR hz).r.length
  have HRF := (tkZ_fin hz).r
  have HIL := (tkZ_ZR hz).i.length
  have HGL := (tkZ_ZR hz).g.length
  obtain ⟨a1, hea⟩ : ∃ a1, tkZ z = a1 := ⟨_, rfl⟩
  rw [hea] at HT HM HFr hb hN hrn hdg hn hdn hw hm HRL HRF HIL HGL ⊢
  clear hz hea hw
  obtain ⟨N1, co1, n, cc1, io1, dn1, dc1, go1, gn1, gc1, ro1, rn1, rc1, bad1, cs1, ids1, gv1, gs1, rs1⟩ := a1
  dsimp only at hb hN hrn hdg hn hdn hm HM HFr HRL HRF HIL HGL ⊢
  subst hb hN hrn hdg
  unfold zRow at HT HFr
  dsimp only at HT HFr
  have HT' : Hid _ := HT
  have HM' : Hid _ := HM
  have HF' : Hid _ := HFr
  unfold zRow
  have hmb : 0 ≤ next ∧ (madeN rs1 = 0 ∨ next ≤ 1073741824 - (madeN rs1 : Int) + 1) := by
    unfold mayB at hm
    simp only [Bool.and_eq_true, Bool.not_eq_true', Bool.or_eq_false_iff, Bool.or_eq_true, decide_eq_false_iff_not, decide_eq_true_eq] at hm
    exact ⟨by omega, hm.2⟩
  have HMB : Hid _ := hmb
  have HRL' : Hid ((rs1.map plainM).length = n) := by unfold Hid; rw [List.length_map]; exact HRL
  have HRF' : Hid (∀ u ∈ rs1.map plainM, Fin u) := by
    intro u hu
    obtain ⟨v, hv, rfl⟩ := List.mem_map.1 hu
    unfold plainM
    split
    · decide
    · exact HRF v hv
  have HLL : Hid (ids1.length = dn1 ∧ gs1.length = dn1) := ⟨HIL, HGL⟩
  clear HT HM HFr hm HRL HRF HIL HGL hmb hnx
  go_enter Tryz.func33, Tryz.ntmps33
  go_upto_region 2 with (first
    | (go_at_call 21; refine Calls.mono HT'.out ?_; rintro e w1 ⟨rfl, hb1⟩)
    | (refine wpList_store_row (by rfl) 26 _ _ (by rfl) w w.heap.size w.heap.size _ _ (by rfl) (by rfl) (kept hb1 Y0) (to_call X0 hb1) (Nat.le_refl _) 6 Tryz.infoZ (by rfl) (by rfl) (oneZ _ _ _ _ _ rfl rfl rfl rfl _) ?_; intro W2 e2 b2 s2 o2))
  obtain ⟨c0, c1, c2, c3, c4, c5⟩ := cells6 e2
  have e2' := (o2 (w.heap.size + 1) (by omega)).trans (kept hb1 Y1)
  have HK : Hid (Below w.heap.size w W2 ∧ _ ∧ _) := ⟨b2, e2, e2'⟩
  clear hb1 X0 Y0 Y1 HT' s2 o2 e2 e2' b2
  go_upto_region 5 with (first
    | (refine wpList_load_rowG (by rfl) 26 _ (by rfl) w.heap.size _ (by rfl) HK.out.2.1 _ Tryz.underlying26 rfl 6 Tryz.infoZ (by rfl) ?_)
    | (go_at_call 70; refine Calls.mono (HM'.out _ HK.out.1) ?_; rintro e w4 ⟨rfl, hb4⟩; obtain ⟨k0, k1, k2, k3, k4, k5⟩ := cells6 (kept hb4 HK.out.2.1))
    | (refine wpList_load_row (by rfl) 26 _ (by rfl) w.heap.size _ (by rfl) (kept hb4 HK.out.2.1) _ Tryz.underlying26 rfl 6 Tryz.infoZ (by rfl) ?_)
    | (go_at_call 71; refine Calls.mono (HF'.out _ (to_call HK.out.1 hb4)) ?_; rintro e w5 ⟨bc, br, vi0, vg0, gl0, rfl, L5, hb5⟩)
    | (refine wpList_store_row (by rfl) 26 _ _ (by rfl) w w.heap.size w5.heap.size #[.int .i64 (n : Int), slN n bc, vi0, vg0, slN n br, .bool false] _ (by rfl) (by rfl) (heap_alloc_new w5 _) ((to_call (to_call HK.out.1 hb4) hb5).alloc (to_call (to_call HK.out.1 hb4) hb5).size _) (to_call (to_call HK.out.1 hb4) hb5).size 6 Tryz.infoZ (by rfl) (by rfl) (oneZ _ _ _ _ _ rfl (own_valJ L5.i).1 (own_valJ L5.g).1 rfl _) ?_; intro W6 e6 b6 s6 o6))
  have hsz5 : w.heap.size + 1 < w5.heap.size := Nat.lt_of_lt_of_le (blk_lt (kept hb4 HK.out.2.2)) hb5.size
  obtain ⟨D, hD⟩ : ∃ D, w5.heap.size = D := ⟨_, rfl⟩
  have L6 : FrL W6 w.heap.size n bc br (cs1.map plainM) (rs1.map plainM) ids1 (gs1.map (·.map plainM)) vi0 vg0 gl0 := (FrL.mono L5 (to_call HK.out.1 hb4).size).keep fun k cur t ht hc => (o6 k (Nat.ne_of_lt (blk_lt hc))).trans (alloc_kept hc _ |>.trans hc.symm)
  have r6 : W6.heap[w.heap.size + 1]? = some (.cells #[.int .i64 0, .slice none 0 0, .slice none 0 0, .slice none 0 0, .slice none 0 0, .bool false] 26) := (o6 _ (Nat.ne_of_lt hsz5)).trans (alloc_kept (kept hb5 (kept hb4 HK.out.2.2)) _)
  rw [hD] at e6 hsz5 ⊢
  have hDl : w.heap.size ≤ D := by omega
  have hD1 : w.heap.size + 1 ≠ D := by omega
  clear o6 s6 L5 hb5 hb4 HK HM' HF' hD hsz5 c0 c1 c2 c3 c4 c5 k0 k1 k2 k3 k4 k5
  obtain ⟨d0, d1, d2, d3, d4, d5⟩ := cells6 e6
  unfold slN at d1 d4
  go_wp2_with fail
  clear d0 d1 d2 d3 d4 d5
  go_loopg [1, 29] n (fun g nv iv wx => ∃ (k : Nat) (nx : Int) (vi vg : Value) (gl : List Nat), iv = .int .i64 k ∧ nv = .int .i64 nx ∧ k + g = n ∧ Hid (nx = (lfS n (rs1.map plainM) next k).2.2) ∧ Hid (FrL wx w.heap.size n bc br (cs1.map plainM) (zrL (rs1.map plainM) k) (ids1 ++ (lfS n (rs1.map plainM) next k).1) (gs1.map (·.map plainM) ++ (lfS n (rs1.map plainM) next k).2.1) vi vg gl) ∧ Hid (wx.heap[D]? = some (.cells #[.int .i64 (n : Int), slN n bc, vi, vg, slN n br, .bool false] 26)) ∧ Hid (Below w.heap.size w wx) ∧ Hid (wx.heap[w.heap.size + 1]? = some (.cells #[.int .i64 0, .slice none 0 0, .slice none 0 0, .slice none 0 0, .slice none 0 0, .bool false] 26)))
  case atStart =>
    refine ⟨0, next, vi0, vg0, gl0, rfl, rfl, by omega, rfl, ?_, e6, b6, r6⟩
    unfold Hid
    rw [zrL_zero]
    simp only [lfS, List.append_nil]
    exact L6
  case round =>
    obtain ⟨k, nx, vi, vg, gl, rfl, rfl, hk, HNX, HL, HD, HB, HR0⟩ := hrel
    clear L6 e6 b6 r6
    by_cases hlt : k < n
    · have hd : decide ((k : Int) < (n : Int)) = true := decide_eq_true (by omega)
      obtain ⟨g, rfl⟩ : ∃ g, gk = g + 1 := ⟨gk - 1, by omega⟩
      have hkl : k < (rs1.map plainM).length := by rw [HRL'.out]; exact hlt
      rcases HL.out.r.rd.cells with h0 | ⟨rb, ro, re, hca⟩
      · omega
      cases re
      have ga := hca k hlt
      rw [Nat.zero_add, zrL_at _ _ hkl] at ga
      have hmem := getD_mem (us := rs1.map plainM) (j := k) hkl
      have hox := gt0_ord (HRF'.out _ hmem)
      have HNK : Hid _ := lfS_next n (rs1.map plainM) next k (by omega)
      have HMT : Hid _ := madeN_take hkl
      obtain ⟨d0, d1, d2, d3, d4, d5⟩ := cells6 HD.out
      unfold slN at d1 d4
      obtain ⟨x, hx⟩ : ∃ x, (rs1.map plainM)[k]?.getD 0 = x := ⟨_, rfl⟩
      rw [hx] at ga hox hmem HMT
      have HX : Hid _ := hx
      have HIG : Hid (k + (g + 1) = n) := hk
      have HKL : Hid _ := hkl
      have HFx : Hid (x < 18446744073709551616) := HL.out.r.rd.lt x (by have := zrL_at (rs1.map plainM) k hkl; rw [hx] at this; rw [← this]; exact getD_mem (by rw [zrL_len _ _ (by omega)]; exact hkl))
      clear hca hx hk hkl hmem
      by_cases hxp : 0 < srung x
      · rw [decide_eq_true hxp] at hox
        have HXP : Hid _ := hxp
        have HNXB : Hid (0 ≤ nx ∧ nx < 9000000000) := by
          unfold Hid
          have h1 := HMT.out
          rw [if_pos hxp] at h1
          have h2 := HNK.out
          have h3 := HNX.out
          have h4 : madeN ((rs1.map plainM).take (k + 1)) ≤ madeN (rs1.map plainM) := List.Sublist.countP_le (List.take_sublist _ _)
          rw [madeN_plain] at h4
          have h5 := HMB.out
          rw [h3, h2]
          omega
        have hnx1 : -9223372036854775808 ≤ nx + 1 ∧ nx + 1 < 9223372036854775808 := by have := HNXB.out; omega
        clear hxp
        have hmk := makeFJ n (by omega)
        have hsf := run_store_f
        have hzc : (wr.alloc (.cells (flN n) 38)).cell? ⟨wr.heap.size, k, none⟩ = some (.float .f64 0) := cellAtJ (heap_alloc_new wr _) k _ (flN_at n k hlt)
        have hzf : (wr.alloc (.cells (flN n) 38)).frozen? ⟨wr.heap.size, k, none⟩ = false := frozen_of_row _ _ k _ _ (heap_alloc_new wr _)
        go_upto_region 11 with fail
        clear hmk hsf hzc hzf d0 d1 d2 d3 d4 d5 ga hox
        have sV : ((wr.alloc (.cells (flN n) 38)).setCell ⟨wr.heap.size, k, none⟩ (.float .f64 x)).heap[D]? = _ := (setCell_keepJ _ _ _ _ D (Nat.ne_of_lt (blk_lt HD.out))).trans (alloc_kept HD.out _)
        have rV : ((wr.alloc (.cells (flN n) 38)).setCell ⟨wr.heap.size, k, none⟩ (.float .f64 x)).heap[w.heap.size + 1]? = _ := (setCell_keepJ _ _ _ _ _ (Nat.ne_of_lt (blk_lt HR0.out))).trans (alloc_kept HR0.out _)
        have qW : Below wr.heap.size wr ((wr.alloc (.cells (flN n) 38)).setCell ⟨wr.heap.size, k, none⟩ (.float .f64 x)) := ((Below.refl _ wr).alloc (Nat.le_refl _) _).setCell (p := ⟨wr.heap.size, k, none⟩) (Nat.le_refl _) _
        have LV := HL.out.later qW
        have qV : Below w.heap.size w ((wr.alloc (.cells (flN n) 38)).setCell ⟨wr.heap.size, k, none⟩ (.float .f64 x)) := HB.out.trans (qW.mono HB.out.size)
        have oV := ((rdF_zero0 n wr (by omega)).set hlt HFx.out).mono HB.out.size
        rw [World.setCell_alloc_new] at sV rV qW LV qV oV
        obtain ⟨W1, hW1⟩ : ∃ W1, wr.alloc (.cells ((flN n).setIfInBounds k (.float .f64 x)) 38) = W1 := ⟨_, rfl⟩
        rw [hW1] at sV rV qW LV qV oV ⊢
        clear hW1
        obtain ⟨b, hb⟩ : ∃ b, wr.heap.size = b := ⟨_, rfl⟩
        have HNB : Hid (b ≠ bc ∧ b ≠ br ∧ b ∉ gl) := ⟨hb ▸ Nat.ne_of_gt HL.out.c.lt, hb ▸ Nat.ne_of_gt HL.out.r.lt, fun hm => absurd (HL.out.col.mem_lt hm) (by rw [hb]; exact Nat.lt_irrefl _)⟩
        rw [hb] at oV ⊢
        have HLI : Hid (((ids1 ++ (lfS n (rs1.map plainM) next k).1).map (Value.int .i64)).length + 1 ≤ 4000000) := by
          unfold Hid
          have h1 := (lfS_len n (rs1.map plainM) next k).1
          have h2 := HLL.out.1
          simp only [List.length_map, List.length_append]
          omega
        have HLG : Hid ((gl.map (slN n)).length + 1 ≤ 4000000) := by
          unfold Hid
          have h1 := lfS_len n (rs1.map plainM) next k
          have h2 := HLL.out.2
          have h3 := HL.out.col.len
          simp only [List.length_map, List.length_append] at h3 ⊢
          omega
        clear hb
        go_cut [29] from 29 to 61 (fun iv wx => ∃ v4 v6, iv = .int .i64 (k : Int) ∧ Hid (wx.heap[D]? = some (.cells #[.int .i64 (n : Int), slN n bc, v4, v6, slN n br, .bool false] 26)) ∧ Hid (FrL wx w.heap.size n bc br (cs1.map plainM) (zrL (rs1.map plainM) k) ((ids1 ++ (lfS n (rs1.map plainM) next k).1) ++ [nx]) ((gs1.map (·.map plainM) ++ (lfS n (rs1.map plainM) next k).2.1) ++ [unitL n k x]) v4 v6 (gl ++ [b])) ∧ Hid (Below w.heap.size w wx) ∧ Hid (wx.heap[w.heap.size + 1]? = some (.cells #[.int .i64 0, .slice none 0 0, .slice none 0 0, .slice none 0 0, .slice none 0 0, .bool false] 26)))
        case first =>
          refine wp_region_noPanic ?_
          refine wp_region_P (fun V => V.heap[D]? = some (.cells #[.int .i64 (n : Int), slN n bc, vi, vg, slN n br, .bool false] 26)) 11 (by kernel_rfl) ?_
          have sV' := sV
          have LV' := LV.keep (w' := W1.drew) fun _ _ _ _ _ => rfl
          have qV' : Below w.heap.size w W1.drew := qV.drew
          have oV' := oV.keep (w' := W1.drew) fun _ _ _ => rfl
          have sV2 : W1.drew.heap[D]? = some (.cells #[.int .i64 (n : Int), slN n bc, vi, vg, slN n br, .bool false] 26) := sV
          have rV2 : W1.drew.heap[w.heap.size + 1]? = some (.cells #[.int .i64 0, .slice none 0 0, .slice none 0 0, .slice none 0 0, .slice none 0 0, .bool false] 26) := rV
          obtain ⟨V, hV⟩ : ∃ V, W1.drew = V := ⟨_, rfl⟩
          rw [hV] at LV' qV' oV' sV2 rV2 ⊢
          clear hV sV LV qV oV sV' rV
          have LV := LV'
          have qV := qV'
          have oV := oV'
          have sV := sV2
          have rV := rV2
          clear LV' qV' oV' sV2 rV2
          refine takeP0 43 (i := 0) (v := ?_) rfl rfl (by kernel_rfl) (by kernel_rfl) (by kernel_rfl) rfl (fun _ _ _ h => h) (Or.inl ⟨by kernel_rfl, ?_⟩) (fun _ => sV) ?_
          rotate_left
          · intro w' hSw; go_simp; try with_reducible rfl
          try simp only [Act.put, List.setIfInBounds_toArray, List.set_cons_zero, List.set_cons_succ]
          refine takeP 44 (i := 1) (v := ?_) rfl rfl (by kernel_rfl) (by kernel_rfl) (by kernel_rfl) (by kernel_rfl) rfl (by kernel_rfl) (fun _ _ _ h => h) (Or.inl ⟨by kernel_rfl, ?_⟩) sV ?_
          rotate_left
          · intro w' hSw; (try obtain ⟨c0, c1, c2, c3, c4, c5⟩ := cells6 hSw); go_simp; try with_reducible rfl
          try simp only [Act.put, List.setIfInBounds_toArray, List.set_cons_zero, List.set_cons_succ]
          refine takeP0 45 (i := 2) (v := ?_) rfl rfl (by kernel_rfl) (by kernel_rfl) (by kernel_rfl) rfl (fun _ _ _ h => h) (Or.inl ⟨by kernel_rfl, ?_⟩) (fun _ => sV) ?_
          rotate_left
          · intro w' hSw; go_simp; try with_reducible rfl
          try simp only [Act.put, List.setIfInBounds_toArray, List.set_cons_zero, List.set_cons_succ]
          refine takeP0 48 (i := 5) (v := ?_) rfl rfl (by kernel_rfl) (by kernel_rfl) (by kernel_rfl) rfl (fun _ _ _ h => h) (Or.inl ⟨by kernel_rfl, ?_⟩) (fun _ => sV) ?_
          rotate_left
          · intro w' hSw; go_simp; try with_reducible rfl
          try simp only [Act.put, List.setIfInBounds_toArray, List.set_cons_zero, List.set_cons_succ]
          refine takeP 49 (i := 6) (v := ?_) rfl rfl (by kernel_rfl) (by kernel_rfl) (by kernel_rfl) (by kernel_rfl) rfl (by kernel_rfl) (fun _ _ _ h => h) (Or.inl ⟨by kernel_rfl, ?_⟩) sV ?_
          rotate_left
          · intro w' hSw; (try obtain ⟨c0, c1, c2, c3, c4, c5⟩ := cells6 hSw); go_simp; try with_reducible rfl
          try simp only [Act.put, List.setIfInBounds_toArray, List.set_cons_zero, List.set_cons_succ]
          refine takeP0 50 (i := 7) (v := ?_) rfl rfl (by kernel_rfl) (by kernel_rfl) (by kernel_rfl) rfl (fun _ _ _ h => h) (Or.inl ⟨by kernel_rfl, ?_⟩) (fun _ => sV) ?_
          rotate_left
          · intro w' hSw; go_simp; try with_reducible rfl
          try simp only [Act.put, List.setIfInBounds_toArray, List.set_cons_zero, List.set_cons_succ]
          refine wpAnyP_ready (rs := [3, 8]) (by kernel_rfl) (by simp) ?_
          refine consP _ rfl ?_ (consP _ rfl ?_ AllReadyP.nil)
          · refine hopBJ 46 (.int .i64 nx) 3 rfl rfl rfl (by kernel_rfl) fun I Vi hIVi hb => ?_
            have sVi := kept hb sV
            have rVi := kept hb rV
            have LVi := LV.later hb
            have qVi := qV.trans (hb.mono qV.size)
            have oVi := oV.later hb
            clear hb
            refine ⟨sVi, ?_⟩
            try simp only [Act.put, List.setIfInBounds_toArray, List.set_cons_zero, List.set_cons_succ]
            refine wpAnyP_ready (rs := [4, 8]) (by kernel_rfl) (by simp) ?_
            refine consP _ rfl ?_ (consP _ rfl ?_ AllReadyP.nil)
            · refine hopL rfl (append_grM Tryz.underlying23 Tryz.infoIJ rfl (by decide) Vi (by rfl) _ _ (by rfl) w.heap.size vi _ (by kernel_rfl) LVi.i ⟨I, 0, none⟩ 1 1 [.int .i64 nx] (by kernel_rfl) rfl (by decide) (news_oneJ hIVi) (by intro u hu; simp only [List.mem_cons, List.not_mem_nil, or_false] at hu; subst hu; rfl) HLI.out qVi.size fun v4 Via o4 g4 => ?_)
              change QK _ _ Exit.normal (Act.put _ (some 47) v4) Via
              have sVia := (grw_types LVi.i g4 D _ _ (by decide) sVi).trans sVi
              have rVia := (grw_types LVi.i g4 _ _ _ (by decide) rVi).trans rVi
              have LVia := LVi.pushI g4 o4
              have qVia := qVi.trans (g4.below (fun k hk => (World.ownsRow.lt LVi.i k hk).1) qVi.size)
              have oVia := oVi.keep fun k cur hc => grw_types LVi.i g4 k cur _ (by decide) hc
              clear g4
              refine (And.intro sVia ?_ : _ ∧ _)
              try simp only [Act.put, List.setIfInBounds_toArray, List.set_cons_zero, List.set_cons_succ]
              refine takeP0 53 (i := 10) (v := ?_) rfl rfl (by kernel_rfl) (by kernel_rfl) (by kernel_rfl) rfl (fun _ _ _ h => h) (Or.inl ⟨by kernel_rfl, ?_⟩) (fun _ => sVia) ?_
              rotate_left
              · intro w' hSw; go_simp; try with_reducible rfl
              try simp only [Act.put, List.setIfInBounds_toArray, List.set_cons_zero, List.set_cons_succ]
              refine wpAnyP_ready (rs := [8]) (by kernel_rfl) (by simp) ?_
              refine consP _ rfl ?_ AllReadyP.nil
              · refine hopBJ 51 (slN n b) 22 rfl rfl rfl (by kernel_rfl) fun J Viaj hJViaj hb => ?_
                have sViaj := kept hb sVia
                have rViaj := kept hb rVia
                have LViaj := LVia.later hb
                have qViaj := qVia.trans (hb.mono qVia.size)
                have oViaj := oVia.later hb
                clear hb
                refine ⟨sViaj, ?_⟩
                try simp only [Act.put, List.setIfInBounds_toArray, List.set_cons_zero, List.set_cons_succ]
                refine wpAnyP_ready (rs := [9]) (by kernel_rfl) (by simp) ?_
                refine consP _ rfl ?_ AllReadyP.nil
                · refine hopL rfl (append_grM Tryz.underlying24 Tryz.infoFsJ rfl (by decide) Viaj (by rfl) _ _ (by rfl) w.heap.size vg _ (by kernel_rfl) LViaj.g ⟨J, 0, none⟩ 1 1 [slN n b] (by kernel_rfl) rfl (by decide) (news_oneJ hJViaj) (by intro u hu; simp only [List.mem_cons, List.not_mem_nil, or_false] at hu; subst hu; rfl) HLG.out qViaj.size fun v6 w6 o6 g6 => ?_)
                  change QK _ _ Exit.normal (Act.put _ (some 52) v6) w6
                  have s6 := (grw_types LViaj.g g6 D _ _ (by decide) sViaj).trans sViaj
                  have r6 := (grw_types LViaj.g g6 _ _ _ (by decide) rViaj).trans rViaj
                  have L6 := LViaj.pushG g6 o6 oViaj HNB.out.1 HNB.out.2.1 HNB.out.2.2
                  have q6 := qViaj.trans (g6.below (fun k hk => (World.ownsRow.lt LViaj.g k hk).1) qViaj.size)
                  clear g6
                  refine (And.intro s6 ?_ : _ ∧ _)
                  try simp only [Act.put, List.setIfInBounds_toArray, List.set_cons_zero, List.set_cons_succ]
                  refine wpAnyP_ready (rs := [11]) (by kernel_rfl) (by simp) ?_
                  refine consPs _ rfl (by kernel_rfl) (hopL rfl (wpList_store_at (by rfl) 23 _ _ (by rfl) w w.heap.size D 2 v4 _ #[.int .i64 (n : Int), slN n bc, v4, vg, slN n br, .bool false] 26 (by kernel_rfl) (by kernel_rfl) s6 q6 hDl 1 Tryz.szIs (by rw [(own_valJ L6.i).2]; rfl) (Nat.le_of_ble_eq_true rfl) (by intro u hu; rw [(own_valJ L6.i).2] at hu; simp only [List.mem_cons, List.not_mem_nil, or_false] at hu; subst hu; exact (own_valJ L6.i).1) (by rw [(own_valJ L6.i).2]; rfl) fun w7 e7 b7 s7 k7 => ?_)) AllReadyP.nil
                  refine (And.intro trivial ?_ : _ ∧ _)
                  try simp only [Act.put, List.setIfInBounds_toArray, List.set_cons_zero, List.set_cons_succ]
                  refine takeP0 54 (i := 12) (v := ?_) rfl rfl (by kernel_rfl) (by kernel_rfl) (by kernel_rfl) rfl (fun _ _ _ h => h) (Or.inl ⟨by kernel_rfl, ?_⟩) (fun e => by cases e) ?_
                  rotate_left
                  · intro w' hSw; go_simp; try with_reducible rfl
                  try simp only [Act.put, List.setIfInBounds_toArray, List.set_cons_zero, List.set_cons_succ]
                  refine wpAnyP_ready (rs := [13]) (by kernel_rfl) (by simp) ?_
                  refine consPs _ rfl (by kernel_rfl) (hopL rfl (wpList_store_at (by rfl) 24 _ _ (by rfl) w w.heap.size D 3 v6 _ #[.int .i64 (n : Int), slN n bc, v4, v6, slN n br, .bool false] 26 (by kernel_rfl) (by kernel_rfl) e7 b7 hDl 1 Tryz.szFss (by rw [(own_valJ L6.g).2]; rfl) (Nat.le_of_ble_eq_true rfl) (by intro u hu; rw [(own_valJ L6.g).2] at hu; simp only [List.mem_cons, List.not_mem_nil, or_false] at hu; subst hu; exact (own_valJ L6.g).1) (by rw [(own_valJ L6.g).2]; rfl) fun w8 e8 b8 s8 k8 => ?_)) AllReadyP.nil
                  refine (And.intro trivial ?_ : _ ∧ _)
                  try simp only [Act.put, List.setIfInBounds_toArray, List.set_cons_zero, List.set_cons_succ]
                  refine wpAnyP_done (by kernel_rfl) ?_ _
                  refine NoPanic.normal ?_
                  try simp only [Act.put, List.setIfInBounds_toArray, List.set_cons_zero, List.set_cons_succ]
                  have kk : ∀ k, k ≠ D → w8.heap[k]? = w6.heap[k]? := fun k hk => (k8 k hk).trans (k7 k hk)
                  have L8 := L6.keep (w' := w8) fun k cur t ht hc => kk k (by rintro rfl; rw [s6] at hc; cases hc; exact ht rfl)
                  go_wp2_with fail
                  go_meet
                  exact ⟨v4, v6, rfl, e8, L8, b8, (kk _ hD1).trans r6⟩
            · refine hopBJ 51 (slN n b) 22 rfl rfl rfl (by kernel_rfl) fun J Vij hJVij hb => ?_
              have sVij := kept hb sVi
              have rVij := kept hb rVi
              have LVij := LVi.later hb
              have qVij := qVi.trans (hb.mono qVi.size)
              have oVij := oVi.later hb
              have hIVij := kept hb hIVi
              clear hb
              refine ⟨sVij, ?_⟩
              try simp only [Act.put, List.setIfInBounds_toArray, List.set_cons_zero, List.set_cons_succ]
              refine wpAnyP_ready (rs := [4]) (by kernel_rfl) (by simp) ?_
              refine consP _ rfl ?_ AllReadyP.nil
              · refine hopL rfl (append_grM Tryz.underlying23 Tryz.infoIJ rfl (by decide) Vij (by rfl) _ _ (by rfl) w.heap.size vi _ (by kernel_rfl) LVij.i ⟨I, 0, none⟩ 1 1 [.int .i64 nx] (by kernel_rfl) rfl (by decide) (news_oneJ hIVij) (by intro u hu; simp only [List.mem_cons, List.not_mem_nil, or_false] at hu; subst hu; rfl) HLI.out qVij.size fun v4 Vija o4 g4 => ?_)
                change QK _ _ Exit.normal (Act.put _ (some 47) v4) Vija
                have sVija := (grw_types LVij.i g4 D _ _ (by decide) sVij).trans sVij
                have rVija := (grw_types LVij.i g4 _ _ _ (by decide) rVij).trans rVij
                have LVija := LVij.pushI g4 o4
                have qVija := qVij.trans (g4.below (fun k hk => (World.ownsRow.lt LVij.i k hk).1) qVij.size)
                have oVija := oVij.keep fun k cur hc => grw_types LVij.i g4 k cur _ (by decide) hc
                have hJVija := (grw_types LVij.i g4 J _ _ (by decide) hJVij).trans hJVij
                clear g4
                refine (And.intro sVija ?_ : _ ∧ _)
                try simp only [Act.put, List.setIfInBounds_toArray, List.set_cons_zero, List.set_cons_succ]
                refine takeP0 53 (i := 10) (v := ?_) rfl rfl (by kernel_rfl) (by kernel_rfl) (by kernel_rfl) rfl (fun _ _ _ h => h) (Or.inl ⟨by kernel_rfl, ?_⟩) (fun _ => sVija) ?_
                rotate_left
                · intro w' hSw; go_simp; try with_reducible rfl
                try simp only [Act.put, List.setIfInBounds_toArray, List.set_cons_zero, List.set_cons_succ]
                refine wpAnyP_ready (rs := [9]) (by kernel_rfl) (by simp) ?_
                refine consP _ rfl ?_ AllReadyP.nil
                · refine hopL rfl (append_grM Tryz.underlying24 Tryz.infoFsJ rfl (by decide) Vija (by rfl) _ _ (by rfl) w.heap.size vg _ (by kernel_rfl) LVija.g ⟨J, 0, none⟩ 1 1 [slN n b] (by kernel_rfl) rfl (by decide) (news_oneJ hJVija) (by intro u hu; simp only [List.mem_cons, List.not_mem_nil, or_false] at hu; subst hu; rfl) HLG.out qVija.size fun v6 w6 o6 g6 => ?_)
                  change QK _ _ Exit.normal (Act.put _ (some 52) v6) w6
                  have s6 := (grw_types LVija.g g6 D _ _ (by decide) sVija).trans sVija
                  have r6 := (grw_types LVija.g g6 _ _ _ (by decide) rVija).trans rVija
                  have L6 := LVija.pushG g6 o6 oVija HNB.out.1 HNB.out.2.1 HNB.out.2.2
                  have q6 := qVija.trans (g6.below (fun k hk => (World.ownsRow.lt LVija.g k hk).1) qVija.size)
                  clear g6
                  refine (And.intro s6 ?_ : _ ∧ _)
                  try simp only [Act.put, List.setIfInBounds_toArray, List.set_cons_zero, List.set_cons_succ]
                  refine wpAnyP_ready (rs := [11]) (by kernel_rfl) (by simp) ?_
                  refine consPs _ rfl (by kernel_rfl) (hopL rfl (wpList_store_at (by rfl) 23 _ _ (by rfl) w w.heap.size D 2 v4 _ #[.int .i64 (n : Int), slN n bc, v4, vg, slN n br, .bool false] 26 (by kernel_rfl) (by kernel_rfl) s6 q6 hDl 1 Tryz.szIs (by rw [(own_valJ L6.i).2]; rfl) (Nat.le_of_ble_eq_true rfl) (by intro u hu; rw [(own_valJ L6.i).2] at hu; simp only [List.mem_cons, List.not_mem_nil, or_false] at hu; subst hu; exact (own_valJ L6.i).1) (by rw [(own_valJ L6.i).2]; rfl) fun w7 e7 b7 s7 k7 => ?_)) AllReadyP.nil
                  refine (And.intro trivial ?_ : _ ∧ _)
                  try simp only [Act.put, List.setIfInBounds_toArray, List.set_cons_zero, List.set_cons_succ]
                  refine takeP0 54 (i := 12) (v := ?_) rfl rfl (by kernel_rfl) (by kernel_rfl) (by kernel_rfl) rfl (fun _ _ _ h => h) (Or.inl ⟨by kernel_rfl, ?_⟩) (fun e => by cases e) ?_
                  rotate_left
                  · intro w' hSw; go_simp; try with_reducible rfl
                  try simp only [Act.put, List.setIfInBounds_toArray, List.set_cons_zero, List.set_cons_succ]
                  refine wpAnyP_ready (rs := [13]) (by kernel_rfl) (by simp) ?_
                  refine consPs _ rfl (by kernel_rfl) (hopL rfl (wpList_store_at (by rfl) 24 _ _ (by rfl) w w.heap.size D 3 v6 _ #[.int .i64 (n : Int), slN n bc, v4, v6, slN n br, .bool false] 26 (by kernel_rfl) (by kernel_rfl) e7 b7 hDl 1 Tryz.szFss (by rw [(own_valJ L6.g).2]; rfl) (Nat.le_of_ble_eq_true rfl) (by intro u hu; rw [(own_valJ L6.g).2] at hu; simp only [List.mem_cons, List.not_mem_nil, or_false] at hu; subst hu; exact (own_valJ L6.g).1) (by rw [(own_valJ L6.g).2]; rfl) fun w8 e8 b8 s8 k8 => ?_)) AllReadyP.nil
                  refine (And.intro trivial ?_ : _ ∧ _)
                  try simp only [Act.put, List.setIfInBounds_toArray, List.set_cons_zero, List.set_cons_succ]
                  refine wpAnyP_done (by kernel_rfl) ?_ _
                  refine NoPanic.normal ?_
                  try simp only [Act.put, List.setIfInBounds_toArray, List.set_cons_zero, List.set_cons_succ]
                  have kk : ∀ k, k ≠ D → w8.heap[k]? = w6.heap[k]? := fun k hk => (k8 k hk).trans (k7 k hk)
                  have L8 := L6.keep (w' := w8) fun k cur t ht hc => kk k (by rintro rfl; rw [s6] at hc; cases hc; exact ht rfl)
                  go_wp2_with fail
                  go_meet
                  exact ⟨v4, v6, rfl, e8, L8, b8, (kk _ hD1).trans r6⟩
          · refine hopBJ 51 (slN n b) 22 rfl rfl rfl (by kernel_rfl) fun J Vj hJVj hb => ?_
            have sVj := kept hb sV
            have rVj := kept hb rV
            have LVj := LV.later hb
            have qVj := qV.trans (hb.mono qV.size)
            have oVj := oV.later hb
            clear hb
            refine ⟨sVj, ?_⟩
            try simp only [Act.put, List.setIfInBounds_toArray, List.set_cons_zero, List.set_cons_succ]
            refine wpAnyP_ready (rs := [3]) (by kernel_rfl) (by simp) ?_
            refine consP _ rfl ?_ AllReadyP.nil
            · refine hopBJ 46 (.int .i64 nx) 3 rfl rfl rfl (by kernel_rfl) fun I Vji hIVji hb => ?_
              have sVji := kept hb sVj
              have rVji := kept hb rVj
              have LVji := LVj.later hb
              have qVji := qVj.trans (hb.mono qVj.size)
              have oVji := oVj.later hb
              have hJVji := kept hb hJVj
              clear hb
              refine ⟨sVji, ?_⟩
              try simp only [Act.put, List.setIfInBounds_toArray, List.set_cons_zero, List.set_cons_succ]
              refine wpAnyP_ready (rs := [4]) (by kernel_rfl) (by simp) ?_
              refine consP _ rfl ?_ AllReadyP.nil
              · refine hopL rfl (append_grM Tryz.underlying23 Tryz.infoIJ rfl (by decide) Vji (by rfl) _ _ (by rfl) w.heap.size vi _ (by kernel_rfl) LVji.i ⟨I, 0, none⟩ 1 1 [.int .i64 nx] (by kernel_rfl) rfl (by decide) (news_oneJ hIVji) (by intro u hu; simp only [List.mem_cons, List.not_mem_nil, or_false] at hu; subst hu; rfl) HLI.out qVji.size fun v4 Vjia o4 g4 => ?_)
                change QK _ _ Exit.normal (Act.put _ (some 47) v4) Vjia
                have sVjia := (grw_types LVji.i g4 D _ _ (by decide) sVji).trans sVji
                have rVjia := (grw_types LVji.i g4 _ _ _ (by decide) rVji).trans rVji
                have LVjia := LVji.pushI g4 o4
                have qVjia := qVji.trans (g4.below (fun k hk => (World.ownsRow.lt LVji.i k hk).1) qVji.size)
                have oVjia := oVji.keep fun k cur hc => grw_types LVji.i g4 k cur _ (by decide) hc
                have hJVjia := (grw_types LVji.i g4 J _ _ (by decide) hJVji).trans hJVji
                clear g4
                refine (And.intro sVjia ?_ : _ ∧ _)
                try simp only [Act.put, List.setIfInBounds_toArray, List.set_cons_zero, List.set_cons_succ]
                refine takeP0 53 (i := 10) (v := ?_) rfl rfl (by kernel_rfl) (by kernel_rfl) (by kernel_rfl) rfl (fun _ _ _ h => h) (Or.inl ⟨by kernel_rfl, ?_⟩) (fun _ => sVjia) ?_
                rotate_left
                · intro w' hSw; go_simp; try with_reducible rfl
                try simp only [Act.put, List.setIfInBounds_toArray, List.set_cons_zero, List.set_cons_succ]
                refine wpAnyP_ready (rs := [9]) (by kernel_rfl) (by simp) ?_
                refine consP _ rfl ?_ AllReadyP.nil
                · refine hopL rfl (append_grM Tryz.underlying24 Tryz.infoFsJ rfl (by decide) Vjia (by rfl) _ _ (by rfl) w.heap.size vg _ (by kernel_rfl) LVjia.g ⟨J, 0, none⟩ 1 1 [slN n b] (by kernel_rfl) rfl (by decide) (news_oneJ hJVjia) (by intro u hu; simp only [List.mem_cons, List.not_mem_nil, or_false] at hu; subst hu; rfl) HLG.out qVjia.size fun v6 w6 o6 g6 => ?_)
                  change QK _ _ Exit.normal (Act.put _ (some 52) v6) w6
                  have s6 := (grw_types LVjia.g g6 D _ _ (by decide) sVjia).trans sVjia
                  have r6 := (grw_types LVjia.g g6 _ _ _ (by decide) rVjia).trans rVjia
                  have L6 := LVjia.pushG g6 o6 oVjia HNB.out.1 HNB.out.2.1 HNB.out.2.2
                  have q6 := qVjia.trans (g6.below (fun k hk => (World.ownsRow.lt LVjia.g k hk).1) qVjia.size)
                  clear g6
                  refine (And.intro s6 ?_ : _ ∧ _)
                  try simp only [Act.put, List.setIfInBounds_toArray, List.set_cons_zero, List.set_cons_succ]
                  refine wpAnyP_ready (rs := [11]) (by kernel_rfl) (by simp) ?_
                  refine consPs _ rfl (by kernel_rfl) (hopL rfl (wpList_store_at (by rfl) 23 _ _ (by rfl) w w.heap.size D 2 v4 _ #[.int .i64 (n : Int), slN n bc, v4, vg, slN n br, .bool false] 26 (by kernel_rfl) (by kernel_rfl) s6 q6 hDl 1 Tryz.szIs (by rw [(own_valJ L6.i).2]; rfl) (Nat.le_of_ble_eq_true rfl) (by intro u hu; rw [(own_valJ L6.i).2] at hu; simp only [List.mem_cons, List.not_mem_nil, or_false] at hu; subst hu; exact (own_valJ L6.i).1) (by rw [(own_valJ L6.i).2]; rfl) fun w7 e7 b7 s7 k7 => ?_)) AllReadyP.nil
                  refine (And.intro trivial ?_ : _ ∧ _)
                  try simp only [Act.put, List.setIfInBounds_toArray, List.set_cons_zero, List.set_cons_succ]
                  refine takeP0 54 (i := 12) (v := ?_) rfl rfl (by kernel_rfl) (by kernel_rfl) (by kernel_rfl) rfl (fun _ _ _ h => h) (Or.inl ⟨by kernel_rfl, ?_⟩) (fun e => by cases e) ?_
                  rotate_left
                  · intro w' hSw; go_simp; try with_reducible rfl
                  try simp only [Act.put, List.setIfInBounds_toArray, List.set_cons_zero, List.set_cons_succ]
                  refine wpAnyP_ready (rs := [13]) (by kernel_rfl) (by simp) ?_
                  refine consPs _ rfl (by kernel_rfl) (hopL rfl (wpList_store_at (by rfl) 24 _ _ (by rfl) w w.heap.size D 3 v6 _ #[.int .i64 (n : Int), slN n bc, v4, v6, slN n br, .bool false] 26 (by kernel_rfl) (by kernel_rfl) e7 b7 hDl 1 Tryz.szFss (by rw [(own_valJ L6.g).2]; rfl) (Nat.le_of_ble_eq_true rfl) (by intro u hu; rw [(own_valJ L6.g).2] at hu; simp only [List.mem_cons, List.not_mem_nil, or_false] at hu; subst hu; exact (own_valJ L6.g).1) (by rw [(own_valJ L6.g).2]; rfl) fun w8 e8 b8 s8 k8 => ?_)) AllReadyP.nil
                  refine (And.intro trivial ?_ : _ ∧ _)
                  try simp only [Act.put, List.setIfInBounds_toArray, List.set_cons_zero, List.set_cons_succ]
                  refine wpAnyP_done (by kernel_rfl) ?_ _
                  refine NoPanic.normal ?_
                  try simp only [Act.put, List.setIfInBounds_toArray, List.set_cons_zero, List.set_cons_succ]
                  have kk : ∀ k, k ≠ D → w8.heap[k]? = w6.heap[k]? := fun k hk => (k8 k hk).trans (k7 k hk)
                  have L8 := L6.keep (w' := w8) fun k cur t ht hc => kk k (by rintro rfl; rw [s6] at hc; cases hc; exact ht rfl)
                  go_wp2_with fail
                  go_meet
                  exact ⟨v4, v6, rfl, e8, L8, b8, (kk _ hD1).trans r6⟩
        case rest =>
        obtain ⟨v4, v6, rfl, E8, L8, B8, R8⟩ := hcut
        obtain ⟨d0, d1, d2, d3, d4, d5⟩ := cells6 E8.out
        unfold slN at d1 d4
        have hsf := run_store_f
        obtain ⟨rcur, hrc⟩ := L8.out.r.cur
        have hrf : wc.frozen? ⟨br, k, none⟩ = false := frozen_of_row _ _ k _ _ hrc
        rcases L8.out.r.rd.cells with h0 | ⟨rb, ro, re, hca⟩
        · omega
        cases re
        have hrv := hca k hlt
        rw [Nat.zero_add] at hrv
        clear hrc hca
        go_wp2_with fail
        go_roundg g
        case measure => omega
        case rel =>
          have hxp := HXP.out
          rw [← HX.out] at hxp
          have hls : lfS n (rs1.map plainM) next (k + 1) = ((lfS n (rs1.map plainM) next k).1 ++ [(lfS n (rs1.map plainM) next k).2.2], (lfS n (rs1.map plainM) next k).2.1 ++ [unitL n k ((rs1.map plainM)[k]?.getD 0)], (lfS n (rs1.map plainM) next k).2.2 + 1) := if_pos hxp
          refine ⟨k + 1, nx + 1, v4, v6, gl ++ [b], by go_num, by go_num, by have := HIG.out; omega, ?_, ?_, (setCell_keepJ _ _ _ _ D (own_neD L8.out.r E8.out)).trans E8.out, B8.out.setCell (p := ⟨br, k, none⟩) L8.out.r.lo _, (setCell_keepJ _ _ _ _ _ (own_neD L8.out.r R8.out)).trans R8.out⟩
          · unfold Hid; rw [hls, HNX.out]
          · unfold Hid
            have L9 := L8.out.setR hlt (u := 0) (by decide)
            rw [zrL_pos _ _ HKL.out hxp, hls, HX.out, ← List.append_assoc, ← List.append_assoc, ← HNX.out]
            exact L9
      · rw [decide_eq_false hxp] at hox
        have HXP : Hid _ := hxp
        clear hxp
        go_wp2_with fail
        go_roundg g
        case measure => omega
        case rel =>
          have hxp := HXP.out
          rw [← HX.out] at hxp
          refine ⟨k + 1, nx, vi, vg, gl, by go_num, rfl, by have := HIG.out; omega, ?_, ?_, HD, HB, HR0⟩
          · unfold Hid; rw [HNX.out]; show _ = (if _ then _ else _ : List Int × List (List Nat) × Int).2.2; rw [if_neg hxp]
          · unfold Hid
            rw [zrL_neg _ _ HKL.out hxp, show lfS n (rs1.map plainM) next (k + 1) = lfS n (rs1.map plainM) next k from if_neg hxp]
            exact HL.out
    · have hd : decide ((k : Int) < (n : Int)) = false := decide_eq_false (by omega)
      have hd' : decide (k < n) = false := decide_eq_false (by omega)
      obtain rfl : k = n := by omega
      have HNX' := HNX.out
      subst HNX'
      go_wp2_with (first
        | (refine wpList_load_row (by rfl) 26 _ (by rfl) D _ (by rfl) HD.out _ Tryz.underlying26 rfl 6 Tryz.infoZ (by rfl) ?_)
        | (refine wpList_store_row (by rfl) 26 _ _ (by rfl) w w.heap.size (w.heap.size + 1) _ _ (by rfl) (by rfl) HR0.out HB.out (Nat.le_succ _) 6 Tryz.infoZ (by rfl) (by rfl) (oneZ _ _ _ _ _ rfl (own_valJ HL.out.i).1 (own_valJ HL.out.g).1 rfl _) ?_; intro W9 e9 b9 s9 o9))
      have L9 := HL.out.keep (w' := W9) fun j cur t ht hc => o9 j (by rintro rfl; rw [HR0.out] at hc; cases hc; exact ht rfl)
      exact bodyPost_ret (res_ctJ _ 4 5 26 (by kernel_rfl) _ _ (w.heap.size + 1) _ _ (by rfl) (by rfl) _ Tryz.underlying26 rfl 6 Tryz.infoZ rfl e9) rfl ⟨bc, br, vi, vg, rfl, ⟨gl, L9⟩, b9⟩
end Go.Proofs.YtfepcpkfbnpbjaaGreat
