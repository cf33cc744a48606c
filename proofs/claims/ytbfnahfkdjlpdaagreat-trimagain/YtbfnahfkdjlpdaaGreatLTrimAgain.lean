import Derived.Test.YtbfnahfkdjlpdaaGreatTEj
set_option linter.unusedVariables false
set_option linter.unusedSimpArgs false
namespace Go.Proofs.YtbfnahfkdjlpdaaGreat
open Go.RowKit Go.Shelf
theorem gsm_one {w : World} {base : Nat} {v : Value} {gl : List Value} (h : GsM w base v gl) : v.oneCell' = true := by obtain ⟨g, cap, cur, m, rfl, _⟩ := h; rfl
structure RdTt (w : World) (ao : Option Addr) (len cap : Nat) (F : Nat → Int × Int × Nat) : Prop where
  max : len ≤ maxLen
  lt : ∀ j, (F j).1 ≤ 9223372036854775807 ∧ (F j).2.2 < 18446744073709551616
  cells : len = 0 ∨ ∃ b off, ao = some ⟨b, off, none⟩ ∧ ∀ j, j < len → w.cell? ⟨b, off + j * 3, none⟩ = some (.int .i64 (F j).1) ∧ w.cell? ⟨b, off + j * 3 + 1, none⟩ = some (.int .i64 (F j).2.1) ∧ w.cell? ⟨b, off + j * 3 + 2, none⟩ = some (.int .u64 (((F j).2.2 : Nat) : Int))
theorem RdTt.later {w w' : World} {ao : Option Addr} {len cap : Nat} {F : Nat → Int × Int × Nat} (h : RdTt w ao len cap F) (hb : Below w.heap.size w w') : RdTt w' ao len cap F := by
  have cell : ∀ (p : Addr) (v : Value), w.cell? p = some v → w'.cell? p = some v := fun p v hp => (hb.cell (World.block_lt_of_cell? _ _ hp)).trans hp
  refine ⟨h.max, h.lt, ?_⟩
  rcases h.cells with h0 | ⟨b, off, ha, hc⟩
  · exact .inl h0
  · exact .inr ⟨b, off, ha, fun j hj => ⟨cell _ _ (hc j hj).1, cell _ _ (hc j hj).2.1, cell _ _ (hc j hj).2.2⟩⟩
theorem rdI_own {w : World} {base : Nat} {v : Value} {is : List Int} (h : w.ownsRow base 3 1 v (is.map (Value.int .i64)).length (is.map (Value.int .i64))) : ∃ ao cap, v = .slice ao is.length cap ∧ RdIs w ao is.length cap is := by
  rw [List.length_map] at h
  obtain ⟨ao, cap, rfl, hm, hc⟩ := owns_slice h
  refine ⟨ao, cap, rfl, rfl, hm, ?_⟩
  rcases hc with h0 | ⟨g, rfl, hc⟩
  · exact .inl h0
  · exact .inr ⟨g, 0, rfl, fun j hj => by rw [Nat.zero_add, hc j hj, List.getElem?_map, List.getElem?_eq_getElem hj]; rfl⟩
structure AgS (w W : World) (B : Nat) (N : Int) (bad : Bool) (ids : List Int) (vc vr vi vg : Value) (gl : List Value) : Prop where
  bel : Below w.heap.size w W
  xb : W.heap[B]? = some (.cells #[.int .i64 N, vc, vi, vg, vr, .bool bad] 26)
  xl : ∃ cs rs gs, XL W w.heap.size cs rs ids gs vc vr vi vg gl
set_option maxRecDepth 100000 in
set_option maxHeartbeats 4000000 in
theorem trimAgain_walk
    (N : Int) (co : Option Addr) (cn cc : Nat) (io : Option Addr) (dn dc : Nat) (go : Option Addr) (gn gc : Nat) (ro : Option Addr) (rn rc : Nat) (bad : Bool) (cs0 : List Nat) (ids0 : List Int) (gv : Nat → Option Addr × Nat × Nat) (gs0 : List (List Nat)) (rs0 : List Nat) (w : World)
    (hc : RdF w co cn cc cs0) (hi : RdIs w io dn dc ids0) (hg : RdGs w go gn gc gv gs0) (hr : RdF w ro rn rc rs0) (lc : (cn ≤ cc ∧ (co = none → cc = 0) ∧ cc ≤ maxLen)) (lr : (rn ≤ rc ∧ (ro = none → rc = 0) ∧ rc ≤ maxLen)) (lg : ∀ k, k < gn → ((gv k).2.1 ≤ (gv k).2.2 ∧ ((gv k).1 = none → (gv k).2.2 = 0) ∧ (gv k).2.2 ≤ maxLen))
    (most : Int) (hm1 : -9223372036854775808 ≤ most) (hm2 : most ≤ 9223372036854775807) (tO : Option Addr) (tl tc : Nat) (F : Nat → Int × Int × Nat) (ht : RdTt w tO tl tc F) :
    Calls Tryz.prog 4 #[.agg #[.int .i64 N, .slice co cn cc, .slice io dn dc, .slice go gn gc, .slice ro rn rc, .bool bad], .int .i64 most, .slice tO tl tc] w fun e w' => e = .returned (.bool true) ∧ Below w.heap.size w w' := by
  have HZO : Hid (∀ W, Below w.heap.size w W → _) := fun W hb => zonoL_any N co cn cc io dn dc go gn gc ro rn rc bad cs0 ids0 gv gs0 rs0 W (hc.later hb) (hi.later hb) (hg.later hb) (hr.later hb) lc lr lg
  have HT : Hid (∀ W, Below w.heap.size w W → RdTt W tO tl tc F) := fun W hb => ht.later hb
  have htm := Nat.le_trans ht.max maxLen_le
  clear hc hi hg hr lc lr lg ht
  have X0 : Below w.heap.size w (w.alloc (.cells #[.int .i64 N, .slice co cn cc, .slice io dn dc, .slice go gn gc, .slice ro rn rc, .bool bad] 26)) := (Below.refl _ w).alloc (Nat.le_refl _) _
  have Y0 : (w.alloc (.cells #[.int .i64 N, .slice co cn cc, .slice io dn dc, .slice go gn gc, .slice ro rn rc, .bool bad] 26)).heap[w.heap.size]? = some (.cells #[.int .i64 N, .slice co cn cc, .slice io dn dc, .slice go gn gc, .slice ro rn rc, .bool bad] 26) := heap_alloc_new w _
  go_enter Tryz.func4, Tryz.ntmps4
  go_upto_region 1 with fail
  obtain ⟨X, hX⟩ : ∃ X, (w.alloc (.cells #[.int .i64 N, .slice co cn cc, .slice io dn dc, .slice go gn gc, .slice ro rn rc, .bool bad] 26)) = X := ⟨_, rfl⟩
  rw [hX] at X0 Y0 ⊢
  have T0 : Hid (Below w.heap.size w X ∧ X.heap[w.heap.size]? = some (.cells #[.int .i64 N, .slice co cn cc, .slice io dn dc, .slice go gn gc, .slice ro rn rc, .bool bad] 26)) := ⟨X0, Y0⟩
  clear hX X0 Y0
  go_upto_region 3 with (first
    | (go_at_call 5; refine Calls.mono (told11_any _) ?_; rintro e w1 ⟨rfl, b1⟩))
  have T1 : Hid (Below w.heap.size w w1 ∧ w1.heap[w.heap.size]? = some (.cells #[.int .i64 N, .slice co cn cc, .slice io dn dc, .slice go gn gc, .slice ro rn rc, .bool bad] 26)) := ⟨to_callD T0.out.1 b1, kept b1 T0.out.2⟩
  clear b1 T0
  go_upto_region 4 with (first
    | (refine wpList_load_row (by rfl) 26 _ (by rfl) w.heap.size _ (by rfl) T1.out.2 _ Tryz.underlying26 rfl 6 Tryz.infoZ (by rfl) ?_)
    | (go_at_call 6; refine Calls.mono (HZO.out _ T1.out.1) ?_; rintro e w2 ⟨vc, vr, vi, vg, gl, rfl, hx, b2⟩; have q2 := (Below.refl _ w2).alloc (Nat.le_refl _) (.cells #[.int .i64 0, .slice none 0 0, .slice none 0 0, .slice none 0 0, .slice none 0 0, .bool false] 26))
    | (refine wpList_store_row (by rfl) 26 _ _ (by rfl) w2 w2.heap.size w2.heap.size #[.int .i64 N, vc, vi, vg, vr, .bool bad] _ (by rfl) (by rfl) (heap_alloc_new w2 _) q2 (Nat.le_refl _) 6 Tryz.infoZ rfl rfl (oneZ _ _ _ _ _ (mk_one hx.c) (idm_one hx.i) (gsm_one hx.g) (mk_one hx.r) _) ?_; intro V Y1 A1 s9 o9))
  obtain ⟨B7, hB⟩ : ∃ b, w2.heap.size = b := ⟨_, rfl⟩
  rw [hB] at Y1
  obtain ⟨ids, hids⟩ : ∃ l, ids0.take 400 = l := ⟨_, rfl⟩
  rw [hids] at hx
  have hB7 : w.heap.size ≤ B7 := by rw [← hB]; exact Nat.le_trans T1.out.1.size b2.size
  have hx2 : XL V w.heap.size (cs0.take 300) (rs0.take 300) ids ((gs0.take 400).map (·.take 300)) vc vr vi vg gl := by
    have h9 := hx.later A1
    have hs := T1.out.1.size
    exact ⟨h9.c.mono hs, h9.r.mono hs, by obtain ⟨g, cap, cur, a1, a2, a3⟩ := h9.i; exact ⟨g, cap, cur, a1, by omega, a3⟩, by obtain ⟨g, cap, cur, m, a1, a2, a3⟩ := h9.g; exact ⟨g, cap, cur, m, a1, by omega, a3⟩, h9.len, fun j u hj => (h9.col j u hj).mono hs, h9.nd, h9.few⟩
  have TA : Hid (AgS w V B7 N bad ids vc vr vi vg gl) := ⟨to_callD (to_callD T1.out.1 b2) A1, Y1, _, _, _, hx2⟩
  rw [hB]
  clear hB A1 Y1 hx hx2 b2 T1 HZO hids q2 s9 o9
  go_wp2_with fail
  go_loopg [8] (min tl 12 + 1) (fun g v8 wx => ∃ i : Nat, v8 = .int .i64 i ∧ i + g = min tl 12 + 1 ∧ Hid (AgS w wx B7 N bad ids vc vr vi vg gl))
  case atStart => exact ⟨0, rfl, by omega, TA⟩
  case round =>
    clear TA
    obtain ⟨i, rfl, hi, HJ⟩ := hrel
    by_cases hlk : i ≤ min tl 12
    · have hd1 : decide ((i : Int) ≤ (tl : Int)) = true := decide_eq_true (by omega)
      have hd2 : decide ((i : Int) ≤ 12) = true := decide_eq_true (by omega)
      have hn1 : i ≤ tl := by omega
      have hn2 : i ≤ 12 := by omega
      obtain ⟨q, rfl⟩ : ∃ q, gk = q + 1 := ⟨gk - 1, by omega⟩
      have HIG : Hid (i + (q + 1) = min tl 12 + 1) := hi
      obtain ⟨cs, rs, gs, hxl⟩ := HJ.out.xl
      obtain ⟨x, hrow, hzr, hzw, x1, x2, x3, x4, x5, x6, x7, x8⟩ := hxl.zd N bad
      have HXL : Hid (XL wr w.heap.size cs rs ids gs vc vr vi vg gl) := hxl
      have HXZ : Hid (ZR wr x ∧ ZW x ∧ x.dn ≤ 400) := ⟨hzr, hzw, x7⟩
      have HRW : Hid (#[.int .i64 N, vc, vi, vg, vr, .bool bad] = zRow x) := hrow
      have HXE : Hid (x.N = N ∧ x.bad = bad ∧ x.cs = cs ∧ x.rs = rs ∧ x.ids = ids ∧ x.gs = gs) := ⟨x1, x2, x3, x4, x5, x6⟩
      have HOF : Hid (Calls Tryz.prog 7 #[.agg #[.int .i64 N, vc, vi, vg, vr, .bool bad]] wr fun e w' => ∃ u : ZD, e = .returned (.agg (zRow u)) ∧ ZU w' u ∧ SmZ u x ∧ Below wr.heap.size wr w') := by unfold Hid; rw [hrow]; exact ofU x wr hzr hzw
      clear hxl hzr hzw hrow x1 x2 x3 x4 x5 x6 x7 x8 hi hlk
      go_upto_region 8 with (first
        | (refine wpList_load_row (by rfl) 26 _ (by rfl) B7 _ (by rfl) HJ.out.xb _ Tryz.underlying26 rfl 6 Tryz.infoZ (by rfl) ?_)
        | (go_at_call 7; refine Calls.mono HOF.out ?_; rintro e w1 ⟨u, rfl, hu, hsm, b1⟩; have q1 := (Below.refl _ w1).alloc (Nat.le_refl _) (.cells #[.int .i64 0, .slice none 0 0, .slice none 0 0, .slice none 0 0, .slice none 0 0, .bool false] 32))
        | (refine wpList_store_row (by rfl) 32 _ _ (by rfl) w1 w1.heap.size w1.heap.size (zRow u) _ (by rfl) (by rfl) (heap_alloc_new w1 _) q1 (Nat.le_refl _) 6 Tryz.infoZu rfl rfl (oneZ _ _ _ _ _ rfl rfl rfl rfl _) ?_; intro P Y1 A1 s9 o9))
      obtain ⟨B9, hB⟩ : ∃ b, w1.heap.size = b := ⟨_, rfl⟩
      rw [hB] at Y1
      have bP : Below wr.heap.size wr P := to_callD b1 A1
      have HPB : Hid (Below wr.heap.size wr P) := bP
      have HXP : Hid (XL P w.heap.size cs rs ids gs vc vr vi vg gl ∧ ZR P x ∧ ZU P u ∧ SmZ u x ∧ UW u) := ⟨HXL.out.later bP, HXZ.out.1.later bP, hu.later A1, hsm, hsm.uw (HXZ.out.1.later bP) HXZ.out.2.1 (hu.later A1)⟩
      rw [hB]
      have huw := HXP.out.2.2.2.2
      have hx4 : x.dn ≤ 1050000 := by have := HXZ.out.2.2; omega
      have HO : Hid (∀ W, Below P.heap.size P W → Calls Tryz.prog 10 #[.agg #[.int .i64 N, vc, vi, vg, vr, .bool bad]] W fun e w' => ∃ ao len cap, e = .returned (.slice ao len cap) ∧ RdIs w' ao len cap (ordL x) ∧ Below W.heap.size W w') := fun W hb => by rw [HRW.out]; exact order_any 1166 rfl x W (HXP.out.2.1.later hb) hx4
      have HOD : Hid (∀ W, Below P.heap.size P W → Calls Tryz.prog 8 #[.agg (zRow u)] W fun e w' => ∃ v : Value, e = .returned v ∧ w'.ownsRow W.heap.size 3 1 v ((ordL x).map (Value.int .i64)).length ((ordL x).map (Value.int .i64)) ∧ Below W.heap.size W w') := fun W hb => by
        have h9 := refOrder_any u 1074 rfl W (HXP.out.2.2.1.later hb) huw
        rw [ord_doc HXP.out.2.1 HXP.out.2.2.2.1] at h9
        exact h9
      have HRE : Hid (∀ W, Below P.heap.size P W → Calls Tryz.prog 11 #[.agg #[.int .i64 N, vc, vi, vg, vr, .bool bad], .int .i64 most] W fun e w' => ∃ y : ZD, e = .returned (.agg (zRow y)) ∧ ZR w' y ∧ ZW y ∧ TyG w' y ∧ RdC x most y ∧ Below W.heap.size W w') := fun W hb => by rw [HRW.out]; exact reduce_any 1166 rfl x W (HXP.out.2.1.later hb) hx4 most hm1 hm2
      have HRD : Hid (∀ W, Below P.heap.size P W → Calls Tryz.prog 9 #[.agg (zRow u), .int .i64 most] W fun e w' => ∃ y : ZD, e = .returned (.agg (zRow y)) ∧ ZU w' y ∧ RdD (gdZ u) (if checkB u then 0 else 100) u.N u.gn u.rn u.cs u.rs u.ids u.gs (goD u most) y ∧ Below W.heap.size W w') := fun W hb => refReduce_any u 1074 rfl most hm2 W (HXP.out.2.2.1.later hb) huw
      have HSA : Hid (∀ (y v : ZD) W, ZR W y → ZU W v → RdC x most y → RdD (gdZ u) (if checkB u then 0 else 100) u.N u.gn u.rn u.cs u.rs u.ids u.gs (goD u most) v → Calls Tryz.prog 13 #[.agg (zRow y), .agg (zRow v)] W fun e w' => e = .returned (.bool true) ∧ Below W.heap.size W w') := fun y v W h1 h2 h3 h4 => by
        have h9 := refSameZ_any y v W h1 h2
        rw [h3.doc h4 HXP.out.2.1 hx4 HXP.out.2.2.2.1] at h9
        exact h9
      have HSD : Hid (∀ W, Below P.heap.size P W → Calls Tryz.prog 17 #[.agg #[.int .i64 N, vc, vi, vg, vr, .bool bad], .agg (zRow u)] W fun e w' => e = .returned (.bool true) ∧ Below W.heap.size W w') := fun W hb => by
        have sm := HXP.out.2.2.2.1
        have zu := HXP.out.2.2.1.later hb
        obtain ⟨x1, x2, x3, x4, x5, x6⟩ := HXE.out
        have ec : u.cs = cs := sm.cs.trans x3
        have er : u.rs = rs := sm.rs.trans x4
        have ei : u.ids = ids := sm.ids.trans x5
        have eg : u.gs = gs := sm.gs.trans x6
        have l1 : u.cn = cs.length := by rw [← ec]; exact zu.c.length.symm
        have l2 : u.rn = rs.length := by rw [← er]; exact zu.r.length.symm
        have l3 : u.dn = ids.length := by rw [← ei]; exact zu.i.length.symm
        have l4 : u.gn = gl.length := by rw [HXP.out.1.len, ← eg]; exact zu.g.length.symm
        have erow : zRow u = #[.int .i64 N, .slice u.co cs.length u.cc, .slice u.io ids.length u.dc, .slice u.go gl.length u.gc, .slice u.ro rs.length u.rc, .bool bad] := by unfold zRow; rw [sm.N, sm.bad, x1, x2, l1, l2, l3, l4]
        rw [erow]
        exact standsL_any N bad cs rs ids gs vc vr vi vg gl w.heap.size W (HXP.out.1.later hb) u.co u.io u.go u.ro u.cc u.dc u.gc u.rc u.gv (fun W' h' => by have := (zu.later h').c; rw [l1, ec] at this; exact this) (fun W' h' => by have := (zu.later h').i; rw [l3, ei] at this; exact this) (fun W' h' => by have := (zu.later h').g; rw [l4, eg] at this; exact this) (fun W' h' => by have := (zu.later h').r; rw [l2, er] at this; exact this)
      have Q0 : Below P.heap.size P P.drew := (Below.refl _ P).drew
      have S0 : (P.drew.heap[B7]? = some (.cells #[.int .i64 N, vc, vi, vg, vr, .bool bad] 26) ∧ P.drew.heap[B9]? = some (.cells (zRow u) 32)) := ⟨kept Q0 (kept bP HJ.out.xb), kept Q0 Y1⟩
      have HPJ : Hid (Below w.heap.size w P ∧ P.heap[B7]? = some (.cells #[.int .i64 N, vc, vi, vg, vr, .bool bad] 26) ∧ XL P w.heap.size cs rs ids gs vc vr vi vg gl) := ⟨to_callD HJ.out.bel bP, kept bP HJ.out.xb, HXP.out.1⟩
      clear hB Y1 A1 bP hu hsm b1 HJ HXL HXZ HRW HXE HOF HPB HXP huw hx4 q1 s9 o9
      refine wp_region_noPanic ?_
      refine wp_region_held_drew (S := fun V => (V.heap[B7]? = some (.cells #[.int .i64 N, vc, vi, vg, vr, .bool bad] 26) ∧ V.heap[B9]? = some (.cells (zRow u) 32))) (by kernel_rfl) S0 (fun _ => ?_)
      refine takeH 26 (i := 0) (v := .agg #[.int .i64 N, vc, vi, vg, vr, .bool bad]) rfl rfl (by kernel_rfl) (by kernel_rfl) (by kernel_rfl) (fun _ _ _ h => h) (Or.inl ⟨by kernel_rfl, fun w' hSw => ex_loadRN _ 26 _ rfl B7 (by kernel_rfl) w' _ hSw.1 _ Tryz.underlying26 rfl 6 Tryz.infoZ rfl⟩) S0 ?_
      try simp only [pA, pE, pB, pC, pD]
      refine takeH 28 (i := 2) (v := .agg (zRow u)) rfl rfl (by kernel_rfl) (by kernel_rfl) (by kernel_rfl) (fun _ _ _ h => h) (Or.inl ⟨by kernel_rfl, fun w' hSw => ex_loadRN _ 32 _ rfl B9 (by kernel_rfl) w' _ hSw.2 _ Tryz.underlying32 rfl 6 Tryz.infoZu rfl⟩) S0 ?_
      try simp only [pA, pE, pB, pC, pD]
      refine wpAnyH_ready (rs := [1]) (by kernel_rfl) (by simp) ?_
      refine consH _ rfl (hopCd 27 rfl (by kernel_rfl) rfl (by kernel_rfl) (Calls.mono (HO.out _ Q0) ?_)) AllReadyH.nil
      rintro e V1 ⟨ao1, n1, p1, rfl, r1, c1⟩
      have S1 : (V1.heap[B7]? = some (.cells #[.int .i64 N, vc, vi, vg, vr, .bool bad] 26) ∧ V1.heap[B9]? = some (.cells (zRow u) 32)) := ⟨kept c1 S0.1, kept c1 S0.2⟩
      have Q1 : Below P.heap.size P V1 := to_callD Q0 c1
      clear c1 S0 Q0
      refine ⟨_, rfl, S1, ?_⟩
      try simp only [pA, pE, pB, pC, pD]
      refine wpAnyH_ready (rs := [3]) (by kernel_rfl) (by simp) ?_
      refine consH _ rfl (hopCd 29 rfl (by kernel_rfl) rfl (by kernel_rfl) (Calls.mono (HOD.out _ Q1) ?_)) AllReadyH.nil
      rintro e V2 ⟨v2, rfl, o2, c2⟩
      obtain ⟨ao2, p2, hv2, r2⟩ := rdI_own o2
      subst hv2
      have r1 := r1.later c2
      have S2 : (V2.heap[B7]? = some (.cells #[.int .i64 N, vc, vi, vg, vr, .bool bad] 26) ∧ V2.heap[B9]? = some (.cells (zRow u) 32)) := ⟨kept c2 S1.1, kept c2 S1.2⟩
      have Q2 : Below P.heap.size P V2 := to_callD Q1 c2
      clear c2 S1 Q1 o2
      refine ⟨_, rfl, S2, ?_⟩
      try simp only [pA, pE, pB, pC, pD]
      refine wpAnyH_ready (rs := [4]) (by kernel_rfl) (by simp) ?_
      refine consH _ rfl (hopCd 30 rfl (by kernel_rfl) rfl (by kernel_rfl) (Calls.mono (sameIntsT_any ao1 ao2 n1 (ordL x).length p1 p2 (ordL x) (ordL x) _ r1 r2) ?_)) AllReadyH.nil
      rintro e V3 ⟨rfl, c3⟩
      have S3 : (V3.heap[B7]? = some (.cells #[.int .i64 N, vc, vi, vg, vr, .bool bad] 26) ∧ V3.heap[B9]? = some (.cells (zRow u) 32)) := ⟨kept c3 S2.1, kept c3 S2.2⟩
      have Q3 : Below P.heap.size P V3 := to_callD Q2 c3
      rw [decide_eq_true (rfl : ordL x = ordL x)]
      clear c3 S2 Q2 r1 r2
      refine ⟨_, rfl, S3, ?_⟩
      try simp only [pA, pE, pB, pC, pD]
      refine takeH 31 (i := 5) (v := ?_) rfl rfl (by kernel_rfl) (by kernel_rfl) (by kernel_rfl) (fun _ _ _ h => h) (Or.inl ⟨by kernel_rfl, ?_⟩) S3 ?_
      rotate_left
      · intro w' hSw; go_simp; try with_reducible rfl
      try simp only [pA, pE, pB, pC, pD]
      refine takeH 32 (i := 6) (v := ?_) rfl rfl (by kernel_rfl) (by kernel_rfl) (by kernel_rfl) (fun _ _ _ h => h) (Or.inl ⟨by kernel_rfl, ?_⟩) S3 ?_
      rotate_left
      · intro w' hSw; go_simp; try with_reducible rfl
      try simp only [pA, pE, pB, pC, pD]
      refine takeH 33 (i := 7) (v := .agg #[.int .i64 N, vc, vi, vg, vr, .bool bad]) rfl rfl (by kernel_rfl) (by kernel_rfl) (by kernel_rfl) (fun _ _ _ h => h) (Or.inl ⟨by kernel_rfl, fun w' hSw => ex_loadRN _ 26 _ rfl B7 (by kernel_rfl) w' _ hSw.1 _ Tryz.underlying26 rfl 6 Tryz.infoZ rfl⟩) S3 ?_
      try simp only [pA, pE, pB, pC, pD]
      refine takeH 34 (i := 8) (v := ?_) rfl rfl (by kernel_rfl) (by kernel_rfl) (by kernel_rfl) (fun _ _ _ h => h) (Or.inl ⟨by kernel_rfl, ?_⟩) S3 ?_
      rotate_left
      · intro w' hSw; go_simp; try with_reducible rfl
      try simp only [pA, pE, pB, pC, pD]
      refine takeH 36 (i := 10) (v := .agg (zRow u)) rfl rfl (by kernel_rfl) (by kernel_rfl) (by kernel_rfl) (fun _ _ _ h => h) (Or.inl ⟨by kernel_rfl, fun w' hSw => ex_loadRN _ 32 _ rfl B9 (by kernel_rfl) w' _ hSw.2 _ Tryz.underlying32 rfl 6 Tryz.infoZu rfl⟩) S3 ?_
      try simp only [pA, pE, pB, pC, pD]
      refine takeH 37 (i := 11) (v := ?_) rfl rfl (by kernel_rfl) (by kernel_rfl) (by kernel_rfl) (fun _ _ _ h => h) (Or.inl ⟨by kernel_rfl, ?_⟩) S3 ?_
      rotate_left
      · intro w' hSw; go_simp; try with_reducible rfl
      try simp only [pA, pE, pB, pC, pD]
      refine wpAnyH_ready (rs := [9]) (by kernel_rfl) (by simp) ?_
      refine consH _ rfl (hopCd 35 rfl (by kernel_rfl) rfl (by kernel_rfl) (Calls.mono (HRE.out _ Q3) ?_)) AllReadyH.nil
      rintro e V4 ⟨y, rfl, ry, wy, ty, dy, c4⟩
      have S4 : (V4.heap[B7]? = some (.cells #[.int .i64 N, vc, vi, vg, vr, .bool bad] 26) ∧ V4.heap[B9]? = some (.cells (zRow u) 32)) := ⟨kept c4 S3.1, kept c4 S3.2⟩
      have Q4 : Below P.heap.size P V4 := to_callD Q3 c4
      clear c4 S3 Q3 wy ty
      refine ⟨_, rfl, S4, ?_⟩
      try simp only [pA, pE, pB, pC, pD]
      refine wpAnyH_ready (rs := [12]) (by kernel_rfl) (by simp) ?_
      refine consH _ rfl (hopCd 38 rfl (by kernel_rfl) rfl (by kernel_rfl) (Calls.mono (HRD.out _ Q4) ?_)) AllReadyH.nil
      rintro e V5 ⟨yd, rfl, ryd, dyd, c5⟩
      have ry := ry.later c5
      have S5 : (V5.heap[B7]? = some (.cells #[.int .i64 N, vc, vi, vg, vr, .bool bad] 26) ∧ V5.heap[B9]? = some (.cells (zRow u) 32)) := ⟨kept c5 S4.1, kept c5 S4.2⟩
      have Q5 : Below P.heap.size P V5 := to_callD Q4 c5
      clear c5 S4 Q4
      refine ⟨_, rfl, S5, ?_⟩
      try simp only [pA, pE, pB, pC, pD]
      refine wpAnyH_ready (rs := [13]) (by kernel_rfl) (by simp) ?_
      refine consH _ rfl (hopCd 39 rfl (by kernel_rfl) rfl (by kernel_rfl) (Calls.mono (HSA.out y yd _ ry ryd dy dyd) ?_)) AllReadyH.nil
      rintro e V6 ⟨rfl, c6⟩
      have S6 : (V6.heap[B7]? = some (.cells #[.int .i64 N, vc, vi, vg, vr, .bool bad] 26) ∧ V6.heap[B9]? = some (.cells (zRow u) 32)) := ⟨kept c6 S5.1, kept c6 S5.2⟩
      have Q6 : Below P.heap.size P V6 := to_callD Q5 c6
      clear c6 S5 Q5 ry ryd dy dyd
      refine ⟨_, rfl, S6, ?_⟩
      try simp only [pA, pE, pB, pC, pD]
      refine takeH 40 (i := 14) (v := ?_) rfl rfl (by kernel_rfl) (by kernel_rfl) (by kernel_rfl) (fun _ _ _ h => h) (Or.inl ⟨by kernel_rfl, ?_⟩) S6 ?_
      rotate_left
      · intro w' hSw; go_simp; try with_reducible rfl
      try simp only [pA, pE, pB, pC, pD]
      refine takeH 41 (i := 15) (v := ?_) rfl rfl (by kernel_rfl) (by kernel_rfl) (by kernel_rfl) (fun _ _ _ h => h) (Or.inl ⟨by kernel_rfl, ?_⟩) S6 ?_
      rotate_left
      · intro w' hSw; go_simp; try with_reducible rfl
      try simp only [pA, pE, pB, pC, pD]
      refine takeH 42 (i := 16) (v := ?_) rfl rfl (by kernel_rfl) (by kernel_rfl) (by kernel_rfl) (fun _ _ _ h => h) (Or.inl ⟨by kernel_rfl, ?_⟩) S6 ?_
      rotate_left
      · intro w' hSw; go_simp; try with_reducible rfl
      try simp only [pA, pE, pB, pC, pD]
      refine takeH 43 (i := 17) (v := .agg #[.int .i64 N, vc, vi, vg, vr, .bool bad]) rfl rfl (by kernel_rfl) (by kernel_rfl) (by kernel_rfl) (fun _ _ _ h => h) (Or.inl ⟨by kernel_rfl, fun w' hSw => ex_loadRN _ 26 _ rfl B7 (by kernel_rfl) w' _ hSw.1 _ Tryz.underlying26 rfl 6 Tryz.infoZ rfl⟩) S6 ?_
      try simp only [pA, pE, pB, pC, pD]
      refine takeH 44 (i := 18) (v := .agg (zRow u)) rfl rfl (by kernel_rfl) (by kernel_rfl) (by kernel_rfl) (fun _ _ _ h => h) (Or.inl ⟨by kernel_rfl, fun w' hSw => ex_loadRN _ 32 _ rfl B9 (by kernel_rfl) w' _ hSw.2 _ Tryz.underlying32 rfl 6 Tryz.infoZu rfl⟩) S6 ?_
      try simp only [pA, pE, pB, pC, pD]
      refine wpAnyH_ready (rs := [19]) (by kernel_rfl) (by simp) ?_
      refine consH _ rfl (hopCd 45 rfl (by kernel_rfl) rfl (by kernel_rfl) (Calls.mono (HSD.out _ Q6) ?_)) AllReadyH.nil
      rintro e V7 ⟨rfl, c7⟩
      have S7 : (V7.heap[B7]? = some (.cells #[.int .i64 N, vc, vi, vg, vr, .bool bad] 26) ∧ V7.heap[B9]? = some (.cells (zRow u) 32)) := ⟨kept c7 S6.1, kept c7 S6.2⟩
      have Q7 : Below P.heap.size P V7 := to_callD Q6 c7
      clear c7 S6 Q6
      refine ⟨_, rfl, S7, ?_⟩
      try simp only [pA, pE, pB, pC, pD]
      refine takeH 46 (i := 20) (v := ?_) rfl rfl (by kernel_rfl) (by kernel_rfl) (by kernel_rfl) (fun _ _ _ h => h) (Or.inl ⟨by kernel_rfl, ?_⟩) S7 ?_
      rotate_left
      · intro w' hSw; go_simp; try with_reducible rfl
      try simp only [pA, pE, pB, pC, pD]
      refine takeH 47 (i := 21) (v := ?_) rfl rfl (by kernel_rfl) (by kernel_rfl) (by kernel_rfl) (fun _ _ _ h => h) (Or.inl ⟨by kernel_rfl, ?_⟩) S7 ?_
      rotate_left
      · intro w' hSw; go_simp; try with_reducible rfl
      try simp only [pA, pE, pB, pC, pD]
      refine wpAnyH_done (by kernel_rfl) ?_ _
      refine NoPanic.normal ?_
      try simp only [pA, pE, pB, pC, pD]
      have HQ7 : Hid (Below P.heap.size P V7) := Q7
      clear S7 Q7
      have HW7 : Hid (Below w.heap.size w V7 ∧ V7.heap[B7]? = some (.cells #[.int .i64 N, vc, vi, vg, vr, .bool bad] 26) ∧ XL V7 w.heap.size cs rs ids gs vc vr vi vg gl) := ⟨to_callD HPJ.out.1 HQ7.out, kept HQ7.out HPJ.out.2.1, HPJ.out.2.2.later HQ7.out⟩
      clear HPJ HQ7 HO HOD HRE HRD HSA HSD
      by_cases hlt : i < tl
      · have hd : decide ((i : Int) < (tl : Int)) = true := decide_eq_true (by omega)
        have hlt' : (i : Int) < (tl : Int) := by omega
        obtain ⟨tb, toff, hto⟩ : ∃ tb toff, tO = some ⟨tb, toff, none⟩ := by
          rcases (HT.out w (Below.refl _ _)).cells with h0 | ⟨b, off, e, _⟩
          · omega
          · exact ⟨b, off, e⟩
        subst hto
        have HRT : Hid (∀ W, Below w.heap.size w W → W.rangeAt tb (toff + i * 3) #[.int .i64 (F i).1, .int .i64 (F i).2.1, .int .u64 (((F i).2.2 : Nat) : Int)].toList) := fun W hb => by
          rcases (HT.out W hb).cells with h0 | ⟨b, off, e, hcc⟩
          · omega
          · cases e
            exact range3 (hcc i hlt).1 (hcc i hlt).2.1 (hcc i hlt).2.2
        have hdr : Below V7.heap.size V7 V7.drew := (Below.refl _ V7).drew
        have HWD : Hid (Below w.heap.size w V7.drew ∧ XL V7.drew w.heap.size cs rs ids gs vc vr vi vg gl) := ⟨to_callD HW7.out.1 hdr, HW7.out.2.2.later hdr⟩
        have SX : (V7.drew.heap[B7]? = some (.cells #[.int .i64 N, vc, vi, vg, vr, .bool bad] 26) ∧ V7.drew.rangeAt tb (toff + i * 3) #[.int .i64 (F i).1, .int .i64 (F i).2.1, .int .u64 (((F i).2.2 : Nat) : Int)].toList) := ⟨kept hdr HW7.out.2.1, HRT.out _ HWD.out.1⟩
        have hF := (HT.out w (Below.refl _ _)).lt i
        have HTU : Hid _ := turnedL_any N bad cs rs ids gs vc vr vi vg gl w.heap.size V7.drew HWD.out.2 HWD.out.1.size (F i).1 (F i).2.1 (F i).2.2 hF.2 hF.1
        clear hdr hF HW7
        go_upto_region 11 with fail
        refine wp_region_noPanic ?_
        refine wp_region_held_drew (S := fun V => (V.heap[B7]? = some (.cells #[.int .i64 N, vc, vi, vg, vr, .bool bad] 26) ∧ V.rangeAt tb (toff + i * 3) #[.int .i64 (F i).1, .int .i64 (F i).2.1, .int .u64 (((F i).2.2 : Nat) : Int)].toList)) (by kernel_rfl) SX (fun _ => ?_)
        refine takeH 52 (i := 0) (v := .agg #[.int .i64 N, vc, vi, vg, vr, .bool bad]) rfl rfl (by kernel_rfl) (by kernel_rfl) (by kernel_rfl) (fun _ _ _ h => h) (Or.inl ⟨by kernel_rfl, fun w' hSw => ex_loadRN _ 26 _ rfl B7 (by kernel_rfl) w' _ hSw.1 _ Tryz.underlying26 rfl 6 Tryz.infoZ rfl⟩) SX ?_
        try simp only [pA, pE, pB, pC, pD]
        refine takeH 53 (i := 1) (v := ?_) rfl rfl (by kernel_rfl) (by kernel_rfl) (by kernel_rfl) (fun _ _ _ h => h) (Or.inl ⟨by kernel_rfl, ?_⟩) SX ?_
        rotate_left
        · intro w' hSw; go_simp; try with_reducible rfl
        try simp only [pA, pE, pB, pC, pD]
        refine takeH 54 (i := 2) (v := ?_) rfl rfl (by kernel_rfl) (by kernel_rfl) (by kernel_rfl) (fun _ _ _ h => h) (Or.inl ⟨by kernel_rfl, ?_⟩) SX ?_
        rotate_left
        · intro w' hSw; go_simp; try with_reducible rfl
        try simp only [pA, pE, pB, pC, pD]
        refine takeH 55 (i := 3) (v := ?_) rfl rfl (by kernel_rfl) (by kernel_rfl) (by kernel_rfl) (fun _ _ _ h => h) (Or.inl ⟨by kernel_rfl, ?_⟩) SX ?_
        rotate_left
        · intro w' hSw; go_simp; try with_reducible rfl
        try simp only [pA, pE, pB, pC, pD]
        refine takeH 56 (i := 4) (v := .agg #[.int .i64 (F i).1, .int .i64 (F i).2.1, .int .u64 (((F i).2.2 : Nat) : Int)]) rfl rfl (by kernel_rfl) (by kernel_rfl) (by kernel_rfl) (fun _ _ _ h => h) (yieldsIf_load_mid (by kernel_rfl) 52 _ rfl tb (toff + i * 3) (by kernel_rfl) #[.int .i64 (F i).1, .int .i64 (F i).2.1, .int .u64 (((F i).2.2 : Nat) : Int)].toList _ (fun _ hS => hS.2) Tryz.underlying52 rfl (by kernel_rfl)) SX ?_
        try simp only [pA, pE, pB, pC, pD]
        refine wpAnyH_ready (rs := [5]) (by kernel_rfl) (by simp) ?_
        refine consH _ rfl (hopCd 57 rfl (by kernel_rfl) rfl (by kernel_rfl) (Calls.mono HTU.out ?_)) AllReadyH.nil
        rintro e V1 ⟨⟨rv, rfl⟩, hx1, hb1, hk1⟩
        have bW1 : Below w.heap.size w V1 := HWD.out.1.trans hb1
        have HA1 : Hid (AgS w V1 B7 N bad ids vc vr vi vg gl) := ⟨bW1, (hk1 B7 _ _ (by decide) SX.1).trans SX.1, hx1⟩
        have SY : (V1.heap[B7]? = some (.cells #[.int .i64 N, vc, vi, vg, vr, .bool bad] 26) ∧ V1.rangeAt tb (toff + i * 3) #[.int .i64 (F i).1, .int .i64 (F i).2.1, .int .u64 (((F i).2.2 : Nat) : Int)].toList) := ⟨HA1.out.xb, HRT.out V1 bW1⟩
        clear SX hx1 hb1 hk1 bW1
        refine ⟨_, rfl, SY, ?_⟩
        try simp only [pA, pE, pB, pC, pD]
        refine wpAnyH_done (by kernel_rfl) ?_ _
        refine NoPanic.normal ?_
        try simp only [pA, pE, pB, pC, pD]
        clear SY
        go_wp2_with fail
        go_roundg q
        case measure => omega
        case rel => exact ⟨i + 1, by go_num, by have := HIG.out; omega, HA1⟩
      · have hd : decide ((i : Int) < (tl : Int)) = false := decide_eq_false (by omega)
        have hd' : decide (i < tl) = false := decide_eq_false hlt
        have HA1 : Hid (AgS w V7 B7 N bad ids vc vr vi vg gl) := ⟨HW7.out.1, HW7.out.2.1, _, _, _, HW7.out.2.2⟩
        clear HW7
        go_wp2_with fail
        go_roundg q
        case measure => omega
        case rel => exact ⟨i + 1, by go_num, by have := HIG.out; omega, HA1⟩
    · by_cases h1 : i ≤ tl
      · have hd1 : decide ((i : Int) ≤ (tl : Int)) = true := decide_eq_true (by omega)
        have hd2 : decide ((i : Int) ≤ 12) = false := decide_eq_false (by omega)
        have hn2 : ¬ i ≤ 12 := by omega
        have hd3 : decide (i ≤ 12) = false := decide_eq_false hn2
        clear hi hlk
        go_wp2_with fail
        go_ret
        exact ⟨rfl, HJ.out.bel⟩
      · have hd1 : decide ((i : Int) ≤ (tl : Int)) = false := decide_eq_false (by omega)
        have hd2 : decide (i ≤ tl) = false := decide_eq_false h1
        clear hi hlk
        go_wp2_with fail
        go_ret
        exact ⟨rfl, HJ.out.bel⟩
end Go.Proofs.YtbfnahfkdjlpdaaGreat
