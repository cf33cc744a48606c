import Derived.Test.YtbgjimkgidafdaaJYa
namespace Go.Proofs.Ytbgjimkgidafdaa
open Go.RowKit Go.Shelf
set_option linter.unusedVariables false
set_option linter.unusedSimpArgs false

theorem map_getJ (gs : List (List Nat)) (k : Nat) : (gs.map (·.map plainW))[k]?.getD [] = (gs[k]?.getD []).map plainW := by
  rw [List.getElem?_map]
  cases gs[k]? <;> rfl
theorem fin_plainW (u : Nat) : decide (Fin (plainW u)) = decide (Fin u) := by
  unfold plainW
  split
  · rename_i h; subst h; decide
  · rfl
theorem numN_plain (us : List Nat) (n : Int) : numN (us.map plainW) n = numN us n := by
  unfold numN numsB
  rw [List.length_map, List.all_map]
  exact and_eqJ rfl (List.all_congr rfl fin_plainW)
theorem colsB_plain {N : Int} {co : Option Addr} {cn cc : Nat} {io : Option Addr} {dn dc : Nat} {go : Option Addr} {gn gc : Nat} {ro : Option Addr} {rn rc : Nat} {bad : Bool} {cs cs' : List Nat} {ids : List Int} {gv : Nat → Option Addr × Nat × Nat} {gs : List (List Nat)} {rs : List Nat} :
    ∀ (ks : List (_root_.Fin dn)) (last : Int), colsB ⟨N, co, cn, cc, io, dn, dc, go, gn, gc, ro, rn, rc, bad, cs', ids, gv, gs.map (·.map plainW), rs⟩ last ks = colsB ⟨N, co, cn, cc, io, dn, dc, go, gn, gc, ro, rn, rc, bad, cs, ids, gv, gs, rs⟩ last ks
  | [], _ => rfl
  | k :: ks, last => and_eqJ (and_eqJ rfl (by dsimp only; rw [map_getJ, numN_plain])) (colsB_plain ks _)
theorem whole_plain {N : Int} {co : Option Addr} {cn cc : Nat} {io : Option Addr} {dn dc : Nat} {go : Option Addr} {gn gc : Nat} {ro : Option Addr} {rn rc : Nat} {bad : Bool} {cs : List Nat} {ids : List Int} {gv : Nat → Option Addr × Nat × Nat} {gs : List (List Nat)} {rs : List Nat} :
    wholeB ⟨N, co, cn, cc, io, dn, dc, go, gn, gc, ro, rn, rc, bad, cs.map plainW, ids, gv, gs.map (·.map plainW), rs⟩ = wholeB ⟨N, co, cn, cc, io, dn, dc, go, gn, gc, ro, rn, rc, bad, cs, ids, gv, gs, rs⟩ := by
  unfold wholeB
  dsimp only
  rw [numN_plain, colsB_plain (cs := cs)]
theorem map_plain {us : List Nat} (h : ∀ u ∈ us, u < 18446744073709551616) : us.map plainW = us.map plainM := List.map_congr_left fun u hu => plainW_eq (h u hu)
theorem map_plains {gs : List (List Nat)} (h : ∀ l ∈ gs, ∀ u ∈ l, u < 18446744073709551616) : gs.map (·.map plainW) = gs.map (·.map plainM) := List.map_congr_left fun l hl => map_plain (h l hl)
theorem mem_plain {us : List Nat} (h : ∀ u ∈ us, u < 18446744073709551616) : ∀ u ∈ us.map plainW, u < 18446744073709551616 := by
  intro u hu
  obtain ⟨x, hx, rfl⟩ := List.mem_map.1 hu
  exact plainW_lt (h x hx)
theorem badZD_ZU (w : World) : ZU w badZD := ⟨⟨rfl, Nat.zero_le _, .inl rfl⟩, ⟨rfl, Nat.zero_le _, .inl rfl⟩, ⟨rfl, Nat.zero_le _, .inl rfl, fun j hj => absurd hj (Nat.not_lt_zero _)⟩, ⟨rfl, Nat.zero_le _, .inl rfl⟩⟩
set_option maxRecDepth 100000 in
set_option maxHeartbeats 4000000 in
/-- The document's New. -/
theorem refNew_any (co go : Option Addr) (cn cc gn gc : Nat) (cs : List Nat) (gv : Nat → Option Addr × Nat × Nat) (gs : List (List Nat)) (w : World) (hc : RdUs w co cn cc cs) (hg : RdGu w go gn gc gv gs) (hcl : cn ≤ 1048576) (hgl : gn ≤ 1048576) (hll : ∀ k, k < gn → (gv k).2.1 ≤ 1048576) (hc64 : ∀ x ∈ cs, x < 18446744073709551616) (hg64 : ∀ l ∈ gs, ∀ x ∈ l, x < 18446744073709551616) :
    Calls Try.prog 16 #[.slice co cn cc, .slice go gn gc] w fun e w' => ∃ y : ZD, e = .returned (.agg (zRow y)) ∧ ZU w' y ∧ y.N = (nwA cs gs).N ∧ y.bad = (nwA cs gs).bad ∧ y.cs = (nwA cs gs).cs ∧ y.rs = (nwA cs gs).rs ∧ y.ids = (nwA cs gs).ids ∧ y.gs = (nwA cs gs).gs ∧ Below w.heap.size w w' := by
  have HLN : Hid (cs.length = cn ∧ gs.length = gn) := ⟨hc.length, hg.length⟩
  have HPC : Hid (∀ W', Below w.heap.size w W' → _) := fun W' hb => plainAll_any co cn cc cs W' (hc.later hb) hcl
  have HZ : Hid (∀ W', _) := fun W' => zeros_any cn (by omega) W'
  have HG : Hid (∀ k, k < gn → ∀ W', Below w.heap.size w W' → _) := fun k hk W' hb => plainAll_any _ _ _ _ W' ((hg.later hb).each k hk) (hll k hk)
  have HGR : Hid (∀ W', Below w.heap.size w W' → RdGu W' go gn gc gv gs) := fun W' hb => hg.later hb
  have HLL : Hid (∀ k, k < gn → (gs[k]?.getD []).length ≤ 1048576) := fun k hk => by rw [(hg.each k hk).length]; exact hll k hk
  have H64 : Hid _ := And.intro hc64 hg64
  clear hc hg hll hc64 hg64
  have A0 : Below w.heap.size w (w.alloc (.cells #[.int .i64 0, .slice none 0 0, .slice none 0 0, .slice none 0 0, .slice none 0 0, .bool false] 30)) := (Below.refl _ w).alloc (Nat.le_refl _) _
  have Y0 : (w.alloc (.cells #[.int .i64 0, .slice none 0 0, .slice none 0 0, .slice none 0 0, .slice none 0 0, .bool false] 30)).heap[w.heap.size]? = some (.cells #[.int .i64 0, .slice none 0 0, .slice none 0 0, .slice none 0 0, .slice none 0 0, .bool false] 30) := heap_alloc_new w _
  have HX : Hid _ := And.intro A0 Y0
  clear A0 Y0
  go_enter Try.func16, Try.ntmps16
  go_upto_region 2 with (first
    | (go_at_call 32; refine Calls.mono (HPC.out _ HX.out.1) ?_; rintro e w1 ⟨vc, rfl, o1, b1⟩; obtain ⟨ac, pc, hvc, -⟩ := owns_slice o1; subst hvc)
    | (go_at_call 33; refine Calls.mono (HZ.out _) ?_; rintro e w2 ⟨vr, rfl, o2, b2⟩; obtain ⟨ar, pr, hvr, -⟩ := owns_slice o2; subst hvr))
  have A2 : Below w2.heap.size w2 (w2.alloc (.cells #[.int .i64 (cn : Int), .slice ac cs.length pc, .slice none 0 0, .slice none 0 0, .slice ar cn pr, .bool false] 30)) := (Below.refl _ w2).alloc (Nat.le_refl _) _
  have P2 : Hid ((w2.alloc (.cells #[.int .i64 (cn : Int), .slice ac cs.length pc, .slice none 0 0, .slice none 0 0, .slice ar cn pr, .bool false] 30)).heap[w2.heap.size]? = some (.cells #[.int .i64 (cn : Int), .slice ac cs.length pc, .slice none 0 0, .slice none 0 0, .slice ar cn pr, .bool false] 30) ∧ OfL (w2.alloc (.cells #[.int .i64 (cn : Int), .slice ac cs.length pc, .slice none 0 0, .slice none 0 0, .slice ar cn pr, .bool false] 30)) w.heap.size (cs.map plainW) (List.replicate cn 0) [] [] (.slice ac cs.length pc) (.slice ar cn pr) (.slice none 0 0) (.slice none 0 0) [] ∧ Below w.heap.size w (w2.alloc (.cells #[.int .i64 (cn : Int), .slice ac cs.length pc, .slice none 0 0, .slice none 0 0, .slice ar cn pr, .bool false] 30)) ∧ (w2.alloc (.cells #[.int .i64 (cn : Int), .slice ac cs.length pc, .slice none 0 0, .slice none 0 0, .slice ar cn pr, .bool false] 30)).heap[w.heap.size]? = some (.cells #[.int .i64 0, .slice none 0 0, .slice none 0 0, .slice none 0 0, .slice none 0 0, .bool false] 30) ∧ w.heap.size < w2.heap.size) :=
    ⟨heap_alloc_new w2 _, ⟨by rw [List.length_map]; exact owns_keepT (owns_monoJ o1 HX.out.1.size) (fun k cur hc => (to_call b2 A2).block k (blk_lt hc)), by rw [List.length_replicate]; exact owns_keepT (owns_monoJ o2 (to_call HX.out.1 b1).size) (fun k cur hc => A2.block k (blk_lt hc)), World.ownsRow_nil _ _ _ _, World.ownsRow_nil _ _ _ _, rfl, fun j u hj => (by simp at hj)⟩, to_call (to_call (to_call HX.out.1 b1) b2) A2, kept A2 (kept b2 (kept b1 HX.out.2)), blk_lt (kept b2 (kept b1 HX.out.2))⟩
  obtain ⟨X, hX⟩ : ∃ X, w2.alloc (.cells #[.int .i64 (cn : Int), .slice ac cs.length pc, .slice none 0 0, .slice none 0 0, .slice ar cn pr, .bool false] 30) = X := ⟨_, rfl⟩
  obtain ⟨D, hD⟩ : ∃ D, w2.heap.size = D := ⟨_, rfl⟩
  rw [hX, hD] at P2
  rw [hX, hD]
  clear hX hD A2 o1 o2 b1 b2 HX HPC HZ
  obtain ⟨vc, hvc⟩ : ∃ vc, Value.slice ac cs.length pc = vc := ⟨_, rfl⟩
  obtain ⟨vr, hvr⟩ : ∃ vr, Value.slice ar cn pr = vr := ⟨_, rfl⟩
  rw [hvc, hvr] at P2
  rw [hvc, hvr]
  clear hvc hvr
  have hDl : w.heap.size ≤ D := Nat.le_of_lt P2.out.2.2.2.2
  have hDz : w.heap.size ≠ D := Nat.ne_of_lt P2.out.2.2.2.2
  go_wp2_with fail
  go_loopg [6] gn (fun g iv wx => ∃ (k : Nat) (vi vg : Value) (gl : List Value), iv = .int .i64 k ∧ k + g = gn ∧ Hid (wx.heap[D]? = some (.cells #[.int .i64 (cn : Int), vc, vi, vg, vr, .bool false] 30) ∧ OfL wx w.heap.size (cs.map plainW) (List.replicate cn 0) (rgI k) ((gs.map (·.map plainW)).take k) vc vr vi vg gl ∧ Below w.heap.size w wx ∧ wx.heap[w.heap.size]? = some (.cells #[.int .i64 0, .slice none 0 0, .slice none 0 0, .slice none 0 0, .slice none 0 0, .bool false] 30)))
  case atStart => exact ⟨0, _, _, [], rfl, by omega, P2.out.1, P2.out.2.1, P2.out.2.2.1, P2.out.2.2.2.1⟩
  case round =>
    obtain ⟨k, vi, vg, gl, rfl, hk, HP⟩ := hrel
    clear P2
    have hsr := HP.out.2.2.1.size
    by_cases hlt : k < gn
    · have hd : decide ((k : Int) < (gn : Int)) = true := decide_eq_true (by omega)
      obtain ⟨g, rfl⟩ : ∃ g, gk = g + 1 := ⟨gk - 1, by omega⟩
      have HIG : Hid _ := hk
      obtain ⟨gb, goff, rfl⟩ : ∃ gb goff, go = some ⟨gb, goff, none⟩ := by
        rcases (HGR.out wr HP.out.2.2.1).cells with h0 | ⟨b, off, e, _⟩
        · omega
        · exact ⟨b, off, e⟩
      obtain ⟨d0, d1, d2, d3, d4, d5⟩ := cells6 HP.out.1
      have hOI := HP.out.2.1.i
      rw [rgI_len] at hOI
      have HOI : Hid _ := hOI
      have HLG : Hid (gl.length + 1 ≤ 4000000) := by unfold Hid; have := HP.out.2.1.len; rw [List.length_take, List.length_map] at this; omega
      clear hk hOI
      go_upto_region 6 with (first
        | (at_builtin; refine append_gsJ Try.underlying23 Try.infoIJ rfl (by decide) (by decide) _ (by rfl) _ _ (by rfl) w.heap.size vi k _ (by rfl) (World.ownsRow.alloc HOI.out _) ⟨wr.heap.size, 0, none⟩ 1 1 [.int .i64 (k : Int)] (by rfl) rfl (news_oneJ (heap_alloc_new wr _)) (oneI _ rfl) (by omega) (by simp only [alloc_size]; omega) ?_; intro v5 w5 o5 g5; have s5D := (grw_types (World.ownsRow.alloc HOI.out _) g5 D _ _ (by decide) (alloc_kept HP.out.1 _)).trans (alloc_kept HP.out.1 _); have q5 := (HP.out.2.2.1.alloc hsr _).trans (g5.below (fun k hk => (World.ownsRow.lt HOI.out k hk).1) (by simp only [alloc_size]; omega)))
        | (refine wpList_store_at (by rfl) 23 _ _ (by rfl) w w.heap.size D 2 v5 _ #[.int .i64 (cn : Int), vc, v5, vg, vr, .bool false] 30 (by rfl) (by rfl) s5D q5 hDl 1 Try.szIs (by rw [(own_valJ o5).2]; rfl) (Nat.le_of_ble_eq_true rfl) (by intro u hu; rw [(own_valJ o5).2] at hu; simp only [List.mem_cons, List.not_mem_nil, or_false] at hu; subst hu; exact (own_valJ o5).1) (by rw [(own_valJ o5).2]; rfl) ?_; intro w6 e6 b6 s6 k6))
      have A5 : Below wr.heap.size wr (wr.alloc (.cells #[.int .i64 (k : Int)] 3)) := (Below.refl _ wr).alloc (Nat.le_refl _) _
      have L5 : OfL w5 w.heap.size (cs.map plainW) (List.replicate cn 0) (rgI (k + 1)) ((gs.map (·.map plainW)).take k) vc vr v5 vg gl := (HP.out.2.1.later A5).pushI g5 (by rw [rgI_succ, List.map_append, List.length_append, rgI_len]; exact o5)
      have L6 := L5.keep (w' := w6) fun k cur t ht hc => k6 k (by rintro rfl; rw [s5D] at hc; cases hc; exact ht rfl)
      have r6 : w6.heap[w.heap.size]? = some (.cells #[.int .i64 0, .slice none 0 0, .slice none 0 0, .slice none 0 0, .slice none 0 0, .bool false] 30) := (k6 _ hDz).trans ((grw_types (World.ownsRow.alloc HOI.out _) g5 _ _ _ (by decide) (alloc_kept HP.out.2.2.2 _)).trans (alloc_kept HP.out.2.2.2 _))
      have sV : w6.drew.heap[D]? = some (.cells #[.int .i64 (cn : Int), vc, v5, vg, vr, .bool false] 30) ∧ RdGu w6.drew (some ⟨gb, goff, none⟩) gn gc gv gs := ⟨e6, HGR.out _ b6.drew⟩
      have LV := L6.later (w' := w6.drew) (Below.refl _ _).drew
      have qV : Below w.heap.size w w6.drew := b6.drew
      have rV : w6.drew.heap[w.heap.size]? = some (.cells #[.int .i64 0, .slice none 0 0, .slice none 0 0, .slice none 0 0, .slice none 0 0, .bool false] 30) := r6
      clear A5 L5 L6 r6 e6 b6 s6 k6 o5 g5 s5D q5 d0 d1 d2 d3 d4 d5 HP HOI
      refine wp_region_noPanic ?_
      refine wp_region_P (fun V => V.heap[D]? = some (.cells #[.int .i64 (cn : Int), vc, v5, vg, vr, .bool false] 30) ∧ RdGu V (some ⟨gb, goff, none⟩) gn gc gv gs) 10 (by kernel_rfl) ?_
      refine takeP0 29 (i := 0) (v := ?_) rfl rfl (by kernel_rfl) (by kernel_rfl) (by kernel_rfl) rfl (fun _ _ _ h => h) (Or.inl ⟨by kernel_rfl, ?_⟩) (fun _ => sV) ?_
      rotate_left
      · intro w' hSw; go_simp; try with_reducible rfl
      try simp only [Act.put, List.setIfInBounds_toArray, List.set_cons_zero, List.set_cons_succ]
      refine takeP 30 (i := 1) (v := ?_) rfl rfl (by kernel_rfl) (by kernel_rfl) (by kernel_rfl) (by kernel_rfl) rfl (by kernel_rfl) (fun _ _ _ h => h) (Or.inl ⟨by kernel_rfl, ?_⟩) sV ?_
      rotate_left
      · intro w' hSw; obtain ⟨c0, c1, c2, c3, c4, c5⟩ := cells6 hSw.1; go_simp; try with_reducible rfl
      try simp only [Act.put, List.setIfInBounds_toArray, List.set_cons_zero, List.set_cons_succ]
      refine takeP0 31 (i := 2) (v := ?_) rfl rfl (by kernel_rfl) (by kernel_rfl) (by kernel_rfl) rfl (fun _ _ _ h => h) (Or.inl ⟨by kernel_rfl, ?_⟩) (fun _ => sV) ?_
      rotate_left
      · intro w' hSw; go_simp; try with_reducible rfl
      try simp only [Act.put, List.setIfInBounds_toArray, List.set_cons_zero, List.set_cons_succ]
      refine takeP0 32 (i := 3) (v := ?_) rfl rfl (by kernel_rfl) (by kernel_rfl) (by kernel_rfl) rfl (fun _ _ _ h => h) (Or.inl ⟨by kernel_rfl, ?_⟩) (fun _ => sV) ?_
      rotate_left
      · intro w' hSw; go_simp; try with_reducible rfl
      try simp only [Act.put, List.setIfInBounds_toArray, List.set_cons_zero, List.set_cons_succ]
      refine takeP0 33 (i := 4) (v := ?_) rfl rfl (by kernel_rfl) (by kernel_rfl) (by kernel_rfl) rfl (fun _ _ _ h => h) (Or.inl ⟨by kernel_rfl, ?_⟩) (fun _ => sV) ?_
      rotate_left
      · intro w' hSw; go_simp; try with_reducible rfl
      try simp only [Act.put, List.setIfInBounds_toArray, List.set_cons_zero, List.set_cons_succ]
      refine takeP 34 (i := 5) (v := ?_) rfl rfl (by kernel_rfl) (by kernel_rfl) (by kernel_rfl) (by kernel_rfl) rfl (by kernel_rfl) (fun _ _ _ h => h) (Or.inl ⟨by kernel_rfl, ?_⟩) sV ?_
      rotate_left
      · intro w' hSw; have q0 := rdGu_at hSw.2 hlt; go_simp; try with_reducible rfl
      try simp only [Act.put, List.setIfInBounds_toArray, List.set_cons_zero, List.set_cons_succ]
      refine wpAnyP_ready (rs := [6]) (by kernel_rfl) (by simp) ?_
      refine consP _ rfl (hopCd 35 rfl (by kernel_rfl) rfl (by kernel_rfl) (Calls.mono (HG.out k hlt _ qV) ?_)) AllReadyP.nil
      rintro e V1 ⟨v1, rfl, o1, b1⟩
      obtain ⟨a1, cp1, hv1, -⟩ := owns_slice o1
      subst hv1
      have s1 := And.intro (kept b1 sV.1) (sV.2.later b1)
      have L1 := LV.later b1
      have o1' := owns_monoJ o1 qV.size
      have q1 := qV.trans (b1.mono qV.size)
      have r1 := kept b1 rV
      refine ⟨_, rfl, s1, ?_⟩
      try simp only [Act.put, List.setIfInBounds_toArray, List.set_cons_zero, List.set_cons_succ]
      refine wpAnyP_ready (rs := [7]) (by kernel_rfl) (by simp) ?_
      refine consP _ rfl (hopBJ 36 (Value.slice a1 (gs[k]?.getD []).length cp1) 27 rfl rfl rfl (by kernel_rfl) fun I V2 hI b2 => ?_) AllReadyP.nil
      have s2 := And.intro (kept b2 s1.1) (s1.2.later b2)
      have L2 := L1.later b2
      have o2 := owns_keepT o1' fun k cur hc => b2.block k (blk_lt hc)
      have q2 := q1.trans (b2.mono q1.size)
      have r2 := kept b2 r1
      refine ⟨s2, ?_⟩
      try simp only [Act.put, List.setIfInBounds_toArray, List.set_cons_zero, List.set_cons_succ]
      refine wpAnyP_ready (rs := [8]) (by kernel_rfl) (by simp) ?_
      refine consP _ rfl (hopL rfl (append_gsJ Try.underlying28 Try.infoUsJ rfl (by decide) (by decide) V2 (by rfl) _ _ (by rfl) w.heap.size vg _ _ (by kernel_rfl) L2.g ⟨I, 0, none⟩ 1 1 [(Value.slice a1 (gs[k]?.getD []).length cp1)] (by kernel_rfl) rfl (news_oneJ hI) (oneI _ (own_valJ o2).1) HLG.out q2.size fun v6 w6 o6 g6 => ?_)) AllReadyP.nil
      change QK _ _ Exit.normal (Act.put _ (some 37) v6) w6
      have q6 := q2.trans (g6.below (fun k hk => (World.ownsRow.lt L2.g k hk).1) q2.size)
      have s6D := (grw_types L2.g g6 D _ _ (by decide) s2.1).trans s2.1
      have r6 := (grw_types L2.g g6 _ _ _ (by decide) r2).trans r2
      have s6G := HGR.out w6 q6
      have L6 := L2.pushG (us := (gs[k]?.getD []).map plainW) g6 o6 (by rw [List.length_map]; exact o2)
      refine (And.intro (And.intro s6D s6G) ?_ : _ ∧ _)
      try simp only [Act.put, List.setIfInBounds_toArray, List.set_cons_zero, List.set_cons_succ]
      clear g6
      refine takeP0 38 (i := 9) (v := ?_) rfl rfl (by kernel_rfl) (by kernel_rfl) (by kernel_rfl) rfl (fun _ _ _ h => h) (Or.inl ⟨by kernel_rfl, ?_⟩) (fun _ => And.intro s6D s6G) ?_
      rotate_left
      · intro w' hSw; go_simp; try with_reducible rfl
      try simp only [Act.put, List.setIfInBounds_toArray, List.set_cons_zero, List.set_cons_succ]
      refine wpAnyP_ready (rs := [10]) (by kernel_rfl) (by simp) ?_
      refine consPs _ rfl (by kernel_rfl) (hopL rfl (wpList_store_at (by rfl) 28 _ _ (by rfl) w w.heap.size D 3 v6 _ #[.int .i64 (cn : Int), vc, v5, v6, vr, .bool false] 30 (by kernel_rfl) (by kernel_rfl) s6D q6 hDl 1 Try.szUss (by rw [(own_valJ L6.g).2]; rfl) (Nat.le_of_ble_eq_true rfl) (by intro u hu; rw [(own_valJ L6.g).2] at hu; simp only [List.mem_cons, List.not_mem_nil, or_false] at hu; subst hu; exact (own_valJ L6.g).1) (by rw [(own_valJ L6.g).2]; rfl) fun w8 e8 b8 s8 k8 => ?_)) AllReadyP.nil
      refine (And.intro trivial ?_ : _ ∧ _)
      try simp only [Act.put, List.setIfInBounds_toArray, List.set_cons_zero, List.set_cons_succ]
      refine wpAnyP_done (by kernel_rfl) ?_ _
      refine NoPanic.normal ?_
      try simp only [Act.put, List.setIfInBounds_toArray, List.set_cons_zero, List.set_cons_succ]
      have L8 := L6.keep (w' := w8) fun k cur t ht hc => k8 k (by rintro rfl; rw [s6D] at hc; cases hc; exact ht rfl)
      have E8 : Hid _ := And.intro e8 (And.intro L8 (And.intro b8 ((k8 _ hDz).trans r6)))
      clear s6D s6G L6 q6 r6 e8 b8 s8 k8 L8 o6 o2 o1 o1' L1 L2 q1 q2 b1 b2 hI s1 s2 r1 r2 sV LV qV rV
      go_wp2_with fail
      go_roundg g
      case measure => omega
      case rel =>
        obtain ⟨e8, L8, b8, r8⟩ := E8.out
        refine ⟨k + 1, v5, v6, gl ++ [(Value.slice a1 (gs[k]?.getD []).length cp1)], by go_num, by have := HIG.out; omega, e8, ?_, b8, r8⟩
        rw [take_snocG (by rw [List.length_map, HLN.out.2]; exact hlt), map_getJ]
        exact L8
    · have hd : decide ((k : Int) < (gn : Int)) = false := decide_eq_false (by omega)
      have hkd : k = gn := by omega
      subst hkd
      have LL := HP.out.2.1
      rw [List.take_of_length_le (by rw [List.length_map, HLN.out.2]; exact Nat.le_refl _)] at LL
      obtain ⟨u, hu, h1, h2, h3, h4, h5, h6, h7, h8, h9, h10, h11⟩ := LL.zu (cn : Int) false
      have huw : UW u := ⟨by rw [h10, List.length_map, HLN.out.1]; exact hcl, by rw [h11, List.length_replicate]; exact hcl, by rw [h8, rgI_len]; exact hgl, by rw [h9, List.length_map, HLN.out.2]; exact hgl, fun j hj => by rw [← (h1.g.each j hj).length, h7, map_getJ, List.length_map]; exact HLL.out j (by rw [h9, List.length_map, HLN.out.2] at hj; exact hj), by rw [h4]; exact mem_plain H64.out.1, by rw [h5]; intro x hx; rw [(List.mem_replicate.1 hx).2]; decide, by rw [h7]; intro l hl; obtain ⟨l0, hl0, rfl⟩ := List.mem_map.1 hl; exact mem_plain (H64.out.2 l0 hl0)⟩
      have HRL : Hid _ := reals_any u 1074 rfl wr h1 huw
      have hok : (!u.bad && wholeB u) = checkB (nwZ cs gs) := by
        have e1 : checkB u = checkB ⟨(cn : Int), none, cn, 0, none, k, 0, none, k, 0, none, cn, 0, false, (cs.map plainW), rgI k, fun _ => (none, 0, 0), (gs.map (·.map plainW)), List.replicate cn 0⟩ := checkB_eq _ _ h2 h3 h4 h5 h6 h7 (by rw [h10, List.length_map, HLN.out.1]) (by rw [h8, rgI_len]) (by rw [h9, List.length_map, HLN.out.2]) (by rw [h11, List.length_replicate])
        have e2 : checkB (nwZ cs gs) = checkB ⟨(cn : Int), none, cn, 0, none, k, 0, none, k, 0, none, cn, 0, false, cs, rgI k, fun _ => (none, 0, 0), gs, List.replicate cn 0⟩ := checkB_eq _ _ (by dsimp only [nwZ]; rw [HLN.out.1]) rfl rfl (by dsimp only [nwZ]; rw [HLN.out.1]) (by dsimp only [nwZ]; rw [HLN.out.2]) rfl (by dsimp only [nwZ]; rw [HLN.out.1]) (by dsimp only [nwZ]; rw [HLN.out.2]) (by dsimp only [nwZ]; rw [HLN.out.2]) (by dsimp only [nwZ]; rw [HLN.out.1])
        have e3 : (!u.bad && wholeB u) = checkB u := by unfold checkB; rw [h3]; simp
        rw [e3, e1, e2]
        unfold checkB
        dsimp only
        rw [whole_plain]
        rfl
      rw [hok] at HRL
      have HU : Hid (ZU wr u) := h1
      have HQ : Hid (u.N = (cn : Int) ∧ u.bad = false ∧ u.cs = (cs.map plainW) ∧ u.rs = List.replicate cn 0 ∧ u.ids = rgI k ∧ u.gs = (gs.map (·.map plainW))) := ⟨h2, h3, h4, h5, h6, h7⟩
      have hrow : #[.int .i64 (cn : Int), vc, vi, vg, vr, .bool false] = zRow u := by injection hu
      have E1 := HP.out.1
      rw [hrow] at E1
      have HE : Hid _ := And.intro E1 (And.intro HP.out.2.2.1 HP.out.2.2.2)
      have HOL : Hid (OfL wr w.heap.size (cs.map plainW) (List.replicate cn 0) (rgI k) (gs.map (·.map plainW)) vc vr vi vg gl ∧ #[.int .i64 (cn : Int), vc, vi, vg, vr, .bool false] = zRow u) := ⟨LL, hrow⟩
      unfold zRow at HE HRL
      clear LL hu h1 h2 h3 h4 h5 h6 h7 h8 h9 h10 h11 huw E1 HP hrow
      cases hcb : checkB (nwZ cs gs) with
      | false =>
        rw [hcb] at HRL
        have HA : Hid (nwA cs gs = badZD) := by unfold Hid nwA; rw [hcb]; rfl
        clear hok hcb
        go_wp2_with (first
          | (refine wpList_load_row (by rfl) 30 _ (by rfl) D _ (by rfl) HE.out.1 _ Try.underlying30 rfl 6 Try.infoZu (by rfl) ?_)
          | (go_at_call 21; refine Calls.mono HRL.out ?_; rintro e w3 ⟨⟨N', a1, l1, c1, a2, l2, c2, a3, l3, c3, a4, l4, c4, rfl, -⟩, b3⟩)
          | (go_at_call 34; refine Calls.mono (lost_any 0 _) ?_; rintro e w4 ⟨rfl, b4⟩; have q4 : Below wr.heap.size wr w4 := to_call b3 (to_call ((Below.refl _ w3).alloc (Nat.le_refl _) _) b4))
          | (refine wpList_store_row (by rfl) 30 _ _ (by rfl) w w.heap.size w.heap.size _ _ (by rfl) (by rfl) (kept q4 HE.out.2.2) (to_call HE.out.2.1 q4) (Nat.le_refl _) 6 Try.infoZu (by rfl) (by rfl) (oneZ _ _ _ _ _ rfl rfl rfl rfl _) ?_; intro W9 e9 b9 s9 o9))
        refine bodyPost_ret (res_oneJ _ 4 30 (by kernel_rfl) _ _ w.heap.size _ (by rfl) _ Try.underlying30 rfl 6 Try.infoZu rfl e9) rfl ?_
        rw [HA.out]
        exact ⟨badZD, rfl, badZD_ZU _, rfl, rfl, rfl, rfl, rfl, rfl, b9⟩
      | true =>
        rw [hcb] at HRL
        have HA : Hid (nwA cs gs = nwZ (cs.map plainM) (gs.map (·.map plainM))) := by unfold Hid nwA; rw [hcb]; rfl
        clear hok hcb
        go_wp2_with (first
          | (refine wpList_load_row (by rfl) 30 _ (by rfl) D _ (by rfl) HE.out.1 _ Try.underlying30 rfl 6 Try.infoZu (by rfl) ?_)
          | (go_at_call 21; refine Calls.mono HRL.out ?_; rintro e w3 ⟨⟨N', a1, l1, c1, a2, l2, c2, a3, l3, c3, a4, l4, c4, rfl, -⟩, b3⟩; have q4 : Below wr.heap.size wr (w3.alloc (.cells #[.int .i64 N', .slice a1 l1 c1, .slice a2 l2 c2, .slice a3 l3 c3, .slice a4 l4 c4] 52)) := to_call b3 ((Below.refl _ w3).alloc (Nat.le_refl _) _))
          | (refine wpList_load_row (by rfl) 30 _ (by rfl) D _ (by rfl) (kept q4 HE.out.1) _ Try.underlying30 rfl 6 Try.infoZu (by rfl) ?_)
          | (refine wpList_store_row (by rfl) 30 _ _ (by rfl) w w.heap.size w.heap.size _ _ (by rfl) (by rfl) (kept q4 HE.out.2.2) (to_call HE.out.2.1 q4) (Nat.le_refl _) 6 Try.infoZu (by rfl) (by rfl) (oneZ _ _ _ _ _ rfl rfl rfl rfl _) ?_; intro W9 e9 b9 s9 o9))
        have L9 := (HOL.out.1.later q4).keep (w' := W9) fun k cur t ht hc => o9 k (by rintro rfl; rw [kept q4 HE.out.2.2] at hc; cases hc; exact ht rfl)
        obtain ⟨y, hy, g1, h2, h3, h4, h5, h6, h7, -⟩ := L9.zu (cn : Int) false
        have hry : zRow u = zRow y := by
          have h : #[.int .i64 (cn : Int), vc, vi, vg, vr, .bool false] = zRow y := by injection hy
          rw [← HOL.out.2, h]
        refine bodyPost_ret (res_oneJ _ 4 30 (by kernel_rfl) _ _ w.heap.size _ (by rfl) _ Try.underlying30 rfl 6 Try.infoZu rfl e9) rfl ?_
        rw [HA.out]
        refine ⟨y, congrArg (fun r => Ending.returned (.agg r)) hry, g1, ?_, h3, ?_, ?_, ?_, ?_, b9⟩
        · rw [h2]; dsimp only [nwZ]; rw [List.length_map, HLN.out.1]
        · rw [h4, map_plain H64.out.1]; rfl
        · rw [h5]; dsimp only [nwZ]; rw [List.length_map, HLN.out.1]
        · rw [h6]; dsimp only [nwZ]; rw [List.length_map, HLN.out.2]
        · rw [h7, map_plains H64.out.2]; rfl
end Go.Proofs.Ytbgjimkgidafdaa
