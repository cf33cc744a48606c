import Derived.Test.YthmhgpadinecfaaGreatTEb3
set_option maxRecDepth 100000
set_option maxHeartbeats 8000000
set_option linter.unusedVariables false
set_option linter.unusedSimpArgs false
namespace Go.Proofs.YthmhgpadinecfaaGreat
open Go.RowKit Go.Shelf
attribute [local go_sem] Oper.semAt_some
theorem allocZJ (w : World) : (Instr.alloc 26 true (.tuple #[])).run Tryz.prog w = .ok (.pointer (some ⟨w.heap.size, 0, none⟩)) (w.alloc (.cells #[.int .i64 0, .slice none 0 0, .slice none 0 0, .slice none 0 0, .slice none 0 0, .bool false] 26)) := by kernel_rfl
theorem map_getD {α : Type} (l : List α) (d : α) (n : Nat) (h : l.length = n) : (List.finRange n).map (fun k : _root_.Fin n => l[k.val]?.getD d) = l := by
 subst h
 apply List.ext_getElem
 ·simp
 ·intro i h1 h2
  simp [List.getElem?_eq_getElem h2]
theorem map_getD2 {α β : Type} (l : List α) (d : α) (g : α -> β) (n : Nat) (h : l.length = n) : (List.finRange n).map (fun k : _root_.Fin n => g (l[k.val]?.getD d)) = l.map g := by
 have := congrArg (List.map g) (map_getD l d n h)
 rw [List.map_map] at this
 exact this
theorem grw_keeps {w w' : World} {E : TypeId} {base size n : Nat} {v v' : Value} {xs : List Value} (h : w.ownsRow base E size v n xs) (hg : Grw w w' v.ownBlock v'.ownBlock) : ∀ (k : Nat) (o : Obj), w.heap[k]? = some o -> o.isCells = false -> w'.heap[k]? = some o := by
 intro k o hk hc
 rw [hg.by'.block k (blk_lt hk) fun e => ?_]
 ·exact hk
 ·obtain ⟨cur, h2⟩ := owns_type h e.symm
  rw [hk] at h2
  cases h2
  cases hc
theorem fresh_ok (z : ZD) (w : World) (hz : ZR w z) (hb : z.bad = false) (hrn : z.cn = z.rn) (hdg : z.dn = z.gn) (hn : z.cn <= 100000) (hdn : z.dn <= 2000000) (hw : ∀ k, k < z.dn -> (z.gs[k]?.getD []).length = z.cn) (hF : FinZ z) :
  Calls Tryz.prog 69 #[.agg (zRow z)] w fun e w' => ∃ bc br vi vg gl, e = .returned (.agg #[.int .i64 z.N, slN z.cn bc, vi, vg, slN z.cn br, .bool false]) /\ FrL w' w.heap.size z.cn bc br (z.cs.map plainM) (z.rs.map plainM) z.ids (z.gs.map (·.map plainM)) vi vg gl /\ Below w.heap.size w w' := by
 obtain ⟨N, co, n, cc, io, dn, dc, go, gn, gc, ro, rn, rc, bad, cs, ids, gv, gs, rs⟩ := z
 dsimp only at hb hrn hdg hn hdn hw hF ⊢
 subst hb hrn hdg
 have HZ : Hid (∀ W', Below w.heap.size w W' -> ZR W' ⟨N, co, n, cc, io, dn, dc, go, dn, gc, ro, n, rc, false, cs, ids, gv, gs, rs⟩) := fun W' hb => hz.later hb
 have HC : Hid (∀ W', Below w.heap.size w W' -> Calls Tryz.prog 68 #[.slice co n cc] W' fun e w' => ∃ b, e = .returned (slN n b) /\ OwB w' W'.heap.size n b (cs.map plainM) /\ Below W'.heap.size W' w') := fun W' hb => plainOwn_any co n cc cs hn hF.c W' (hz.later hb).c
 have HR : Hid (∀ W', Below w.heap.size w W' -> Calls Tryz.prog 68 #[.slice ro n rc] W' fun e w' => ∃ b, e = .returned (slN n b) /\ OwB w' W'.heap.size n b (rs.map plainM) /\ Below W'.heap.size W' w') := fun W' hb => plainOwn_any ro n rc rs hn hF.r W' (hz.later hb).r
 have HGa : Hid (∀ x, x < dn -> ∀ W', Below w.heap.size w W' -> Calls Tryz.prog 68 #[.slice (gv x).1 (gv x).2.1 (gv x).2.2] W' fun e w' => ∃ b, e = .returned (slN n b) /\ OwB w' W'.heap.size n b ((gs[x]?.getD []).map plainM) /\ Below W'.heap.size W' w') := fun x hx W' hb => by
  have h1 := (hz.later hb).g.each x hx
  have h2 := h1.length
  rw [hw x hx] at h2
  have hgl := hz.g.length
  have h3 := plainOwn_any (gv x).1 (gv x).2.1 (gv x).2.2 (gs[x]?.getD []) (by dsimp only at h2; omega) (fun u hu => hF.g _ (by rw [List.getElem?_eq_getElem (by dsimp only at hgl; omega)]; exact List.getElem_mem _) u hu) W' h1
  dsimp only at h2
  rw [<- h2] at h3 ⊢
  exact h3
 have HLN : Hid (ids.length = dn /\ gs.length = dn) := ⟨hz.i.length, hz.g.length⟩
 clear hz hw hF
 have X0 : Below w.heap.size w ((w.alloc (.cells #[.int .i64 N, .slice co n cc, .slice io dn dc, .slice go dn gc, .slice ro n rc, .bool false] 26)).alloc (.cells #[.int .i64 0, .slice none 0 0, .slice none 0 0, .slice none 0 0, .slice none 0 0, .bool false] 26)) := ((Below.refl _ w).alloc (Nat.le_refl _) _).alloc (by simp only [alloc_size]; omega) _
 have Y0 : ((w.alloc (.cells #[.int .i64 N, .slice co n cc, .slice io dn dc, .slice go dn gc, .slice ro n rc, .bool false] 26)).alloc (.cells #[.int .i64 0, .slice none 0 0, .slice none 0 0, .slice none 0 0, .slice none 0 0, .bool false] 26)).heap[w.heap.size]? = some (.cells #[.int .i64 N, .slice co n cc, .slice io dn dc, .slice go dn gc, .slice ro n rc, .bool false] 26) := alloc_kept (heap_alloc_new w _) _
 have Y1 : ((w.alloc (.cells #[.int .i64 N, .slice co n cc, .slice io dn dc, .slice go dn gc, .slice ro n rc, .bool false] 26)).alloc (.cells #[.int .i64 0, .slice none 0 0, .slice none 0 0, .slice none 0 0, .slice none 0 0, .bool false] 26)).heap[w.heap.size + 1]? = some (.cells #[.int .i64 0, .slice none 0 0, .slice none 0 0, .slice none 0 0, .slice none 0 0, .bool false] 26) := heap_at _ _ (w.heap.size + 1) (by simp only [alloc_size])
 unfold zRow
 dsimp only
 refine (callsIn_wide (n := 3)).1 ?_
 refine callsIn_of_wp_marks Tryz.func69 rfl trivial ?_ rfl
 refine wpIn_wide.2 ?_
 simp only [Tryz.ntmps69, List.size_toArray, List.length_cons, List.length_nil, Nat.reduceAdd, Nat.reduceSub, Array.replicate_succ, Array.replicate_zero, List.push_toArray, List.append_toArray, List.nil_append, List.cons_append]
 go_upto_region 3 with fail
 obtain ⟨X, hX⟩ : ∃ X, ((w.alloc (.cells #[.int .i64 N, .slice co n cc, .slice io dn dc, .slice go dn gc, .slice ro n rc, .bool false] 26)).alloc (.cells #[.int .i64 0, .slice none 0 0, .slice none 0 0, .slice none 0 0, .slice none 0 0, .bool false] 26)) = X := ⟨_, rfl⟩
 rw [hX] at X0 Y0 Y1 ⊢
 clear hX
 have HX : Hid (Below w.heap.size w X /\ X.heap[w.heap.size]? = some (.cells #[.int .i64 N, .slice co n cc, .slice io dn dc, .slice go dn gc, .slice ro n rc, .bool false] 26) /\ X.heap[w.heap.size + 1]? = some (.cells #[.int .i64 0, .slice none 0 0, .slice none 0 0, .slice none 0 0, .slice none 0 0, .bool false] 26)) := ⟨X0, Y0, Y1⟩
 clear X0 Y0 Y1
 go_cut [3] from 6 to 37 (fun v wx => ∃ D bc br, v = .pointer (some ⟨D, 0, none⟩) /\ Hid (wx.heap[D]? = some (.cells #[.int .i64 N, slN n bc, .slice none 0 0, .slice none 0 0, slN n br, .bool false] 26)) /\ Hid (OwB wx w.heap.size n bc (cs.map plainM) /\ OwB wx w.heap.size n br (rs.map plainM) /\ bc ≠ br) /\ Hid (Below w.heap.size w wx) /\ Hid (wx.heap[w.heap.size]? = some (.cells #[.int .i64 N, .slice co n cc, .slice io dn dc, .slice go dn gc, .slice ro n rc, .bool false] 26) /\ wx.heap[w.heap.size + 1]? = some (.cells #[.int .i64 0, .slice none 0 0, .slice none 0 0, .slice none 0 0, .slice none 0 0, .bool false] 26)) /\ w.heap.size + 1 < D)
 case first =>
  have bX : Below X.heap.size X X.drew := (Below.refl _ _).drew
  refine wp_region_noPanic ?_
  refine wp_region_held_drew (S := (fun W' => Below X.heap.size X W')) (by kernel_rfl) bX (fun _ => ?_)
  refine tzI 11 0 ?_ ?_ bX ?_
  rotate_left
  ·intro w' hSw; obtain ⟨c0, c1, c2, c3, c4, c5⟩ := cells6 ((hSw.block _ (blk_lt HX.out.2.1)).trans HX.out.2.1); go_simp; try with_reducible rfl
  try simp only [pA,pE,pB,pC,pD]
  refine tzI 12 1 ?_ ?_ bX ?_
  rotate_left
  ·intro w' hSw; obtain ⟨c0, c1, c2, c3, c4, c5⟩ := cells6 ((hSw.block _ (blk_lt HX.out.2.1)).trans HX.out.2.1); go_simp; try with_reducible rfl
  try simp only [pA,pE,pB,pC,pD]
  refine tzI 13 2 ?_ ?_ bX ?_
  rotate_left
  ·intro w' hSw; obtain ⟨c0, c1, c2, c3, c4, c5⟩ := cells6 ((hSw.block _ (blk_lt HX.out.2.1)).trans HX.out.2.1); go_simp; try with_reducible rfl
  try simp only [pA,pE,pB,pC,pD]
  refine tzI 14 3 ?_ ?_ bX ?_
  rotate_left
  ·intro w' hSw; obtain ⟨c0, c1, c2, c3, c4, c5⟩ := cells6 ((hSw.block _ (blk_lt HX.out.2.1)).trans HX.out.2.1); go_simp; try with_reducible rfl
  try simp only [pA,pE,pB,pC,pD]
  refine tzI 16 5 ?_ ?_ bX ?_
  rotate_left
  ·intro w' hSw; obtain ⟨c0, c1, c2, c3, c4, c5⟩ := cells6 ((hSw.block _ (blk_lt HX.out.2.1)).trans HX.out.2.1); go_simp; try with_reducible rfl
  try simp only [pA,pE,pB,pC,pD]
  refine tzI 17 6 ?_ ?_ bX ?_
  rotate_left
  ·intro w' hSw; obtain ⟨c0, c1, c2, c3, c4, c5⟩ := cells6 ((hSw.block _ (blk_lt HX.out.2.1)).trans HX.out.2.1); go_simp; try with_reducible rfl
  try simp only [pA,pE,pB,pC,pD]
  obtain ⟨V, hV⟩ : ∃ V, X.drew = V := ⟨_, rfl⟩
  have bV : Below X.heap.size X V := hV ▸ bX
  rw [hV]
  clear hV bX
  refine rzH [4, 9] ?_
  refine consH _ rfl ?_ (consH _ rfl ?_ AllReadyH.nil)
  ·refine hzC 15 (Calls.mono (HC.out _ (HX.out.1.trans (bV.mono HX.out.1.size))) ?_)
   rintro e Vc ⟨bc, rfl, o1, hb⟩
   have bVc : Below X.heap.size X Vc := bV.trans (hb.mono bV.size)
   have ocVc := o1.mono bV.size
   clear o1 hb
   refine ⟨_, rfl, bVc, ?_⟩
   try simp only [pA,pE,pB,pC,pD]
   refine rzH [7, 9] ?_
   refine consH _ rfl ?_ (consH _ rfl ?_ AllReadyH.nil)
   ·refine hzC 18 (Calls.mono (HR.out _ (HX.out.1.trans (bVc.mono HX.out.1.size))) ?_)
    rintro e Vcr ⟨br, rfl, o1, hb⟩
    have bVcr : Below X.heap.size X Vcr := bVc.trans (hb.mono bVc.size)
    have ocVcr := ocVc.later hb
    have hne : bc ≠ br := Nat.ne_of_lt (Nat.lt_of_lt_of_le ocVc.lt o1.lo)
    have orVcr := o1.mono bVc.size
    clear o1 hb
    refine ⟨_, rfl, bVcr, ?_⟩
    try simp only [pA,pE,pB,pC,pD]
    refine tzH 19 8 (.agg #[.int .i64 N, slN n bc, .slice none 0 0, .slice none 0 0, slN n br, .bool false]) (Or.inl ⟨by kernel_rfl, fun w' _ => by kernel_rfl⟩) bVcr ?_
    try simp only [pA,pE,pB,pC,pD]
    refine rzH [9] ?_
    refine consH _ rfl ?_ AllReadyH.nil
    ·refine hopAJ 3 rfl rfl rfl 26 rfl #[.int .i64 0, .slice none 0 0, .slice none 0 0, .slice none 0 0, .slice none 0 0, .bool false] allocZJ fun D Vcra hDVcra hDl hb => ?_
     have bVcra : Below X.heap.size X Vcra := bVcr.trans (hb.mono bVcr.size)
     have hDX : X.heap.size <= D := Nat.le_trans bVcr.size hDl
     have ocVcra := ocVcr.later hb
     have orVcra := orVcr.later hb
     refine ⟨bVcra, ?_⟩
     try simp only [pA,pE,pB,pC,pD]
     refine rzH [10] ?_
     refine consH _ rfl (hopL rfl (wpList_store_row (by rfl) 26 _ _ (by rfl) X X.heap.size D #[.int .i64 N, slN n bc, .slice none 0 0, .slice none 0 0, slN n br, .bool false] _ (by kernel_rfl) (by kernel_rfl) hDVcra bVcra hDX 6 Tryz.infoZ (by rfl) (by rfl) (oneZ _ _ _ _ _ rfl rfl rfl rfl _) fun W9 e9 b9 hs9 ho9 => ?_)) AllReadyH.nil
     refine (And.intro b9 ?_ : _ /\ _)
     try simp only [pA,pE,pB,pC,pD]
     refine wpAnyH_done (by kernel_rfl) ?_ _
     refine NoPanic.normal ?_
     try simp only [pA,pE,pB,pC,pD]
     go_wp2_with fail
     go_meet
     have hk9 : ∀ (k : Nat) (cur : Array Value), Vcra.heap[k]? = some (.cells cur 55) -> W9.heap[k]? = Vcra.heap[k]? := fun k cur hc => ho9 k (by rintro rfl; rw [hDVcra] at hc; cases hc)
     exact ⟨D, bc, br, rfl, e9, ⟨(ocVcra.keep hk9).mono HX.out.1.size, (orVcra.keep hk9).mono HX.out.1.size, hne⟩, HX.out.1.trans (b9.mono HX.out.1.size), ⟨(b9.block _ (blk_lt HX.out.2.1)).trans HX.out.2.1, (b9.block _ (blk_lt HX.out.2.2)).trans HX.out.2.2⟩, Nat.lt_of_lt_of_le (blk_lt HX.out.2.2) hDX⟩
   ·refine hopAJ 3 rfl rfl rfl 26 rfl #[.int .i64 0, .slice none 0 0, .slice none 0 0, .slice none 0 0, .slice none 0 0, .bool false] allocZJ fun D Vca hDVca hDl hb => ?_
    have bVca : Below X.heap.size X Vca := bVc.trans (hb.mono bVc.size)
    have hDX : X.heap.size <= D := Nat.le_trans bVc.size hDl
    have ocVca := ocVc.later hb
    refine ⟨bVca, ?_⟩
    try simp only [pA,pE,pB,pC,pD]
    refine rzH [7] ?_
    refine consH _ rfl ?_ AllReadyH.nil
    ·refine hzC 18 (Calls.mono (HR.out _ (HX.out.1.trans (bVca.mono HX.out.1.size))) ?_)
     rintro e Vcar ⟨br, rfl, o1, hb⟩
     have bVcar : Below X.heap.size X Vcar := bVca.trans (hb.mono bVca.size)
     have ocVcar := ocVca.later hb
     have hDVcar := kept hb hDVca
     have hne : bc ≠ br := Nat.ne_of_lt (Nat.lt_of_lt_of_le ocVca.lt o1.lo)
     have orVcar := o1.mono bVca.size
     clear o1 hb
     refine ⟨_, rfl, bVcar, ?_⟩
     try simp only [pA,pE,pB,pC,pD]
     refine tzH 19 8 (.agg #[.int .i64 N, slN n bc, .slice none 0 0, .slice none 0 0, slN n br, .bool false]) (Or.inl ⟨by kernel_rfl, fun w' _ => by kernel_rfl⟩) bVcar ?_
     try simp only [pA,pE,pB,pC,pD]
     refine rzH [10] ?_
     refine consH _ rfl (hopL rfl (wpList_store_row (by rfl) 26 _ _ (by rfl) X X.heap.size D #[.int .i64 N, slN n bc, .slice none 0 0, .slice none 0 0, slN n br, .bool false] _ (by kernel_rfl) (by kernel_rfl) hDVcar bVcar hDX 6 Tryz.infoZ (by rfl) (by rfl) (oneZ _ _ _ _ _ rfl rfl rfl rfl _) fun W9 e9 b9 hs9 ho9 => ?_)) AllReadyH.nil
     refine (And.intro b9 ?_ : _ /\ _)
     try simp only [pA,pE,pB,pC,pD]
     refine wpAnyH_done (by kernel_rfl) ?_ _
     refine NoPanic.normal ?_
     try simp only [pA,pE,pB,pC,pD]
     go_wp2_with fail
     go_meet
     have hk9 : ∀ (k : Nat) (cur : Array Value), Vcar.heap[k]? = some (.cells cur 55) -> W9.heap[k]? = Vcar.heap[k]? := fun k cur hc => ho9 k (by rintro rfl; rw [hDVcar] at hc; cases hc)
     exact ⟨D, bc, br, rfl, e9, ⟨(ocVcar.keep hk9).mono HX.out.1.size, (orVcar.keep hk9).mono HX.out.1.size, hne⟩, HX.out.1.trans (b9.mono HX.out.1.size), ⟨(b9.block _ (blk_lt HX.out.2.1)).trans HX.out.2.1, (b9.block _ (blk_lt HX.out.2.2)).trans HX.out.2.2⟩, Nat.lt_of_lt_of_le (blk_lt HX.out.2.2) hDX⟩
  ·refine hopAJ 3 rfl rfl rfl 26 rfl #[.int .i64 0, .slice none 0 0, .slice none 0 0, .slice none 0 0, .slice none 0 0, .bool false] allocZJ fun D Va hDVa hDl hb => ?_
   have bVa : Below X.heap.size X Va := bV.trans (hb.mono bV.size)
   have hDX : X.heap.size <= D := Nat.le_trans bV.size hDl
   refine ⟨bVa, ?_⟩
   try simp only [pA,pE,pB,pC,pD]
   refine rzH [4] ?_
   refine consH _ rfl ?_ AllReadyH.nil
   ·refine hzC 15 (Calls.mono (HC.out _ (HX.out.1.trans (bVa.mono HX.out.1.size))) ?_)
    rintro e Vac ⟨bc, rfl, o1, hb⟩
    have bVac : Below X.heap.size X Vac := bVa.trans (hb.mono bVa.size)
    have hDVac := kept hb hDVa
    have ocVac := o1.mono bVa.size
    clear o1 hb
    refine ⟨_, rfl, bVac, ?_⟩
    try simp only [pA,pE,pB,pC,pD]
    refine rzH [7] ?_
    refine consH _ rfl ?_ AllReadyH.nil
    ·refine hzC 18 (Calls.mono (HR.out _ (HX.out.1.trans (bVac.mono HX.out.1.size))) ?_)
     rintro e Vacr ⟨br, rfl, o1, hb⟩
     have bVacr : Below X.heap.size X Vacr := bVac.trans (hb.mono bVac.size)
     have ocVacr := ocVac.later hb
     have hDVacr := kept hb hDVac
     have hne : bc ≠ br := Nat.ne_of_lt (Nat.lt_of_lt_of_le ocVac.lt o1.lo)
     have orVacr := o1.mono bVac.size
     clear o1 hb
     refine ⟨_, rfl, bVacr, ?_⟩
     try simp only [pA,pE,pB,pC,pD]
     refine tzH 19 8 (.agg #[.int .i64 N, slN n bc, .slice none 0 0, .slice none 0 0, slN n br, .bool false]) (Or.inl ⟨by kernel_rfl, fun w' _ => by kernel_rfl⟩) bVacr ?_
     try simp only [pA,pE,pB,pC,pD]
     refine rzH [10] ?_
     refine consH _ rfl (hopL rfl (wpList_store_row (by rfl) 26 _ _ (by rfl) X X.heap.size D #[.int .i64 N, slN n bc, .slice none 0 0, .slice none 0 0, slN n br, .bool false] _ (by kernel_rfl) (by kernel_rfl) hDVacr bVacr hDX 6 Tryz.infoZ (by rfl) (by rfl) (oneZ _ _ _ _ _ rfl rfl rfl rfl _) fun W9 e9 b9 hs9 ho9 => ?_)) AllReadyH.nil
     refine (And.intro b9 ?_ : _ /\ _)
     try simp only [pA,pE,pB,pC,pD]
     refine wpAnyH_done (by kernel_rfl) ?_ _
     refine NoPanic.normal ?_
     try simp only [pA,pE,pB,pC,pD]
     go_wp2_with fail
     go_meet
     have hk9 : ∀ (k : Nat) (cur : Array Value), Vacr.heap[k]? = some (.cells cur 55) -> W9.heap[k]? = Vacr.heap[k]? := fun k cur hc => ho9 k (by rintro rfl; rw [hDVacr] at hc; cases hc)
     exact ⟨D, bc, br, rfl, e9, ⟨(ocVacr.keep hk9).mono HX.out.1.size, (orVacr.keep hk9).mono HX.out.1.size, hne⟩, HX.out.1.trans (b9.mono HX.out.1.size), ⟨(b9.block _ (blk_lt HX.out.2.1)).trans HX.out.2.1, (b9.block _ (blk_lt HX.out.2.2)).trans HX.out.2.2⟩, Nat.lt_of_lt_of_le (blk_lt HX.out.2.2) hDX⟩
 case rest =>
 obtain ⟨D, bc, br, rfl, ED, EO, EB, EK, hDl'⟩ := hcut
 have hDl : w.heap.size <= D := by omega
 have hD1 : w.heap.size + 1 ≠ D := by omega
 have hDx : D < wc.heap.size := blk_lt ED.out
 clear HX HC HR
 go_wp2_with (first
  | (refine wpList_load_row (by rfl) 26 _ (by rfl) w.heap.size _ (by rfl) EK.out.1 _ Tryz.underlying26 rfl 6 Tryz.infoZ (by rfl) ?_)
  | (go_at_call 80; refine Calls.mono (columns_any _ rfl _) ?_; rintro e w' ⟨rfl, hw⟩; rw [hw]; clear hw))
 obtain ⟨X5, hX5⟩ : ∃ X5, wc = X5 := ⟨_, rfl⟩
 subst hX5
 have V1 : (wc.alloc (.cells #[.int .i64 N, .slice co n cc, .slice io dn dc, .slice go dn gc, .slice ro n rc, .bool false] 26)).heap[D]? = _ := alloc_kept ED.out _
 have V2 : Below w.heap.size w (wc.alloc (.cells #[.int .i64 N, .slice co n cc, .slice io dn dc, .slice go dn gc, .slice ro n rc, .bool false] 26)) := EB.out.alloc EB.out.size _
 have V3 : FrL (wc.alloc (.cells #[.int .i64 N, .slice co n cc, .slice io dn dc, .slice go dn gc, .slice ro n rc, .bool false] 26)) w.heap.size n bc br (cs.map plainM) (rs.map plainM) [] [] (.slice none 0 0) (.slice none 0 0) [] := ⟨EO.out.1.later ((Below.refl _ _).alloc (Nat.le_refl _) _), EO.out.2.1.later ((Below.refl _ _).alloc (Nat.le_refl _) _), World.ownsRow_nil _ _ _ _, World.ownsRow_nil _ _ _ _, ColL.nil _ _ _, EO.out.2.2, by simp, by simp⟩
 have V4 : (wc.alloc (.cells #[.int .i64 N, .slice co n cc, .slice io dn dc, .slice go dn gc, .slice ro n rc, .bool false] 26)).heap[w.heap.size + 1]? = _ := alloc_kept EK.out.2 _
 have V5 : (wc.alloc (.cells #[.int .i64 N, .slice co n cc, .slice io dn dc, .slice go dn gc, .slice ro n rc, .bool false] 26)).heap[wc.heap.size]? = some (.cells #[.int .i64 N, .slice co n cc, .slice io dn dc, .slice go dn gc, .slice ro n rc, .bool false] 26) := heap_alloc_new wc _
 obtain ⟨X, hX⟩ : ∃ X, wc.alloc (.cells #[.int .i64 N, .slice co n cc, .slice io dn dc, .slice go dn gc, .slice ro n rc, .bool false] 26) = X := ⟨_, rfl⟩
 rw [hX] at V1 V2 V3 V4 V5 ⊢
 clear hX ED EO EB EK
 have hxs := blk_lt V5
 have hDX5 : D < wc.heap.size := hDx
 refine (wpIn_wide (n := 3)).1 ?_
 refine wpIn_rangeFunc_ownF rfl (by decide) (gf := 96) (lb := #[.pointer (some ⟨wc.heap.size, 0, none⟩)]) rfl trivial (enters_of Tryz.func96 (by kernel_rfl) rfl)
  (cols_stops Fence.wide 2 trivial rfl (by decide) wc.heap.size ⟨N, co, n, cc, io, dn, dc, go, dn, gc, ro, n, rc, false, cs, ids, gv, gs, rs⟩ (Nat.le_refl _) w X V2 (HZ.out w (Below.refl _ _)) V5) KpZ.trans (kpZ_b V2.size hxs) (Below.refl _ _) (fun _ => rfl)
  (fun pre W => ((∃ vi vg gl, W.heap[D]? = some (.cells #[.int .i64 N, slN n bc, vi, vg, slN n br, .bool false] 26) /\ FrL W w.heap.size n bc br (cs.map plainM) (rs.map plainM) (pre.map fun k => ids[k.val]?.getD 0) (pre.map fun k => (gs[k.val]?.getD []).map plainM) vi vg gl) /\ W.heap[wc.heap.size]? = some (.cells #[.int .i64 N, .slice co n cc, .slice io dn dc, .slice go dn gc, .slice ro n rc, .bool false] 26) /\ W.heap[w.heap.size + 1]? = some (.cells #[.int .i64 0, .slice none 0 0, .slice none 0 0, .slice none 0 0, .slice none 0 0, .bool false] 26)) /\ Below w.heap.size w W)
  (fun _ _ _ => False)
  (OwnFrom.and (Own.from (fun s A B row hs hg hr => ⟨(by obtain ⟨vi, vg, gl, h1, h2⟩ := hs.1; exact ⟨vi, vg, gl, heap_keptJ h1 hg hr, h2.kept hg hr⟩), heap_keptJ hs.2.1 hg hr, heap_keptJ hs.2.2 hg hr⟩) _) (ownFrom_below (Nat.le_refl _) V2.size))
  (fun _ _ _ _ _ hs _ _ => hs)
  ⟨⟨⟨_, _, [], V1, V3⟩, V5, V4⟩, V2⟩
  ?a1 ?assign ?body ?done ?stop
 case assign =>
  intro l x W K hK
  dsimp only [encZ]
  gi_wp2
  exact hK
 case body =>
  rintro l pre x W ⟨⟨⟨vi, vg, gl, h1, hL⟩, h2, h3⟩, hB⟩ hlen
  have HL0 : Hid (FrL W.drew w.heap.size n bc br (cs.map plainM) (rs.map plainM) (pre.map fun k => ids[k.val]?.getD 0) (pre.map fun k => (gs[k.val]?.getD []).map plainM) vi vg gl) := hL.keep fun _ _ _ _ _ => rfl
  have HG : Hid _ := HGa.out x.val x.isLt
  have HBS : Hid (w.heap.size <= W.drew.heap.size) := hB.size
  have hgl : gl.length = pre.length := by have := hL.col.len; simpa using this
  have HLI : Hid (((pre.map fun k => ids[k.val]?.getD 0).map (Value.int .i64)).length + 1 <= 4000000) := by unfold Hid; simp only [List.length_map]; dsimp only at hlen; omega
  have HLG : Hid ((gl.map (slN n)).length + 1 <= 4000000) := by unfold Hid; simp only [List.length_map]; dsimp only at hlen; omega
  have hS0 : W.drew.heap[D]? = some (.cells #[.int .i64 N, slN n bc, vi, vg, slN n br, .bool false] 26) := h1
  obtain ⟨xi, hxi⟩ : ∃ xi, ids[x.val]?.getD 0 = xi := ⟨_, rfl⟩
  rw [hxi]
  clear hgl
  refine wpIn_block ?_
  refine wpIn_round_P (fun V => V.heap[D]? = some (.cells #[.int .i64 N, slN n bc, vi, vg, slN n br, .bool false] 26)) 12 (by kernel_rfl) (by kernel_rfl) ?_
  refine tzQ 24 0 ?_ ?_ (fun _ => hS0) ?_
  rotate_left
  ·intro w' hSw; go_simp; try with_reducible rfl
  try simp only [pA,pE,pB,pC,pD]
  refine tzP 25 1 ?_ (Or.inl ⟨by kernel_rfl, ?_⟩) hS0 ?_
  rotate_left
  ·intro w' hSw; (try obtain ⟨c0, c1, c2, c3, c4, c5⟩ := cells6 hSw); go_simp; try with_reducible rfl
  try simp only [pA,pE,pB,pC,pD]
  refine tzQ 26 2 ?_ ?_ (fun _ => hS0) ?_
  rotate_left
  ·intro w' hSw; go_simp; try with_reducible rfl
  try simp only [pA,pE,pB,pC,pD]
  refine tzQ 29 5 ?_ ?_ (fun _ => hS0) ?_
  rotate_left
  ·intro w' hSw; go_simp; try with_reducible rfl
  try simp only [pA,pE,pB,pC,pD]
  refine tzP 30 6 ?_ (Or.inl ⟨by kernel_rfl, ?_⟩) hS0 ?_
  rotate_left
  ·intro w' hSw; (try obtain ⟨c0, c1, c2, c3, c4, c5⟩ := cells6 hSw); go_simp; try with_reducible rfl
  try simp only [pA,pE,pB,pC,pD]
  refine tzQ 31 7 ?_ ?_ (fun _ => hS0) ?_
  rotate_left
  ·intro w' hSw; go_simp; try with_reducible rfl
  try simp only [pA,pE,pB,pC,pD]
  refine rzP [3] ?_
  refine consP _ rfl (hopV 27 (v := .slice (some ⟨W.drew.heap.size, 0, none⟩) 1 1) (w' := W.drew.alloc (.cells #[.int .i64 xi] 3)) rfl rfl rfl (by kernel_rfl) ?_) AllReadyP.nil
  refine ⟨alloc_kept hS0 _, ?_⟩
  try simp only [pA,pE,pB,pC,pD]
  refine rzP [4] ?_
  refine consP _ rfl (hopL rfl (append_gr1M Tryz.underlying23 Tryz.infoIJ rfl (by decide) W.drew (by rfl) _ _ (by rfl) w.heap.size vi _ (by kernel_rfl) HL0.out.i (.int .i64 xi) (by kernel_rfl) rfl HLI.out HBS.out fun v4 w4 o4 g4 => ?_)) AllReadyP.nil
  change QK _ _ Exit.normal (Act.put _ (some 28) v4) w4
  have hS4 := (grw_types HL0.out.i g4 D _ _ (by decide) hS0).trans hS0
  have L4 := HL0.out.pushI g4 o4
  have q4 : Below w.heap.size W w4 := (fun (h : Below w.heap.size W.drew w4) => ⟨h.os, h.tape, h.output, h.size, h.block⟩) (g4.below (fun k hk => (World.ownsRow.lt HL0.out.i k hk).1) HBS.out)
  have t4 : ∀ (k : Nat) (cur : Array Value) (t : TypeId), t ≠ 3 -> W.heap[k]? = some (.cells cur t) -> w4.heap[k]? = W.heap[k]? := fun k cur t ht hc => grw_types HL0.out.i g4 k cur t ht hc
  have k4 : ∀ (k : Nat) (o : Obj), W.heap[k]? = some o -> o.isCells = false -> w4.heap[k]? = some o := fun k o hk hc => grw_keeps HL0.out.i g4 k o hk hc
  refine (And.intro hS4 ?_ : _ /\ _)
  try simp only [pA,pE,pB,pC,pD]
  clear g4
  refine tzQ 35 11 ?_ ?_ (fun _ => hS4) ?_
  rotate_left
  ·intro w' hSw; go_simp; try with_reducible rfl
  try simp only [pA,pE,pB,pC,pD]
  refine rzP [8] ?_
  refine consP _ rfl (hzC 32 (Calls.mono (HG.out _ (hB.trans q4)) ?_)) AllReadyP.nil
  rintro e w5 ⟨b, rfl, o5, q5⟩
  have hS5 := kept q5 hS4
  have L5 := L4.later q5
  have nb : b ≠ bc /\ b ≠ br /\ b ∉ gl := ⟨Nat.ne_of_gt (Nat.lt_of_lt_of_le L4.c.lt o5.lo), Nat.ne_of_gt (Nat.lt_of_lt_of_le L4.r.lt o5.lo), fun hm => absurd (L4.col.mem_lt hm) (Nat.not_lt.2 o5.lo)⟩
  have o5' := o5.mono (Nat.le_trans HBS.out q4.size)
  refine ⟨_, rfl, hS5, ?_⟩
  try simp only [pA,pE,pB,pC,pD]
  refine rzP [9] ?_
  refine consP _ rfl (hopV 33 (v := .slice (some ⟨w5.heap.size, 0, none⟩) 1 1) (w' := w5.alloc (.cells #[slN n b] 22)) rfl rfl rfl (by kernel_rfl) ?_) AllReadyP.nil
  refine ⟨alloc_kept hS5 _, ?_⟩
  try simp only [pA,pE,pB,pC,pD]
  refine rzP [10] ?_
  refine consP _ rfl (hopL rfl (append_gr1M Tryz.underlying24 Tryz.infoFsJ rfl (by decide) w5 (by rfl) _ _ (by rfl) w.heap.size vg _ (by kernel_rfl) L5.g (slN n b) (by kernel_rfl) rfl HLG.out (Nat.le_trans HBS.out (Nat.le_trans q4.size q5.size)) fun v6 w6 o6 g6 => ?_)) AllReadyP.nil
  change QK _ _ Exit.normal (Act.put _ (some 34) v6) w6
  have hS6 := (grw_types L5.g g6 D _ _ (by decide) hS5).trans hS5
  have L6 := L5.pushG g6 o6 o5' nb.1 nb.2.1 nb.2.2
  have q6 : Below w.heap.size w5 w6 := (g6.below (fun k hk => (World.ownsRow.lt L5.g k hk).1) (Nat.le_trans HBS.out (Nat.le_trans q4.size q5.size)))
  have t6 : ∀ (k : Nat) (cur : Array Value) (t : TypeId), t ≠ 22 -> w5.heap[k]? = some (.cells cur t) -> w6.heap[k]? = w5.heap[k]? := grw_types L5.g g6
  have k6 : ∀ (k : Nat) (o : Obj), w5.heap[k]? = some o -> o.isCells = false -> w6.heap[k]? = some o := grw_keeps L5.g g6
  refine (And.intro hS6 ?_ : _ /\ _)
  try simp only [pA,pE,pB,pC,pD]
  have qW6 : Below w.heap.size w w6 := hB.trans (q4.trans ((q5.mono (Nat.le_trans HBS.out q4.size)).trans q6))
  clear g6
  refine rzP [12] ?_
  refine consPs _ rfl (by kernel_rfl) (hopL rfl (wpList_store_at (by rfl) 23 _ _ (by rfl) w w.heap.size D 2 v4 _ #[.int .i64 N, slN n bc, v4, vg, slN n br, .bool false] 26 (by kernel_rfl) (by kernel_rfl) hS6 qW6 hDl 1 Tryz.szIs (by rw [(own_valJ L6.i).2]; rfl) (Nat.le_of_ble_eq_true rfl) (by intro u hu; rw [(own_valJ L6.i).2] at hu; simp only [List.mem_cons, List.not_mem_nil, or_false] at hu; subst hu; exact (own_valJ L6.i).1) (by rw [(own_valJ L6.i).2]; rfl) fun w7 e7 b7 s7 k7 => ?_)) AllReadyP.nil
  refine (And.intro trivial ?_ : _ /\ _)
  try simp only [pA,pE,pB,pC,pD]
  refine tzQ 36 13 ?_ ?_ (fun e => by cases e) ?_
  rotate_left
  ·intro w' hSw; go_simp; try with_reducible rfl
  try simp only [pA,pE,pB,pC,pD]
  refine rzP [14] ?_
  refine consPs _ rfl (by kernel_rfl) (hopL rfl (wpList_store_at (by rfl) 24 _ _ (by rfl) w w.heap.size D 3 v6 _ #[.int .i64 N, slN n bc, v4, v6, slN n br, .bool false] 26 (by kernel_rfl) (by kernel_rfl) e7 b7 hDl 1 Tryz.szFss (by rw [(own_valJ L6.g).2]; rfl) (Nat.le_of_ble_eq_true rfl) (by intro u hu; rw [(own_valJ L6.g).2] at hu; simp only [List.mem_cons, List.not_mem_nil, or_false] at hu; subst hu; exact (own_valJ L6.g).1) (by rw [(own_valJ L6.g).2]; rfl) fun w8 e8 b8 s8 k8 => ?_)) AllReadyP.nil
  refine (And.intro trivial ?_ : _ /\ _)
  try simp only [pA,pE,pB,pC,pD]
  refine wpAnyP_done (by kernel_rfl) ?_ _
  try simp only [pA,pE,pB,pC,pD]
  have kk : ∀ k, k ≠ D -> w8.heap[k]? = w6.heap[k]? := fun k hk => (k8 k hk).trans (k7 k hk)
  have L8 := L6.keep (w' := w8) fun k cur t ht hc => kk k (by rintro rfl; rw [hS6] at hc; cases hc; exact ht rfl)
  have zk : ∀ (k : Nat) (cur : Array Value), k ≠ D -> W.heap[k]? = some (.cells cur 26) -> w8.heap[k]? = some (.cells cur 26) := fun k cur hk hc => by
   have h1 := (t4 k cur _ (by decide) hc).trans hc
   have h2 := kept q5 h1
   exact (kk k hk).trans ((t6 k cur _ (by decide) h2).trans h2)
  have hko : KeepsOthers W w8 := ⟨by rw [s8, s7]; exact Nat.le_trans q4.size (Nat.le_trans q5.size q6.size), fun k o hk hc => by
   have hkD : k ≠ D := by rintro rfl; rw [show W.heap[k]? = _ from hS0] at hk; cases hk; cases hc
   exact (kk k hkD).trans (k6 k o ((q5.block k (blk_lt (k4 k o hk hc))).trans (k4 k o hk hc)) hc)⟩
  have b8W : Below w.heap.size W w8 := ⟨b8.os.trans hB.os.symm, b8.tape.trans hB.tape.symm, b8.output.trans hB.output.symm, hko.1, fun k hk => (b8.block k hk).trans (hB.block k hk).symm⟩
  have z5 := zk _ _ (Nat.ne_of_gt hDX5) h2
  have z6 := zk _ _ hD1 h3
  refine ⟨hko, ⟨b8W, z5.trans h2.symm⟩, ⟨⟨v4, v6, gl ++ [b], e8, ?_⟩, z5, z6⟩, b8⟩
  rw [<- hxi] at L8
  rw [List.map_append, List.map_append]
  exact L8
 case done =>
  rintro Dd ys W hD rfl ⟨⟨⟨vi, vg, gl, h1, hL⟩, h2, h3⟩, hB⟩ hK
  rw [map_getD ids 0 dn HLN.out.1, map_getD2 gs [] (·.map plainM) dn HLN.out.2] at hL
  have hDw : w.heap.size <= Dd := Nat.le_trans V2.size hD
  have HH : Hid _ := And.intro h1 (And.intro hL h3)
  clear h1 h2 h3 hL V1 V3 V4 V5 HGa HZ
  go_wp2_with (first
   | (refine wpList_load_row (by rfl) 26 _ (by rfl) D _ (by rfl) HH.out.1 _ Tryz.underlying26 rfl 6 Tryz.infoZ (by rfl) ?_)
   | (refine wpList_store_row (by rfl) 26 _ _ (by rfl) w w.heap.size (w.heap.size + 1) _ _ (by rfl) (by rfl) HH.out.2.2 hB (Nat.le_succ _) 6 Tryz.infoZ (by rfl) (by rfl) (oneZ _ _ _ _ _ rfl (own_valJ HH.out.2.1.i).1 (own_valJ HH.out.2.1.g).1 rfl _) ?_; intro W9 e9 b9 s9 o9))
  have hK9 : W9.heap[Dd]? = some (.deferred (some [])) := (o9 Dd (by rintro rfl; rw [HH.out.2.2] at hK; cases hK)).trans hK
  refine ⟨by simp, .inl ⟨_, _, rfl, run_takeDeferred hK9, ?_⟩⟩
  have hgr := grownBy_putObj' W9 Dd (.deferred none)
  have hrr : ∀ r, some Dd = some r -> ∃ o, W9.heap[r]? = some o /\ o.isCells = false := fun r e => by cases e; exact ⟨_, hK9, rfl⟩
  have L9 := HH.out.2.1.keep (w' := W9) fun k cur t ht hc => o9 k (by rintro rfl; rw [HH.out.2.2] at hc; cases hc; exact ht rfl)
  exact ⟨_, res_oneJ _ 2 26 (by kernel_rfl) _ _ (w.heap.size + 1) _ (by rfl) _ Tryz.underlying26 rfl 6 Tryz.infoZ rfl (heap_keptJ e9 hgr hrr), bc, br, vi, vg, gl, rfl, L9.kept hgr hrr, b9.trans (belowK_b (w := w) (Nat.le_refl _) W9 Dd _ _ hDw hK9 rfl rfl)⟩
 case stop =>
  rintro D c pre W _ _ h _
  exact h.elim
theorem makePT (n : Nat) (hn : n <= 4000000) (w : World) :
  (Instr.makeSlice 103 (.int .i64 (n : Int)) (.int .i64 (n : Int))).run Tryz.prog w = .ok (.slice (some ⟨w.heap.size, 0, none⟩) n n) (w.alloc (.cells (ptN n) 104)) := by
 obtain ⟨i0, hi, hz0, hz1, hz2⟩ := info3J Tryz.infoPJ
 have h := run_makeSlice (P := Tryz.prog) w 103 104 i0 (.pointer none) Tryz.underlying103 hi hz0 .i64 .i64 (n : Int) (n : Int) (by omega) (by omega) (by rw [hz1, Int.toNat_natCast]; omega) (by rw [hz2]; omega) (by omega)
 rw [Int.toNat_natCast, hz1, Nat.mul_one] at h
 exact h
theorem Tryz.infoIT : (Tryz.prog.info? 3).map (fun i => (i.zero, i.size, i.bytes)) = some (some (.int .i64 0), 1, 8) := by kernel_rfl
def izN (n : Nat) : Array Value := madeCells #[.int .i64 0] n
theorem izN_at (n j : Nat) (h : j < n) : (izN n)[j]? = some (.int .i64 0) := by unfold izN madeCells; simp [h, Nat.mod_one]
theorem makeIT (n : Nat) (hn : n <= 4000000) (w : World) :
  (Instr.makeSlice 23 (.int .i64 (n : Int)) (.int .i64 (n : Int))).run Tryz.prog w = .ok (.slice (some ⟨w.heap.size, 0, none⟩) n n) (w.alloc (.cells (izN n) 3)) := by
 obtain ⟨i0, hi, hz0, hz1, hz2⟩ := info3J Tryz.infoIT
 have h := run_makeSlice (P := Tryz.prog) w 23 3 i0 (.int .i64 0) Tryz.underlying23 hi hz0 .i64 .i64 (n : Int) (n : Int) (by omega) (by omega) (by rw [hz1, Int.toNat_natCast]; omega) (by rw [hz2]; omega) (by omega)
 rw [Int.toNat_natCast, hz1, Nat.mul_one] at h
 exact h
theorem ex_makeT {P : Program} {ρ : Operand -> Value} (o : Oper) (t : TypeId) (x y : Operand) (ho : o.op = .makeSlice t x y) (u1 u2 : Value) (hx : ρ x = u1) (hy : ρ y = u2) (v : Value) (w w' : World) (h : (Instr.makeSlice t u1 u2).run P w = .ok v w') : (execOp ρ o).run P w = .ok (.value v) w' := by
 unfold execOp
 simp only [ho, hx, hy, h, Sem.run_bind, Sem.run_pure, Result.andThen_ok]
theorem hopMT {P : Program} {ops : Array Oper} {Q : Exit -> Act -> World -> Prop} {i : Nat} {o : Oper} {K : Act -> World -> Prop} {a : Act} {w : World} (d : Nat) (ho : ops[i]? = some o) (hg : o.guard = none) (hd : o.dst = some d) (t te : TypeId) (x y : Operand) (n : Nat) (hop : o.op = .makeSlice t x y) (hx : a.eval x = .int .i64 (n : Int)) (hy : a.eval y = .int .i64 (n : Int)) (z : Array Value)
  (hz : ∀ w, (Instr.makeSlice t (.int .i64 (n : Int)) (.int .i64 (n : Int))).run P w = .ok (.slice (some ⟨w.heap.size, 0, none⟩) n n) (w.alloc (.cells z te)))
  (h : ∀ D W', W'.heap[D]? = some (.cells z te) -> w.heap.size <= D -> Below w.heap.size w W' -> K (a.put (some d) (.slice (some ⟨D, 0, none⟩) n n)) W') : wpOp P ops Q i K a w :=
 hopV d ho hg hd (ex_makeT _ t x y hop _ _ hx hy _ _ _ (hz w)) (h _ _ (heap_alloc_new w _) (Nat.le_refl _) ((Below.refl _ w).alloc (Nat.le_refl _) _))
theorem allocLT (w : World) : (Instr.alloc 103 true (.tuple #[])).run Tryz.prog w = .ok (.pointer (some ⟨w.heap.size, 0, none⟩)) (w.alloc (.cells #[.slice none 0 0] 103)) := by kernel_rfl
theorem Tryz.szL1 : (Tryz.prog.info? 103).map (·.size) = some 1 := by kernel_rfl
theorem Tryz.szI1 : (Tryz.prog.info? 3).map (·.size) = some 1 := by kernel_rfl
theorem Tryz.szP1 : (Tryz.prog.info? 104).map (·.size) = some 1 := by kernel_rfl
theorem one_sl (a : Option Addr) (l c : Nat) : ∀ u ∈ (Value.slice a l c).cells.toList, u.oneCell' = true := by
 intro u hu
 have : u = .slice a l c := by simpa [Value.cells] using hu
 rw [this]; rfl
theorem one_pt (a : Option Addr) : ∀ u ∈ (Value.pointer a).cells.toList, u.oneCell' = true := by
 intro u hu
 have : u = .pointer a := by simpa [Value.cells] using hu
 rw [this]; rfl
theorem one_in (x : Int) : ∀ u ∈ (Value.int .i64 x).cells.toList, u.oneCell' = true := by
 intro u hu
 have : u = .int .i64 x := by simpa [Value.cells] using hu
 rw [this]; rfl
def upN (n k : Nat) : Array Value := ((List.range n).map fun j => Value.int .i64 (if j < k then (j : Int) else 0)).toArray
theorem upN_size (n k : Nat) : (upN n k).size = n := by unfold upN; simp
theorem upN_zero (n : Nat) : izN n = upN n 0 := by
 apply Array.ext_getElem?
 intro j
 by_cases h : j < n
 ·rw [izN_at n j h]; unfold upN; simp [h]
 ·rw [Array.getElem?_eq_none (by unfold izN madeCells; simp; omega), Array.getElem?_eq_none (by rw [upN_size]; omega)]
theorem upN_set (n k : Nat) (h : k < n) : ((upN n k).toList.take k ++ (Value.int .i64 (k : Int)).cells.toList ++ (upN n k).toList.drop (k + 1)).toArray = upN n (k + 1) := by
 apply Array.ext_getElem?
 intro j
 have hl : (upN n k).toList.length = n := by rw [Array.length_toList, upN_size]
 have hc : (Value.int .i64 (k : Int)).cells.toList = [.int .i64 (k : Int)] := rfl
 rw [hc]
 simp only [List.getElem?_toArray]
 by_cases h1 : j < k
 ·rw [List.append_assoc, List.getElem?_append_left (by simp [hl]; omega), List.getElem?_take_of_lt h1]
  unfold upN
  have h3 : j < n := by omega
  have h2 : j < k + 1 := by omega
  simp [h1, h3, h2]
 ·by_cases h2 : j = k
  ·subst h2
   rw [List.getElem?_append_left (by simp [hl]; omega), List.getElem?_append_right (by simp [hl]; omega)]
   unfold upN
   have h3 : min j n = j := by omega
   simp [h, h3]
  ·have hlen : ((upN n k).toList.take k ++ [Value.int .i64 (k : Int)]).length = k + 1 := by simp [hl]; omega
   rw [List.getElem?_append_right (by omega), hlen, List.getElem?_drop]
   by_cases h3 : j < n
   ·have h4 : k + 1 + (j - (k + 1)) = j := by omega
    rw [h4]
    unfold upN
    have h5 : ¬ j < k := by omega
    have h6 : ¬ j < k + 1 := by omega
    simp [h3, h5, h6]
   ·rw [List.getElem?_eq_none (by omega), Array.getElem?_eq_none (by rw [upN_size]; omega)]
structure BlR (w W : World) (z : ZD) (n k P G L : Nat) (p : Nat -> Nat) (v : Nat -> Int) : Prop where
 pl : W.heap[P]? = some (.cells (upN n k) 3)
 box : W.heap[L]? = some (.cells #[.slice (some ⟨G, 0, none⟩) n n] 103)
 row : ∃ c : Array Value, W.heap[G]? = some (.cells c 104) /\ c.size = n /\ ∀ j, j < k -> c[j]? = some (.pointer (some ⟨p j, 0, none⟩))
 acc : ∀ j, j < k -> AccO W (p j) (some (v j))
 ne : P ≠ G /\ P ≠ L /\ G ≠ L /\ w.heap.size <= P /\ w.heap.size <= G /\ w.heap.size <= L
 pne : ∀ j, j < k -> p j ≠ P /\ p j ≠ G
 zb : W.heap[w.heap.size]? = some (.cells #[.int .i64 z.N, .slice z.co z.cn z.cc, .slice z.io z.dn z.dc, .slice z.go z.gn z.gc, .slice z.ro z.rn z.rc, .bool z.bad] 26) /\ P ≠ w.heap.size /\ G ≠ w.heap.size
 bel : Below w.heap.size w W
theorem BlR.ls {w W : World} {z : ZD} {n P G L : Nat} {p : Nat -> Nat} {v : Nat -> Int} (h : BlR w W z n n P G L p v) : LsR W L G n p v := by
 obtain ⟨c, hc, hs, hp⟩ := h.row
 exact ⟨cellAtJ h.box 0 _ rfl, fun j hj => cellAtJ hc j _ (hp j hj), h.acc⟩
theorem BlR.later {w W W' : World} {z : ZD} {n k P G L : Nat} {p : Nat -> Nat} {v : Nat -> Int} (h : BlR w W z n k P G L p v) (hb : Below W.heap.size W W') : BlR w W' z n k P G L p v := by
 obtain ⟨c, hc, hs, hp⟩ := h.row
 exact ⟨kept hb h.pl, kept hb h.box, ⟨c, kept hb hc, hs, hp⟩, fun j hj => (h.acc j hj).heap (hb.block _ (h.acc j hj).block), h.ne, h.pne, ⟨kept hb h.zb.1, h.zb.2⟩, to_call h.bel hb⟩
theorem BlR.push {w W W1 W2 W3 : World} {z : ZD} {n k P G L : Nat} {p : Nat -> Nat} {v : Nat -> Int} (h : BlR w W z n k P G L p v) (hk : k < n) (b1 : Below W.heap.size W W1) (a1 : AccO W1 W.heap.size (some (v k))) (hs1 : W.heap.size < W1.heap.size)
  (e2 : W2.heap[P]? = some (.cells (upN n (k + 1)) 3)) (o2 : ∀ i, i ≠ P -> W2.heap[i]? = W1.heap[i]?) (bel2 : Below w.heap.size w W2) {c d : Array Value} (hc : W.heap[G]? = some (.cells c 104)) (hs : c.size = n) (hp : ∀ j, j < k -> c[j]? = some (.pointer (some ⟨p j, 0, none⟩))) (hd : d.size = c.size /\ d[k]? = some (.pointer (some ⟨W.heap.size, 0, none⟩)) /\ ∀ j, j ≠ k -> d[j]? = c[j]?)
  (e3 : W3.heap[G]? = some (.cells d 104)) (o3 : ∀ i, i ≠ G -> W3.heap[i]? = W2.heap[i]?) (bel3 : Below w.heap.size w W3) : BlR w W3 z n (k + 1) P G L (fun j => if j = k then W.heap.size else p j) v := by
 obtain ⟨n1, n2, n3, n4, n5, n6⟩ := h.ne
 have hP := blk_lt h.pl
 have hL := blk_lt h.box
 have hG := blk_lt hc
 refine ⟨(o3 P n1).trans e2, (o3 L (Ne.symm n3)).trans ((o2 L (Ne.symm n2)).trans (kept b1 h.box)), ⟨d, e3, hd.1.trans hs, fun j hj => ?_⟩, fun j hj => ?_, h.ne, fun j hj => ?_, ⟨(o3 _ (Ne.symm h.zb.2.2)).trans ((o2 _ (Ne.symm h.zb.2.1)).trans (kept b1 h.zb.1)), h.zb.2⟩, bel3⟩
 ·by_cases e : j = k
  ·subst e; simp only [if_true]; exact hd.2.1
  ·simp only [if_neg e]; rw [hd.2.2 j e]; exact hp j (by omega)
 ·by_cases e : j = k
  ·subst e; simp only [if_true]; exact (a1.heap (o2 _ (by omega))).heap (o3 _ (by omega))
  ·simp only [if_neg e]
   have hj' : j < k := by omega
   have hb := (h.acc j hj').block
   exact (((h.acc j hj').heap (b1.block _ hb)).heap (o2 _ (h.pne j hj').1)).heap (o3 _ (h.pne j hj').2)
 ·by_cases e : j = k
  ·subst e; simp only [if_true]; exact ⟨by omega, by omega⟩
  ·simp only [if_neg e]; exact h.pne j (by omega)
def lsZ (z : ZD) (k : Nat) : Int := lossV (z.gs[k]?.getD [])
theorem byLossA (a : Nat) (ha : a = 1166) (z : ZD) (w : World) (hz : ZR w z) (hgn : z.gn <= 4000000) (hf : ∀ k j : Nat, Fin ((z.gs[k]?.getD [])[j]?.getD 0)) (hl : ∀ k, k < z.gn -> (z.gs[k]?.getD []).length <= 1050000) (R : Ending -> World -> Prop)
  (hsort : ∀ W P G L p, BlR w W z z.gn z.gn P G L p (fun k => lsZ z k * ((2 ^ a : Nat) : Int)) -> Calls Tryz.prog 59 #[.slice (some ⟨P, 0, none⟩) z.gn z.gn, .func (.func 60) #[] #[.pointer (some ⟨L, 0, none⟩)]] W fun e w' => e = .returned (.tuple #[]) /\ R (.returned (.slice (some ⟨P, 0, none⟩) z.gn z.gn)) w') :
  Calls Tryz.prog 32 #[.agg #[.int .i64 z.N, .slice z.co z.cn z.cc, .slice z.io z.dn z.dc, .slice z.go z.gn z.gc, .slice z.ro z.rn z.rc, .bool z.bad]] w R := by
 have HA : Hid (a = 1166) := ha
 have HZ : Hid (∀ W', Below w.heap.size w W' -> ZR W' z) := fun W' hb => hz.later hb
 have HF : Hid ((∀ k j : Nat, Fin ((z.gs[k]?.getD [])[j]?.getD 0)) /\ ∀ k, k < z.gn -> (z.gs[k]?.getD []).length <= 1050000) := ⟨hf, hl⟩
 have HS : Hid (∀ W P G L p, BlR w W z z.gn z.gn P G L p (fun k => lsZ z k * ((2 ^ a : Nat) : Int)) -> Calls Tryz.prog 59 #[.slice (some ⟨P, 0, none⟩) z.gn z.gn, .func (.func 60) #[] #[.pointer (some ⟨L, 0, none⟩)]] W fun e w' => e = .returned (.tuple #[]) /\ R (.returned (.slice (some ⟨P, 0, none⟩) z.gn z.gn)) w') := hsort
 have hmx : z.gn <= 9223372036854775807 := by omega
 clear ha hz hf hl hsort
 obtain ⟨N, co, cn, cc, io, dn, dc, go, gn, gc, ro, rn, rc, bad, cs, ids, gv, gs, rs⟩ := z
 dsimp only at hgn hmx HF ⊢
 have X0 : Below w.heap.size w (w.alloc (.cells #[.int .i64 N, .slice co cn cc, .slice io dn dc, .slice go gn gc, .slice ro rn rc, .bool bad] 26)) := (Below.refl _ w).alloc (Nat.le_refl _) _
 have Y0 : (w.alloc (.cells #[.int .i64 N, .slice co cn cc, .slice io dn dc, .slice go gn gc, .slice ro rn rc, .bool bad] 26)).heap[w.heap.size]? = some (.cells #[.int .i64 N, .slice co cn cc, .slice io dn dc, .slice go gn gc, .slice ro rn rc, .bool bad] 26) := heap_alloc_new w _
 go_enter Tryz.func32, Tryz.ntmps32
 go_upto_region 1 with fail
 obtain ⟨Y, hY⟩ : ∃ Y, w.alloc (.cells #[.int .i64 N, .slice co cn cc, .slice io dn dc, .slice go gn gc, .slice ro rn rc, .bool bad] 26) = Y := ⟨_, rfl⟩
 rw [hY] at X0 Y0 ⊢
 have HY : Hid (Below w.heap.size w Y /\ Y.heap[w.heap.size]? = some (.cells #[.int .i64 N, .slice co cn cc, .slice io dn dc, .slice go gn gc, .slice ro rn rc, .bool bad] 26)) := ⟨X0, Y0⟩
 have hYs : w.heap.size < Y.heap.size := blk_lt Y0
 clear hY X0
 have c3 : Y.cell? ⟨w.heap.size, 3, none⟩ = some (.slice go gn gc) := cellAtJ Y0 3 _ rfl
 clear Y0
 go_cut [3, 4] (fun v3 v4 wx => ∃ P G L : Nat, v3 = .slice (some ⟨P, 0, none⟩) gn gn /\ v4 = .pointer (some ⟨L, 0, none⟩) /\ Hid (BlR w wx (⟨N, co, cn, cc, io, dn, dc, go, gn, gc, ro, rn, rc, bad, cs, ids, gv, gs, rs⟩ : ZD) gn 0 P G L (fun _ => 0) (fun k => lsZ (⟨N, co, cn, cc, io, dn, dc, go, gn, gc, ro, rn, rc, bad, cs, ids, gv, gs, rs⟩ : ZD) k * ((2 ^ a : Nat) : Int))))
 case first =>
  have bX : Below Y.heap.size Y Y.drew := (Below.refl _ _).drew
  refine wp_region_noPanic ?_
  refine wp_region_held_drew (S := (fun V => Below Y.heap.size Y V)) (by kernel_rfl) bX (fun _ => ?_)
  refine tzI 7 0 ?_ ?_ bX ?_
  rotate_left
  ·intro w' hSw; have s0 := cellT c3 hSw; go_simp; try with_reducible rfl
  try simp only [pA,pE,pB,pC,pD]
  refine tzI 8 1 ?_ ?_ bX ?_
  rotate_left
  ·intro w' hSw; have s0 := cellT c3 hSw; go_simp; try with_reducible rfl
  try simp only [pA,pE,pB,pC,pD]
  refine tzI 9 2 ?_ ?_ bX ?_
  rotate_left
  ·intro w' hSw; have s0 := cellT c3 hSw; go_simp; try with_reducible rfl
  try simp only [pA,pE,pB,pC,pD]
  refine tzI 11 4 ?_ ?_ bX ?_
  rotate_left
  ·intro w' hSw; have s0 := cellT c3 hSw; go_simp; try with_reducible rfl
  try simp only [pA,pE,pB,pC,pD]
  refine tzI 12 5 ?_ ?_ bX ?_
  rotate_left
  ·intro w' hSw; have s0 := cellT c3 hSw; go_simp; try with_reducible rfl
  try simp only [pA,pE,pB,pC,pD]
  refine tzI 13 6 ?_ ?_ bX ?_
  rotate_left
  ·intro w' hSw; have s0 := cellT c3 hSw; go_simp; try with_reducible rfl
  try simp only [pA,pE,pB,pC,pD]
  obtain ⟨V, hV⟩ : ∃ V, Y.drew = V := ⟨_, rfl⟩
  have bV : Below Y.heap.size Y V := hV ▸ bX
  rw [hV]
  clear hV bX
  refine rzH [3, 7, 8] ?_
  refine consH _ rfl ?_ (consH _ rfl ?_ (consH _ rfl ?_ AllReadyH.nil))
  ·refine hopMT 10 rfl rfl rfl 23 3 _ _ gn rfl (by kernel_rfl) (by kernel_rfl) (izN gn) (makeIT gn hgn) fun P V1 hPV1 hlP hb => ?_
   have bV1 : Below Y.heap.size Y V1 := bV.trans (hb.mono bV.size)
   have gP : Y.heap.size <= P := Nat.le_trans bV.size hlP
   clear hb hlP
   refine ⟨bV1, ?_⟩
   try simp only [pA,pE,pB,pC,pD]
   refine rzH [7, 8] ?_
   refine consH _ rfl ?_ (consH _ rfl ?_ AllReadyH.nil)
   ·refine hopMT 14 rfl rfl rfl 103 104 _ _ gn rfl (by kernel_rfl) (by kernel_rfl) (ptN gn) (makePT gn hgn) fun G V2 hGV2 hlG hb => ?_
    have hPV2 := kept hb hPV1
    have nGP : G ≠ P := by have := blk_lt hPV1; omega
    have bV2 : Below Y.heap.size Y V2 := bV1.trans (hb.mono bV1.size)
    have gG : Y.heap.size <= G := Nat.le_trans bV1.size hlG
    clear hb hlG
    refine ⟨bV2, ?_⟩
    try simp only [pA,pE,pB,pC,pD]
    refine rzH [8] ?_
    refine consH _ rfl ?_ AllReadyH.nil
    refine hopAJ 4 rfl rfl rfl 103 rfl #[.slice none 0 0] allocLT fun L V3 hLV3 hlL hb => ?_
    have hPV3 := kept hb hPV2
    have hGV3 := kept hb hGV2
    have nLP : L ≠ P := by have := blk_lt hPV2; omega
    have nLG : L ≠ G := by have := blk_lt hGV2; omega
    have bV3 : Below Y.heap.size Y V3 := bV2.trans (hb.mono bV2.size)
    have gL : Y.heap.size <= L := Nat.le_trans bV2.size hlL
    clear hb hlL
    refine ⟨bV3, ?_⟩
    try simp only [pA,pE,pB,pC,pD]
    refine tzH 3 9 (.slice (some ⟨P, 0, none⟩) gn gn) (Or.inl ⟨by kernel_rfl, fun w' _ => by kernel_rfl⟩) bV3 ?_
    try simp only [pA,pE,pB,pC,pD]
    refine rzH [10] ?_
    refine consH _ rfl (hopL rfl (wpList_store_at (by rfl) 103 _ _ (by rfl) Y Y.heap.size L 0 (.slice (some ⟨G, 0, none⟩) gn gn) _ #[.slice (some ⟨G, 0, none⟩) gn gn] 103 (by kernel_rfl) (by kernel_rfl) hLV3 bV3 gL 1 Tryz.szL1 rfl (by simp) (one_sl _ _ _) rfl fun W9 e9 b9 hs9 ho9 => ?_)) AllReadyH.nil
    refine (And.intro b9 ?_ : _ /\ _)
    try simp only [pA,pE,pB,pC,pD]
    refine wpAnyH_done (by kernel_rfl) ?_ _
    refine NoPanic.normal ?_
    try simp only [pA,pE,pB,pC,pD]
    go_wp2_with fail
    go_meet
    exact ⟨P, G, L, rfl, rfl, ⟨(ho9 P (Ne.symm nLP)).trans (hPV3.trans (by rw [upN_zero])), e9, ⟨_, (ho9 G (Ne.symm nLG)).trans hGV3, (by unfold ptN madeCells; simp), fun j hj => by omega⟩, fun j hj => by omega, ⟨(Ne.symm nGP), (Ne.symm nLP), (Ne.symm nLG), by omega, by omega, by omega⟩, fun j hj => by omega, ⟨kept b9 HY.out.2, by omega, by omega⟩, to_call HY.out.1 b9⟩⟩
   ·refine hopAJ 4 rfl rfl rfl 103 rfl #[.slice none 0 0] allocLT fun L V4 hLV4 hlL hb => ?_
    have hPV4 := kept hb hPV1
    have nLP : L ≠ P := by have := blk_lt hPV1; omega
    have bV4 : Below Y.heap.size Y V4 := bV1.trans (hb.mono bV1.size)
    have gL : Y.heap.size <= L := Nat.le_trans bV1.size hlL
    clear hb hlL
    refine ⟨bV4, ?_⟩
    try simp only [pA,pE,pB,pC,pD]
    refine tzH 3 9 (.slice (some ⟨P, 0, none⟩) gn gn) (Or.inl ⟨by kernel_rfl, fun w' _ => by kernel_rfl⟩) bV4 ?_
    try simp only [pA,pE,pB,pC,pD]
    refine rzH [7] ?_
    refine consH _ rfl ?_ AllReadyH.nil
    refine hopMT 14 rfl rfl rfl 103 104 _ _ gn rfl (by kernel_rfl) (by kernel_rfl) (ptN gn) (makePT gn hgn) fun G V5 hGV5 hlG hb => ?_
    have hPV5 := kept hb hPV4
    have hLV5 := kept hb hLV4
    have nGP : G ≠ P := by have := blk_lt hPV4; omega
    have nGL : G ≠ L := by have := blk_lt hLV4; omega
    have bV5 : Below Y.heap.size Y V5 := bV4.trans (hb.mono bV4.size)
    have gG : Y.heap.size <= G := Nat.le_trans bV4.size hlG
    clear hb hlG
    refine ⟨bV5, ?_⟩
    try simp only [pA,pE,pB,pC,pD]
    refine rzH [10] ?_
    refine consH _ rfl (hopL rfl (wpList_store_at (by rfl) 103 _ _ (by rfl) Y Y.heap.size L 0 (.slice (some ⟨G, 0, none⟩) gn gn) _ #[.slice (some ⟨G, 0, none⟩) gn gn] 103 (by kernel_rfl) (by kernel_rfl) hLV5 bV5 gL 1 Tryz.szL1 rfl (by simp) (one_sl _ _ _) rfl fun W9 e9 b9 hs9 ho9 => ?_)) AllReadyH.nil
    refine (And.intro b9 ?_ : _ /\ _)
    try simp only [pA,pE,pB,pC,pD]
    refine wpAnyH_done (by kernel_rfl) ?_ _
    refine NoPanic.normal ?_
    try simp only [pA,pE,pB,pC,pD]
    go_wp2_with fail
    go_meet
    exact ⟨P, G, L, rfl, rfl, ⟨(ho9 P (Ne.symm nLP)).trans (hPV5.trans (by rw [upN_zero])), e9, ⟨_, (ho9 G nGL).trans hGV5, (by unfold ptN madeCells; simp), fun j hj => by omega⟩, fun j hj => by omega, ⟨(Ne.symm nGP), (Ne.symm nLP), nGL, by omega, by omega, by omega⟩, fun j hj => by omega, ⟨kept b9 HY.out.2, by omega, by omega⟩, to_call HY.out.1 b9⟩⟩
  ·refine hopMT 14 rfl rfl rfl 103 104 _ _ gn rfl (by kernel_rfl) (by kernel_rfl) (ptN gn) (makePT gn hgn) fun G V6 hGV6 hlG hb => ?_
   have bV6 : Below Y.heap.size Y V6 := bV.trans (hb.mono bV.size)
   have gG : Y.heap.size <= G := Nat.le_trans bV.size hlG
   clear hb hlG
   refine ⟨bV6, ?_⟩
   try simp only [pA,pE,pB,pC,pD]
   refine rzH [3, 8] ?_
   refine consH _ rfl ?_ (consH _ rfl ?_ AllReadyH.nil)
   ·refine hopMT 10 rfl rfl rfl 23 3 _ _ gn rfl (by kernel_rfl) (by kernel_rfl) (izN gn) (makeIT gn hgn) fun P V7 hPV7 hlP hb => ?_
    have hGV7 := kept hb hGV6
    have nPG : P ≠ G := by have := blk_lt hGV6; omega
    have bV7 : Below Y.heap.size Y V7 := bV6.trans (hb.mono bV6.size)
    have gP : Y.heap.size <= P := Nat.le_trans bV6.size hlP
    clear hb hlP
    refine ⟨bV7, ?_⟩
    try simp only [pA,pE,pB,pC,pD]
    refine rzH [8] ?_
    refine consH _ rfl ?_ AllReadyH.nil
    refine hopAJ 4 rfl rfl rfl 103 rfl #[.slice none 0 0] allocLT fun L V8 hLV8 hlL hb => ?_
    have hGV8 := kept hb hGV7
    have hPV8 := kept hb hPV7
    have nLG : L ≠ G := by have := blk_lt hGV7; omega
    have nLP : L ≠ P := by have := blk_lt hPV7; omega
    have bV8 : Below Y.heap.size Y V8 := bV7.trans (hb.mono bV7.size)
    have gL : Y.heap.size <= L := Nat.le_trans bV7.size hlL
    clear hb hlL
    refine ⟨bV8, ?_⟩
    try simp only [pA,pE,pB,pC,pD]
    refine tzH 3 9 (.slice (some ⟨P, 0, none⟩) gn gn) (Or.inl ⟨by kernel_rfl, fun w' _ => by kernel_rfl⟩) bV8 ?_
    try simp only [pA,pE,pB,pC,pD]
    refine rzH [10] ?_
    refine consH _ rfl (hopL rfl (wpList_store_at (by rfl) 103 _ _ (by rfl) Y Y.heap.size L 0 (.slice (some ⟨G, 0, none⟩) gn gn) _ #[.slice (some ⟨G, 0, none⟩) gn gn] 103 (by kernel_rfl) (by kernel_rfl) hLV8 bV8 gL 1 Tryz.szL1 rfl (by simp) (one_sl _ _ _) rfl fun W9 e9 b9 hs9 ho9 => ?_)) AllReadyH.nil
    refine (And.intro b9 ?_ : _ /\ _)
    try simp only [pA,pE,pB,pC,pD]
    refine wpAnyH_done (by kernel_rfl) ?_ _
    refine NoPanic.normal ?_
    try simp only [pA,pE,pB,pC,pD]
    go_wp2_with fail
    go_meet
    exact ⟨P, G, L, rfl, rfl, ⟨(ho9 P (Ne.symm nLP)).trans (hPV8.trans (by rw [upN_zero])), e9, ⟨_, (ho9 G (Ne.symm nLG)).trans hGV8, (by unfold ptN madeCells; simp), fun j hj => by omega⟩, fun j hj => by omega, ⟨nPG, (Ne.symm nLP), (Ne.symm nLG), by omega, by omega, by omega⟩, fun j hj => by omega, ⟨kept b9 HY.out.2, by omega, by omega⟩, to_call HY.out.1 b9⟩⟩
   ·refine hopAJ 4 rfl rfl rfl 103 rfl #[.slice none 0 0] allocLT fun L V9 hLV9 hlL hb => ?_
    have hGV9 := kept hb hGV6
    have nLG : L ≠ G := by have := blk_lt hGV6; omega
    have bV9 : Below Y.heap.size Y V9 := bV6.trans (hb.mono bV6.size)
    have gL : Y.heap.size <= L := Nat.le_trans bV6.size hlL
    clear hb hlL
    refine ⟨bV9, ?_⟩
    try simp only [pA,pE,pB,pC,pD]
    refine rzH [3] ?_
    refine consH _ rfl ?_ AllReadyH.nil
    refine hopMT 10 rfl rfl rfl 23 3 _ _ gn rfl (by kernel_rfl) (by kernel_rfl) (izN gn) (makeIT gn hgn) fun P V10 hPV10 hlP hb => ?_
    have hGV10 := kept hb hGV9
    have hLV10 := kept hb hLV9
    have nPG : P ≠ G := by have := blk_lt hGV9; omega
    have nPL : P ≠ L := by have := blk_lt hLV9; omega
    have bV10 : Below Y.heap.size Y V10 := bV9.trans (hb.mono bV9.size)
    have gP : Y.heap.size <= P := Nat.le_trans bV9.size hlP
    clear hb hlP
    refine ⟨bV10, ?_⟩
    try simp only [pA,pE,pB,pC,pD]
    refine tzH 3 9 (.slice (some ⟨P, 0, none⟩) gn gn) (Or.inl ⟨by kernel_rfl, fun w' _ => by kernel_rfl⟩) bV10 ?_
    try simp only [pA,pE,pB,pC,pD]
    refine rzH [10] ?_
    refine consH _ rfl (hopL rfl (wpList_store_at (by rfl) 103 _ _ (by rfl) Y Y.heap.size L 0 (.slice (some ⟨G, 0, none⟩) gn gn) _ #[.slice (some ⟨G, 0, none⟩) gn gn] 103 (by kernel_rfl) (by kernel_rfl) hLV10 bV10 gL 1 Tryz.szL1 rfl (by simp) (one_sl _ _ _) rfl fun W9 e9 b9 hs9 ho9 => ?_)) AllReadyH.nil
    refine (And.intro b9 ?_ : _ /\ _)
    try simp only [pA,pE,pB,pC,pD]
    refine wpAnyH_done (by kernel_rfl) ?_ _
    refine NoPanic.normal ?_
    try simp only [pA,pE,pB,pC,pD]
    go_wp2_with fail
    go_meet
    exact ⟨P, G, L, rfl, rfl, ⟨(ho9 P nPL).trans (hPV10.trans (by rw [upN_zero])), e9, ⟨_, (ho9 G (Ne.symm nLG)).trans hGV10, (by unfold ptN madeCells; simp), fun j hj => by omega⟩, fun j hj => by omega, ⟨nPG, nPL, (Ne.symm nLG), by omega, by omega, by omega⟩, fun j hj => by omega, ⟨kept b9 HY.out.2, by omega, by omega⟩, to_call HY.out.1 b9⟩⟩
  ·refine hopAJ 4 rfl rfl rfl 103 rfl #[.slice none 0 0] allocLT fun L V11 hLV11 hlL hb => ?_
   have bV11 : Below Y.heap.size Y V11 := bV.trans (hb.mono bV.size)
   have gL : Y.heap.size <= L := Nat.le_trans bV.size hlL
   clear hb hlL
   refine ⟨bV11, ?_⟩
   try simp only [pA,pE,pB,pC,pD]
   refine rzH [3, 7] ?_
   refine consH _ rfl ?_ (consH _ rfl ?_ AllReadyH.nil)
   ·refine hopMT 10 rfl rfl rfl 23 3 _ _ gn rfl (by kernel_rfl) (by kernel_rfl) (izN gn) (makeIT gn hgn) fun P V12 hPV12 hlP hb => ?_
    have hLV12 := kept hb hLV11
    have nPL : P ≠ L := by have := blk_lt hLV11; omega
    have bV12 : Below Y.heap.size Y V12 := bV11.trans (hb.mono bV11.size)
    have gP : Y.heap.size <= P := Nat.le_trans bV11.size hlP
    clear hb hlP
    refine ⟨bV12, ?_⟩
    try simp only [pA,pE,pB,pC,pD]
    refine tzH 3 9 (.slice (some ⟨P, 0, none⟩) gn gn) (Or.inl ⟨by kernel_rfl, fun w' _ => by kernel_rfl⟩) bV12 ?_
    try simp only [pA,pE,pB,pC,pD]
    refine rzH [7] ?_
    refine consH _ rfl ?_ AllReadyH.nil
    refine hopMT 14 rfl rfl rfl 103 104 _ _ gn rfl (by kernel_rfl) (by kernel_rfl) (ptN gn) (makePT gn hgn) fun G V13 hGV13 hlG hb => ?_
    have hLV13 := kept hb hLV12
    have hPV13 := kept hb hPV12
    have nGL : G ≠ L := by have := blk_lt hLV12; omega
    have nGP : G ≠ P := by have := blk_lt hPV12; omega
    have bV13 : Below Y.heap.size Y V13 := bV12.trans (hb.mono bV12.size)
    have gG : Y.heap.size <= G := Nat.le_trans bV12.size hlG
    clear hb hlG
    refine ⟨bV13, ?_⟩
    try simp only [pA,pE,pB,pC,pD]
    refine rzH [10] ?_
    refine consH _ rfl (hopL rfl (wpList_store_at (by rfl) 103 _ _ (by rfl) Y Y.heap.size L 0 (.slice (some ⟨G, 0, none⟩) gn gn) _ #[.slice (some ⟨G, 0, none⟩) gn gn] 103 (by kernel_rfl) (by kernel_rfl) hLV13 bV13 gL 1 Tryz.szL1 rfl (by simp) (one_sl _ _ _) rfl fun W9 e9 b9 hs9 ho9 => ?_)) AllReadyH.nil
    refine (And.intro b9 ?_ : _ /\ _)
    try simp only [pA,pE,pB,pC,pD]
    refine wpAnyH_done (by kernel_rfl) ?_ _
    refine NoPanic.normal ?_
    try simp only [pA,pE,pB,pC,pD]
    go_wp2_with fail
    go_meet
    exact ⟨P, G, L, rfl, rfl, ⟨(ho9 P nPL).trans (hPV13.trans (by rw [upN_zero])), e9, ⟨_, (ho9 G nGL).trans hGV13, (by unfold ptN madeCells; simp), fun j hj => by omega⟩, fun j hj => by omega, ⟨(Ne.symm nGP), nPL, nGL, by omega, by omega, by omega⟩, fun j hj => by omega, ⟨kept b9 HY.out.2, by omega, by omega⟩, to_call HY.out.1 b9⟩⟩
   ·refine hopMT 14 rfl rfl rfl 103 104 _ _ gn rfl (by kernel_rfl) (by kernel_rfl) (ptN gn) (makePT gn hgn) fun G V14 hGV14 hlG hb => ?_
    have hLV14 := kept hb hLV11
    have nGL : G ≠ L := by have := blk_lt hLV11; omega
    have bV14 : Below Y.heap.size Y V14 := bV11.trans (hb.mono bV11.size)
    have gG : Y.heap.size <= G := Nat.le_trans bV11.size hlG
    clear hb hlG
    refine ⟨bV14, ?_⟩
    try simp only [pA,pE,pB,pC,pD]
    refine rzH [3] ?_
    refine consH _ rfl ?_ AllReadyH.nil
    refine hopMT 10 rfl rfl rfl 23 3 _ _ gn rfl (by kernel_rfl) (by kernel_rfl) (izN gn) (makeIT gn hgn) fun P V15 hPV15 hlP hb => ?_
    have hLV15 := kept hb hLV14
    have hGV15 := kept hb hGV14
    have nPL : P ≠ L := by have := blk_lt hLV14; omega
    have nPG : P ≠ G := by have := blk_lt hGV14; omega
    have bV15 : Below Y.heap.size Y V15 := bV14.trans (hb.mono bV14.size)
    have gP : Y.heap.size <= P := Nat.le_trans bV14.size hlP
    clear hb hlP
    refine ⟨bV15, ?_⟩
    try simp only [pA,pE,pB,pC,pD]
    refine tzH 3 9 (.slice (some ⟨P, 0, none⟩) gn gn) (Or.inl ⟨by kernel_rfl, fun w' _ => by kernel_rfl⟩) bV15 ?_
    try simp only [pA,pE,pB,pC,pD]
    refine rzH [10] ?_
    refine consH _ rfl (hopL rfl (wpList_store_at (by rfl) 103 _ _ (by rfl) Y Y.heap.size L 0 (.slice (some ⟨G, 0, none⟩) gn gn) _ #[.slice (some ⟨G, 0, none⟩) gn gn] 103 (by kernel_rfl) (by kernel_rfl) hLV15 bV15 gL 1 Tryz.szL1 rfl (by simp) (one_sl _ _ _) rfl fun W9 e9 b9 hs9 ho9 => ?_)) AllReadyH.nil
    refine (And.intro b9 ?_ : _ /\ _)
    try simp only [pA,pE,pB,pC,pD]
    refine wpAnyH_done (by kernel_rfl) ?_ _
    refine NoPanic.normal ?_
    try simp only [pA,pE,pB,pC,pD]
    go_wp2_with fail
    go_meet
    exact ⟨P, G, L, rfl, rfl, ⟨(ho9 P nPL).trans (hPV15.trans (by rw [upN_zero])), e9, ⟨_, (ho9 G nGL).trans hGV15, (by unfold ptN madeCells; simp), fun j hj => by omega⟩, fun j hj => by omega, ⟨nPG, nPL, nGL, by omega, by omega, by omega⟩, fun j hj => by omega, ⟨kept b9 HY.out.2, by omega, by omega⟩, to_call HY.out.1 b9⟩⟩
 case rest =>
  obtain ⟨P, G, L, rfl, rfl, H0⟩ := hcut
  have c3 : wc.cell? ⟨w.heap.size, 3, none⟩ = some (.slice go gn gc) := cellAtJ H0.out.zb.1 3 _ rfl
  go_wp2_with fail
  clear c3
  go_loopg [18] gn (fun g iv wx => ∃ k : Nat, iv = .int .i64 k /\ k + g = gn /\ ∃ p, Hid (BlR w wx (⟨N, co, cn, cc, io, dn, dc, go, gn, gc, ro, rn, rc, bad, cs, ids, gv, gs, rs⟩ : ZD) gn k P G L p (fun k => lsZ (⟨N, co, cn, cc, io, dn, dc, go, gn, gc, ro, rn, rc, bad, cs, ids, gv, gs, rs⟩ : ZD) k * ((2 ^ a : Nat) : Int))))
  case atStart => exact ⟨0, rfl, by omega, _, H0⟩
  case round =>
   clear H0
   obtain ⟨k, rfl, hk, p, HI⟩ := hrel
   by_cases h1 : k < gn
   ·have hd : decide ((k : Int) < (gn : Int)) = true := decide_eq_true (by omega)
    obtain ⟨q, rfl⟩ : ∃ q, gk = q + 1 := ⟨gk - 1, by omega⟩
    have HIG : Hid (k + (q + 1) = gn) := hk
    have h1' : (k : Int) < (gn : Int) := by omega
    clear hk
    have hg := (HZ.out wr HI.out.bel).g
    rcases hg.cells with h0 | ⟨gb, goff, hgo, hgc⟩
    ·dsimp only at h0; omega
    have ga := hgc k h1
    have HG : Hid (RdF wr (gv k).1 (gv k).2.1 (gv k).2.2 (gs[k]?.getD [])) := hg.each k h1
    have HL : Hid ((gv k).2.1 <= 1050000 /\ ∀ j : Nat, Fin ((gs[k]?.getD [])[j]?.getD 0)) := ⟨by rw [<- HG.out.length]; exact HF.out.2 k h1, HF.out.1 k⟩
    obtain ⟨g1, eg1⟩ : ∃ x, (gv k).1 = x := ⟨_, rfl⟩
    obtain ⟨g2, eg2⟩ : ∃ x, (gv k).2.1 = x := ⟨_, rfl⟩
    obtain ⟨g3, eg3⟩ : ∃ x, (gv k).2.2 = x := ⟨_, rfl⟩
    rw [eg1, eg2, eg3] at ga
    rw [eg1, eg2, eg3] at HG
    rw [eg2] at HL
    subst hgo
    clear hgc hg eg1 eg2 eg3
    go_upto_region 5 with fail
    have hS : (fun V => V.cell? ⟨L, 0, none⟩ = some (.slice (some ⟨G, 0, none⟩) gn gn)) wr.drew := cellAtJ HI.out.box 0 _ rfl
    refine wp_region_noPanic ?_
    refine wp_region_held_drew (S := (fun V => V.cell? ⟨L, 0, none⟩ = some (.slice (some ⟨G, 0, none⟩) gn gn))) (by kernel_rfl) hS (fun _ => ?_)
    refine tzI 23 0 ?_ ?_ (by assumption) ?_
    rotate_left
    ·intro w' hSw; (try dsimp only at hSw); go_simp; try with_reducible rfl
    try simp only [pA,pE,pB,pC,pD]
    refine tzI 24 1 ?_ ?_ (by assumption) ?_
    rotate_left
    ·intro w' hSw; (try dsimp only at hSw); go_simp; try with_reducible rfl
    try simp only [pA,pE,pB,pC,pD]
    refine tzI 25 2 ?_ ?_ (by assumption) ?_
    rotate_left
    ·intro w' hSw; (try dsimp only at hSw); go_simp; try with_reducible rfl
    try simp only [pA,pE,pB,pC,pD]
    refine tzI 26 3 ?_ ?_ (by assumption) ?_
    rotate_left
    ·intro w' hSw; (try dsimp only at hSw); go_simp; try with_reducible rfl
    try simp only [pA,pE,pB,pC,pD]
    refine tzI 27 4 ?_ ?_ (by assumption) ?_
    rotate_left
    ·intro w' hSw; (try dsimp only at hSw); go_simp; try with_reducible rfl
    try simp only [pA,pE,pB,pC,pD]
    refine tzI 28 5 ?_ ?_ (by assumption) ?_
    rotate_left
    ·intro w' hSw; (try dsimp only at hSw); go_simp; try with_reducible rfl
    try simp only [pA,pE,pB,pC,pD]
    refine rzH [6] ?_
    refine consH _ rfl (hzC 29 (Calls.mono (loss_any a HA.out g1 g2 g3 (gs[k]?.getD []) HL.out.1 HL.out.2 _ (RdF.later HG.out (Below.refl _ _).drew)) ?_)) AllReadyH.nil
    rintro e W1 ⟨rfl, a1, b1, s1⟩
    have hsz : wr.drew.heap.size = wr.heap.size := rfl
    rw [hsz] at a1 s1 b1 ⊢
    have SX : Below wr.heap.size wr W1 := (Below.refl _ wr).drew.trans b1
    have hS1 : (fun V => V.cell? ⟨L, 0, none⟩ = some (.slice (some ⟨G, 0, none⟩) gn gn)) W1 := cellAtJ (kept SX HI.out.box) 0 _ rfl
    clear b1
    refine ⟨_, rfl, hS1, ?_⟩
    try simp only [pA,pE,pB,pC,pD]
    refine tzI 30 7 ?_ ?_ (by assumption) ?_
    rotate_left
    ·intro w' hSw; (try dsimp only at hSw); go_simp; try with_reducible rfl
    try simp only [pA,pE,pB,pC,pD]
    refine rzH [8] ?_
    refine consH _ rfl (hopL rfl (wpList_store_at (by rfl) 3 _ _ (by rfl) w w.heap.size P k (.int .i64 (k : Int)) _ (upN gn (k + 1)) 3 (by kernel_rfl) (by kernel_rfl) (kept SX HI.out.pl) (to_call HI.out.bel SX) HI.out.ne.2.2.2.1 1 Tryz.szI1 rfl (by rw [upN_size]; omega) (one_in _) (upN_set _ _ h1) fun W2 e2 b2 s2 o2 => ?_)) AllReadyH.nil
    have hS2 : (fun V => V.cell? ⟨L, 0, none⟩ = some (.slice (some ⟨G, 0, none⟩) gn gn)) W2 := (cell_heapJ (o2 L (Ne.symm HI.out.ne.2.1)) 0).trans hS1
    refine (And.intro hS2 ?_ : _ /\ _)
    try simp only [pA,pE,pB,pC,pD]
    refine tzI 31 9 ?_ ?_ (by assumption) ?_
    rotate_left
    ·intro w' hSw; (try dsimp only at hSw); go_simp; try with_reducible rfl
    try simp only [pA,pE,pB,pC,pD]
    obtain ⟨cg, hcg, hcs, hcp⟩ := HI.out.row
    obtain ⟨dg, hd1, hd2, hd3, hd4⟩ := setP_cells (c := cg) (k := k) (v := .pointer (some ⟨wr.heap.size, 0, none⟩)) (by omega) rfl
    refine rzH [10] ?_
    refine consH _ rfl (hopL rfl (wpList_store_at (by rfl) 104 _ _ (by rfl) w w.heap.size G k (.pointer (some ⟨wr.heap.size, 0, none⟩)) _ dg 104 (by kernel_rfl) (by kernel_rfl) ((o2 G (Ne.symm HI.out.ne.1)).trans (kept SX hcg)) b2 HI.out.ne.2.2.2.2.1 1 Tryz.szP1 rfl (by omega) (one_pt _) hd1 fun W3 e3 b3 s3 o3 => ?_)) AllReadyH.nil
    have hS3 : (fun V => V.cell? ⟨L, 0, none⟩ = some (.slice (some ⟨G, 0, none⟩) gn gn)) W3 := (cell_heapJ (o3 L (Ne.symm HI.out.ne.2.2.1)) 0).trans hS2
    refine (And.intro hS3 ?_ : _ /\ _)
    try simp only [pA,pE,pB,pC,pD]
    refine wpAnyH_done (by kernel_rfl) ?_ _
    refine NoPanic.normal ?_
    try simp only [pA,pE,pB,pC,pD]
    have HN := BlR.push HI.out h1 SX a1 s1 e2 o2 b2 hcg hcs hcp ⟨hd2, hd3, hd4⟩ e3 o3 b3
    clear hS hS1 hS2 hS3 SX a1 s1 e2 o2 b2 s2 hcg hcs hcp hd1 hd2 hd3 hd4 e3 o3 b3 s3 ga hsz
    go_wp2_with fail
    go_roundg q
    case measure => omega
    case rel => exact ⟨k + 1, by go_num, by have := HIG.out; omega, _, HN⟩
   ·have hd : decide ((k : Int) < (gn : Int)) = false := decide_eq_false (by omega)
    have hd' : decide (k < gn) = false := decide_eq_false (by omega)
    have hkl : k = gn := by omega
    have HN : Hid (BlR w wr (⟨N, co, cn, cc, io, dn, dc, go, gn, gc, ro, rn, rc, bad, cs, ids, gv, gs, rs⟩ : ZD) gn gn P G L p (fun k => lsZ (⟨N, co, cn, cc, io, dn, dc, go, gn, gc, ro, rn, rc, bad, cs, ids, gv, gs, rs⟩ : ZD) k * ((2 ^ a : Nat) : Int))) := by have h9 := HI.out; rw [hkl] at h9; exact h9
    clear hkl
    go_wp2_with (first | (go_at_call 59; refine (HS.out _ P G L p HN.out).mono ?_; rintro e w9 ⟨rfl, r9⟩))
    exact r9
end Go.Proofs.YthmhgpadinecfaaGreat
namespace Go.Proofs.YthmhgpadinecfaaGreat
open Go.RowKit Go.Shelf Go.Sort
theorem sgi_zeroT (x : Int) : sgi x = 0 ↔ x = 0 := by unfold sgi; split <;> (try split) <;> omega
theorem sgi_ltT (x : Int) : sgi x < 0 ↔ x < 0 := by unfold sgi; split <;> (try split) <;> omega
def ltL (v : Nat -> Int) (i j : Nat) : Prop := v i < v j \/ (v i = v j /\ i < j)
theorem cfL_neg (v : Nat -> Int) (i j : Nat) : cfL v i j < 0 ↔ ltL v i j := by
 unfold cfL ltL
 by_cases h : sgi (v i - v j) = 0
 ·rw [if_neg (by simp [h])]
  rw [sgi_zeroT] at h
  unfold Lib.compareInt
  by_cases h1 : (i : Int) < (j : Int)
  ·simp [h1]; omega
  ·by_cases h2 : (j : Int) < (i : Int) <;> simp [h1, h2] <;> omega
 ·rw [if_pos h, sgi_ltT]
  rw [sgi_zeroT] at h
  omega
def cfF (v : Nat -> Int) (n : Nat) (x y : _root_.Fin n) : Int := cfL v x.val y.val
theorem ltF (v : Nat -> Int) (n : Nat) (x y : _root_.Fin n) : ltOf (cfF v n) x y = true ↔ ltL v x.val y.val := by
 unfold ltOf cfF
 rw [decide_eq_true_eq, cfL_neg]
theorem ltFf (v : Nat -> Int) (n : Nat) (x y : _root_.Fin n) : ltOf (cfF v n) x y = false ↔ ¬ ltL v x.val y.val := by
 rw [<- ltF, Bool.not_eq_true]
theorem swoF (v : Nat -> Int) (n : Nat) : SWO (ltOf (cfF v n)) where
 irrefl x := by rw [ltFf]; unfold ltL; omega
 trans x y z h1 h2 := by rw [ltF] at *; unfold ltL at *; omega
 ntrans x y z h1 h2 := by rw [ltFf] at *; unfold ltL at *; omega
theorem totF (v : Nat -> Int) (n : Nat) (x y : _root_.Fin n) (h1 : ltOf (cfF v n) x y = false) (h2 : ltOf (cfF v n) y x = false) : x = y := by
 rw [ltFf] at *
 unfold ltL at *
 apply Fin.ext
 omega
def plF (v : Nat -> Int) (n : Nat) : List (_root_.Fin n) := (List.finRange n).mergeSort fun x y => !(ltOf (cfF v n)) y x
def plN (v : Nat -> Int) (n : Nat) : List Nat := (plF v n).map (·.val)
theorem plF_len (v : Nat -> Int) (n : Nat) : (plF v n).length = n := by unfold plF; rw [List.length_mergeSort]; simp
theorem plN_len (v : Nat -> Int) (n : Nat) : (plN v n).length = n := by unfold plN; rw [List.length_map, plF_len]
def encF (n : Nat) (x : _root_.Fin n) : Value := .int .i64 (x.val : Int)
theorem sortW_heap {n : Nat} [Inhabited (_root_.Fin n)] (W : World) (P m : Nat) (dk : Array (_root_.Fin n)) (os : Array Obj) (k : Nat) (hk : k < W.heap.size) (hne : k ≠ P) : (sortWorld (encF n) W P 0 m dk os).heap[k]? = W.heap[k]? := by
 unfold sortWorld grow putRow mapBlock
 show (((Sort.ahead W m).heap.modify P _) ++ os)[k]? = _
 rw [Array.getElem?_append_left (by simpa using hk), Array.getElem?_modify, if_neg (by omega)]
 rfl
theorem sortW_below {n : Nat} [Inhabited (_root_.Fin n)] (w W : World) (P m : Nat) (dk : Array (_root_.Fin n)) (os : Array Obj) (hb : Below w.heap.size w W) (hP : w.heap.size <= P) : Below w.heap.size w (sortWorld (encF n) W P 0 m dk os) := by
 refine ⟨hb.os, hb.tape, hb.output, ?_, fun k hk => ?_⟩
 ·have h1 := hb.size
  have h2 : (sortWorld (encF n) W P 0 m dk os).heap.size = W.heap.size + os.size := by
   unfold sortWorld grow
   show (_ ++ os).size = _
   rw [Array.size_append, size_putRow]
   rfl
  omega
 ·rw [sortW_heap W P m dk os k (Nat.lt_of_lt_of_le hk hb.size) (by omega)]
  exact hb.block k hk
theorem LsR.other {w w' : World} {L gB n P : Nat} {p : Nat -> Nat} {v : Nat -> Int} (h : LsR w L gB n p v) (ho : ∀ k, k < w.heap.size -> k ≠ P -> w'.heap[k]? = w.heap[k]?) (hL : L ≠ P) (hG : gB ≠ P) (hp : ∀ j, j < n -> p j ≠ P) : LsR w' L gB n p v :=
 ⟨(cell_heapJ (ho L (World.block_lt_of_cell? _ _ h.box) hL) 0).trans h.box, fun j hj => (cell_heapJ (ho gB (World.block_lt_of_cell? _ _ (h.row j hj)) hG) j).trans (h.row j hj), fun j hj => (h.acc j hj).heap (ho _ (h.acc j hj).block (hp j hj))⟩
theorem sort_any {w W : World} {z : ZD} {n P G L : Nat} {p : Nat -> Nat} {v : Nat -> Int} (hn : n <= 4000000) (h : BlR w W z n n P G L p v) :
  Calls Tryz.prog 59 #[.slice (some ⟨P, 0, none⟩) n n, .func (.func 60) #[] #[.pointer (some ⟨L, 0, none⟩)]] W fun e w' => e = .returned (.tuple #[]) /\ RdIs w' (some ⟨P, 0, none⟩) n n ((plN v n).map fun (k : Nat) => (k : Int)) /\ Below w.heap.size w w' := by
 have hmx : n <= maxLen := by unfold maxLen; omega
 rcases Nat.eq_zero_or_pos n with h0 | h0
 ·subst h0
  have hS := AnyF.slices_SortFunc_none (P := Tryz.prog) (ρ := Tryz.sortL_ren) { Tryz.sortL with } (some ⟨P, 0, none⟩) 0 (.func (.func 60) #[] #[.pointer (some ⟨L, 0, none⟩)]) W
  change Calls Tryz.prog 59 _ _ _ at hS
  refine hS.mono ?_
  rintro e w' ⟨rfl, rfl⟩
  exact ⟨rfl, ⟨by rw [List.length_map, plN_len], hmx, .inl rfl⟩, h.bel⟩
 ·haveI : Inhabited (_root_.Fin n) := ⟨⟨0, h0⟩⟩
  have hd : (List.finRange n).toArray.size = n := by simp
  have hget : ∀ (l : List (_root_.Fin n)) (j : Nat) (hj : j < l.length), l.toArray[j]! = l[j] := fun l j hj => by
   rw [getElem!_pos l.toArray j (by simpa using hj)]; simp
  have hH : Holds (encF n) W P 0 (List.finRange n).toArray := by
   intro j hj
   rw [hd] at hj
   refine ⟨?_, frozen_of_row _ _ _ _ _ h.pl⟩
   rw [hget _ j (by simpa using hj), Nat.zero_add]
   refine cellAtJ h.pl j _ ?_
   unfold upN encF
   simp [hj]
  have eg : ∀ args w, (callFunc 60 args).run Tryz.prog w = .ok (.enter 60 args) w := enters_of Tryz.func60 (by kernel_rfl) rfl
  have hcmp : CmpLays1 Tryz.prog 60 #[.pointer (some ⟨L, 0, none⟩)] (encF n) (cfF v n) P 0 (List.finRange n).toArray.size W := by
   intro m os dk hs x y
   have hl : LsR (sortWorld (encF n) W P 0 m dk os) L G n p v := h.ls.other (fun k hk hne => sortW_heap W P m dk os k hk hne) (Ne.symm h.ne.2.1) (Ne.symm h.ne.1) (fun j hj => (h.pne j hj).1)
   refine Calls.mono (byLoss1_any L G n p v x.val y.val x.isLt y.isLt _ hl) ?_
   rintro e w' ⟨rfl, hb, hdr⟩
   exact ⟨rfl, grown_of hb hdr⟩
  have hS := Any.slices_SortFunc_total Tryz.sortL (encF n) (fun _ => rfl) (cfF v n) (swoF v n) 60 #[.pointer (some ⟨L, 0, none⟩)] P 0 n (List.finRange n).toArray W eg hcmp hH (blk_lt h.pl) (by rw [hd]; omega) (totF v n)
  rw [hd] at hS
  change Calls Tryz.prog 59 _ _ _ at hS
  refine hS.mono ?_
  rintro e w' ⟨rfl, q, os, hw⟩
  have hls : ((List.finRange n).toArray.toList.mergeSort fun x y => !(ltOf (cfF v n)) y x) = plF v n := rfl
  rw [hls] at hw
  have hh : Holds (encF n) w' P 0 (plF v n).toArray := by
   have hsw : SW (encF n) W P 0 (plF v n).toArray w' := ⟨q, os, hw⟩
   exact hsw.holds (blk_lt h.pl) hH (by simp [plF_len])
  refine ⟨rfl, ⟨by rw [List.length_map, plN_len], hmx, .inr ⟨P, 0, rfl, fun j hj => ?_⟩⟩, ?_⟩
  ·have h1 := (hh j (by simpa [plF_len] using hj)).1
   rw [hget _ j (by rw [plF_len]; exact hj)] at h1
   rw [h1]
   unfold plN encF
   rw [List.map_map, List.getElem?_map, List.getElem?_eq_getElem (by rw [plF_len]; exact hj)]
   rfl
  ·rw [hw]
   exact sortW_below w W P q _ os h.bel h.ne.2.2.2.1
theorem byLoss_any (a : Nat) (ha : a = 1166) (z : ZD) (w : World) (hz : ZR w z) (hgn : z.gn <= 4000000) (hf : ∀ k j : Nat, Fin ((z.gs[k]?.getD [])[j]?.getD 0)) (hl : ∀ k, k < z.gn -> (z.gs[k]?.getD []).length <= 1050000) :
  Calls Tryz.prog 32 #[.agg #[.int .i64 z.N, .slice z.co z.cn z.cc, .slice z.io z.dn z.dc, .slice z.go z.gn z.gc, .slice z.ro z.rn z.rc, .bool z.bad]] w fun e w' => ∃ P, e = .returned (.slice (some ⟨P, 0, none⟩) z.gn z.gn) /\ w.heap.size <= P /\ RdIs w' (some ⟨P, 0, none⟩) z.gn z.gn ((plN (lsZ z) z.gn).map fun (k : Nat) => (k : Int)) /\ Below w.heap.size w w' := by
 refine byLossA a ha z w hz hgn hf hl _ fun W P G L p h => ?_
 refine Calls.mono (sort_any hgn h) ?_
 rintro e w' ⟨rfl, hr, hb⟩
 refine ⟨rfl, P, rfl, h.ne.2.2.2.1, ?_, hb⟩
 have e1 : plN (fun k => lsZ z k * ((2 ^ a : Nat) : Int)) z.gn = plN (lsZ z) z.gn := by
  have e2 : cfF (fun k => lsZ z k * ((2 ^ a : Nat) : Int)) z.gn = cfF (lsZ z) z.gn := by
   funext x y
   have hp : (0 : Int) < ((2 ^ a : Nat) : Int) := by have := Nat.two_pow_pos a; omega
   unfold cfF cfL
   have e3 : ∀ s t : Int, sgi (s * ((2 ^ a : Nat) : Int) - t * ((2 ^ a : Nat) : Int)) = sgi (s - t) := fun s t => by
    rw [<- Int.sub_mul]
    generalize ((2 ^ a : Nat) : Int) = M at *
    generalize s - t = d
    unfold sgi
    have h1 : d * M < 0 ↔ d < 0 := by
     constructor
     ·intro h; exact Int.lt_of_mul_lt_mul_right (by rw [Int.zero_mul]; exact h) (Int.le_of_lt hp)
     ·intro h; have := Int.mul_lt_mul_of_pos_right h hp; rwa [Int.zero_mul] at this
    have h2 : d * M = 0 ↔ d = 0 := by
     constructor
     ·intro h; rcases Int.mul_eq_zero.1 h with h | h <;> omega
     ·intro h; rw [h, Int.zero_mul]
    simp only [h1, h2]
   rw [e3]
  unfold plN plF
  rw [e2]
 rw [e1] at hr
 exact hr
end Go.Proofs.YthmhgpadinecfaaGreat
namespace Go.Proofs.YthmhgpadinecfaaGreat
open Go.RowKit Go.Shelf
structure ClR (w : World) (base B : Nat) (xi xg : List Value) (vi vg : Value) : Prop where
 box : w.heap[B]? = some (.cells #[vi, vg] 75)
 i : w.ownsRow base 3 1 vi xi.length xi
 g : w.ownsRow base 22 1 vg xg.length xg
structure TkS (w V : World) (base B : Nat) (vi0 vg0 vi vg : Value) (xi xg : List Value) : Prop where
 box : V.heap[B]? = some (.cells #[vi0, vg0] 75)
 i : V.ownsRow base 3 1 vi xi.length xi
 g : V.ownsRow base 22 1 vg xg.length xg
 bel : Below base w V
 sz : w.heap.size <= V.heap.size
 oth : ∀ k, k < w.heap.size -> k ≠ B -> vi0.ownBlock ≠ some k -> vg0.ownBlock ≠ some k -> V.heap[k]? = w.heap[k]?
 ni : vi.ownBlock = vi0.ownBlock \/ ∀ k, vi.ownBlock = some k -> w.heap.size <= k
 ng : vg.ownBlock = vg0.ownBlock \/ ∀ k, vg.ownBlock = some k -> w.heap.size <= k
theorem TkS.start {w : World} {base B : Nat} {xi xg : List Value} {vi vg : Value} (h : ClR w base B xi xg vi vg) : TkS w w.drew base B vi vg vi vg xi xg :=
 ⟨h.box, owns_keep h.i (fun _ _ => rfl), owns_keep h.g (fun _ _ => rfl), (Below.refl _ _).drew, Nat.le_refl _, fun _ _ _ _ _ => rfl, .inl rfl, .inl rfl⟩
theorem TkS.alloc {w V : World} {base B : Nat} {vi0 vg0 vi vg : Value} {xi xg : List Value} (h : TkS w V base B vi0 vg0 vi vg xi xg) (hb : base <= w.heap.size) (o : Obj) : TkS w (V.alloc o) base B vi0 vg0 vi vg xi xg :=
 ⟨alloc_kept h.box _, World.ownsRow.alloc h.i _, World.ownsRow.alloc h.g _, h.bel.alloc (Nat.le_trans hb h.sz) _, by rw [alloc_size]; have := h.sz; omega, fun k hk h1 h2 h3 => (Below.heap_alloc V o k (Nat.lt_of_lt_of_le hk h.sz)).trans (h.oth k hk h1 h2 h3), h.ni, h.ng⟩
theorem TkS.appI {w V V' : World} {base B : Nat} {vi0 vg0 vi vg vi' : Value} {xi xg xi' : List Value} (h : TkS w V base B vi0 vg0 vi vg xi xg) (hb : base <= w.heap.size) (hg : Grw V V' vi.ownBlock vi'.ownBlock) (ho : V'.ownsRow base 3 1 vi' xi'.length xi') : TkS w V' base B vi0 vg0 vi' vg xi' xg := by
 have hk := grw_types h.i hg
 refine ⟨(hk B _ 75 (by decide) h.box).trans h.box, ho, owns_keepT h.g fun k cur => hk k cur _ (by decide), h.bel.trans (hg.below (fun k hk => (World.ownsRow.lt h.i k hk).1) (Nat.le_trans hb h.sz)), Nat.le_trans h.sz hg.by'.size, fun k hk h1 h2 h3 => ?_, ?_, h.ng⟩
 ·refine (hg.by'.block k (Nat.lt_of_lt_of_le hk h.sz) fun e => ?_).trans (h.oth k hk h1 h2 h3)
  rcases h.ni with e1 | e1
  ·exact h2 (e1 ▸ e.symm)
  ·have := e1 k e.symm; omega
 ·rcases hg.new with e | e
  ·rcases h.ni with e1 | e1
   ·exact .inl (e.trans e1)
   ·exact .inr fun k hk => e1 k (e ▸ hk)
  ·exact .inr fun k hk => Nat.le_trans h.sz (e k hk)
theorem TkS.appG {w V V' : World} {base B : Nat} {vi0 vg0 vi vg vg' : Value} {xi xg xg' : List Value} (h : TkS w V base B vi0 vg0 vi vg xi xg) (hb : base <= w.heap.size) (hg : Grw V V' vg.ownBlock vg'.ownBlock) (ho : V'.ownsRow base 22 1 vg' xg'.length xg') : TkS w V' base B vi0 vg0 vi vg' xi xg' := by
 have hk := grw_types h.g hg
 refine ⟨(hk B _ 75 (by decide) h.box).trans h.box, owns_keepT h.i fun k cur => hk k cur _ (by decide), ho, h.bel.trans (hg.below (fun k hk => (World.ownsRow.lt h.g k hk).1) (Nat.le_trans hb h.sz)), Nat.le_trans h.sz hg.by'.size, fun k hk h1 h2 h3 => ?_, h.ni, ?_⟩
 ·refine (hg.by'.block k (Nat.lt_of_lt_of_le hk h.sz) fun e => ?_).trans (h.oth k hk h1 h2 h3)
  rcases h.ng with e1 | e1
  ·exact h3 (e1 ▸ e.symm)
  ·have := e1 k e.symm; omega
 ·rcases hg.new with e | e
  ·rcases h.ng with e1 | e1
   ·exact .inl (e.trans e1)
   ·exact .inr fun k hk => e1 k (e ▸ hk)
  ·exact .inr fun k hk => Nat.le_trans h.sz (e k hk)
theorem news1 {V : World} {b : Nat} {y : Value} {E : TypeId} (h : V.heap[b]? = some (.cells #[y] E)) : ∀ j u, [y][j]? = some u -> V.cell? ((⟨b, 0, none⟩ : Addr).add j) = some u := by
 intro j u hj
 match j, hj with
 | 0, hj =>
  simp only [List.getElem?_cons_zero, Option.some.injEq] at hj
  subst hj
  rw [Addr.add_lit, cell_of_row _ b _ _ _ _ h]
  rfl
structure TkE (w w' : World) (base B : Nat) (vi vg vi' vg' : Value) (xi xg : List Value) : Prop where
 cl : ClR w' base B xi xg vi' vg'
 bel : Below base w w'
 oth : ∀ k, k < w.heap.size -> k ≠ B -> vi.ownBlock ≠ some k -> vg.ownBlock ≠ some k -> w'.heap[k]? = w.heap[k]?
 ni : vi'.ownBlock = vi.ownBlock \/ ∀ k, vi'.ownBlock = some k -> w.heap.size <= k
 ng : vg'.ownBlock = vg.ownBlock \/ ∀ k, vg'.ownBlock = some k -> w.heap.size <= k
theorem TkS.fin {w V W : World} {base B : Nat} {vi0 vg0 vi vg : Value} {xi xg : List Value} (h : TkS w V base B vi0 vg0 vi vg xi xg) (hB : W.heap[B]? = some (.cells #[vi, vg] 75)) (hk : ∀ k, k ≠ B -> W.heap[k]? = V.heap[k]?) (hb : Below base w W) : TkE w W base B vi0 vg0 vi vg xi xg :=
 ⟨⟨hB, owns_keepT h.i fun k cur hc => hk k (by rintro rfl; rw [h.box] at hc; cases hc), owns_keepT h.g fun k cur hc => hk k (by rintro rfl; rw [h.box] at hc; cases hc)⟩, hb, fun k h1 h2 h3 h4 => (hk k h2).trans (h.oth k h1 h2 h3 h4), h.ni, h.ng⟩
theorem take_any (base B : Nat) (xi xg : List Value) (vi vg : Value) (id : Int) (ga : Option Addr) (gn gc : Nat) (w : World) (h : ClR w base B xi xg vi vg) (hli : xi.length + 1 <= 4000000) (hlg : xg.length + 1 <= 4000000) (hbw : base <= w.heap.size) (hbB : base <= B) :
  Calls Tryz.prog 63 #[.pointer (some ⟨B, 0, none⟩), .int .i64 id, .slice ga gn gc] w fun e w' => e = .returned (.tuple #[]) /\ ∃ vi' vg', TkE w w' base B vi vg vi' vg' (xi ++ [.int .i64 id]) (xg ++ [.slice ga gn gc]) := by
 go_enter Tryz.func63, Tryz.ntmps63
 go_upto_region 0 with fail
 have T0 := TkS.start h
 obtain ⟨V, hV⟩ : ∃ V, w.drew = V := ⟨_, rfl⟩
 refine wp_region_noPanic ?_
 refine wp_region_P (S := (fun V => V.heap[B]? = some (.cells #[vi, vg] 75))) (s := 18) (by kernel_rfl) ?_
 rw [hV] at T0 ⊢
 have TV := T0
 clear hV T0
 refine tzQ 6 0 ?_ ?_ (fun _ => TV.box) ?_
 rotate_left
 ·intro w' hSw; go_simp; try with_reducible rfl
 try simp only [pA,pE,pB,pC,pD]
 refine tzQ 7 1 ?_ ?_ (fun _ => TV.box) ?_
 rotate_left
 ·intro w' hSw; go_simp; try with_reducible rfl
 try simp only [pA,pE,pB,pC,pD]
 refine tzQ 8 2 ?_ ?_ (fun _ => TV.box) ?_
 rotate_left
 ·intro w' hSw; go_simp; try with_reducible rfl
 try simp only [pA,pE,pB,pC,pD]
 refine tzQ 9 3 ?_ ?_ (fun _ => TV.box) ?_
 rotate_left
 ·intro w' hSw; go_simp; try with_reducible rfl
 try simp only [pA,pE,pB,pC,pD]
 refine tzQ 10 4 ?_ ?_ (fun _ => TV.box) ?_
 rotate_left
 ·intro w' hSw; go_simp; try with_reducible rfl
 try simp only [pA,pE,pB,pC,pD]
 refine tzP 11 5 ?_ (Or.inl ⟨by kernel_rfl, ?_⟩) TV.box ?_
 rotate_left
 ·intro w' hSw; have s0 := cellAtJ hSw 0 _ rfl; have s1 := cellAtJ hSw 1 _ rfl; go_simp; try with_reducible rfl
 try simp only [pA,pE,pB,pC,pD]
 refine tzQ 12 6 ?_ ?_ (fun _ => TV.box) ?_
 rotate_left
 ·intro w' hSw; go_simp; try with_reducible rfl
 try simp only [pA,pE,pB,pC,pD]
 refine tzQ 15 9 ?_ ?_ (fun _ => TV.box) ?_
 rotate_left
 ·intro w' hSw; go_simp; try with_reducible rfl
 try simp only [pA,pE,pB,pC,pD]
 refine tzQ 16 10 ?_ ?_ (fun _ => TV.box) ?_
 rotate_left
 ·intro w' hSw; go_simp; try with_reducible rfl
 try simp only [pA,pE,pB,pC,pD]
 refine tzQ 17 11 ?_ ?_ (fun _ => TV.box) ?_
 rotate_left
 ·intro w' hSw; go_simp; try with_reducible rfl
 try simp only [pA,pE,pB,pC,pD]
 refine tzP 18 12 ?_ (Or.inl ⟨by kernel_rfl, ?_⟩) TV.box ?_
 rotate_left
 ·intro w' hSw; have s0 := cellAtJ hSw 0 _ rfl; have s1 := cellAtJ hSw 1 _ rfl; go_simp; try with_reducible rfl
 try simp only [pA,pE,pB,pC,pD]
 refine tzQ 19 13 ?_ ?_ (fun _ => TV.box) ?_
 rotate_left
 ·intro w' hSw; go_simp; try with_reducible rfl
 try simp only [pA,pE,pB,pC,pD]
 refine rzP [7, 14] ?_
 refine consP _ rfl ?_ (consP _ rfl ?_ AllReadyP.nil)
 ·refine hopV 13 (v := .slice (some ⟨V.heap.size, 0, none⟩) 1 1) (w' := V.alloc (.cells #[.int .i64 id] 3)) rfl rfl rfl (by kernel_rfl) ?_
  have TV1 := TV.alloc hbw (.cells #[.int .i64 id] 3)
  have hXV1 := heap_alloc_new V (.cells #[.int .i64 id] 3)
  obtain ⟨V1, eV1⟩ : ∃ X, V.alloc (.cells #[.int .i64 id] 3) = X := ⟨_, rfl⟩
  obtain ⟨bI, ebI⟩ : ∃ X, V.heap.size = X := ⟨_, rfl⟩
  rw [eV1] at TV1 hXV1 ⊢
  rw [ebI] at hXV1 ⊢
  clear eV1 ebI TV
  refine ⟨TV1.box, ?_⟩
  try simp only [pA,pE,pB,pC,pD]
  refine rzP [8, 14] ?_
  refine consP _ rfl ?_ (consP _ rfl ?_ AllReadyP.nil)
  ·refine hopL rfl (append_grM Tryz.underlying23 Tryz.infoIJ rfl (by decide) V1 (by rfl) _ _ (by rfl) base vi _ (by kernel_rfl) TV1.i ⟨bI, 0, none⟩ 1 1 [.int .i64 id] (by kernel_rfl) rfl (by decide) (news1 hXV1) (by intro u hu; simp at hu; subst hu; rfl) hli (Nat.le_trans hbw TV1.sz) fun v8 V2 o8 g8 => ?_)
   change QK _ _ Exit.normal (Act.put _ (some 14) v8) V2
   have TV2 := TV1.appI hbw g8 o8
   clear o8 g8 TV1 hXV1
   refine (And.intro TV2.box ?_ : _ /\ _)
   try simp only [pA,pE,pB,pC,pD]
   refine rzP [14] ?_
   refine consP _ rfl ?_ AllReadyP.nil
   refine hopV 20 (v := .slice (some ⟨V2.heap.size, 0, none⟩) 1 1) (w' := V2.alloc (.cells #[.slice ga gn gc] 22)) rfl rfl rfl (by kernel_rfl) ?_
   have TV3 := TV2.alloc hbw (.cells #[.slice ga gn gc] 22)
   have hYV3 := heap_alloc_new V2 (.cells #[.slice ga gn gc] 22)
   obtain ⟨V3, eV3⟩ : ∃ X, V2.alloc (.cells #[.slice ga gn gc] 22) = X := ⟨_, rfl⟩
   obtain ⟨bG, ebG⟩ : ∃ X, V2.heap.size = X := ⟨_, rfl⟩
   rw [eV3] at TV3 hYV3 ⊢
   rw [ebG] at hYV3 ⊢
   clear eV3 ebG TV2
   refine ⟨TV3.box, ?_⟩
   try simp only [pA,pE,pB,pC,pD]
   refine rzP [15] ?_
   refine consP _ rfl ?_ AllReadyP.nil
   refine hopL rfl (append_grM Tryz.underlying24 Tryz.infoFsJ rfl (by decide) V3 (by rfl) _ _ (by rfl) base vg _ (by kernel_rfl) TV3.g ⟨bG, 0, none⟩ 1 1 [.slice ga gn gc] (by kernel_rfl) rfl (by decide) (news1 hYV3) (by intro u hu; simp at hu; subst hu; rfl) hlg (Nat.le_trans hbw TV3.sz) fun v9 V4 o9 g9 => ?_)
   change QK _ _ Exit.normal (Act.put _ (some 21) v9) V4
   have TV4 := TV3.appG hbw g9 o9
   clear o9 g9 TV3 hYV3
   refine (And.intro TV4.box ?_ : _ /\ _)
   try simp only [pA,pE,pB,pC,pD]
   refine tzQ 22 16 ?_ ?_ (fun _ => TV4.box) ?_
   rotate_left
   ·intro w' hSw; go_simp; try with_reducible rfl
   try simp only [pA,pE,pB,pC,pD]
   refine tzQ 23 17 ?_ ?_ (fun _ => TV4.box) ?_
   rotate_left
   ·intro w' hSw; go_simp; try with_reducible rfl
   try simp only [pA,pE,pB,pC,pD]
   refine rzP [18] ?_
   refine consPs _ rfl (by kernel_rfl) (hopL rfl (wpList_store_at (by rfl) 23 _ _ (by rfl) w base B 0 v8 _ #[v8, vg] 75 (by kernel_rfl) (by kernel_rfl) TV4.box TV4.bel hbB 1 Tryz.szIs (by rw [(own_valJ TV4.i).2]; rfl) (Nat.le_of_ble_eq_true rfl) (by intro u hu; rw [(own_valJ TV4.i).2] at hu; simp only [List.mem_cons, List.not_mem_nil, or_false] at hu; subst hu; exact (own_valJ TV4.i).1) (by rw [(own_valJ TV4.i).2]; rfl) fun W7 e7 b7 s7 k7 => ?_)) AllReadyP.nil
   refine (And.intro trivial ?_ : _ /\ _)
   try simp only [pA,pE,pB,pC,pD]
   refine tzQ 24 19 ?_ ?_ (fun e => by cases e) ?_
   rotate_left
   ·intro w' hSw; go_simp; try with_reducible rfl
   try simp only [pA,pE,pB,pC,pD]
   refine tzQ 25 20 ?_ ?_ (fun e => by cases e) ?_
   rotate_left
   ·intro w' hSw; go_simp; try with_reducible rfl
   try simp only [pA,pE,pB,pC,pD]
   refine rzP [21] ?_
   refine consPs _ rfl (by kernel_rfl) (hopL rfl (wpList_store_at (by rfl) 24 _ _ (by rfl) w base B 1 v9 _ #[v8, v9] 75 (by kernel_rfl) (by kernel_rfl) e7 b7 hbB 1 Tryz.szFss (by rw [(own_valJ TV4.g).2]; rfl) (Nat.le_of_ble_eq_true rfl) (by intro u hu; rw [(own_valJ TV4.g).2] at hu; simp only [List.mem_cons, List.not_mem_nil, or_false] at hu; subst hu; exact (own_valJ TV4.g).1) (by rw [(own_valJ TV4.g).2]; rfl) fun W8 e8 b8 s8 k8 => ?_)) AllReadyP.nil
   refine (And.intro trivial ?_ : _ /\ _)
   try simp only [pA,pE,pB,pC,pD]
   refine wpAnyP_done (by kernel_rfl) ?_ _
   refine NoPanic.normal ?_
   try simp only [pA,pE,pB,pC,pD]
   have HE := TkS.fin TV4 e8 (fun k hk => (k8 k hk).trans (k7 k hk)) b8
   clear TV4 e7 b7 s7 k7 e8 b8 s8 k8
   go_wp2_with fail
   go_end0
   exact ⟨rfl, _, _, HE⟩
  ·refine hopV 20 (v := .slice (some ⟨V1.heap.size, 0, none⟩) 1 1) (w' := V1.alloc (.cells #[.slice ga gn gc] 22)) rfl rfl rfl (by kernel_rfl) ?_
   have TV5 := TV1.alloc hbw (.cells #[.slice ga gn gc] 22)
   have hYV5 := heap_alloc_new V1 (.cells #[.slice ga gn gc] 22)
   have hXV5 := alloc_kept hXV1 (.cells #[.slice ga gn gc] 22)
   obtain ⟨V5, eV5⟩ : ∃ X, V1.alloc (.cells #[.slice ga gn gc] 22) = X := ⟨_, rfl⟩
   obtain ⟨bG, ebG⟩ : ∃ X, V1.heap.size = X := ⟨_, rfl⟩
   rw [eV5] at TV5 hYV5 hXV5 ⊢
   rw [ebG] at hYV5 ⊢
   clear eV5 ebG TV1 hXV1
   refine ⟨TV5.box, ?_⟩
   try simp only [pA,pE,pB,pC,pD]
   refine rzP [8] ?_
   refine consP _ rfl ?_ AllReadyP.nil
   refine hopL rfl (append_grM Tryz.underlying23 Tryz.infoIJ rfl (by decide) V5 (by rfl) _ _ (by rfl) base vi _ (by kernel_rfl) TV5.i ⟨bI, 0, none⟩ 1 1 [.int .i64 id] (by kernel_rfl) rfl (by decide) (news1 hXV5) (by intro u hu; simp at hu; subst hu; rfl) hli (Nat.le_trans hbw TV5.sz) fun v8 V6 o8 g8 => ?_)
   change QK _ _ Exit.normal (Act.put _ (some 14) v8) V6
   have TV6 := TV5.appI hbw g8 o8
   have hYV6 := (grw_types TV5.i g8 bG _ _ (by decide) hYV5).trans hYV5
   clear o8 g8 TV5 hXV5 hYV5
   refine (And.intro TV6.box ?_ : _ /\ _)
   try simp only [pA,pE,pB,pC,pD]
   refine rzP [15] ?_
   refine consP _ rfl ?_ AllReadyP.nil
   refine hopL rfl (append_grM Tryz.underlying24 Tryz.infoFsJ rfl (by decide) V6 (by rfl) _ _ (by rfl) base vg _ (by kernel_rfl) TV6.g ⟨bG, 0, none⟩ 1 1 [.slice ga gn gc] (by kernel_rfl) rfl (by decide) (news1 hYV6) (by intro u hu; simp at hu; subst hu; rfl) hlg (Nat.le_trans hbw TV6.sz) fun v9 V7 o9 g9 => ?_)
   change QK _ _ Exit.normal (Act.put _ (some 21) v9) V7
   have TV7 := TV6.appG hbw g9 o9
   clear o9 g9 TV6 hYV6
   refine (And.intro TV7.box ?_ : _ /\ _)
   try simp only [pA,pE,pB,pC,pD]
   refine tzQ 22 16 ?_ ?_ (fun _ => TV7.box) ?_
   rotate_left
   ·intro w' hSw; go_simp; try with_reducible rfl
   try simp only [pA,pE,pB,pC,pD]
   refine tzQ 23 17 ?_ ?_ (fun _ => TV7.box) ?_
   rotate_left
   ·intro w' hSw; go_simp; try with_reducible rfl
   try simp only [pA,pE,pB,pC,pD]
   refine rzP [18] ?_
   refine consPs _ rfl (by kernel_rfl) (hopL rfl (wpList_store_at (by rfl) 23 _ _ (by rfl) w base B 0 v8 _ #[v8, vg] 75 (by kernel_rfl) (by kernel_rfl) TV7.box TV7.bel hbB 1 Tryz.szIs (by rw [(own_valJ TV7.i).2]; rfl) (Nat.le_of_ble_eq_true rfl) (by intro u hu; rw [(own_valJ TV7.i).2] at hu; simp only [List.mem_cons, List.not_mem_nil, or_false] at hu; subst hu; exact (own_valJ TV7.i).1) (by rw [(own_valJ TV7.i).2]; rfl) fun W7 e7 b7 s7 k7 => ?_)) AllReadyP.nil
   refine (And.intro trivial ?_ : _ /\ _)
   try simp only [pA,pE,pB,pC,pD]
   refine tzQ 24 19 ?_ ?_ (fun e => by cases e) ?_
   rotate_left
   ·intro w' hSw; go_simp; try with_reducible rfl
   try simp only [pA,pE,pB,pC,pD]
   refine tzQ 25 20 ?_ ?_ (fun e => by cases e) ?_
   rotate_left
   ·intro w' hSw; go_simp; try with_reducible rfl
   try simp only [pA,pE,pB,pC,pD]
   refine rzP [21] ?_
   refine consPs _ rfl (by kernel_rfl) (hopL rfl (wpList_store_at (by rfl) 24 _ _ (by rfl) w base B 1 v9 _ #[v8, v9] 75 (by kernel_rfl) (by kernel_rfl) e7 b7 hbB 1 Tryz.szFss (by rw [(own_valJ TV7.g).2]; rfl) (Nat.le_of_ble_eq_true rfl) (by intro u hu; rw [(own_valJ TV7.g).2] at hu; simp only [List.mem_cons, List.not_mem_nil, or_false] at hu; subst hu; exact (own_valJ TV7.g).1) (by rw [(own_valJ TV7.g).2]; rfl) fun W8 e8 b8 s8 k8 => ?_)) AllReadyP.nil
   refine (And.intro trivial ?_ : _ /\ _)
   try simp only [pA,pE,pB,pC,pD]
   refine wpAnyP_done (by kernel_rfl) ?_ _
   refine NoPanic.normal ?_
   try simp only [pA,pE,pB,pC,pD]
   have HE := TkS.fin TV7 e8 (fun k hk => (k8 k hk).trans (k7 k hk)) b8
   clear TV7 e7 b7 s7 k7 e8 b8 s8 k8
   go_wp2_with fail
   go_end0
   exact ⟨rfl, _, _, HE⟩
 ·refine hopV 20 (v := .slice (some ⟨V.heap.size, 0, none⟩) 1 1) (w' := V.alloc (.cells #[.slice ga gn gc] 22)) rfl rfl rfl (by kernel_rfl) ?_
  have TV8 := TV.alloc hbw (.cells #[.slice ga gn gc] 22)
  have hYV8 := heap_alloc_new V (.cells #[.slice ga gn gc] 22)
  obtain ⟨V8, eV8⟩ : ∃ X, V.alloc (.cells #[.slice ga gn gc] 22) = X := ⟨_, rfl⟩
  obtain ⟨bG, ebG⟩ : ∃ X, V.heap.size = X := ⟨_, rfl⟩
  rw [eV8] at TV8 hYV8 ⊢
  rw [ebG] at hYV8 ⊢
  clear eV8 ebG TV
  refine ⟨TV8.box, ?_⟩
  try simp only [pA,pE,pB,pC,pD]
  refine rzP [7] ?_
  refine consP _ rfl ?_ AllReadyP.nil
  refine hopV 13 (v := .slice (some ⟨V8.heap.size, 0, none⟩) 1 1) (w' := V8.alloc (.cells #[.int .i64 id] 3)) rfl rfl rfl (by kernel_rfl) ?_
  have TV9 := TV8.alloc hbw (.cells #[.int .i64 id] 3)
  have hXV9 := heap_alloc_new V8 (.cells #[.int .i64 id] 3)
  have hYV9 := alloc_kept hYV8 (.cells #[.int .i64 id] 3)
  obtain ⟨V9, eV9⟩ : ∃ X, V8.alloc (.cells #[.int .i64 id] 3) = X := ⟨_, rfl⟩
  obtain ⟨bI, ebI⟩ : ∃ X, V8.heap.size = X := ⟨_, rfl⟩
  rw [eV9] at TV9 hXV9 hYV9 ⊢
  rw [ebI] at hXV9 ⊢
  clear eV9 ebI TV8 hYV8
  refine ⟨TV9.box, ?_⟩
  try simp only [pA,pE,pB,pC,pD]
  refine rzP [8] ?_
  refine consP _ rfl ?_ AllReadyP.nil
  refine hopL rfl (append_grM Tryz.underlying23 Tryz.infoIJ rfl (by decide) V9 (by rfl) _ _ (by rfl) base vi _ (by kernel_rfl) TV9.i ⟨bI, 0, none⟩ 1 1 [.int .i64 id] (by kernel_rfl) rfl (by decide) (news1 hXV9) (by intro u hu; simp at hu; subst hu; rfl) hli (Nat.le_trans hbw TV9.sz) fun v8 V10 o8 g8 => ?_)
  change QK _ _ Exit.normal (Act.put _ (some 14) v8) V10
  have TV10 := TV9.appI hbw g8 o8
  have hYV10 := (grw_types TV9.i g8 bG _ _ (by decide) hYV9).trans hYV9
  clear o8 g8 TV9 hXV9 hYV9
  refine (And.intro TV10.box ?_ : _ /\ _)
  try simp only [pA,pE,pB,pC,pD]
  refine rzP [15] ?_
  refine consP _ rfl ?_ AllReadyP.nil
  refine hopL rfl (append_grM Tryz.underlying24 Tryz.infoFsJ rfl (by decide) V10 (by rfl) _ _ (by rfl) base vg _ (by kernel_rfl) TV10.g ⟨bG, 0, none⟩ 1 1 [.slice ga gn gc] (by kernel_rfl) rfl (by decide) (news1 hYV10) (by intro u hu; simp at hu; subst hu; rfl) hlg (Nat.le_trans hbw TV10.sz) fun v9 V11 o9 g9 => ?_)
  change QK _ _ Exit.normal (Act.put _ (some 21) v9) V11
  have TV11 := TV10.appG hbw g9 o9
  clear o9 g9 TV10 hYV10
  refine (And.intro TV11.box ?_ : _ /\ _)
  try simp only [pA,pE,pB,pC,pD]
  refine tzQ 22 16 ?_ ?_ (fun _ => TV11.box) ?_
  rotate_left
  ·intro w' hSw; go_simp; try with_reducible rfl
  try simp only [pA,pE,pB,pC,pD]
  refine tzQ 23 17 ?_ ?_ (fun _ => TV11.box) ?_
  rotate_left
  ·intro w' hSw; go_simp; try with_reducible rfl
  try simp only [pA,pE,pB,pC,pD]
  refine rzP [18] ?_
  refine consPs _ rfl (by kernel_rfl) (hopL rfl (wpList_store_at (by rfl) 23 _ _ (by rfl) w base B 0 v8 _ #[v8, vg] 75 (by kernel_rfl) (by kernel_rfl) TV11.box TV11.bel hbB 1 Tryz.szIs (by rw [(own_valJ TV11.i).2]; rfl) (Nat.le_of_ble_eq_true rfl) (by intro u hu; rw [(own_valJ TV11.i).2] at hu; simp only [List.mem_cons, List.not_mem_nil, or_false] at hu; subst hu; exact (own_valJ TV11.i).1) (by rw [(own_valJ TV11.i).2]; rfl) fun W7 e7 b7 s7 k7 => ?_)) AllReadyP.nil
  refine (And.intro trivial ?_ : _ /\ _)
  try simp only [pA,pE,pB,pC,pD]
  refine tzQ 24 19 ?_ ?_ (fun e => by cases e) ?_
  rotate_left
  ·intro w' hSw; go_simp; try with_reducible rfl
  try simp only [pA,pE,pB,pC,pD]
  refine tzQ 25 20 ?_ ?_ (fun e => by cases e) ?_
  rotate_left
  ·intro w' hSw; go_simp; try with_reducible rfl
  try simp only [pA,pE,pB,pC,pD]
  refine rzP [21] ?_
  refine consPs _ rfl (by kernel_rfl) (hopL rfl (wpList_store_at (by rfl) 24 _ _ (by rfl) w base B 1 v9 _ #[v8, v9] 75 (by kernel_rfl) (by kernel_rfl) e7 b7 hbB 1 Tryz.szFss (by rw [(own_valJ TV11.g).2]; rfl) (Nat.le_of_ble_eq_true rfl) (by intro u hu; rw [(own_valJ TV11.g).2] at hu; simp only [List.mem_cons, List.not_mem_nil, or_false] at hu; subst hu; exact (own_valJ TV11.g).1) (by rw [(own_valJ TV11.g).2]; rfl) fun W8 e8 b8 s8 k8 => ?_)) AllReadyP.nil
  refine (And.intro trivial ?_ : _ /\ _)
  try simp only [pA,pE,pB,pC,pD]
  refine wpAnyP_done (by kernel_rfl) ?_ _
  refine NoPanic.normal ?_
  try simp only [pA,pE,pB,pC,pD]
  have HE := TkS.fin TV11 e8 (fun k hk => (k8 k hk).trans (k7 k hk)) b8
  clear TV11 e7 b7 s7 k7 e8 b8 s8 k8
  go_wp2_with fail
  go_end0
  exact ⟨rfl, _, _, HE⟩
def pickL (f : Nat -> Bool) (k : Nat) : List Nat := (List.range k).filter f
theorem pickL_yes {f : Nat -> Bool} {k : Nat} (h : f k = true) : pickL f (k + 1) = pickL f k ++ [k] := by unfold pickL; rw [List.range_succ, List.filter_append]; simp [h]
theorem pickL_no {f : Nat -> Bool} {k : Nat} (h : f k = false) : pickL f (k + 1) = pickL f k := by unfold pickL; rw [List.range_succ, List.filter_append]; simp [h]
theorem pickL_len (f : Nat -> Bool) (k : Nat) : (pickL f k).length <= k := by unfold pickL; have := List.length_filter_le f (List.range k); simpa using this
theorem pickL_mem {f : Nat -> Bool} {k j : Nat} : j ∈ pickL f k ↔ j < k /\ f j = true := by unfold pickL; simp
def xiL (ids : List Int) (l : List Nat) : List Value := l.map fun j => .int .i64 (ids[j]?.getD 0)
def xgL (gv : Nat -> Option Addr × Nat × Nat) (l : List Nat) : List Value := l.map fun j => .slice (gv j).1 (gv j).2.1 (gv j).2.2
theorem xiL_snoc (ids : List Int) (l : List Nat) (k : Nat) : xiL ids (l ++ [k]) = xiL ids l ++ [.int .i64 (ids[k]?.getD 0)] := by unfold xiL; rw [List.map_append]; rfl
theorem xgL_snoc (gv : Nat -> Option Addr × Nat × Nat) (l : List Nat) (k : Nat) : xgL gv (l ++ [k]) = xgL gv l ++ [.slice (gv k).1 (gv k).2.1 (gv k).2.2] := by unfold xgL; rw [List.map_append]; rfl
structure PtB (w W : World) (row : Array Value) (b n : Nat) (f : Nat -> Bool) (xi xg xj xh : List Value) (vi vg vj vh : Value) : Prop where
 zb : W.heap[w.heap.size]? = some (.cells row 26)
 bl : W.heap[b]? = some (.cells (blN n f) 4)
 go : ClR W w.heap.size (w.heap.size + 1) xi xg vi vg
 ke : ClR W w.heap.size (w.heap.size + 1 + 1) xj xh vj vh
 di : ∀ k, vi.ownBlock = some k -> vj.ownBlock ≠ some k
 dg : ∀ k, vg.ownBlock = some k -> vh.ownBlock ≠ some k
 bel : Below w.heap.size w W
theorem ClR.later {w w' : World} {base B : Nat} {xi xg : List Value} {vi vg : Value} (h : ClR w base B xi xg vi vg) (hb : Below w.heap.size w w') : ClR w' base B xi xg vi vg :=
 ⟨kept hb h.box, owns_keep h.i fun k hk => hb.block k (World.ownsRow.lt h.i k hk).2, owns_keep h.g fun k hk => hb.block k (World.ownsRow.lt h.g k hk).2⟩
theorem ClR.keepT {w w' : World} {base B : Nat} {xi xg : List Value} {vi vg : Value} (h : ClR w base B xi xg vi vg) (hk : ∀ (k : Nat) (cur : Array Value) (t : TypeId), t = 75 \/ t = 3 \/ t = 22 -> w.heap[k]? = some (.cells cur t) -> w'.heap[k]? = w.heap[k]?) : ClR w' base B xi xg vi vg :=
 ⟨(hk B _ _ (.inl rfl) h.box).trans h.box, owns_keepT h.i fun k cur => hk k cur _ (.inr (.inl rfl)), owns_keepT h.g fun k cur => hk k cur _ (.inr (.inr rfl))⟩
theorem PtB.later {w W W' : World} {row : Array Value} {b n : Nat} {f : Nat -> Bool} {xi xg xj xh : List Value} {vi vg vj vh : Value} (h : PtB w W row b n f xi xg xj xh vi vg vj vh) (hb : Below W.heap.size W W') : PtB w W' row b n f xi xg xj xh vi vg vj vh :=
 ⟨kept hb h.zb, kept hb h.bl, h.go.later hb, h.ke.later hb, h.di, h.dg, to_call h.bel hb⟩
theorem PtB.setB {w W W' : World} {row : Array Value} {b n : Nat} {f g : Nat -> Bool} {xi xg xj xh : List Value} {vi vg vj vh : Value} (h : PtB w W row b n f xi xg xj xh vi vg vj vh) (e : W'.heap[b]? = some (.cells (blN n g) 4)) (ho : ∀ k, k ≠ b -> W'.heap[k]? = W.heap[k]?) (hb : Below w.heap.size w W') : PtB w W' row b n g xi xg xj xh vi vg vj vh := by
 have hne : ∀ (k : Nat) (cur : Array Value) (t : TypeId), t ≠ 4 -> W.heap[k]? = some (.cells cur t) -> k ≠ b := by
  rintro k cur t ht hc rfl
  rw [h.bl] at hc
  cases hc
  exact ht rfl
 have hk : ∀ (k : Nat) (cur : Array Value) (t : TypeId), t = 75 \/ t = 3 \/ t = 22 -> W.heap[k]? = some (.cells cur t) -> W'.heap[k]? = W.heap[k]? := fun k cur t ht hc => ho k (hne k cur t (by rcases ht with rfl | rfl | rfl <;> decide) hc)
 exact ⟨(ho _ (hne _ _ _ (by decide) h.zb)).trans h.zb, e, h.go.keepT hk, h.ke.keepT hk, h.di, h.dg, hb⟩
theorem ty_eq {c c' : Array Value} {t t' : TypeId} (h : (some (Obj.cells c t) : Option Obj) = some (Obj.cells c' t')) : t = t' := by cases h; rfl
theorem TkE.types {w w' : World} {base B : Nat} {vi vg vi' vg' : Value} {xi xg xi' xg' : List Value} (h : TkE w w' base B vi vg vi' vg' xi' xg') (hc : ClR w base B xi xg vi vg) (k : Nat) (cur : Array Value) (t : TypeId) (h1 : t ≠ 3) (h2 : t ≠ 22) (hk : w.heap[k]? = some (.cells cur t)) (hne : k ≠ B) : w'.heap[k]? = w.heap[k]? := by
 refine h.oth k (blk_lt hk) hne (fun e => ?_) (fun e => ?_)
 ·obtain ⟨c, hc'⟩ := owns_type hc.i e
  rw [hk] at hc'
  cases hc'
  exact h1 rfl
 ·obtain ⟨c, hc'⟩ := owns_type hc.g e
  rw [hk] at hc'
  cases hc'
  exact h2 rfl
theorem TkE.clr {w w' : World} {base B B2 : Nat} {vi vg vi' vg' vj vh : Value} {xi xg xi' xg' xj xh : List Value} (h : TkE w w' base B vi vg vi' vg' xi' xg') (hc : ClR w base B xi xg vi vg) (hd : ClR w base B2 xj xh vj vh) (hne : B2 ≠ B) (di : ∀ k, vi.ownBlock = some k -> vj.ownBlock ≠ some k) (dg : ∀ k, vg.ownBlock = some k -> vh.ownBlock ≠ some k) : ClR w' base B2 xj xh vj vh := by
 refine ⟨(h.types hc B2 _ _ (by decide) (by decide) hd.box hne).trans hd.box, owns_keep hd.i fun k hk => ?_, owns_keep hd.g fun k hk => ?_⟩
 ·obtain ⟨c, hc'⟩ := owns_type hd.i hk
  refine h.oth k (blk_lt hc') (fun e => ?_) (fun e => di k e hk) (fun e => ?_)
  ·subst e; rw [hc.box] at hc'; cases hc'
  ·obtain ⟨c2, hc2⟩ := owns_type hc.g e
   rw [hc'] at hc2
   cases hc2
 ·obtain ⟨c, hc'⟩ := owns_type hd.g hk
  refine h.oth k (blk_lt hc') (fun e => ?_) (fun e => ?_) (fun e => dg k e hk)
  ·subst e; rw [hc.box] at hc'; cases hc'
  ·obtain ⟨c2, hc2⟩ := owns_type hc.i e
   rw [hc'] at hc2
   cases hc2
theorem own_apart {w : World} {E : TypeId} {base m : Nat} {v v' u : Value} {xs : List Value} (hn : v'.ownBlock = v.ownBlock \/ ∀ k, v'.ownBlock = some k -> w.heap.size <= k) (hu : w.ownsRow base E 1 u m xs) (d : ∀ k, v.ownBlock = some k -> u.ownBlock ≠ some k) : ∀ k, v'.ownBlock = some k -> u.ownBlock ≠ some k := by
 intro k hk e
 rcases hn with h | h
 ·exact d k (h ▸ hk) e
 ·have h1 := h k hk
  have h2 := (World.ownsRow.lt hu k e).2
  omega
theorem PtB.takeG {w W W' : World} {row : Array Value} {b n : Nat} {f : Nat -> Bool} {xi xg xj xh xi' xg' : List Value} {vi vg vj vh vi' vg' : Value} (h : PtB w W row b n f xi xg xj xh vi vg vj vh) (hT : TkE W W' w.heap.size (w.heap.size + 1) vi vg vi' vg' xi' xg') : PtB w W' row b n f xi' xg' xj xh vi' vg' vj vh := by
 refine ⟨(hT.types h.go _ _ _ (by decide) (by decide) h.zb (by omega)).trans h.zb, ?_, hT.cl, hT.clr h.go h.ke (by omega) h.di h.dg, own_apart hT.ni h.ke.i h.di, own_apart hT.ng h.ke.g h.dg, h.bel.trans hT.bel⟩
 refine (hT.types h.go _ _ _ (by decide) (by decide) h.bl ?_).trans h.bl
 intro e
 have := h.bl
 rw [e, h.go.box] at this
 exact absurd (ty_eq this) (by decide)
theorem PtB.takeK {w W W' : World} {row : Array Value} {b n : Nat} {f : Nat -> Bool} {xi xg xj xh xj' xh' : List Value} {vi vg vj vh vj' vh' : Value} (h : PtB w W row b n f xi xg xj xh vi vg vj vh) (hT : TkE W W' w.heap.size (w.heap.size + 1 + 1) vj vh vj' vh' xj' xh') : PtB w W' row b n f xi xg xj' xh' vi vg vj' vh' := by
 have d1 : ∀ k, vj.ownBlock = some k -> vi.ownBlock ≠ some k := fun k h1 h2 => h.di k h2 h1
 have d2 : ∀ k, vh.ownBlock = some k -> vg.ownBlock ≠ some k := fun k h1 h2 => h.dg k h2 h1
 refine ⟨(hT.types h.ke _ _ _ (by decide) (by decide) h.zb (by omega)).trans h.zb, ?_, hT.clr h.ke h.go (by omega) d1 d2, hT.cl, fun k h1 h2 => own_apart hT.ni h.go.i d1 k h2 h1, fun k h1 h2 => own_apart hT.ng h.go.g d2 k h2 h1, h.bel.trans hT.bel⟩
 refine (hT.types h.ke _ _ _ (by decide) (by decide) h.bl ?_).trans h.bl
 intro e
 have := h.bl
 rw [e, h.ke.box] at this
 exact absurd (ty_eq this) (by decide)
theorem Tryz.infoC2 : (Tryz.prog.info? 75).map (·.size) = some 2 := by kernel_rfl
theorem one_cl {W : World} {base B : Nat} {xi xg : List Value} {vi vg : Value} (h : ClR W base B xi xg vi vg) : (#[vi, vg] : Array Value).all (·.oneCell') = true := by
 have h1 := (own_valJ h.i).1
 have h2 := (own_valJ h.g).1
 simp [h1, h2]
theorem res_ccT (f : Func) (i j : Nat) (ty : TypeId) (hf : f.results = #[ResultVar.cell i ty, ResultVar.cell j ty]) (tmps : Array Value) (W : World) (B C : Nat) (c d : Array Value) (hp : tmps[i]? = some (.pointer (some ⟨B, 0, none⟩))) (hq : tmps[j]? = some (.pointer (some ⟨C, 0, none⟩)))
  (u : TypeDesc) (hu : Tryz.prog.underlying ty = some u) (hd : u.isRow = true) (n : Nat) (hi : (Tryz.prog.info? ty).map (·.size) = some n)
  (hc : c.size = n) (hcd : d.size = n) (h : W.heap[B]? = some (.cells c ty)) (h' : W.heap[C]? = some (.cells d ty)) : (results f tmps).run Tryz.prog W = .ok (.tuple #[.agg c, .agg d]) W := by
 have hl : ∀ (B : Nat) (c : Array Value), c.size = n -> W.heap[B]? = some (.cells c ty) -> (loadVar ty ⟨B, 0, none⟩).run Tryz.prog W = .ok (.agg c) W := by
  intro B c hc h
  have hr : W.rangeAt B 0 c.toList := by
   have := World.rangeAt_of_block h 0 c.size
   simpa using this
  have hl := run_loadVar_mid (P := Tryz.prog) W B 0 ty c.toList _ hr hu hd (by rw [hi]; simp [hc])
  simpa using hl
 simp [results, hf, hp, hq, hl B c hc h, hl C d hcd h', asAddr]
def goesF (z : ZD) (many : Int) (j : Nat) : Bool := decide (j ∈ (plN (lsZ z) z.gn).take many.toNat)
theorem plN_lt (v : Nat -> Int) (n : Nat) {x : Nat} (h : x ∈ plN v n) : x < n := by
 unfold plN at h
 obtain ⟨y, _, rfl⟩ := List.mem_map.1 h
 exact y.isLt
theorem parted_f (a : Nat) (ha : a = 1166) (z : ZD) (w : World) (hz : ZR w z) (hdg : z.dn = z.gn) (hgn : z.gn <= 3999999) (hf : ∀ k j : Nat, Fin ((z.gs[k]?.getD [])[j]?.getD 0)) (hl : ∀ k, k < z.gn -> (z.gs[k]?.getD []).length <= 1050000) (many : Int) (hmany : many <= (z.gn : Int)) (f : Nat -> Bool) (hff : f = goesF z many) :
  Calls Tryz.prog 34 #[.agg #[.int .i64 z.N, .slice z.co z.cn z.cc, .slice z.io z.dn z.dc, .slice z.go z.gn z.gc, .slice z.ro z.rn z.rc, .bool z.bad], .int .i64 many] w fun e w' => ∃ vi vg vj vh, e = .returned (.tuple #[.agg #[vi, vg], .agg #[vj, vh]]) /\ (∃ B C, ClR w' w.heap.size B (xiL z.ids (pickL f z.gn)) (xgL z.gv (pickL f z.gn)) vi vg /\ ClR w' w.heap.size C (xiL z.ids (pickL (fun j => !f j) z.gn)) (xgL z.gv (pickL (fun j => !f j) z.gn)) vj vh) /\ Below w.heap.size w w' := by
 have HZ : Hid (∀ W', Below w.heap.size w W' -> ZR W' z) := fun W' hb => hz.later hb
 have HBy : Hid (∀ W', Below w.heap.size w W' -> Calls Tryz.prog 32 #[.agg #[.int .i64 z.N, .slice z.co z.cn z.cc, .slice z.io z.dn z.dc, .slice z.go z.gn z.gc, .slice z.ro z.rn z.rc, .bool z.bad]] W' fun e w' => ∃ P, e = .returned (.slice (some ⟨P, 0, none⟩) z.gn z.gn) /\ W'.heap.size <= P /\ RdIs w' (some ⟨P, 0, none⟩) z.gn z.gn ((plN (lsZ z) z.gn).map fun (k : Nat) => (k : Int)) /\ Below W'.heap.size W' w') := fun W' hb => byLoss_any a ha z W' (hz.later hb) (by omega) hf hl
 clear ha hz hf hl
 have HFF : Hid (f = goesF z many) := hff
 clear hff
 obtain ⟨N, co, cn, cc, io, dn, dc, go, gn, gc, ro, rn, rc, bad, cs, ids, gv, gs, rs⟩ := z
 dsimp only at hdg hgn hmany HBy ⊢
 have hgd := hdg.symm
 clear hdg
 subst hgd
 have hmx : gn <= 9223372036854775807 := by omega
 have hmk := makeBT gn (by omega)
 have X0 : PtB w ((((w.alloc (.cells #[.int .i64 N, .slice co cn cc, .slice io gn dc, .slice go gn gc, .slice ro rn rc, .bool bad] 26)).alloc (.cells #[.slice none 0 0, .slice none 0 0] 75)).alloc (.cells #[.slice none 0 0, .slice none 0 0] 75)).alloc (.cells (blN gn fun _ => false) 4)) #[.int .i64 N, .slice co cn cc, .slice io gn dc, .slice go gn gc, .slice ro rn rc, .bool bad] (w.heap.size + 1 + 1 + 1) gn (fun _ => false) [] [] [] [] (.slice none 0 0) (.slice none 0 0) (.slice none 0 0) (.slice none 0 0) := by
  refine ⟨?_, heap_at _ _ _ (by simp only [alloc_size]), ⟨?_, World.ownsRow_nil _ _ _ _, World.ownsRow_nil _ _ _ _⟩, ⟨?_, World.ownsRow_nil _ _ _ _, World.ownsRow_nil _ _ _ _⟩, fun k hk => (by cases hk), fun k hk => (by cases hk), ?_⟩
  ·exact alloc_kept (alloc_kept (alloc_kept (heap_alloc_new w _) _) _) _
  ·exact alloc_kept (alloc_kept (heap_at _ _ _ (by simp only [alloc_size])) _) _
  ·exact alloc_kept (heap_at _ _ _ (by simp only [alloc_size])) _
  ·exact ((((Below.refl _ w).alloc (Nat.le_refl _) _).alloc (by simp only [alloc_size]; omega) _).alloc (by simp only [alloc_size]; omega) _).alloc (by simp only [alloc_size]; omega) _
 have hs3 : (((w.alloc (.cells #[.int .i64 N, .slice co cn cc, .slice io gn dc, .slice go gn gc, .slice ro rn rc, .bool bad] 26)).alloc (.cells #[.slice none 0 0, .slice none 0 0] 75)).alloc (.cells #[.slice none 0 0, .slice none 0 0] 75)).heap.size = w.heap.size + 1 + 1 + 1 := by simp only [alloc_size]
 go_enter Tryz.func34, Tryz.ntmps34
 go_upto_if 16 with fail
 obtain ⟨Y, hY⟩ : ∃ Y, ((((w.alloc (.cells #[.int .i64 N, .slice co cn cc, .slice io gn dc, .slice go gn gc, .slice ro rn rc, .bool bad] 26)).alloc (.cells #[.slice none 0 0, .slice none 0 0] 75)).alloc (.cells #[.slice none 0 0, .slice none 0 0] 75)).alloc (.cells (blN gn fun _ => false) 4)) = Y := ⟨_, rfl⟩
 rw [hY] at X0
 (try rw [hY])
 have HX : Hid (PtB w Y #[.int .i64 N, .slice co cn cc, .slice io gn dc, .slice go gn gc, .slice ro rn rc, .bool bad] (w.heap.size + 1 + 1 + 1) gn (fun _ => false) [] [] [] [] (.slice none 0 0) (.slice none 0 0) (.slice none 0 0) (.slice none 0 0)) := X0
 clear hY X0 hmk hs3
 go_cut [6] (fun v6 wx => v6 = .slice (some ⟨w.heap.size + 1 + 1 + 1, 0, none⟩) gn gn /\ Hid (PtB w wx #[.int .i64 N, .slice co cn cc, .slice io gn dc, .slice go gn gc, .slice ro rn rc, .bool bad] (w.heap.size + 1 + 1 + 1) gn f [] [] [] [] (.slice none 0 0) (.slice none 0 0) (.slice none 0 0) (.slice none 0 0)))
 case first =>
  by_cases hm : many > 0
  ·obtain ⟨m, rfl⟩ : ∃ m : Nat, many = (m : Int) := ⟨many.toNat, by omega⟩
   have hd : decide ((m : Int) > 0) = true := decide_eq_true hm
   have hm1 : m <= gn := by omega
   obtain ⟨pl, hpl⟩ : ∃ pl, plN (lsZ (⟨N, co, cn, cc, io, gn, dc, go, gn, gc, ro, rn, rc, bad, cs, ids, gv, gs, rs⟩ : ZD)) gn = pl := ⟨_, rfl⟩
   have HGo : Hid ((goesF (⟨N, co, cn, cc, io, gn, dc, go, gn, gc, ro, rn, rc, bad, cs, ids, gv, gs, rs⟩ : ZD) (m : Int) = fun j => decide (j ∈ pl.take m)) /\ pl.length = gn /\ ∀ x ∈ pl, x < gn) := by
    refine ⟨?_, by rw [<- hpl, plN_len], fun x hx => plN_lt (lsZ (⟨N, co, cn, cc, io, gn, dc, go, gn, gc, ro, rn, rc, bad, cs, ids, gv, gs, rs⟩ : ZD)) gn (by rw [hpl]; exact hx)⟩
    funext j
    unfold goesF
    dsimp only
    rw [hpl, Int.toNat_natCast]
   rw [hpl] at HBy
   clear hpl
   go_wp2_with (first
    | (refine wpList_load_row (by rfl) 26 _ (by rfl) w.heap.size _ (by rfl) HX.out.zb _ Tryz.underlying26 rfl 6 Tryz.infoZ (by rfl) ?_)
    | (go_at_call 32; refine (HBy.out _ HX.out.bel).mono ?_; rintro e w1 ⟨P, rfl, hP, hr, b1⟩))
   have HP0 : Hid (PtB w w1 #[.int .i64 N, .slice co cn cc, .slice io gn dc, .slice go gn gc, .slice ro rn rc, .bool bad] (w.heap.size + 1 + 1 + 1) gn (fun j => decide (j ∈ pl.take 0)) [] [] [] [] (.slice none 0 0) (.slice none 0 0) (.slice none 0 0) (.slice none 0 0)) := by
    have h9 := HX.out.later b1
    have e9 : (fun j => decide (j ∈ pl.take 0)) = fun _ : Nat => false := by funext j; simp
    unfold Hid
    rw [e9]
    exact h9
   have HPP : Hid (w.heap.size + 1 + 1 + 1 ≠ P) := by have h9 := blk_lt HX.out.bl; unfold Hid; omega
   have HC0 : Hid (∀ j, j < gn -> w1.cell? ⟨P, j, none⟩ = some (.int .i64 ((pl[j]?.getD 0 : Nat) : Int))) := by
    intro j hj
    rcases hr.cells with h0 | ⟨b, off, hb9, hc9⟩
    ·omega
    ·injection hb9 with hb9
     injection hb9 with h91 h92
     have h93 := hc9 j hj
     rw [<- h91, <- h92, Nat.zero_add, List.getElem?_map] at h93
     rw [h93]
     rw [List.getElem?_eq_getElem (by rw [HGo.out.2.1]; exact hj)]
     rfl
   clear hr b1 hP HX
   go_loopg [22] m (fun g iv wx => ∃ k : Nat, iv = .int .i64 k /\ k + g = m /\ Hid (PtB w wx #[.int .i64 N, .slice co cn cc, .slice io gn dc, .slice go gn gc, .slice ro rn rc, .bool bad] (w.heap.size + 1 + 1 + 1) gn (fun j => decide (j ∈ pl.take k)) [] [] [] [] (.slice none 0 0) (.slice none 0 0) (.slice none 0 0) (.slice none 0 0)) /\ Hid (∀ j, j < gn -> wx.cell? ⟨P, j, none⟩ = some (.int .i64 ((pl[j]?.getD 0 : Nat) : Int))))
   case atStart => exact ⟨0, rfl, by omega, HP0, HC0⟩
   case round =>
    clear HP0 HC0
    obtain ⟨k, rfl, hk, HI, HC⟩ := hrel
    by_cases h1 : k < m
    ·have hd1 : decide ((k : Int) < (m : Int)) = true := decide_eq_true (by omega)
     obtain ⟨q, rfl⟩ : ∃ q, gk = q + 1 := ⟨gk - 1, by omega⟩
     have HIG : Hid (k + (q + 1) = m) := hk
     have h1' : (k : Int) < (m : Int) := by omega
     have ga := HC.out k (by omega)
     obtain ⟨x, hx⟩ : ∃ x, pl[k]?.getD 0 = x := ⟨_, rfl⟩
     rw [hx] at ga
     have hkl : k < pl.length := by rw [HGo.out.2.1]; omega
     have hxe : pl[k] = x := by rw [List.getElem?_eq_getElem hkl] at hx; exact hx
     have hxl : x < gn := by rw [<- hxe]; exact HGo.out.2.2 _ (List.getElem_mem hkl)
     have hxl' : (x : Int) < (gn : Int) := by omega
     have HSt : Hid (∀ j, j < gn -> decide (j ∈ pl.take (k + 1)) = if j = x then true else decide (j ∈ pl.take k)) := by
      intro j hj
      rw [List.take_succ_eq_append_getElem hkl, hxe]
      by_cases e : j = x
      ·rw [if_pos e, e]; simp
      ·rw [if_neg e]; simp [e]
     clear hk hx hkl hxe
     go_wp2_with (first | (refine wpList_store_at (by rfl) 4 _ _ (by rfl) w w.heap.size (w.heap.size + 1 + 1 + 1) x (.bool true) _ (blN gn (fun j => decide (j ∈ pl.take (k + 1)))) 4 (by rfl) (by rfl) HI.out.bl HI.out.bel (by omega) 1 Tryz.szB1 rfl (by rw [blN_size]; omega) (one_bo _) (blN_set _ _ _ _ hxl HSt.out) ?_; intro W2 e2 b2 s2 o2))
     have HI2 : Hid (PtB w W2 #[.int .i64 N, .slice co cn cc, .slice io gn dc, .slice go gn gc, .slice ro rn rc, .bool bad] (w.heap.size + 1 + 1 + 1) gn (fun j => decide (j ∈ pl.take (k + 1))) [] [] [] [] (.slice none 0 0) (.slice none 0 0) (.slice none 0 0) (.slice none 0 0)) := PtB.setB HI.out e2 o2 b2
     have HC2 : Hid (∀ j, j < gn -> W2.cell? ⟨P, j, none⟩ = some (.int .i64 ((pl[j]?.getD 0 : Nat) : Int))) := fun j hj => (cell_heapJ (o2 P (Ne.symm HPP.out)) j).trans (HC.out j hj)
     clear e2 b2 s2 o2 HI HC ga
     go_roundg q
     case measure => omega
     case rel => exact ⟨k + 1, by go_num, by have := HIG.out; omega, HI2, HC2⟩
    ·have hd1 : decide ((k : Int) < (m : Int)) = false := decide_eq_false (by omega)
     have hd2 : decide (k < m) = false := decide_eq_false (by omega)
     have hkm : k = m := by omega
     have HI2 : Hid (PtB w wr #[.int .i64 N, .slice co cn cc, .slice io gn dc, .slice go gn gc, .slice ro rn rc, .bool bad] (w.heap.size + 1 + 1 + 1) gn f [] [] [] [] (.slice none 0 0) (.slice none 0 0) (.slice none 0 0) (.slice none 0 0)) := by
      have h9 := HI.out
      rw [hkm] at h9
      unfold Hid
      rw [HFF.out, HGo.out.1]
      exact h9
     clear hkm
     go_wp2_with fail
     go_meet
     exact ⟨rfl, HI2⟩
  ·have hd : decide (many > 0) = false := decide_eq_false hm
   have hd2 : decide (0 < many) = false := decide_eq_false hm
   have HI2 : Hid (PtB w Y #[.int .i64 N, .slice co cn cc, .slice io gn dc, .slice go gn gc, .slice ro rn rc, .bool bad] (w.heap.size + 1 + 1 + 1) gn f [] [] [] [] (.slice none 0 0) (.slice none 0 0) (.slice none 0 0) (.slice none 0 0)) := by
    have e9 : goesF (⟨N, co, cn, cc, io, gn, dc, go, gn, gc, ro, rn, rc, bad, cs, ids, gv, gs, rs⟩ : ZD) many = fun _ : Nat => false := by
     funext j
     unfold goesF
     rw [show many.toNat = 0 by omega]
     simp
    unfold Hid
    rw [HFF.out, e9]
    exact HX.out
   go_wp2_with fail
   go_meet
   exact ⟨rfl, HI2⟩
 case rest =>
  obtain ⟨rfl, HR⟩ := hcut
  clear HX
  clear HFF
  have c2 : wc.cell? ⟨w.heap.size, 2, none⟩ = some (.slice io gn dc) := cellAtJ HR.out.zb 2 _ rfl
  go_wp2_with fail
  clear c2
  go_loopg [33] gn (fun g iv wx => ∃ k : Nat, iv = .int .i64 k /\ k + g = gn /\ ∃ vi vg vj vh, Hid (PtB w wx #[.int .i64 N, .slice co cn cc, .slice io gn dc, .slice go gn gc, .slice ro rn rc, .bool bad] (w.heap.size + 1 + 1 + 1) gn f (xiL ids (pickL f k)) (xgL gv (pickL f k)) (xiL ids (pickL (fun j => !f j) k)) (xgL gv (pickL (fun j => !f j) k)) vi vg vj vh))
  case atStart => exact ⟨0, rfl, by omega, _, _, _, _, HR⟩
  case round =>
   clear HR
   obtain ⟨k, rfl, hk, vi, vg, vj, vh, HI⟩ := hrel
   by_cases h1 : k < gn
   ·have hd1 : decide ((k : Int) < (gn : Int)) = true := decide_eq_true (by omega)
    obtain ⟨q, rfl⟩ : ∃ q, gk = q + 1 := ⟨gk - 1, by omega⟩
    have HIG : Hid (k + (q + 1) = gn) := hk
    have h1' : (k : Int) < (gn : Int) := by omega
    clear hk
    have hzz := HZ.out wr HI.out.bel
    rcases hzz.i.cells with h0 | ⟨ib, ioff, hio, hic⟩
    ·dsimp only at h0; omega
    rcases hzz.g.cells with h0 | ⟨gb, goff, hgo, hgc⟩
    ·dsimp only at h0; omega
    dsimp only at hio hgo
    have ga := hgc k h1
    have gi := hic k h1
    dsimp only at ga gi
    have c3 : wr.cell? ⟨w.heap.size, 3, none⟩ = some (.slice go gn gc) := cellAtJ HI.out.zb 3 _ rfl
    have cb : wr.cell? ⟨w.heap.size + 1 + 1 + 1, k, none⟩ = some (.bool (f k)) := cellAtJ HI.out.bl k _ (blN_at _ _ _ h1)
    subst hio hgo
    have HX1 : Hid (xiL ids (pickL f k ++ [k]) = xiL ids (pickL f k) ++ [.int .i64 (ids[k]?.getD 0)] /\ xgL gv (pickL f k ++ [k]) = xgL gv (pickL f k) ++ [.slice (gv k).1 (gv k).2.1 (gv k).2.2]) := ⟨xiL_snoc _ _ _, xgL_snoc _ _ _⟩
    have HX2 : Hid (xiL ids (pickL (fun j => !f j) k ++ [k]) = xiL ids (pickL (fun j => !f j) k) ++ [.int .i64 (ids[k]?.getD 0)] /\ xgL gv (pickL (fun j => !f j) k ++ [k]) = xgL gv (pickL (fun j => !f j) k) ++ [.slice (gv k).1 (gv k).2.1 (gv k).2.2]) := ⟨xiL_snoc _ _ _, xgL_snoc _ _ _⟩
    obtain ⟨di, edi⟩ : ∃ x, ids[k]?.getD 0 = x := ⟨_, rfl⟩
    obtain ⟨g1, eg1⟩ : ∃ x, (gv k).1 = x := ⟨_, rfl⟩
    obtain ⟨g2, eg2⟩ : ∃ x, (gv k).2.1 = x := ⟨_, rfl⟩
    obtain ⟨g3, eg3⟩ : ∃ x, (gv k).2.2 = x := ⟨_, rfl⟩
    rw [eg1, eg2, eg3] at ga
    rw [edi] at gi
    rw [edi, eg1, eg2, eg3] at HX1 HX2
    have HLN : Hid ((pickL f k).length <= k /\ (pickL (fun j => !f j) k).length <= k) := ⟨pickL_len _ _, pickL_len _ _⟩
    have HWS : Hid (w.heap.size <= wr.heap.size) := HI.out.bel.size
    clear hic hgc hzz eg1 eg2 eg3 edi
    cases hfk : f k with
    | true =>
     rw [hfk] at cb
     have HE : Hid (pickL f (k + 1) = pickL f k ++ [k] /\ pickL (fun j => !f j) (k + 1) = pickL (fun j => !f j) k) := ⟨pickL_yes hfk, pickL_no (by simp [hfk])⟩
     clear hfk
     go_wp2_with (first | (go_at_call 63; refine (take_any w.heap.size (w.heap.size + 1) _ _ vi vg di g1 g2 g3 _ HI.out.go (by have := HLN.out.1; unfold xiL; rw [List.length_map]; omega) (by have := HLN.out.1; unfold xgL; rw [List.length_map]; omega) HWS.out (by omega)).mono ?_; rintro e w3 ⟨rfl, vi', vg', hT⟩))
     have HI2 : Hid (PtB w w3 #[.int .i64 N, .slice co cn cc, .slice (some ⟨ib, ioff, none⟩) gn dc, .slice (some ⟨gb, goff, none⟩) gn gc, .slice ro rn rc, .bool bad] (w.heap.size + 1 + 1 + 1) gn f (xiL ids (pickL f (k + 1))) (xgL gv (pickL f (k + 1))) (xiL ids (pickL (fun j => !f j) (k + 1))) (xgL gv (pickL (fun j => !f j) (k + 1))) vi' vg' vj vh) := by
      have h9 := PtB.takeG HI.out hT
      rw [<- HX1.out.1, <- HX1.out.2] at h9
      unfold Hid
      rw [HE.out.1, HE.out.2]
      exact h9
     clear hT HI ga gi c3 cb HX1 HX2 HE HLN HWS
     go_roundg q
     case measure => omega
     case rel => exact ⟨k + 1, by go_num, by have := HIG.out; omega, _, _, _, _, HI2⟩
    | false =>
     rw [hfk] at cb
     have HE : Hid (pickL f (k + 1) = pickL f k /\ pickL (fun j => !f j) (k + 1) = pickL (fun j => !f j) k ++ [k]) := ⟨pickL_no hfk, pickL_yes (by simp [hfk])⟩
     clear hfk
     go_wp2_with (first | (go_at_call 63; refine (take_any w.heap.size (w.heap.size + 1 + 1) _ _ vj vh di g1 g2 g3 _ HI.out.ke (by have := HLN.out.2; unfold xiL; rw [List.length_map]; omega) (by have := HLN.out.2; unfold xgL; rw [List.length_map]; omega) HWS.out (by omega)).mono ?_; rintro e w3 ⟨rfl, vj', vh', hT⟩))
     have HI2 : Hid (PtB w w3 #[.int .i64 N, .slice co cn cc, .slice (some ⟨ib, ioff, none⟩) gn dc, .slice (some ⟨gb, goff, none⟩) gn gc, .slice ro rn rc, .bool bad] (w.heap.size + 1 + 1 + 1) gn f (xiL ids (pickL f (k + 1))) (xgL gv (pickL f (k + 1))) (xiL ids (pickL (fun j => !f j) (k + 1))) (xgL gv (pickL (fun j => !f j) (k + 1))) vi vg vj' vh') := by
      have h9 := PtB.takeK HI.out hT
      rw [<- HX2.out.1, <- HX2.out.2] at h9
      unfold Hid
      rw [HE.out.1, HE.out.2]
      exact h9
     clear hT HI ga gi c3 cb HX1 HX2 HE HLN HWS
     go_roundg q
     case measure => omega
     case rel => exact ⟨k + 1, by go_num, by have := HIG.out; omega, _, _, _, _, HI2⟩
   ·have hd1 : decide ((k : Int) < (gn : Int)) = false := decide_eq_false (by omega)
    have hd2 : decide (k < gn) = false := decide_eq_false (by omega)
    have hkm : k = gn := by omega
    have HI2 : Hid (PtB w wr #[.int .i64 N, .slice co cn cc, .slice io gn dc, .slice go gn gc, .slice ro rn rc, .bool bad] (w.heap.size + 1 + 1 + 1) gn f (xiL ids (pickL f gn)) (xgL gv (pickL f gn)) (xiL ids (pickL (fun j => !f j) gn)) (xgL gv (pickL (fun j => !f j) gn)) vi vg vj vh) := by
     have h9 := HI.out
     rw [hkm] at h9
     exact h9
    clear hkm HI
    go_wp2_with (first
     | (refine wpList_load_row (by rfl) 75 _ (by rfl) (w.heap.size + 1) _ (by rfl) HI2.out.go.box _ Tryz.underlying75 rfl 2 Tryz.infoC2 (by rfl) ?_)
     | (refine wpList_load_row (by rfl) 75 _ (by rfl) (w.heap.size + 1 + 1) _ (by rfl) HI2.out.ke.box _ Tryz.underlying75 rfl 2 Tryz.infoC2 (by rfl) ?_)
     | (refine wpList_store_row (by rfl) 75 _ _ (by rfl) w w.heap.size (w.heap.size + 1) #[vi, vg] _ (by rfl) (by rfl) HI2.out.go.box HI2.out.bel (by omega) 2 Tryz.infoC2 rfl rfl (one_cl HI2.out.go) ?_; intro W7 e7 b7 s7 o7)
     | (refine wpList_store_row (by rfl) 75 _ _ (by rfl) w w.heap.size (w.heap.size + 1 + 1) #[vj, vh] _ (by rfl) (by rfl) ((o7 _ (by omega)).trans HI2.out.ke.box) b7 (by omega) 2 Tryz.infoC2 rfl rfl (one_cl HI2.out.ke) ?_; intro W8 e8 b8 s8 o8))
    have f7 : W8.heap[w.heap.size + 1]? = some (.cells #[vi, vg] 75) := (o8 _ (by omega)).trans e7
    have hk : ∀ (k : Nat) (cur : Array Value) (t : TypeId), t = 75 \/ t = 3 \/ t = 22 -> wr.heap[k]? = some (.cells cur t) -> W8.heap[k]? = wr.heap[k]? := by
     intro k cur t ht hc
     by_cases e1 : k = w.heap.size + 1
     ·rw [e1, f7, HI2.out.go.box]
     ·by_cases e2 : k = w.heap.size + 1 + 1
      ·rw [e2, e8, HI2.out.ke.box]
      ·exact (o8 k e2).trans (o7 k e1)
    refine bodyPost_ret (res_ccT _ 4 5 75 (by kernel_rfl) _ _ (w.heap.size + 1) (w.heap.size + 1 + 1) #[vi, vg] #[vj, vh] (by rfl) (by rfl) _ Tryz.underlying75 rfl 2 Tryz.infoC2 rfl rfl f7 e8) rfl ?_
    exact ⟨vi, vg, vj, vh, rfl, ⟨_, _, HI2.out.go.keepT hk, HI2.out.ke.keepT hk⟩, b8⟩
open Ieee
theorem RndO.some_iff {d : Int} {x : Int} {u a : Nat} {b : Bool} (ha : a = 1166) (h : RndO d (some x) u b) : RndZ d x (2 ^ a) (u, b) := h a ha
open Ieee
theorem fin_getD {us : List Nat} (h : ∀ u ∈ us, Fin u) (j : Nat) : Fin (us[j]?.getD 0) := by
 by_cases hj : j < us.length
 ·rw [List.getElem?_eq_getElem hj]; exact h _ (List.getElem_mem hj)
 ·rw [List.getElem?_eq_none (by omega)]; exact fin_zeroJ
theorem colsB_num {z : ZD} : ∀ {ks : List (_root_.Fin z.dn)} {last : Int}, colsB z last ks = true -> ∀ k ∈ ks, numN (z.gs[k.val]?.getD []) z.N = true
 | [], _, _, k, hk => by cases hk
 | x :: ks, last, h, k, hk => by
  have h' : (colOk z last x && colsB z (idZ z x) ks) = true := h
  rw [Bool.and_eq_true] at h'
  rcases List.mem_cons.1 hk with rfl | hk
  ·have := h'.1
   unfold colOk at this
   simp only [Bool.and_eq_true] at this
   exact this.2
  ·exact colsB_num h'.2 k hk
structure WhF (z : ZD) : Prop where
 n1 : 1 <= z.rn
 n2 : z.rn <= 256
 N : z.N = (z.rn : Int)
 cn : z.cn = z.rn
 dg : z.dn = z.gn
 cl : z.cs.length = z.rn
 rl : z.rs.length = z.rn
 gl : ∀ k, k < z.dn -> (z.gs[k]?.getD []).length = z.rn
 pos : ∀ i : Nat, 0 <= fval (z.rs[i]?.getD 0)
 fin : FnZ z
theorem WhF.of {w : World} {z : ZD} (hz : ZR w z) (hd : z.dn <= 1050000) (h : wholeB z = true) : WhF z := by
 unfold wholeB at h
 simp only [Bool.and_eq_true, decide_eq_true_eq] at h
 obtain ⟨⟨⟨⟨⟨⟨h1, h2⟩, h3⟩, h4⟩, h5⟩, h6⟩, h7⟩ := h
 obtain ⟨c1, c2⟩ := numN_fin h3
 obtain ⟨r1, r2⟩ := numN_fin h4
 have hl := hz.r.length
 have hlc := hz.c.length
 have hg := fun (k : Nat) (hk : k < z.dn) => numN_fin (colsB_num h7 ⟨k, hk⟩ (List.mem_finRange _))
 refine ⟨by omega, by omega, by omega, by omega, h5, by omega, hl, fun k hk => by have := (hg k hk).1; dsimp only at this; omega, fun i => ?_, ⟨fin_getD c2, fin_getD r2, fun k j => ?_, hd⟩⟩
 ·by_cases hi : i < z.rs.length
  ·rw [List.getElem?_eq_getElem hi]
   have h8 := List.all_eq_true.1 h6 _ (List.getElem_mem hi)
   have h9 : ¬ srung z.rs[i] < 0 := of_decide_eq_true h8
   have h10 := srung_le 0 z.rs[i]
   rw [fval_zeroJ, show srung 0 = 0 by decide] at h10
   exact h10.1 (by omega)
  ·rw [List.getElem?_eq_none (by omega)]; exact Int.le_of_eq fval_zeroJ.symm
 ·by_cases hk : k < z.dn
  ·exact fin_getD (hg k hk).2 j
  ·have e : z.gs[k]? = none := List.getElem?_eq_none (by have := hz.g.length; omega)
   rw [e]
   exact fin_zeroJ
theorem tk_bad {z : ZD} (h : (!z.bad && wholeB z) = false) : (tkZ z).bad = true := by
 unfold tkZ checkB
 cases hb : z.bad with
 | true =>
  simp only [if_true]
  split
  ·exact hb
  ·rfl
 | false =>
  rw [hb] at h
  have hw : wholeB z = false := by simpa using h
  simp only [Bool.false_eq_true, if_false, hw]
  rfl
theorem tk_good {z : ZD} (h : (!z.bad && wholeB z) = true) : z.bad = false /\ wholeB z = true /\ checkB z = true := by
 rw [Bool.and_eq_true, Bool.not_eq_true'] at h
 exact ⟨h.1, h.2, by unfold checkB; rw [h.1]; exact h.2⟩
end Go.Proofs.YthmhgpadinecfaaGreat
