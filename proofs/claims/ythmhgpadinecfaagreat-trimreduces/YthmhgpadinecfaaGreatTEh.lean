import Derived.Deep.CutBlock
import Derived.Test.YthmhgpadinecfaaGreatTEg
set_option maxRecDepth 100000
set_option maxHeartbeats 4000000
set_option linter.unusedVariables false
set_option linter.unusedSimpArgs false
namespace Go.Proofs.YthmhgpadinecfaaGreat
open Go.RowKit Go.Shelf
structure ZoA (w W : World) (row : Array Value) (cs rs : List Nat) (ids : List Int) (vc vr vi : Value) : Prop where
 bel : Below w.heap.size w W
 zb : W.heap[w.heap.size]? = some (.cells row 26)
 ans : W.heap[w.heap.size + 1]? = some (.cells #[.int .i64 0, .slice none 0 0, .slice none 0 0, .slice none 0 0, .slice none 0 0, .bool false] 26)
 c : Mk W w.heap.size vc cs
 r : Mk W w.heap.size vr rs
 i : W.ownsRow w.heap.size 3 1 vi ids.length (ids.map (Value.int .i64))
 ne : vc.ownBlock ≠ vr.ownBlock
theorem ZoA.later {w W W' : World} {row : Array Value} {cs rs : List Nat} {ids : List Int} {vc vr vi : Value} (h : ZoA w W row cs rs ids vc vr vi) (hb : Below W.heap.size W W') : ZoA w W' row cs rs ids vc vr vi := ⟨to_callD h.bel hb, kept hb h.zb, kept hb h.ans, h.c.later hb, h.r.later hb, owns_keepT h.i fun k cur hc => hb.block k (blk_lt hc), h.ne⟩
theorem ZoA.setD {w W W' : World} {row : Array Value} {cs rs : List Nat} {ids : List Int} {vc vr vi : Value} {D : Nat} {c : Array Value} (h : ZoA w W row cs rs ids vc vr vi) (hD : W.heap[D]? = some (.cells c 26)) (h1 : w.heap.size + 1 < D) (hk : ∀ k, k ≠ D -> W'.heap[k]? = W.heap[k]?) (hb : Below w.heap.size w W') : ZoA w W' row cs rs ids vc vr vi := by
 have hq : ∀ (k : Nat) (cur : Array Value) (t : TypeId), t ≠ 26 -> W.heap[k]? = some (.cells cur t) -> W'.heap[k]? = W.heap[k]? := fun k cur t ht hc => hk k (by rintro rfl; rw [hD] at hc; cases hc; exact ht rfl)
 exact ⟨hb, (hk _ (by omega)).trans h.zb, (hk _ (by omega)).trans h.ans, h.c.keepT fun k cur => hq k cur _ (by decide), h.r.keepT fun k cur => hq k cur _ (by decide), owns_keepT h.i fun k cur => hq k cur _ (by decide), h.ne⟩
theorem ZoA.pushI {w W W' : World} {row : Array Value} {cs rs : List Nat} {ids : List Int} {vc vr vi : Value} {vi' : Value} {is : List Int} (h : ZoA w W row cs rs ids vc vr vi) (hg : Grw W W' vi.ownBlock vi'.ownBlock) (ho : W'.ownsRow w.heap.size 3 1 vi' is.length (is.map (Value.int .i64))) : ZoA w W' row cs rs is vc vr vi' := by
 have hk := grw_types h.i hg
 exact ⟨h.bel.trans (hg.below (fun k hk => (World.ownsRow.lt h.i k hk).1) h.bel.size), (hk _ _ _ (by decide) h.zb).trans h.zb, (hk _ _ _ (by decide) h.ans).trans h.ans, h.c.keepT fun k cur => hk k cur _ (by decide), h.r.keepT fun k cur => hk k cur _ (by decide), ho, h.ne⟩
structure ZoB (w W : World) (row : Array Value) (cs rs : List Nat) (ids : List Int) (gs : List (List Nat)) (vc vr vi vg : Value) (gl : List Value) : Prop where
 bel : Below w.heap.size w W
 zb : W.heap[w.heap.size]? = some (.cells row 26)
 ans : W.heap[w.heap.size + 1]? = some (.cells #[.int .i64 0, .slice none 0 0, .slice none 0 0, .slice none 0 0, .slice none 0 0, .bool false] 26)
 c : Mk W w.heap.size vc cs
 r : Mk W w.heap.size vr rs
 i : IdM W w.heap.size vi ids
 g : W.ownsRow w.heap.size 22 1 vg gl.length gl
 len : gl.length = gs.length
 col : ∀ (j : Nat) (u : Value), gl[j]? = some u -> Mk W w.heap.size u (gs[j]?.getD [])
 nd : ((vc :: vr :: gl).map Value.ownBlock).Nodup
theorem ZoB.keep {w W W' : World} {row : Array Value} {cs rs : List Nat} {ids : List Int} {gs : List (List Nat)} {vc vr vi vg : Value} {gl : List Value} (h : ZoB w W row cs rs ids gs vc vr vi vg gl) (hb : Below w.heap.size w W') (hz : W'.heap[w.heap.size]? = W.heap[w.heap.size]?) (ha : W'.heap[w.heap.size + 1]? = W.heap[w.heap.size + 1]?) (hk : ∀ (k : Nat) (cur : Array Value) (t : TypeId), t ≠ 26 -> W.heap[k]? = some (.cells cur t) -> W'.heap[k]? = W.heap[k]?) : ZoB w W' row cs rs ids gs vc vr vi vg gl :=
 ⟨hb, hz.trans h.zb, ha.trans h.ans, h.c.keepT fun k cur => hk k cur _ (by decide), h.r.keepT fun k cur => hk k cur _ (by decide), h.i.keep fun k cur => hk k cur _ (by decide), owns_keepT h.g fun k cur => hk k cur _ (by decide), h.len, fun j u hj => (h.col j u hj).keepT fun k cur => hk k cur _ (by decide), h.nd⟩
theorem ZoB.later {w W W' : World} {row : Array Value} {cs rs : List Nat} {ids : List Int} {gs : List (List Nat)} {vc vr vi vg : Value} {gl : List Value} (h : ZoB w W row cs rs ids gs vc vr vi vg gl) (hb : Below W.heap.size W W') : ZoB w W' row cs rs ids gs vc vr vi vg gl := h.keep (to_callD h.bel hb) (hb.block _ (blk_lt h.zb)) (hb.block _ (blk_lt h.ans)) fun k cur t _ hc => hb.block k (blk_lt hc)
theorem ZoB.setD {w W W' : World} {row : Array Value} {cs rs : List Nat} {ids : List Int} {gs : List (List Nat)} {vc vr vi vg : Value} {gl : List Value} {D : Nat} {c : Array Value} (h : ZoB w W row cs rs ids gs vc vr vi vg gl) (hD : W.heap[D]? = some (.cells c 26)) (h1 : w.heap.size + 1 < D) (hk : ∀ k, k ≠ D -> W'.heap[k]? = W.heap[k]?) (hb : Below w.heap.size w W') : ZoB w W' row cs rs ids gs vc vr vi vg gl :=
 h.keep hb (hk _ (by omega)) (hk _ (by omega)) fun k cur t ht hc => hk k (by rintro rfl; rw [hD] at hc; cases hc; exact ht rfl)
theorem ZoB.blk {w W : World} {row : Array Value} {cs rs : List Nat} {ids : List Int} {gs : List (List Nat)} {vc vr vi vg : Value} {gl : List Value} (h : ZoB w W row cs rs ids gs vc vr vi vg gl) : ∀ u ∈ vc :: vr :: gl, ∃ g, u.ownBlock = some g /\ g < W.heap.size := by
 intro u hu
 rcases List.mem_cons.1 hu with rfl | hu
 ·obtain ⟨g, e, _, l⟩ := h.c.blk; exact ⟨g, e, l⟩
 rcases List.mem_cons.1 hu with rfl | hu
 ·obtain ⟨g, e, _, l⟩ := h.r.blk; exact ⟨g, e, l⟩
 obtain ⟨j, hj⟩ := List.mem_iff_getElem?.1 hu
 obtain ⟨g, e, _, l⟩ := (h.col j u hj).blk
 exact ⟨g, e, l⟩
theorem ZoB.pushG {w W W' : World} {row : Array Value} {cs rs : List Nat} {ids : List Int} {gs : List (List Nat)} {vc vr vi vg : Value} {gl : List Value} {vg' v : Value} {us : List Nat} (h : ZoB w W row cs rs ids gs vc vr vi vg gl) (hg : Grw W W' vg.ownBlock vg'.ownBlock) (ho : W'.ownsRow w.heap.size 22 1 vg' (gl.length + 1) (gl ++ [v])) (hv : Mk W w.heap.size v us) (hn : ∀ u ∈ vc :: vr :: gl, u.ownBlock ≠ v.ownBlock) : ZoB w W' row cs rs ids (gs ++ [us]) vc vr vi vg' (gl ++ [v]) := by
 have hk := grw_types h.g hg
 refine ⟨h.bel.trans (hg.below (fun k hk => (World.ownsRow.lt h.g k hk).1) h.bel.size), (hk _ _ _ (by decide) h.zb).trans h.zb, (hk _ _ _ (by decide) h.ans).trans h.ans, h.c.keepT fun k cur => hk k cur _ (by decide), h.r.keepT fun k cur => hk k cur _ (by decide), h.i.keep fun k cur => hk k cur _ (by decide), by simpa using ho, by simp [h.len], fun j u hj => ?_, ?_⟩
 ·by_cases e : j < gl.length
  ·rw [List.getElem?_append_left e] at hj
   rw [List.getElem?_append_left (by rw [<- h.len]; exact e)]
   exact (h.col j u hj).keepT fun k cur => hk k cur _ (by decide)
  ·have hl := (List.getElem?_eq_some_iff.1 hj).1
   have ej : j = gl.length := by simp at hl; omega
   subst ej
   rw [List.getElem?_append_right (Nat.le_refl _), Nat.sub_self, List.getElem?_cons_zero] at hj
   cases hj
   rw [List.getElem?_append_right (by rw [h.len]; exact Nat.le_refl _), h.len, Nat.sub_self, List.getElem?_cons_zero]
   exact hv.keepT fun k cur => hk k cur _ (by decide)
 ·rw [show vc :: vr :: (gl ++ [v]) = (vc :: vr :: gl) ++ [v] from rfl, List.map_append, List.nodup_append]
  refine ⟨h.nd, by simp, fun a ha b hb e => ?_⟩
  obtain ⟨u, hu, rfl⟩ := List.mem_map.1 ha
  simp only [List.map_cons, List.map_nil, List.mem_singleton] at hb
  exact hn u hu (e.trans hb)
theorem allocAL (w : World) : (Instr.alloc 26 true (.tuple #[])).run Tryz.prog w = .ok (.pointer (some ⟨w.heap.size, 0, none⟩)) (w.alloc (.cells #[.int .i64 0, .slice none 0 0, .slice none 0 0, .slice none 0 0, .slice none 0 0, .bool false] 26)) := by kernel_rfl
def wgI (w : World) : World := w.alloc (.cells #[.int .i64 (-31), .int .i64 (-31), .int .i64 (-31)] 3)
def wg3 (w : World) : World := (((w.alloc (.cells #[.float .f64 13852790978814935040] 55)).alloc (.cells #[.float .f64 13852790978814935040] 55)).alloc (.cells #[.slice (some ⟨w.heap.size, 0, none⟩) 1 1, .slice (some ⟨w.heap.size + 1, 0, none⟩) 1 1] 22))
theorem three_oneI (x y z : Int) : ∀ u ∈ [Value.int .i64 x, .int .i64 y, .int .i64 z], u.oneCell' = true := by
 intro u hu
 simp only [List.mem_cons, List.not_mem_nil, or_false] at hu
 rcases hu with rfl | rfl | rfl <;> rfl
theorem mk_one {w : World} {base : Nat} {v : Value} {us : List Nat} (h : Mk w base v us) : v.oneCell' = true := by obtain ⟨g, cap, cur, rfl, _⟩ := h; rfl
theorem idm_one {w : World} {base : Nat} {v : Value} {ids : List Int} (h : IdM w base v ids) : v.oneCell' = true := by obtain ⟨g, cap, cur, rfl, _⟩ := h; rfl
theorem zonoL_any
  (N : Int) (co : Option Addr) (cn cc : Nat) (io : Option Addr) (dn dc : Nat) (go : Option Addr) (gn gc : Nat) (ro : Option Addr) (rn rc : Nat) (bad : Bool) (cs : List Nat) (ids : List Int) (gv : Nat -> Option Addr × Nat × Nat) (gs : List (List Nat)) (rs : List Nat) (w : World)
  (hc : RdF w co cn cc cs) (hi : RdIs w io dn dc ids) (hg : RdGs w go gn gc gv gs) (hr : RdF w ro rn rc rs) (lc : (cn <= cc /\ (co = none -> cc = 0) /\ cc <= maxLen)) (lr : (rn <= rc /\ (ro = none -> rc = 0) /\ rc <= maxLen)) (lg : ∀ k, k < gn -> ((gv k).2.1 <= (gv k).2.2 /\ ((gv k).1 = none -> (gv k).2.2 = 0) /\ (gv k).2.2 <= maxLen)) :
  Calls Tryz.prog 6 #[.agg #[.int .i64 N, .slice co cn cc, .slice io dn dc, .slice go gn gc, .slice ro rn rc, .bool bad]] w fun e w' => ∃ (vc vr vi vg : Value) (gl : List Value), e = .returned (.agg #[.int .i64 N, vc, vi, vg, vr, .bool bad]) /\ XL w' w.heap.size (cs.take 300) (rs.take 300) (ids.take 400) ((gs.take 400).map (·.take 300)) vc vr vi vg gl /\ Below w.heap.size w w' := by
 have HC : Hid (∀ W, Below w.heap.size w W -> Calls Tryz.prog 21 #[.slice co cn cc, .int .i64 300] W fun e w' => ∃ v, e = .returned v /\ Mk w' W.heap.size v (cs.take 300) /\ Below W.heap.size W w') := fun W hb => laid_any co cn cc cs W (hc.later hb) lc.1 lc.2.1 lc.2.2
 have HR : Hid (∀ W, Below w.heap.size w W -> Calls Tryz.prog 21 #[.slice ro rn rc, .int .i64 300] W fun e w' => ∃ v, e = .returned v /\ Mk w' W.heap.size v (rs.take 300) /\ Below W.heap.size W w') := fun W hb => laid_any ro rn rc rs W (hr.later hb) lr.1 lr.2.1 lr.2.2
 have HGL : Hid (∀ k, k < gn -> ∀ W, Below w.heap.size w W -> Calls Tryz.prog 21 #[.slice (gv k).1 (gv k).2.1 (gv k).2.2, .int .i64 300] W fun e w' => ∃ v, e = .returned v /\ Mk w' W.heap.size v ((gs[k]?.getD []).take 300) /\ Below W.heap.size W w') := fun k hk W hb => laid_any _ _ _ _ W ((hg.each k hk).later hb) (lg k hk).1 (lg k hk).2.1 (lg k hk).2.2
 have HI : Hid (∀ W, Below w.heap.size w W -> RdIs W io dn dc ids) := fun W hb => hi.later hb
 have HG : Hid (∀ W, Below w.heap.size w W -> RdGs W go gn gc gv gs) := fun W hb => hg.later hb
 have HLN : Hid (ids.length = dn /\ gs.length = gn) := ⟨hi.length, hg.length⟩
 have hmd : dn <= 9223372036854775807 := Nat.le_trans hi.max maxLen_le
 have hmg : gn <= 9223372036854775807 := Nat.le_trans hg.max maxLen_le
 clear hc hi hg hr lc lr lg
 have X0 : Below w.heap.size w ((w.alloc (.cells #[.int .i64 N, .slice co cn cc, .slice io dn dc, .slice go gn gc, .slice ro rn rc, .bool bad] 26)).alloc (.cells #[.int .i64 0, .slice none 0 0, .slice none 0 0, .slice none 0 0, .slice none 0 0, .bool false] 26)) := ((Below.refl _ w).alloc (Nat.le_refl _) _).alloc (by simp only [alloc_size]; omega) _
 have Y0 : ((w.alloc (.cells #[.int .i64 N, .slice co cn cc, .slice io dn dc, .slice go gn gc, .slice ro rn rc, .bool bad] 26)).alloc (.cells #[.int .i64 0, .slice none 0 0, .slice none 0 0, .slice none 0 0, .slice none 0 0, .bool false] 26)).heap[w.heap.size]? = some (.cells #[.int .i64 N, .slice co cn cc, .slice io dn dc, .slice go gn gc, .slice ro rn rc, .bool bad] 26) := alloc_kept (heap_alloc_new w _) _
 have Y1 : ((w.alloc (.cells #[.int .i64 N, .slice co cn cc, .slice io dn dc, .slice go gn gc, .slice ro rn rc, .bool bad] 26)).alloc (.cells #[.int .i64 0, .slice none 0 0, .slice none 0 0, .slice none 0 0, .slice none 0 0, .bool false] 26)).heap[w.heap.size + 1]? = some (.cells #[.int .i64 0, .slice none 0 0, .slice none 0 0, .slice none 0 0, .slice none 0 0, .bool false] 26) := heap_at _ _ _ (by simp only [alloc_size])
 go_enter Tryz.func6, Tryz.ntmps6
 go_upto_region 1 with fail
 obtain ⟨X, hX⟩ : ∃ X, ((w.alloc (.cells #[.int .i64 N, .slice co cn cc, .slice io dn dc, .slice go gn gc, .slice ro rn rc, .bool bad] 26)).alloc (.cells #[.int .i64 0, .slice none 0 0, .slice none 0 0, .slice none 0 0, .slice none 0 0, .bool false] 26)) = X := ⟨_, rfl⟩
 rw [hX] at X0 Y0 Y1 ⊢
 have HX : Hid (Below w.heap.size w X /\ X.heap[w.heap.size]? = some (.cells #[.int .i64 N, .slice co cn cc, .slice io dn dc, .slice go gn gc, .slice ro rn rc, .bool bad] 26) /\ X.heap[w.heap.size + 1]? = some (.cells #[.int .i64 0, .slice none 0 0, .slice none 0 0, .slice none 0 0, .slice none 0 0, .bool false] 26)) := ⟨X0, Y0, Y1⟩
 clear hX X0 Y0 Y1
 go_cut [3] (fun v wx => ∃ D vc vr, v = .pointer (some ⟨D, 0, none⟩) /\ Hid (wx.heap[D]? = some (.cells #[.int .i64 N, vc, .slice none 0 0, .slice none 0 0, vr, .bool bad] 26)) /\ Hid (Mk wx w.heap.size vc (cs.take 300)) /\ Hid (Mk wx w.heap.size vr (rs.take 300)) /\ Hid (vc.ownBlock ≠ vr.ownBlock) /\ Hid (Below X.heap.size X wx) /\ X.heap.size <= D)
 case first =>
  have bX : Below X.heap.size X X.drew := (Below.refl _ _).drew
  refine wp_region_noPanic ?_
  refine wp_region_held_drew (S := (fun W' => Below X.heap.size X W')) (by kernel_rfl) bX (fun _ => ?_)
  refine tzI 7 0 ?_ ?_ bX ?_
  rotate_left
  ·intro w' hSw; obtain ⟨c0, c1, c2, c3, c4, c5⟩ := cells6 ((hSw.block _ (blk_lt HX.out.2.1)).trans HX.out.2.1); go_simp; try with_reducible rfl
  try simp only [pA,pE,pB,pC,pD]
  refine tzI 8 1 ?_ ?_ bX ?_
  rotate_left
  ·intro w' hSw; obtain ⟨c0, c1, c2, c3, c4, c5⟩ := cells6 ((hSw.block _ (blk_lt HX.out.2.1)).trans HX.out.2.1); go_simp; try with_reducible rfl
  try simp only [pA,pE,pB,pC,pD]
  refine tzI 9 2 ?_ ?_ bX ?_
  rotate_left
  ·intro w' hSw; obtain ⟨c0, c1, c2, c3, c4, c5⟩ := cells6 ((hSw.block _ (blk_lt HX.out.2.1)).trans HX.out.2.1); go_simp; try with_reducible rfl
  try simp only [pA,pE,pB,pC,pD]
  refine tzI 10 3 ?_ ?_ bX ?_
  rotate_left
  ·intro w' hSw; obtain ⟨c0, c1, c2, c3, c4, c5⟩ := cells6 ((hSw.block _ (blk_lt HX.out.2.1)).trans HX.out.2.1); go_simp; try with_reducible rfl
  try simp only [pA,pE,pB,pC,pD]
  refine tzI 11 4 ?_ ?_ bX ?_
  rotate_left
  ·intro w' hSw; obtain ⟨c0, c1, c2, c3, c4, c5⟩ := cells6 ((hSw.block _ (blk_lt HX.out.2.1)).trans HX.out.2.1); go_simp; try with_reducible rfl
  try simp only [pA,pE,pB,pC,pD]
  refine tzI 12 5 ?_ ?_ bX ?_
  rotate_left
  ·intro w' hSw; obtain ⟨c0, c1, c2, c3, c4, c5⟩ := cells6 ((hSw.block _ (blk_lt HX.out.2.1)).trans HX.out.2.1); go_simp; try with_reducible rfl
  try simp only [pA,pE,pB,pC,pD]
  refine tzI 14 7 ?_ ?_ bX ?_
  rotate_left
  ·intro w' hSw; obtain ⟨c0, c1, c2, c3, c4, c5⟩ := cells6 ((hSw.block _ (blk_lt HX.out.2.1)).trans HX.out.2.1); go_simp; try with_reducible rfl
  try simp only [pA,pE,pB,pC,pD]
  refine tzI 15 8 ?_ ?_ bX ?_
  rotate_left
  ·intro w' hSw; obtain ⟨c0, c1, c2, c3, c4, c5⟩ := cells6 ((hSw.block _ (blk_lt HX.out.2.1)).trans HX.out.2.1); go_simp; try with_reducible rfl
  try simp only [pA,pE,pB,pC,pD]
  obtain ⟨V, hV⟩ : ∃ V, X.drew = V := ⟨_, rfl⟩
  have bV : Below X.heap.size X V := hV ▸ bX
  rw [hV]
  clear hV bX
  refine rzH [6, 11] ?_
  refine consH _ rfl ?_ (consH _ rfl ?_ AllReadyH.nil)
  ·refine hzC 13 (Calls.mono (HC.out _ (HX.out.1.trans (bV.mono HX.out.1.size))) ?_)
   rintro e Vc ⟨vc, rfl, m1, hb⟩
   obtain ⟨avc, pvc, hvc, -⟩ := mk_forms m1
   obtain ⟨lvc, hlc⟩ : ∃ n, n = (cs.take 300).length := ⟨_, rfl⟩
   rw [<- hlc] at hvc
   subst hvc
   clear hlc
   have bVc : Below X.heap.size X Vc := bV.trans (hb.mono bV.size)
   have mcVc := m1.mono bV.size
   clear m1 hb
   refine ⟨_, rfl, bVc, ?_⟩
   try simp only [pA,pE,pB,pC,pD]
   refine rzH [9, 11] ?_
   refine consH _ rfl ?_ (consH _ rfl ?_ AllReadyH.nil)
   ·refine hzC 16 (Calls.mono (HR.out _ (HX.out.1.trans (bVc.mono HX.out.1.size))) ?_)
    rintro e Vcr ⟨vr, rfl, m1, hb⟩
    obtain ⟨avr, pvr, hvr, -⟩ := mk_forms m1
    obtain ⟨lvr, hlr⟩ : ∃ n, n = (rs.take 300).length := ⟨_, rfl⟩
    rw [<- hlr] at hvr
    subst hvr
    clear hlr
    have bVcr : Below X.heap.size X Vcr := bVc.trans (hb.mono bVc.size)
    have mrVcr := m1.mono bVc.size
    have mcVcr := mcVc.later hb
    have hne := mcVc.ne m1
    clear m1 hb
    refine ⟨_, rfl, bVcr, ?_⟩
    try simp only [pA,pE,pB,pC,pD]
    refine tzH 17 10 (.agg #[.int .i64 N, (.slice avc lvc pvc), .slice none 0 0, .slice none 0 0, (.slice avr lvr pvr), .bool bad]) (Or.inl ⟨by kernel_rfl, fun w' _ => by kernel_rfl⟩) bVcr ?_
    try simp only [pA,pE,pB,pC,pD]
    refine rzH [11] ?_
    refine consH _ rfl ?_ AllReadyH.nil
    ·refine hopAJ 3 rfl rfl rfl 26 rfl #[.int .i64 0, .slice none 0 0, .slice none 0 0, .slice none 0 0, .slice none 0 0, .bool false] allocAL fun D Vcra hDVcra hDl hb => ?_
     have bVcra : Below X.heap.size X Vcra := bVcr.trans (hb.mono bVcr.size)
     have hDX : X.heap.size <= D := Nat.le_trans bVcr.size hDl
     have mcVcra := mcVcr.later hb
     have mrVcra := mrVcr.later hb
     refine ⟨bVcra, ?_⟩
     try simp only [pA,pE,pB,pC,pD]
     refine rzH [12] ?_
     refine consH _ rfl (hopL rfl (wpList_store_row (by rfl) 26 _ _ (by rfl) X X.heap.size D #[.int .i64 N, (.slice avc lvc pvc), .slice none 0 0, .slice none 0 0, (.slice avr lvr pvr), .bool bad] _ (by kernel_rfl) (by kernel_rfl) hDVcra bVcra hDX 6 Tryz.infoZ (by rfl) (by rfl) (oneZ _ _ _ _ _ rfl rfl rfl rfl _) fun W9 e9 b9 hs9 ho9 => ?_)) AllReadyH.nil
     refine (And.intro b9 ?_ : _ /\ _)
     try simp only [pA,pE,pB,pC,pD]
     refine wpAnyH_done (by kernel_rfl) ?_ _
     refine NoPanic.normal ?_
     try simp only [pA,pE,pB,pC,pD]
     go_wp2_with fail
     go_meet
     have hk9 : ∀ (k : Nat) (cur : Array Value), Vcra.heap[k]? = some (.cells cur 55) -> W9.heap[k]? = Vcra.heap[k]? := fun k cur hc => ho9 k (by rintro rfl; rw [hDVcra] at hc; cases hc)
     exact ⟨D, .slice avc lvc pvc, .slice avr lvr pvr, rfl, e9, (mcVcra.keepT hk9).mono HX.out.1.size, (mrVcra.keepT hk9).mono HX.out.1.size, hne, b9, hDX⟩
   ·refine hopAJ 3 rfl rfl rfl 26 rfl #[.int .i64 0, .slice none 0 0, .slice none 0 0, .slice none 0 0, .slice none 0 0, .bool false] allocAL fun D Vca hDVca hDl hb => ?_
    have bVca : Below X.heap.size X Vca := bVc.trans (hb.mono bVc.size)
    have hDX : X.heap.size <= D := Nat.le_trans bVc.size hDl
    have mcVca := mcVc.later hb
    refine ⟨bVca, ?_⟩
    try simp only [pA,pE,pB,pC,pD]
    refine rzH [9] ?_
    refine consH _ rfl ?_ AllReadyH.nil
    ·refine hzC 16 (Calls.mono (HR.out _ (HX.out.1.trans (bVca.mono HX.out.1.size))) ?_)
     rintro e Vcar ⟨vr, rfl, m1, hb⟩
     obtain ⟨avr, pvr, hvr, -⟩ := mk_forms m1
     obtain ⟨lvr, hlr⟩ : ∃ n, n = (rs.take 300).length := ⟨_, rfl⟩
     rw [<- hlr] at hvr
     subst hvr
     clear hlr
     have bVcar : Below X.heap.size X Vcar := bVca.trans (hb.mono bVca.size)
     have mrVcar := m1.mono bVca.size
     have mcVcar := mcVca.later hb
     have hne := mcVca.ne m1
     have hDVcar := kept hb hDVca
     clear m1 hb
     refine ⟨_, rfl, bVcar, ?_⟩
     try simp only [pA,pE,pB,pC,pD]
     refine tzH 17 10 (.agg #[.int .i64 N, (.slice avc lvc pvc), .slice none 0 0, .slice none 0 0, (.slice avr lvr pvr), .bool bad]) (Or.inl ⟨by kernel_rfl, fun w' _ => by kernel_rfl⟩) bVcar ?_
     try simp only [pA,pE,pB,pC,pD]
     refine rzH [12] ?_
     refine consH _ rfl (hopL rfl (wpList_store_row (by rfl) 26 _ _ (by rfl) X X.heap.size D #[.int .i64 N, (.slice avc lvc pvc), .slice none 0 0, .slice none 0 0, (.slice avr lvr pvr), .bool bad] _ (by kernel_rfl) (by kernel_rfl) hDVcar bVcar hDX 6 Tryz.infoZ (by rfl) (by rfl) (oneZ _ _ _ _ _ rfl rfl rfl rfl _) fun W9 e9 b9 hs9 ho9 => ?_)) AllReadyH.nil
     refine (And.intro b9 ?_ : _ /\ _)
     try simp only [pA,pE,pB,pC,pD]
     refine wpAnyH_done (by kernel_rfl) ?_ _
     refine NoPanic.normal ?_
     try simp only [pA,pE,pB,pC,pD]
     go_wp2_with fail
     go_meet
     have hk9 : ∀ (k : Nat) (cur : Array Value), Vcar.heap[k]? = some (.cells cur 55) -> W9.heap[k]? = Vcar.heap[k]? := fun k cur hc => ho9 k (by rintro rfl; rw [hDVcar] at hc; cases hc)
     exact ⟨D, .slice avc lvc pvc, .slice avr lvr pvr, rfl, e9, (mcVcar.keepT hk9).mono HX.out.1.size, (mrVcar.keepT hk9).mono HX.out.1.size, hne, b9, hDX⟩
  ·refine hopAJ 3 rfl rfl rfl 26 rfl #[.int .i64 0, .slice none 0 0, .slice none 0 0, .slice none 0 0, .slice none 0 0, .bool false] allocAL fun D Va hDVa hDl hb => ?_
   have bVa : Below X.heap.size X Va := bV.trans (hb.mono bV.size)
   have hDX : X.heap.size <= D := Nat.le_trans bV.size hDl
   refine ⟨bVa, ?_⟩
   try simp only [pA,pE,pB,pC,pD]
   refine rzH [6] ?_
   refine consH _ rfl ?_ AllReadyH.nil
   ·refine hzC 13 (Calls.mono (HC.out _ (HX.out.1.trans (bVa.mono HX.out.1.size))) ?_)
    rintro e Vac ⟨vc, rfl, m1, hb⟩
    obtain ⟨avc, pvc, hvc, -⟩ := mk_forms m1
    obtain ⟨lvc, hlc⟩ : ∃ n, n = (cs.take 300).length := ⟨_, rfl⟩
    rw [<- hlc] at hvc
    subst hvc
    clear hlc
    have bVac : Below X.heap.size X Vac := bVa.trans (hb.mono bVa.size)
    have mcVac := m1.mono bVa.size
    have hDVac := kept hb hDVa
    clear m1 hb
    refine ⟨_, rfl, bVac, ?_⟩
    try simp only [pA,pE,pB,pC,pD]
    refine rzH [9] ?_
    refine consH _ rfl ?_ AllReadyH.nil
    ·refine hzC 16 (Calls.mono (HR.out _ (HX.out.1.trans (bVac.mono HX.out.1.size))) ?_)
     rintro e Vacr ⟨vr, rfl, m1, hb⟩
     obtain ⟨avr, pvr, hvr, -⟩ := mk_forms m1
     obtain ⟨lvr, hlr⟩ : ∃ n, n = (rs.take 300).length := ⟨_, rfl⟩
     rw [<- hlr] at hvr
     subst hvr
     clear hlr
     have bVacr : Below X.heap.size X Vacr := bVac.trans (hb.mono bVac.size)
     have mrVacr := m1.mono bVac.size
     have mcVacr := mcVac.later hb
     have hne := mcVac.ne m1
     have hDVacr := kept hb hDVac
     clear m1 hb
     refine ⟨_, rfl, bVacr, ?_⟩
     try simp only [pA,pE,pB,pC,pD]
     refine tzH 17 10 (.agg #[.int .i64 N, (.slice avc lvc pvc), .slice none 0 0, .slice none 0 0, (.slice avr lvr pvr), .bool bad]) (Or.inl ⟨by kernel_rfl, fun w' _ => by kernel_rfl⟩) bVacr ?_
     try simp only [pA,pE,pB,pC,pD]
     refine rzH [12] ?_
     refine consH _ rfl (hopL rfl (wpList_store_row (by rfl) 26 _ _ (by rfl) X X.heap.size D #[.int .i64 N, (.slice avc lvc pvc), .slice none 0 0, .slice none 0 0, (.slice avr lvr pvr), .bool bad] _ (by kernel_rfl) (by kernel_rfl) hDVacr bVacr hDX 6 Tryz.infoZ (by rfl) (by rfl) (oneZ _ _ _ _ _ rfl rfl rfl rfl _) fun W9 e9 b9 hs9 ho9 => ?_)) AllReadyH.nil
     refine (And.intro b9 ?_ : _ /\ _)
     try simp only [pA,pE,pB,pC,pD]
     refine wpAnyH_done (by kernel_rfl) ?_ _
     refine NoPanic.normal ?_
     try simp only [pA,pE,pB,pC,pD]
     go_wp2_with fail
     go_meet
     have hk9 : ∀ (k : Nat) (cur : Array Value), Vacr.heap[k]? = some (.cells cur 55) -> W9.heap[k]? = Vacr.heap[k]? := fun k cur hc => ho9 k (by rintro rfl; rw [hDVacr] at hc; cases hc)
     exact ⟨D, .slice avc lvc pvc, .slice avr lvr pvr, rfl, e9, (mcVacr.keepT hk9).mono HX.out.1.size, (mrVacr.keepT hk9).mono HX.out.1.size, hne, b9, hDX⟩
 case rest =>
 obtain ⟨D, vc, vr, rfl, ED, EC, ER, EN, EB, hDX⟩ := hcut
 have hD1 : w.heap.size + 1 < D := Nat.lt_of_lt_of_le (blk_lt HX.out.2.2) hDX
 have hDl : w.heap.size <= D := by omega
 have T1 : Hid (ZoA w wc #[.int .i64 N, .slice co cn cc, .slice io dn dc, .slice go gn gc, .slice ro rn rc, .bool bad] (cs.take 300) (rs.take 300) (ids.take 0) vc vr (.slice none 0 0) /\ wc.heap[D]? = some (.cells #[.int .i64 N, vc, .slice none 0 0, .slice none 0 0, vr, .bool bad] 26)) := ⟨⟨to_callD HX.out.1 EB.out, kept EB.out HX.out.2.1, kept EB.out HX.out.2.2, EC.out, ER.out, World.ownsRow_nil _ _ _ _, EN.out⟩, ED.out⟩
 clear ED EC ER EN EB hDX HX HC HR
 go_upto_block 0 with fail
 go_cut [4] (fun v wx => ∃ (k : Nat) (vi : Value), v = .int .i64 k /\ Hid (ZoA w wx #[.int .i64 N, .slice co cn cc, .slice io dn dc, .slice go gn gc, .slice ro rn rc, .bool bad] (cs.take 300) (rs.take 300) (ids.take 400) vc vr vi /\ wx.heap[D]? = some (.cells #[.int .i64 N, vc, vi, .slice none 0 0, vr, .bool bad] 26)))
 case first =>
  go_wp2_with fail
  go_loopg [4] (min dn 400) (fun g v4 wx => ∃ (k : Nat) (vi : Value), v4 = .int .i64 k /\ k + g = min dn 400 /\ Hid (ZoA w wx #[.int .i64 N, .slice co cn cc, .slice io dn dc, .slice go gn gc, .slice ro rn rc, .bool bad] (cs.take 300) (rs.take 300) (ids.take k) vc vr vi /\ wx.heap[D]? = some (.cells #[.int .i64 N, vc, vi, .slice none 0 0, vr, .bool bad] 26)))
  case atStart => exact ⟨0, _, rfl, by omega, T1⟩
  case round =>
   clear T1
   obtain ⟨k, vi, rfl, hk, HJ⟩ := hrel
   obtain ⟨d0, d1, d2, d3, d4, d5⟩ := cells6 HJ.out.1.zb
   clear d0 d1 d3 d4 d5
   by_cases hlk : k < min dn 400
   ·have hlt : k < dn := by omega
    have hd : decide ((k : Int) < (dn : Int)) = true := decide_eq_true (by omega)
    have hd4 : decide ((k : Int) < 400) = true := decide_eq_true (by omega)
    have hk4 : k < 400 := by omega
    obtain ⟨q, rfl⟩ : ∃ q, gk = q + 1 := ⟨gk - 1, by omega⟩
    have HIG : Hid (k + (q + 1) = min dn 400) := hk
    have hlt' : (k : Int) < (dn : Int) := by omega
    rcases (HI.out _ HJ.out.1.bel).cells with h0 | ⟨ib, ioff, hio, hci⟩
    ·omega
    subst hio
    obtain ⟨y, hy⟩ : ∃ y, ids[k]?.getD 0 = y := ⟨_, rfl⟩
    have HIY : Hid (∀ W, Below w.heap.size w W -> W.cell? ⟨ib, ioff + k, none⟩ = some (.int .i64 y)) := by
     intro W hb
     rcases (HI.out W hb).cells with h0 | ⟨ib', ioff', hio, hci'⟩
     ·omega
     ·cases hio
      rw [hci' k hlt, hy]
    have HTS : Hid (ids.take (k + 1) = ids.take k ++ [y]) := by unfold Hid; rw [List.take_succ_eq_append_getElem (by rw [HLN.out.1]; exact hlt), <- hy, List.getElem?_eq_getElem (by rw [HLN.out.1]; exact hlt)]; rfl
    have HLI : Hid ((ids.take k).length + 1 <= 4000000) := by unfold Hid; rw [List.length_take]; omega
    have LV := HJ.out.1.later (Below.refl _ wr).drew
    have sV : (wr.drew.heap[D]? = some (.cells #[.int .i64 N, vc, vi, .slice none 0 0, vr, .bool bad] 26) /\ wr.drew.heap[w.heap.size]? = some (.cells #[.int .i64 N, .slice co cn cc, .slice (some ⟨ib, ioff, none⟩) dn dc, .slice go gn gc, .slice ro rn rc, .bool bad] 26) /\ wr.drew.cell? ⟨ib, ioff + k, none⟩ = some (.int .i64 y)) := ⟨HJ.out.2, LV.zb, HIY.out _ LV.bel⟩
    clear hci hy hk hlk
    go_upto_region 5 with fail
    refine wp_region_noPanic ?_
    refine wp_region_P (fun V => (V.heap[D]? = some (.cells #[.int .i64 N, vc, vi, .slice none 0 0, vr, .bool bad] 26) /\ V.heap[w.heap.size]? = some (.cells #[.int .i64 N, .slice co cn cc, .slice (some ⟨ib, ioff, none⟩) dn dc, .slice go gn gc, .slice ro rn rc, .bool bad] 26) /\ V.cell? ⟨ib, ioff + k, none⟩ = some (.int .i64 y))) 10 (by kernel_rfl) ?_
    refine tzQ 29 0 ?_ ?_ (fun _ => sV) ?_
    rotate_left
    ·intro w' hSw; go_simp; try with_reducible rfl
    try simp only [pA,pE,pB,pC,pD]
    refine tzP 30 1 ?_ (Or.inl ⟨by kernel_rfl, ?_⟩) sV ?_
    rotate_left
    ·intro w' hSw; obtain ⟨c0, c1, c2, c3, c4, c5⟩ := cells6 hSw.1; obtain ⟨z0, z1, z2, z3, z4, z5⟩ := cells6 hSw.2.1; have q0 := hSw.2.2; go_simp; try with_reducible rfl
    try simp only [pA,pE,pB,pC,pD]
    refine tzQ 31 2 ?_ ?_ (fun _ => sV) ?_
    rotate_left
    ·intro w' hSw; go_simp; try with_reducible rfl
    try simp only [pA,pE,pB,pC,pD]
    refine tzP 32 3 ?_ (Or.inl ⟨by kernel_rfl, ?_⟩) sV ?_
    rotate_left
    ·intro w' hSw; obtain ⟨c0, c1, c2, c3, c4, c5⟩ := cells6 hSw.1; obtain ⟨z0, z1, z2, z3, z4, z5⟩ := cells6 hSw.2.1; have q0 := hSw.2.2; go_simp; try with_reducible rfl
    try simp only [pA,pE,pB,pC,pD]
    refine tzQ 33 4 ?_ ?_ (fun _ => sV) ?_
    rotate_left
    ·intro w' hSw; go_simp; try with_reducible rfl
    try simp only [pA,pE,pB,pC,pD]
    refine tzQ 34 5 ?_ ?_ (fun _ => sV) ?_
    rotate_left
    ·intro w' hSw; go_simp; try with_reducible rfl
    try simp only [pA,pE,pB,pC,pD]
    refine tzP 35 6 ?_ (Or.inl ⟨by kernel_rfl, ?_⟩) sV ?_
    rotate_left
    ·intro w' hSw; obtain ⟨c0, c1, c2, c3, c4, c5⟩ := cells6 hSw.1; obtain ⟨z0, z1, z2, z3, z4, z5⟩ := cells6 hSw.2.1; have q0 := hSw.2.2; go_simp; try with_reducible rfl
    try simp only [pA,pE,pB,pC,pD]
    refine rzP [7] ?_
    refine consP _ rfl (hopBJ 36 (Value.int .i64 y) 3 rfl rfl rfl (by kernel_rfl) fun I V2 hI b2 => ?_) AllReadyP.nil
    have s2 := And.intro (kept b2 sV.1) (And.intro (kept b2 sV.2.1) ((b2.cell (World.block_lt_of_cell? _ _ sV.2.2)).trans sV.2.2))
    have L2 := LV.later b2
    refine ⟨s2, ?_⟩
    try simp only [pA,pE,pB,pC,pD]
    refine rzP [8] ?_
    refine consP _ rfl (hopL rfl (append_gsJ Tryz.underlying23 Tryz.infoIJ rfl (by decide) (by decide) V2 (by rfl) _ _ (by rfl) w.heap.size vi _ _ (by kernel_rfl) L2.i ⟨I, 0, none⟩ 1 1 [Value.int .i64 y] (by kernel_rfl) rfl (news_oneJ hI) (oneI _ rfl) HLI.out L2.bel.size fun v6 w6 o6 g6 => ?_)) AllReadyP.nil
    change QK _ _ Exit.normal (Act.put _ (some 37) v6) w6
    have L6 : ZoA w w6 #[.int .i64 N, .slice co cn cc, .slice (some ⟨ib, ioff, none⟩) dn dc, .slice go gn gc, .slice ro rn rc, .bool bad] (cs.take 300) (rs.take 300) (ids.take k ++ [y]) vc vr v6 := L2.pushI g6 (by rw [List.length_append, List.map_append]; exact o6)
    have s6D := (grw_types L2.i g6 D _ _ (by decide) s2.1).trans s2.1
    have s6 := And.intro s6D (And.intro L6.zb (HIY.out w6 L6.bel))
    refine (And.intro s6 ?_ : _ /\ _)
    try simp only [pA,pE,pB,pC,pD]
    clear g6
    refine tzQ 38 9 ?_ ?_ (fun _ => s6) ?_
    rotate_left
    ·intro w' hSw; go_simp; try with_reducible rfl
    try simp only [pA,pE,pB,pC,pD]
    refine rzP [10] ?_
    refine consPs _ rfl (by kernel_rfl) (hopL rfl (wpList_store_at (by rfl) 23 _ _ (by rfl) w w.heap.size D 2 v6 _ #[.int .i64 N, vc, v6, .slice none 0 0, vr, .bool bad] 26 (by kernel_rfl) (by kernel_rfl) s6D L6.bel hDl 1 Tryz.szIs (by rw [(own_valJ L6.i).2]; rfl) (Nat.le_of_ble_eq_true rfl) (by intro u hu; rw [(own_valJ L6.i).2] at hu; simp only [List.mem_cons, List.not_mem_nil, or_false] at hu; subst hu; exact (own_valJ L6.i).1) (by rw [(own_valJ L6.i).2]; rfl) fun w8 e8 b8 s8 k8 => ?_)) AllReadyP.nil
    refine (And.intro trivial ?_ : _ /\ _)
    refine put_noneP rfl ?_
    try simp only [pA,pE,pB,pC,pD]
    refine wpAnyP_done (by kernel_rfl) ?_ _
    refine NoPanic.normal ?_
    try simp only [pA,pE,pB,pC,pD]
    have E8 : Hid (ZoA w w8 #[.int .i64 N, .slice co cn cc, .slice (some ⟨ib, ioff, none⟩) dn dc, .slice go gn gc, .slice ro rn rc, .bool bad] (cs.take 300) (rs.take 300) (ids.take (k + 1)) vc vr v6 /\ w8.heap[D]? = some (.cells #[.int .i64 N, vc, v6, .slice none 0 0, vr, .bool bad] 26)) := ⟨by rw [HTS.out]; exact L6.setD s6D hD1 k8 b8, e8⟩
    clear s6D s6 L6 e8 b8 s8 k8 o6 L2 b2 hI s2 sV LV
    clear HJ d2
    go_wp2_with fail
    go_roundg q
    case measure => omega
    case rel => exact ⟨k + 1, _, by go_num, by have := HIG.out; omega, E8⟩
   ·have ek : k = min dn 400 := by omega
    have HJ2 : Hid (ZoA w wr #[.int .i64 N, .slice co cn cc, .slice io dn dc, .slice go gn gc, .slice ro rn rc, .bool bad] (cs.take 300) (rs.take 300) (ids.take 400) vc vr vi /\ wr.heap[D]? = some (.cells #[.int .i64 N, vc, vi, .slice none 0 0, vr, .bool bad] 26)) := by
     have h9 := HJ.out
     have e4 : ids.take k = ids.take 400 := by
      by_cases h4 : dn <= 400
      ·rw [List.take_of_length_le (by rw [HLN.out.1]; omega), List.take_of_length_le (by rw [HLN.out.1]; omega)]
      ·rw [show k = 400 by omega]
     rw [e4] at h9
     exact h9
    clear HJ hlk hk
    by_cases hex : k < dn
    ·have hd : decide ((k : Int) < (dn : Int)) = true := decide_eq_true (by omega)
     have hd4 : decide ((k : Int) < 400) = false := decide_eq_false (by omega)
     have hd5 : decide (k < 400) = false := decide_eq_false (by omega)
     clear ek
     go_wp2_with fail
     go_meet
     exact ⟨k, vi, rfl, HJ2⟩
    ·have hd : decide ((k : Int) < (dn : Int)) = false := decide_eq_false (by omega)
     have hd' : decide (k < dn) = false := decide_eq_false (by omega)
     clear ek
     go_wp2_with fail
     go_meet
     exact ⟨k, vi, rfl, HJ2⟩
 case rest =>
 clear T1
 obtain ⟨k, vi, rfl, HJ2⟩ := hcut
 obtain ⟨wr, rfl⟩ : ∃ W, W = wc := ⟨_, rfl⟩
 obtain ⟨is, his⟩ : ∃ is, ids.take 400 = is := ⟨_, rfl⟩
 rw [his] at HJ2
 have HIS : Hid (is.length <= 400) := by unfold Hid; rw [<- his, List.length_take]; omega
 have HIQ : Hid (ids.take 400 = is) := his
 clear his
 obtain ⟨ai, ci, hvi, hmi, -⟩ := owns_slice HJ2.out.1.i
 subst hvi
 obtain ⟨e0, e1, e2, e3, e4, e5⟩ := cells6 HJ2.out.2
 clear e0 e1 e3 e4 e5
 have hil' : is.length + 3 <= 4000000 := by have := HIS.out; omega
 have hws := HJ2.out.1.bel.size
 have A3 : Below wr.heap.size wr (wgI wr) := (Below.refl _ wr).alloc (Nat.le_refl _) _
 have HLW : Hid _ := HJ2.out.1.later A3
 have HOW : Hid _ := kept A3 HJ2.out.2
 have hz3 : w.heap.size <= (wgI wr).heap.size := HLW.out.bel.size
 clear A3
 go_upto_region 8 with (first
  | (at_builtin; refine append_gsJ Tryz.underlying23 Tryz.infoIJ rfl (by decide) (by decide) _ (by rfl) _ _ (by rfl) w.heap.size _ is.length _ (by rfl) HLW.out.i ⟨wr.heap.size, 0, none⟩ 3 3 [.int .i64 (-31), .int .i64 (-31), .int .i64 (-31)] (by rfl) rfl (news_threeJ (heap_alloc_new wr _)) (three_oneI _ _ _) hil' hz3 ?_; intro v5 w5 o5 g5x; obtain ⟨g5, cap5, hv5, hc5, hm5⟩ := IdM.of o5; subst hv5; have HM5 : Hid (IdM w5 w.heap.size (.slice (some ⟨g5, 0, none⟩) is.length cap5) is) := hm5; have hct : ∀ w, _ := fun w => cutIJ g5 (is.length + 3) cap5 is.length (by omega) (by omega) w; have hk5 := grw_types HLW.out.i g5x; have s5D := (hk5 D _ _ (by decide) HOW.out).trans HOW.out; have q5 := HLW.out.bel.trans (g5x.below (fun k hk => (World.ownsRow.lt HLW.out.i k hk).1) hz3); have HK5 : Hid _ := hk5; clear hm5 hk5 g5x o5)
  | (refine wpList_store_at (by rfl) 23 _ _ (by rfl) w w.heap.size D 2 (.slice (some ⟨g5, 0, none⟩) is.length cap5) _ #[.int .i64 N, vc, .slice (some ⟨g5, 0, none⟩) is.length cap5, .slice none 0 0, vr, .bool bad] 26 (by rfl) (by rfl) s5D q5 hDl 1 Tryz.szIs (by rfl) (Nat.le_of_ble_eq_true rfl) (by intro u hu; have hu' : u ∈ [Value.slice (some ⟨g5, 0, none⟩) is.length cap5] := hu; simp only [List.mem_cons, List.not_mem_nil, or_false] at hu'; subst hu'; rfl) (by rfl) ?_; intro w6 e6 b6 s6 k6))
 have LL := HLW.out
 have hq6 : ∀ (k : Nat) (cur : Array Value) (t : TypeId), t ≠ 26 -> w5.heap[k]? = some (.cells cur t) -> w6.heap[k]? = w5.heap[k]? := fun k cur t ht hc => k6 k (by rintro rfl; rw [s5D] at hc; cases hc; exact ht rfl)
 have hkk : ∀ (k : Nat) (cur : Array Value) (t : TypeId), t ≠ 26 -> t ≠ 3 -> (wgI wr).heap[k]? = some (.cells cur t) -> w6.heap[k]? = (wgI wr).heap[k]? := fun k cur t h1 h2 hc => by
  have h3 := HK5.out k cur t h2 hc
  rw [hq6 k cur t h1 (h3.trans hc), h3]
 obtain ⟨vi, hvi⟩ : ∃ v, Value.slice (some ⟨g5, 0, none⟩) is.length cap5 = v := ⟨_, rfl⟩
 have T2 : Hid (ZoB w w6 #[.int .i64 N, .slice co cn cc, .slice io dn dc, .slice go gn gc, .slice ro rn rc, .bool bad] (cs.take 300) (rs.take 300) is ((gs.take 0).map (·.take 300)) vc vr vi (.slice none 0 0) [] /\ w6.heap[D]? = some (.cells #[.int .i64 N, vc, vi, .slice none 0 0, vr, .bool bad] 26)) := by
  rw [<- hvi]
  refine ⟨⟨b6, (k6 _ (by omega)).trans ((HK5.out _ _ _ (by decide) LL.zb).trans LL.zb), (k6 _ (by omega)).trans ((HK5.out _ _ _ (by decide) LL.ans).trans LL.ans), LL.c.keepT fun k cur => hkk k cur _ (by decide) (by decide), LL.r.keepT fun k cur => hkk k cur _ (by decide) (by decide), HM5.out.keep fun k cur => hq6 k cur _ (by decide), World.ownsRow_nil _ _ _ _, rfl, fun j u hj => (by simp at hj), ?_⟩, e6⟩
  simpa using LL.ne
 clear LL hq6 hkk e6 b6 s6 k6 HLW HOW HM5 HK5 hct q5 s5D HJ2 e2 hvi HI
 go_upto_block 2 with fail
 go_cut [6] (fun v wx => ∃ (k : Nat) (vg : Value) (gl : List Value), v = .int .i64 k /\ Hid (ZoB w wx #[.int .i64 N, .slice co cn cc, .slice io dn dc, .slice go gn gc, .slice ro rn rc, .bool bad] (cs.take 300) (rs.take 300) is ((gs.take 400).map (·.take 300)) vc vr vi vg gl /\ wx.heap[D]? = some (.cells #[.int .i64 N, vc, vi, vg, vr, .bool bad] 26)))
 case first =>
  go_wp2_with fail
  go_loopg [6] (min gn 400) (fun g v6 wx => ∃ (k : Nat) (vg : Value) (gl : List Value), v6 = .int .i64 k /\ k + g = min gn 400 /\ Hid (ZoB w wx #[.int .i64 N, .slice co cn cc, .slice io dn dc, .slice go gn gc, .slice ro rn rc, .bool bad] (cs.take 300) (rs.take 300) is ((gs.take k).map (·.take 300)) vc vr vi vg gl /\ wx.heap[D]? = some (.cells #[.int .i64 N, vc, vi, vg, vr, .bool bad] 26)))
  case atStart => exact ⟨0, _, [], rfl, by omega, T2⟩
  case round =>
   clear T2
   obtain ⟨k, vg, gl, rfl, hk, HJ⟩ := hrel
   obtain ⟨d0, d1, d2, d3, d4, d5⟩ := cells6 HJ.out.1.zb
   clear d0 d1 d2 d4 d5
   by_cases hlk : k < min gn 400
   ·have hlt : k < gn := by omega
    have hd : decide ((k : Int) < (gn : Int)) = true := decide_eq_true (by omega)
    have hd4 : decide ((k : Int) < 400) = true := decide_eq_true (by omega)
    have hk4 : k < 400 := by omega
    obtain ⟨q, rfl⟩ : ∃ q, gk = q + 1 := ⟨gk - 1, by omega⟩
    have HIG : Hid (k + (q + 1) = min gn 400) := hk
    have hlt' : (k : Int) < (gn : Int) := by omega
    rcases (HG.out _ HJ.out.1.bel).cells with h0 | ⟨gb, goff, hgo, hcg⟩
    ·omega
    subst hgo
    have HTS : Hid (gs.take (k + 1) = gs.take k ++ [gs[k]?.getD []]) := by unfold Hid; rw [List.take_succ_eq_append_getElem (by rw [HLN.out.2]; exact hlt), List.getElem?_eq_getElem (by rw [HLN.out.2]; exact hlt)]; rfl
    have HLG : Hid (gl.length + 1 <= 4000000) := by unfold Hid; rw [HJ.out.1.len, List.length_map, List.length_take]; omega
    have LV := HJ.out.1.later (Below.refl _ wr).drew
    have sV : (wr.drew.heap[D]? = some (.cells #[.int .i64 N, vc, vi, vg, vr, .bool bad] 26) /\ wr.drew.heap[w.heap.size]? = some (.cells #[.int .i64 N, .slice co cn cc, .slice io dn dc, .slice (some ⟨gb, goff, none⟩) gn gc, .slice ro rn rc, .bool bad] 26) /\ RdGs wr.drew (some ⟨gb, goff, none⟩) gn gc gv gs) := ⟨HJ.out.2, LV.zb, HG.out _ LV.bel⟩
    clear hcg hk hlk
    go_upto_region 11 with fail
    refine wp_region_noPanic ?_
    refine wp_region_P (fun V => (V.heap[D]? = some (.cells #[.int .i64 N, vc, vi, vg, vr, .bool bad] 26) /\ V.heap[w.heap.size]? = some (.cells #[.int .i64 N, .slice co cn cc, .slice io dn dc, .slice (some ⟨gb, goff, none⟩) gn gc, .slice ro rn rc, .bool bad] 26) /\ RdGs V (some ⟨gb, goff, none⟩) gn gc gv gs)) 11 (by kernel_rfl) ?_
    refine tzQ 60 0 ?_ ?_ (fun _ => sV) ?_
    rotate_left
    ·intro w' hSw; go_simp; try with_reducible rfl
    try simp only [pA,pE,pB,pC,pD]
    refine tzP 61 1 ?_ (Or.inl ⟨by kernel_rfl, ?_⟩) sV ?_
    rotate_left
    ·intro w' hSw; obtain ⟨c0, c1, c2, c3, c4, c5⟩ := cells6 hSw.1; obtain ⟨z0, z1, z2, z3, z4, z5⟩ := cells6 hSw.2.1; have q0 := rdGs_at hSw.2.2 hlt; go_simp; try with_reducible rfl
    try simp only [pA,pE,pB,pC,pD]
    refine tzQ 62 2 ?_ ?_ (fun _ => sV) ?_
    rotate_left
    ·intro w' hSw; go_simp; try with_reducible rfl
    try simp only [pA,pE,pB,pC,pD]
    refine tzP 63 3 ?_ (Or.inl ⟨by kernel_rfl, ?_⟩) sV ?_
    rotate_left
    ·intro w' hSw; obtain ⟨c0, c1, c2, c3, c4, c5⟩ := cells6 hSw.1; obtain ⟨z0, z1, z2, z3, z4, z5⟩ := cells6 hSw.2.1; have q0 := rdGs_at hSw.2.2 hlt; go_simp; try with_reducible rfl
    try simp only [pA,pE,pB,pC,pD]
    refine tzQ 64 4 ?_ ?_ (fun _ => sV) ?_
    rotate_left
    ·intro w' hSw; go_simp; try with_reducible rfl
    try simp only [pA,pE,pB,pC,pD]
    refine tzQ 65 5 ?_ ?_ (fun _ => sV) ?_
    rotate_left
    ·intro w' hSw; go_simp; try with_reducible rfl
    try simp only [pA,pE,pB,pC,pD]
    refine tzP 66 6 ?_ (Or.inl ⟨by kernel_rfl, ?_⟩) sV ?_
    rotate_left
    ·intro w' hSw; obtain ⟨c0, c1, c2, c3, c4, c5⟩ := cells6 hSw.1; obtain ⟨z0, z1, z2, z3, z4, z5⟩ := cells6 hSw.2.1; have q0 := rdGs_at hSw.2.2 hlt; go_simp; try with_reducible rfl
    try simp only [pA,pE,pB,pC,pD]
    refine rzP [7] ?_
    refine consP _ rfl (hzC 67 (Calls.mono (HGL.out k hlt _ LV.bel) ?_)) AllReadyP.nil
    rintro e V1 ⟨v1, rfl, m1, b1⟩
    obtain ⟨a1, cp1, hv1, -⟩ := mk_forms m1
    subst hv1
    have s1 := And.intro (kept b1 sV.1) (And.intro (kept b1 sV.2.1) (sV.2.2.later b1))
    have L1 := LV.later b1
    have hnw : ∀ u ∈ vc :: vr :: gl, u.ownBlock ≠ (Value.slice a1 ((gs[k]?.getD []).take 300).length cp1).ownBlock := fun u hu => by
     obtain ⟨g, e1, l1⟩ := LV.blk u hu
     obtain ⟨g', e2, l2, _⟩ := m1.blk
     rw [e1, e2]
     intro c
     cases c
     omega
    have m1' := m1.mono LV.bel.size
    refine ⟨_, rfl, s1, ?_⟩
    try simp only [pA,pE,pB,pC,pD]
    refine rzP [8] ?_
    refine consP _ rfl (hopBJ 68 (Value.slice a1 ((gs[k]?.getD []).take 300).length cp1) 22 rfl rfl rfl (by kernel_rfl) fun I V2 hI b2 => ?_) AllReadyP.nil
    have s2 := And.intro (kept b2 s1.1) (And.intro (kept b2 s1.2.1) (s1.2.2.later b2))
    have L2 := L1.later b2
    have m2 := m1'.later b2
    refine ⟨s2, ?_⟩
    try simp only [pA,pE,pB,pC,pD]
    refine rzP [9] ?_
    refine consP _ rfl (hopL rfl (append_gsJ Tryz.underlying24 Tryz.infoFsJ rfl (by decide) (by decide) V2 (by rfl) _ _ (by rfl) w.heap.size vg _ _ (by kernel_rfl) L2.g ⟨I, 0, none⟩ 1 1 [(Value.slice a1 ((gs[k]?.getD []).take 300).length cp1)] (by kernel_rfl) rfl (news_oneJ hI) (oneI _ rfl) HLG.out L2.bel.size fun v7 w6 o6 g6 => ?_)) AllReadyP.nil
    change QK _ _ Exit.normal (Act.put _ (some 69) v7) w6
    have L6 := L2.pushG g6 o6 m2 hnw
    have s6D := (grw_types L2.g g6 D _ _ (by decide) s2.1).trans s2.1
    have s6 := And.intro s6D (And.intro L6.zb (HG.out w6 L6.bel))
    refine (And.intro s6 ?_ : _ /\ _)
    try simp only [pA,pE,pB,pC,pD]
    clear g6
    refine tzQ 70 10 ?_ ?_ (fun _ => s6) ?_
    rotate_left
    ·intro w' hSw; go_simp; try with_reducible rfl
    try simp only [pA,pE,pB,pC,pD]
    refine rzP [11] ?_
    refine consPs _ rfl (by kernel_rfl) (hopL rfl (wpList_store_at (by rfl) 24 _ _ (by rfl) w w.heap.size D 3 v7 _ #[.int .i64 N, vc, vi, v7, vr, .bool bad] 26 (by kernel_rfl) (by kernel_rfl) s6D L6.bel hDl 1 Tryz.szFssL (by rw [(own_valJ L6.g).2]; rfl) (Nat.le_of_ble_eq_true rfl) (by intro u hu; rw [(own_valJ L6.g).2] at hu; simp only [List.mem_cons, List.not_mem_nil, or_false] at hu; subst hu; exact (own_valJ L6.g).1) (by rw [(own_valJ L6.g).2]; rfl) fun w8 e8 b8 s8 k8 => ?_)) AllReadyP.nil
    refine (And.intro trivial ?_ : _ /\ _)
    refine put_noneP rfl ?_
    try simp only [pA,pE,pB,pC,pD]
    refine wpAnyP_done (by kernel_rfl) ?_ _
    refine NoPanic.normal ?_
    try simp only [pA,pE,pB,pC,pD]
    have E9 : Hid (ZoB w w8 #[.int .i64 N, .slice co cn cc, .slice io dn dc, .slice (some ⟨gb, goff, none⟩) gn gc, .slice ro rn rc, .bool bad] (cs.take 300) (rs.take 300) is ((gs.take (k + 1)).map (·.take 300)) vc vr vi v7 (gl ++ [(Value.slice a1 ((gs[k]?.getD []).take 300).length cp1)]) /\ w8.heap[D]? = some (.cells #[.int .i64 N, vc, vi, v7, vr, .bool bad] 26)) := ⟨by rw [HTS.out, List.map_append]; exact L6.setD s6D hD1 k8 b8, e8⟩
    clear s6D s6 L6 e8 b8 s8 k8 o6 L1 L2 b1 b2 hI s1 s2 sV LV m1 m1' m2 hnw
    clear HJ d3
    go_wp2_with fail
    go_roundg q
    case measure => omega
    case rel => exact ⟨k + 1, _, _, by go_num, by have := HIG.out; omega, E9⟩
   ·have ek : k = min gn 400 := by omega
    have HK2 : Hid (ZoB w wr #[.int .i64 N, .slice co cn cc, .slice io dn dc, .slice go gn gc, .slice ro rn rc, .bool bad] (cs.take 300) (rs.take 300) is ((gs.take 400).map (·.take 300)) vc vr vi vg gl /\ wr.heap[D]? = some (.cells #[.int .i64 N, vc, vi, vg, vr, .bool bad] 26)) := by
     have h9 := HJ.out
     have e4 : gs.take k = gs.take 400 := by
      by_cases h4 : gn <= 400
      ·rw [List.take_of_length_le (by rw [HLN.out.2]; omega), List.take_of_length_le (by rw [HLN.out.2]; omega)]
      ·rw [show k = 400 by omega]
     rw [e4] at h9
     exact h9
    clear HJ hlk hk HGL HG
    by_cases hex : k < gn
    ·have hd : decide ((k : Int) < (gn : Int)) = true := decide_eq_true (by omega)
     have hd4 : decide ((k : Int) < 400) = false := decide_eq_false (by omega)
     have hd5 : decide (k < 400) = false := decide_eq_false (by omega)
     clear ek
     go_wp2_with fail
     go_meet
     exact ⟨k, vg, gl, rfl, HK2⟩
    ·have hd : decide ((k : Int) < (gn : Int)) = false := decide_eq_false (by omega)
     have hd' : decide (k < gn) = false := decide_eq_false (by omega)
     clear ek
     go_wp2_with fail
     go_meet
     exact ⟨k, vg, gl, rfl, HK2⟩
 case rest =>
 clear T2 HGL HG
 obtain ⟨k, vg, gl, rfl, HK2⟩ := hcut
 obtain ⟨wr, rfl⟩ : ∃ W, W = wc := ⟨_, rfl⟩
 obtain ⟨ag, cg, hvg, hmgx, -⟩ := owns_slice HK2.out.1.g
 subst hvg
 obtain ⟨e0, e1, e2, e3, e4, e5⟩ := cells6 HK2.out.2
 clear e0 e1 e2 e4 e5
 have hgl4 : gl.length <= 400 := by rw [HK2.out.1.len, List.length_map, List.length_take]; omega
 have hgl' : gl.length + 2 <= 4000000 := by omega
 have hws := HK2.out.1.bel.size
 have A3 : Below wr.heap.size wr (wg3 wr) := (((Below.refl _ wr).alloc (Nat.le_refl _) _).alloc (by simp only [alloc_size]; omega) _).alloc (by simp only [alloc_size]; omega) _
 have LW := HK2.out.1.later A3
 have OW := kept A3 HK2.out.2
 have NW : (wg3 wr).heap[wr.heap.size + 1 + 1]? = some (.cells #[.slice (some ⟨wr.heap.size, 0, none⟩) 1 1, .slice (some ⟨wr.heap.size + 1, 0, none⟩) 1 1] 22) := heap_at _ _ _ (by simp only [alloc_size])
 have hz3 : w.heap.size <= (wg3 wr).heap.size := LW.bel.size
 have HLW : Hid _ := LW
 have HOW : Hid _ := OW
 have HNW : Hid _ := NW
 clear LW OW NW A3
 go_upto_region 14 with (first
  | (at_builtin; refine append_gsJ Tryz.underlying24 Tryz.infoFsJ rfl (by decide) (by decide) _ (by rfl) _ _ (by rfl) w.heap.size _ gl.length _ (by rfl) HLW.out.g ⟨wr.heap.size + 1 + 1, 0, none⟩ 2 2 [.slice (some ⟨wr.heap.size, 0, none⟩) 1 1, .slice (some ⟨wr.heap.size + 1, 0, none⟩) 1 1] (by rfl) rfl (news_twoJ HNW.out) (oneII _ _ rfl rfl) hgl' hz3 ?_; intro v5 w5 o5 g5x; obtain ⟨g5, cap5, hv5, hc5, hm5⟩ := GsM.of o5; subst hv5; have HM5 : Hid (GsM w5 w.heap.size (.slice (some ⟨g5, 0, none⟩) gl.length cap5) gl) := hm5; have hct : ∀ w, _ := fun w => cutGJ g5 (gl.length + 2) cap5 gl.length (by omega) (by omega) w; have hk5 := grw_types HLW.out.g g5x; have s5D := (hk5 D _ _ (by decide) HOW.out).trans HOW.out; have q5 := HLW.out.bel.trans (g5x.below (fun k hk => (World.ownsRow.lt HLW.out.g k hk).1) hz3); have HK5 : Hid _ := hk5; clear hm5 hk5 g5x o5)
  | (refine wpList_store_at (by rfl) 24 _ _ (by rfl) w w.heap.size D 3 (.slice (some ⟨g5, 0, none⟩) gl.length cap5) _ #[.int .i64 N, vc, vi, .slice (some ⟨g5, 0, none⟩) gl.length cap5, vr, .bool bad] 26 (by rfl) (by rfl) s5D q5 hDl 1 Tryz.szFssL (by rfl) (Nat.le_of_ble_eq_true rfl) (by intro u hu; have hu' : u ∈ [Value.slice (some ⟨g5, 0, none⟩) gl.length cap5] := hu; simp only [List.mem_cons, List.not_mem_nil, or_false] at hu'; subst hu'; rfl) (by rfl) ?_; intro w6 e6 b6 s6 k6))
 have LL := HLW.out
 have hq6 : ∀ (k : Nat) (cur : Array Value) (t : TypeId), t ≠ 26 -> w5.heap[k]? = some (.cells cur t) -> w6.heap[k]? = w5.heap[k]? := fun k cur t ht hc => k6 k (by rintro rfl; rw [s5D] at hc; cases hc; exact ht rfl)
 have hkk : ∀ (k : Nat) (cur : Array Value) (t : TypeId), t ≠ 26 -> t ≠ 22 -> (wg3 wr).heap[k]? = some (.cells cur t) -> w6.heap[k]? = (wg3 wr).heap[k]? := fun k cur t h1 h2 hc => by
  have h3 := HK5.out k cur t h2 hc
  rw [hq6 k cur t h1 (h3.trans hc), h3]
 have hxl : XL w6 w.heap.size (cs.take 300) (rs.take 300) is ((gs.take 400).map (·.take 300)) vc vr vi (.slice (some ⟨g5, 0, none⟩) gl.length cap5) gl := ⟨LL.c.keepT fun k cur => hkk k cur _ (by decide) (by decide), LL.r.keepT fun k cur => hkk k cur _ (by decide) (by decide), LL.i.keep fun k cur => hkk k cur _ (by decide) (by decide), HM5.out.keep fun k cur => hq6 k cur _ (by decide), LL.len, fun j u hj => (LL.col j u hj).keepT fun k cur => hkk k cur _ (by decide) (by decide), LL.nd, ⟨HIS.out, by rw [<- LL.len]; exact hgl4⟩⟩
 have za6 : w6.heap[w.heap.size + 1]? = some (.cells #[.int .i64 0, .slice none 0 0, .slice none 0 0, .slice none 0 0, .slice none 0 0, .bool false] 26) := (k6 _ (by omega)).trans ((HK5.out _ _ _ (by decide) LL.ans).trans LL.ans)
 have HXL : Hid _ := hxl
 have HZA : Hid _ := And.intro e6 (And.intro za6 b6)
 clear hxl za6 LL hq6 hkk e6 b6 s6 k6 HLW HOW HNW HM5 HK5 hct q5 s5D HK2 e3
 go_wp2_with (first
  | (refine wpList_load_row (by rfl) 26 _ (by rfl) D _ (by rfl) HZA.out.1 _ Tryz.underlying26 rfl 6 Tryz.infoZ (by rfl) ?_)
  | (refine wpList_store_row (by rfl) 26 _ _ (by rfl) w w.heap.size (w.heap.size + 1) #[.int .i64 N, vc, vi, .slice (some ⟨g5, 0, none⟩) gl.length cap5, vr, .bool bad] _ (by rfl) (by rfl) HZA.out.2.1 HZA.out.2.2 (by omega) 6 Tryz.infoZ (by rfl) (by rfl) (oneZ _ _ _ _ _ (mk_one HXL.out.c) (idm_one HXL.out.i) rfl (mk_one HXL.out.r) _) ?_; intro W9 e9 b9 s9 o9))
 refine bodyPost_ret (res_oneJ _ 2 26 (by kernel_rfl) _ _ (w.heap.size + 1) _ (by rfl) _ Tryz.underlying26 rfl 6 Tryz.infoZ rfl e9) rfl ?_
 exact ⟨vc, vr, vi, _, gl, rfl, by rw [HIQ.out]; exact HXL.out.keep fun k cur t ht hc => o9 k (by rintro rfl; rw [HZA.out.2.1] at hc; cases hc; rcases ht with h | h | h <;> exact absurd h (by decide)), b9⟩
end Go.Proofs.YthmhgpadinecfaaGreat
