import Derived.Test.YthmhgpadinecfaaGreatTEv
set_option linter.unusedVariables false
set_option linter.unusedSimpArgs false
namespace Go.Proofs.YthmhgpadinecfaaGreat
open Go.RowKit Go.Shelf
theorem Tryz.elemIJ : Tryz.prog.elem 23 = 3 := by kernel_rfl
theorem Tryz.elemGJ : Tryz.prog.elem 24 = 22 := by kernel_rfl
theorem sizeIJ (w : World) : (sizeOf 3).run Tryz.prog w = .ok 1 w := by kernel_rfl
theorem sizeGJ (w : World) : (sizeOf 22).run Tryz.prog w = .ok 1 w := by kernel_rfl
theorem cutIJ (b len cap q : Nat) (hq : q <= cap) (hc : 0 < cap) (w : World) : (Instr.slice 23 (.slice (some ⟨b, 0, none⟩) len cap) none (some (.int .i64 (q : Int))) none).run Tryz.prog w = .ok (.slice (some ⟨b, 0, none⟩) q cap) w := by
 rw [run_slice_h w _ _ _ _ (by rw [Tryz.elemIJ]; exact Tryz.underlying23) .i64 q (by omega) (by omega), Tryz.elemIJ, sizeIJ]
 simp only [Result.andThen, sliced, if_neg (Nat.ne_of_gt hc), Option.map_some, add_zero']
 simp
theorem cutGJ (b len cap q : Nat) (hq : q <= cap) (hc : 0 < cap) (w : World) : (Instr.slice 24 (.slice (some ⟨b, 0, none⟩) len cap) none (some (.int .i64 (q : Int))) none).run Tryz.prog w = .ok (.slice (some ⟨b, 0, none⟩) q cap) w := by
 rw [run_slice_h w _ _ _ _ (by rw [Tryz.elemGJ]; exact Tryz.underlying24) .i64 q (by omega) (by omega), Tryz.elemGJ, sizeGJ]
 simp only [Result.andThen, sliced, if_neg (Nat.ne_of_gt hc), Option.map_some, add_zero']
 simp
theorem news_twoJ {W : World} {I : Nat} {x y : Value} {E : TypeId} (h : W.heap[I]? = some (.cells #[x, y] E)) : ∀ j u, [x, y][j]? = some u -> W.cell? ((⟨I, 0, none⟩ : Addr).add j) = some u := by
 intro j u hj
 match j, hj with
 | 0, hj =>
  cases hj
  rw [Addr.add_lit, cell_of_row _ I _ _ _ _ h]
  rfl
 | 1, hj =>
  cases hj
  rw [Addr.add_lit, cell_of_row _ I _ _ _ _ h]
  rfl
theorem oneII : ∀ (x y : Value), x.oneCell' = true -> y.oneCell' = true -> ∀ u ∈ [x, y], u.oneCell' = true := by
 intro x y hx hy u hu
 simp only [List.mem_cons, List.not_mem_nil, or_false] at hu
 rcases hu with rfl | rfl <;> assumption
theorem Tryz.szFssL : (Tryz.prog.info? 24).map (·.size) = some 1 := by kernel_rfl
def IdM (w : World) (base : Nat) (v : Value) (ids : List Int) : Prop :=
 ∃ g cap cur, v = .slice (some ⟨g, 0, none⟩) ids.length cap /\ base <= g /\ w.heap[g]? = some (.cells cur 3) /\ ids.length + 1 <= cap /\ cap <= maxLen /\ (∀ j, j < ids.length -> cur[j]? = some (.int .i64 (ids[j]?.getD 0))) /\ cur[ids.length]? = some (.int .i64 (-31))
def GsM (w : World) (base : Nat) (v : Value) (gl : List Value) : Prop :=
 ∃ g cap cur m, v = .slice (some ⟨g, 0, none⟩) gl.length cap /\ base <= g /\ w.heap[g]? = some (.cells cur 22) /\ gl.length + 1 <= cap /\ cap <= maxLen /\ (∀ j, j < gl.length -> cur[j]? = gl[j]?) /\ cur[gl.length]? = some (.slice (some ⟨m, 0, none⟩) 1 1)
theorem IdM.keep {w w' : World} {base : Nat} {v : Value} {ids : List Int} (h : IdM w base v ids) (hk : ∀ (k : Nat) (cur : Array Value), w.heap[k]? = some (.cells cur 3) -> w'.heap[k]? = w.heap[k]?) : IdM w' base v ids := by
 obtain ⟨g, cap, cur, h1, h2, h3, r⟩ := h
 exact ⟨g, cap, cur, h1, h2, (hk g cur h3).trans h3, r⟩
theorem GsM.keep {w w' : World} {base : Nat} {v : Value} {gl : List Value} (h : GsM w base v gl) (hk : ∀ (k : Nat) (cur : Array Value), w.heap[k]? = some (.cells cur 22) -> w'.heap[k]? = w.heap[k]?) : GsM w' base v gl := by
 obtain ⟨g, cap, cur, m, h1, h2, h3, r⟩ := h
 exact ⟨g, cap, cur, m, h1, h2, (hk g cur h3).trans h3, r⟩
theorem IdM.of {w : World} {base : Nat} {v : Value} {ids : List Int} (h : w.ownsRow base 3 1 v (ids.length + 3) (ids.map (Value.int .i64) ++ [.int .i64 (-31), .int .i64 (-31), .int .i64 (-31)])) :
  ∃ g cap, v = .slice (some ⟨g, 0, none⟩) (ids.length + 3) cap /\ ids.length + 3 <= cap /\ IdM w base (.slice (some ⟨g, 0, none⟩) ids.length cap) ids := by
 rcases h.2 with ⟨_, h0⟩ | ⟨g, cap, cur, rfl, hg, hh, hc, hx, hs, ht⟩
 ·omega
 ·have hj : ∀ j, j < ids.length + 3 -> cur[j]? = (ids.map (Value.int .i64) ++ [.int .i64 (-31), .int .i64 (-31), .int .i64 (-31)])[j]? := fun j hj => by rw [<- ht, List.getElem?_take, if_pos (by omega), Array.getElem?_toList]
  refine ⟨g, cap, rfl, hc, g, cap, cur, rfl, hg, hh, by omega, hx, fun j hl => ?_, ?_⟩
  ·rw [hj j (by omega), List.getElem?_append_left (by rw [List.length_map]; exact hl), List.getElem?_map, List.getElem?_eq_getElem hl]; rfl
  ·rw [hj _ (by omega), List.getElem?_append_right (by rw [List.length_map]; exact Nat.le_refl _), List.length_map, Nat.sub_self]; rfl
theorem GsM.of {w : World} {base m : Nat} {v x : Value} {gl : List Value} (h : w.ownsRow base 22 1 v (gl.length + 2) (gl ++ [.slice (some ⟨m, 0, none⟩) 1 1, x])) :
  ∃ g cap, v = .slice (some ⟨g, 0, none⟩) (gl.length + 2) cap /\ gl.length + 2 <= cap /\ GsM w base (.slice (some ⟨g, 0, none⟩) gl.length cap) gl := by
 rcases h.2 with ⟨_, h0⟩ | ⟨g, cap, cur, rfl, hg, hh, hc, hx, hs, ht⟩
 ·omega
 ·have hj : ∀ j, j < gl.length + 2 -> cur[j]? = (gl ++ [.slice (some ⟨m, 0, none⟩) 1 1, x])[j]? := fun j hj => by rw [<- ht, List.getElem?_take, if_pos (by omega), Array.getElem?_toList]
  refine ⟨g, cap, rfl, hc, g, cap, cur, m, rfl, hg, hh, by omega, hx, fun j hl => ?_, ?_⟩
  ·rw [hj j (by omega), List.getElem?_append_left hl]
  ·rw [hj _ (by omega), List.getElem?_append_right (Nat.le_refl _), Nat.sub_self]; rfl
theorem Mk.blk {w : World} {base : Nat} {v : Value} {us : List Nat} (h : Mk w base v us) : ∃ g, v.ownBlock = some g /\ base <= g /\ g < w.heap.size := by
 obtain ⟨g, cap, cur, rfl, h2, h3, r⟩ := h
 exact ⟨g, rfl, h2, blk_lt h3⟩
theorem Mk.ne {w w' : World} {base : Nat} {v v' : Value} {us us' : List Nat} (h : Mk w base v us) (h' : Mk w' w.heap.size v' us') : v.ownBlock ≠ v'.ownBlock := by
 obtain ⟨g, e, _, h1⟩ := h.blk
 obtain ⟨g', e', h2, _⟩ := h'.blk
 rw [e, e']
 intro c
 cases c
 omega
theorem Mk.keepT {w w' : World} {base : Nat} {v : Value} {us : List Nat} (h : Mk w base v us) (hk : ∀ (k : Nat) (cur : Array Value), w.heap[k]? = some (.cells cur 55) -> w'.heap[k]? = w.heap[k]?) : Mk w' base v us := h.keep fun k _ cur hc => hk k cur hc
structure XL (w : World) (base : Nat) (cs rs : List Nat) (ids : List Int) (gs : List (List Nat)) (vc vr vi vg : Value) (gl : List Value) : Prop where
 c : Mk w base vc cs
 r : Mk w base vr rs
 i : IdM w base vi ids
 g : GsM w base vg gl
 len : gl.length = gs.length
 col : ∀ (j : Nat) (u : Value), gl[j]? = some u -> Mk w base u (gs[j]?.getD [])
 nd : ((vc :: vr :: gl).map Value.ownBlock).Nodup
 few : ids.length <= 400 /\ gs.length <= 400
theorem XL.keep {w w' : World} {base : Nat} {cs rs : List Nat} {ids : List Int} {gs : List (List Nat)} {vc vr vi vg : Value} {gl : List Value} (h : XL w base cs rs ids gs vc vr vi vg gl) (hk : ∀ (k : Nat) (cur : Array Value) (t : TypeId), t = 55 \/ t = 3 \/ t = 22 -> w.heap[k]? = some (.cells cur t) -> w'.heap[k]? = w.heap[k]?) : XL w' base cs rs ids gs vc vr vi vg gl :=
 ⟨h.c.keepT fun k cur => hk k cur _ (.inl rfl), h.r.keepT fun k cur => hk k cur _ (.inl rfl), h.i.keep fun k cur => hk k cur _ (.inr (.inl rfl)), h.g.keep fun k cur => hk k cur _ (.inr (.inr rfl)), h.len, fun j u hj => (h.col j u hj).keepT fun k cur => hk k cur _ (.inl rfl), h.nd, h.few⟩
theorem XL.later {w w' : World} {base : Nat} {cs rs : List Nat} {ids : List Int} {gs : List (List Nat)} {vc vr vi vg : Value} {gl : List Value} (h : XL w base cs rs ids gs vc vr vi vg gl) (hb : Below w.heap.size w w') : XL w' base cs rs ids gs vc vr vi vg gl := h.keep fun k cur t _ hc => hb.block k (blk_lt hc)
theorem mk_forms {w : World} {base : Nat} {v : Value} {us : List Nat} (h : Mk w base v us) : ∃ ao cap, v = .slice ao us.length cap /\ RdF w ao us.length cap us /\ (ao = none -> us.length = 0 /\ cap = 0) /\ us.length <= 1000 := by
 obtain ⟨g, cap, cur, h1, h2, h3, h4, h5, h6, h6b, h7, h8⟩ := h
 exact ⟨_, cap, h1, ⟨rfl, by simp only [maxLen]; omega, h6, .inr ⟨g, 0, rfl, fun j hj => by rw [Nat.zero_add, cell_of_row _ g j _ _ _ h3]; exact h7 j hj⟩⟩, fun e => (by cases e), h6b⟩
theorem XL.zd {w : World} {base : Nat} {cs rs : List Nat} {ids : List Int} {gs : List (List Nat)} {vc vr vi vg : Value} {gl : List Value} (h : XL w base cs rs ids gs vc vr vi vg gl) (N : Int) (bad : Bool) :
  ∃ x : ZD, (#[.int .i64 N, vc, vi, vg, vr, .bool bad] : Array Value) = zRow x /\ ZR w x /\ ZW x /\ x.N = N /\ x.bad = bad /\ x.cs = cs /\ x.rs = rs /\ x.ids = ids /\ x.gs = gs /\ x.dn <= 400 /\ x.gn <= 400 := by
 obtain ⟨co, cc, rfl, hc, hc0, hcl⟩ := mk_forms h.c
 obtain ⟨ro, rc, rfl, hr, hr0, hrl⟩ := mk_forms h.r
 obtain ⟨ib, dc, icur, rfl, i2, i3, i4, i5, i6, i7⟩ := h.i
 obtain ⟨gb, gc, gcur, m, rfl, g2, g3, g4, g5, g6, g7⟩ := h.g
 have hx : ∀ j : Nat, ∃ p : Option Addr × Nat × Nat, j < gl.length -> gl[j]? = some (.slice p.1 p.2.1 p.2.2) /\ RdF w p.1 p.2.1 p.2.2 (gs[j]?.getD []) /\ (p.1 = none -> p.2.1 = 0 /\ p.2.2 = 0) /\ p.2.1 <= 1050000 := fun j => by
  by_cases hj : j < gl.length
  ·obtain ⟨ao, cap, hv, hr, h0, hl⟩ := mk_forms (h.col j _ (List.getElem?_eq_getElem hj))
   exact ⟨(ao, _, cap), fun _ => ⟨by rw [List.getElem?_eq_getElem hj, hv], hr, h0, by dsimp only; omega⟩⟩
  ·exact ⟨(none, 0, 0), fun h => absurd h hj⟩
 have hln := h.len
 have hf := h.few
 refine ⟨⟨N, co, cs.length, cc, some ⟨ib, 0, none⟩, ids.length, dc, some ⟨gb, 0, none⟩, gl.length, gc, ro, rs.length, rc, bad, cs, ids, fun j => Classical.choose (hx j), gs, rs⟩, rfl, ⟨hc, ⟨rfl, by simp only [maxLen]; omega, .inr ⟨ib, 0, rfl, fun j hj => ?_⟩⟩, ⟨hln.symm, by simp only [maxLen]; omega, .inr ⟨gb, 0, rfl, fun j hj => ?_⟩, fun j hj => (Classical.choose_spec (hx j) hj).2.1⟩, hr⟩, ⟨hc0, fun e => (by cases e), hr0, fun k hk => (Classical.choose_spec (hx k) hk).2.2.1, by dsimp only; omega, by dsimp only; omega, by dsimp only; omega, by dsimp only; omega, fun k hk => (Classical.choose_spec (hx k) hk).2.2.2⟩, rfl, rfl, rfl, rfl, rfl, rfl, hf.1, by dsimp only; omega⟩
 ·rw [Nat.zero_add, cell_of_row _ ib j _ _ _ i3]; exact i6 j hj
 ·rw [Nat.zero_add, cell_of_row _ gb j _ _ _ g3, g6 j hj]; exact (Classical.choose_spec (hx j) hj).1
end Go.Proofs.YthmhgpadinecfaaGreat
