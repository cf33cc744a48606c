import Derived.Test.YtbjnkefjlaplkaaGJh
namespace Go.Proofs.Ytbjnkefjlaplkaa
open Go.RowKit Go.Shelf
set_option linter.unusedVariables false
set_option linter.unusedSimpArgs false

def uJ (us : List Nat) : List Value := us.map fun (u : Nat) => Value.int .u64 (u : Int)
theorem uJ_snoc (us : List Nat) (u : Nat) : uJ (us ++ [u]) = uJ us ++ [.int .u64 (u : Int)] := List.map_append
theorem uJ_at (us : List Nat) (j : Nat) (h : j < us.length) : (uJ us)[j]? = some (.int .u64 ((us[j]?.getD 0 : Nat) : Int)) := by
  unfold uJ
  rw [List.getElem?_map, List.getElem?_eq_getElem h]
  rfl
theorem Try.infoUJ : (Try.prog.info? 36).map (fun i => (i.zero, i.size, i.bytes)) = some (some (.int .u64 0), 1, 8) := by kernel_rfl
theorem Try.infoUsJ : (Try.prog.info? 27).map (fun i => (i.zero, i.size, i.bytes)) = some (some (.slice none 0 0), 1, 24) := by kernel_rfl
theorem Try.szUss : (Try.prog.info? 28).map (·.size) = some 1 := by kernel_rfl
theorem Try.infoZu : (Try.prog.info? 30).map (·.size) = some 6 := by kernel_rfl
theorem take_snocJ {us : List Nat} {k : Nat} (h : k < us.length) : us.take (k + 1) = us.take k ++ [us[k]?.getD 0] := by
  rw [List.take_succ_eq_append_getElem h, List.getElem?_eq_getElem h]; rfl
theorem oneI : ∀ (x : Value), x.oneCell' = true → ∀ u ∈ [x], u.oneCell' = true := by
  intro x hx u hu
  simp only [List.mem_cons, List.not_mem_nil, or_false] at hu
  subst hu
  exact hx
set_option maxRecDepth 100000 in
set_option maxHeartbeats 1000000 in
/-- The document's Bits. -/
theorem bits10_any (ao : Option Addr) (len cap : Nat) (us : List Nat) (w : World) (hr : RdF w ao len cap us) (hl : len ≤ 1050000) :
    Calls Try.prog 7 #[.slice ao len cap] w fun e w' => ∃ v, e = .returned v ∧ w'.ownsRow w.heap.size 36 1 v us.length (uJ us) ∧ Below w.heap.size w w' := by
  have HR : Hid _ := hr
  have HLN : Hid _ := hr.length
  clear hr
  go_enter Try.func7, Try.ntmps7
  go_wp2_with fail
  go_loopg [3, 4] len (fun g v u wx => ∃ (i : Nat), u = .int .i64 i ∧ i + g = len ∧ Hid (wx.ownsRow w.heap.size 36 1 v i (uJ (us.take i))) ∧ Hid (Below w.heap.size w wx))
  case atStart => exact ⟨0, rfl, by omega, World.ownsRow_nil _ _ _ _, Below.refl _ _⟩
  case round =>
    obtain ⟨i, rfl, hi, HO, HB⟩ := hrel
    have hsr := HB.out.size
    by_cases hlt : i < len
    · have hd : decide ((i : Int) < (len : Int)) = true := decide_eq_true (by omega)
      obtain ⟨g, rfl⟩ : ∃ g, gk = g + 1 := ⟨gk - 1, by omega⟩
      rcases (HR.out.later HB.out).cells with h0 | ⟨b, off, rfl, hc⟩
      · omega
      have g0 := hc i hlt
      have HTS : Hid _ := take_snocJ (us := us) (k := i) (by rw [HLN.out]; exact hlt)
      obtain ⟨x, hx⟩ : ∃ x, us[i]?.getD 0 = x := ⟨_, rfl⟩
      rw [hx] at g0 HTS
      have HIG : Hid _ := hi
      clear hc hi hx
      go_wp2_with (first
        | (go_at_call 10; refine Calls.mono (apiBits_any x _) ?_; rintro e w' ⟨rfl, hw⟩; rw [hw]; clear hw)
        | (at_builtin; refine append_gsJ Try.underlying27 Try.infoUJ rfl (by decide) (by decide) _ (by rfl) _ _ (by rfl) w.heap.size _ _ _ (by rfl) (World.ownsRow.alloc HO.out _) ⟨wr.heap.size, 0, none⟩ 1 1 [.int .u64 (x : Int)] (by rfl) rfl (news_oneJ (heap_alloc_new wr _)) (oneI _ rfl) (by omega) (by simp only [alloc_size]; omega) ?_; intro v5 w5 o5 g5))
      have B5 : Hid (Below w.heap.size w w5) := (HB.out.alloc hsr _).trans (g5.below (fun k hk => (World.ownsRow.lt HO.out k hk).1) (by simp only [alloc_size]; omega))
      have O5 : Hid _ := o5
      clear o5 g5
      go_roundg g
      case measure => omega
      case rel =>
        refine ⟨i + 1, by go_num, by have := HIG.out; omega, ?_, B5⟩
        unfold Hid
        rw [HTS.out, uJ_snoc]
        exact O5.out
    · have hd : decide ((i : Int) < (len : Int)) = false := decide_eq_false (by omega)
      have HO2 : Hid (wr.ownsRow w.heap.size 36 1 u3 us.length (uJ us)) := by
        have := HO.out
        rw [List.take_of_length_le (by rw [HLN.out]; omega), show i = us.length by rw [HLN.out]; omega] at this
        exact this
      go_wp2
      go_ret
      exact ⟨_, rfl, HO2.out, HB.out⟩
/-- What came in: nil lists have no room; nothing is longer than the bulk. -/
structure ZW (z : ZD) : Prop where
  c : z.co = none → z.cn = 0 ∧ z.cc = 0
  i : z.io = none → z.dn = 0 ∧ z.dc = 0
  r : z.ro = none → z.rn = 0 ∧ z.rc = 0
  col : ∀ k, k < z.gn → (z.gv k).1 = none → (z.gv k).2.1 = 0 ∧ (z.gv k).2.2 = 0
  cl : z.cn ≤ 1050000
  il : z.dn ≤ 1050000
  gl : z.gn ≤ 1050000
  rl : z.rn ≤ 1050000
  coll : ∀ k, k < z.gn → (z.gv k).2.1 ≤ 1050000
theorem rdI_news {w : World} {ao : Option Addr} {len cap : Nat} {is : List Int} (h : RdIs w ao len cap is) : ∀ ad, ao = some ad → ∀ j u, (is.map (Value.int .i64))[j]? = some u → w.cell? (ad.add j) = some u := by
  intro ad ha j u hj
  have hl : j < is.length := by have := (List.getElem?_eq_some_iff.1 hj).1; rw [List.length_map] at this; exact this
  rw [List.getElem?_map, List.getElem?_eq_getElem hl] at hj
  cases hj
  have hlen := h.length
  rcases h.cells with h0 | ⟨b, off, he, hc⟩
  · omega
  · rw [ha] at he
    cases he
    rw [Addr.add_mid]
    have := hc j (by omega)
    rw [List.getElem?_eq_getElem hl] at this
    exact this
theorem intJ_one (is : List Int) : ∀ u ∈ is.map (Value.int .i64), u.oneCell' = true := by
  intro u hu
  obtain ⟨x, _, rfl⟩ := List.mem_map.1 hu
  rfl
theorem rdU_of {w : World} {base : Nat} {v : Value} {us : List Nat} (h : w.ownsRow base 36 1 v us.length (uJ us)) : ∃ ao cap, v = .slice ao us.length cap ∧ RdUs w ao us.length cap us := by
  obtain ⟨ao, cap, rfl, hm, hc⟩ := owns_slice h
  refine ⟨ao, cap, rfl, rfl, hm, ?_⟩
  rcases hc with h0 | ⟨g, rfl, hc⟩
  · exact .inl h0
  · exact .inr ⟨g, 0, rfl, fun j hj => by rw [Nat.zero_add, hc j hj, uJ_at us j hj]⟩
/-- The lists of the document's zonotope, in memory of their own. -/
structure OfL (w : World) (base : Nat) (cs rs : List Nat) (ids : List Int) (gs : List (List Nat)) (vc vr vi vg : Value) (gl : List Value) : Prop where
  c : w.ownsRow base 36 1 vc cs.length (uJ cs)
  r : w.ownsRow base 36 1 vr rs.length (uJ rs)
  i : w.ownsRow base 3 1 vi ids.length (ids.map (Value.int .i64))
  g : w.ownsRow base 27 1 vg gl.length gl
  len : gl.length = gs.length
  col : ∀ (j : Nat) (u : Value), gl[j]? = some u → w.ownsRow base 36 1 u (gs[j]?.getD []).length (uJ (gs[j]?.getD []))
theorem OfL.keep {w w' : World} {base : Nat} {cs rs : List Nat} {ids : List Int} {gs : List (List Nat)} {vc vr vi vg : Value} {gl : List Value} (h : OfL w base cs rs ids gs vc vr vi vg gl) (hk : ∀ (k : Nat) (cur : Array Value) (t : TypeId), t ≠ 30 → w.heap[k]? = some (.cells cur t) → w'.heap[k]? = w.heap[k]?) : OfL w' base cs rs ids gs vc vr vi vg gl :=
  ⟨owns_keepT h.c fun k cur => hk k cur _ (by decide), owns_keepT h.r fun k cur => hk k cur _ (by decide), owns_keepT h.i fun k cur => hk k cur _ (by decide), owns_keepT h.g fun k cur => hk k cur _ (by decide), h.len, fun j u hj => owns_keepT (h.col j u hj) fun k cur => hk k cur _ (by decide)⟩
theorem OfL.later {w w' : World} {base : Nat} {cs rs : List Nat} {ids : List Int} {gs : List (List Nat)} {vc vr vi vg : Value} {gl : List Value} (h : OfL w base cs rs ids gs vc vr vi vg gl) (hb : Below w.heap.size w w') : OfL w' base cs rs ids gs vc vr vi vg gl := h.keep fun k cur t _ hc => hb.block k (blk_lt hc)
theorem OfL.pushI {w w' : World} {base : Nat} {cs rs : List Nat} {ids : List Int} {gs : List (List Nat)} {vc vr vi vg vi' : Value} {gl : List Value} {is : List Int} (h : OfL w base cs rs ids gs vc vr vi vg gl) (hg : Grw w w' vi.ownBlock vi'.ownBlock)
    (ho : w'.ownsRow base 3 1 vi' is.length (is.map (Value.int .i64))) : OfL w' base cs rs is gs vc vr vi' vg gl := by
  have hk := grw_types h.i hg
  exact ⟨owns_keepT h.c fun k cur => hk k cur _ (by decide), owns_keepT h.r fun k cur => hk k cur _ (by decide), ho, owns_keepT h.g fun k cur => hk k cur _ (by decide), h.len, fun j u hj => owns_keepT (h.col j u hj) fun k cur => hk k cur _ (by decide)⟩
theorem OfL.pushG {w w' : World} {base : Nat} {cs rs us : List Nat} {ids : List Int} {gs : List (List Nat)} {vc vr vi vg vg' v : Value} {gl : List Value} (h : OfL w base cs rs ids gs vc vr vi vg gl) (hg : Grw w w' vg.ownBlock vg'.ownBlock)
    (ho : w'.ownsRow base 27 1 vg' (gl.length + 1) (gl ++ [v])) (hv : w.ownsRow base 36 1 v us.length (uJ us)) : OfL w' base cs rs ids (gs ++ [us]) vc vr vi vg' (gl ++ [v]) := by
  have hk := grw_types h.g hg
  refine ⟨owns_keepT h.c fun k cur => hk k cur _ (by decide), owns_keepT h.r fun k cur => hk k cur _ (by decide), owns_keepT h.i fun k cur => hk k cur _ (by decide), by simpa using ho, by simp [h.len], fun j u hj => ?_⟩
  by_cases e : j < gl.length
  · rw [List.getElem?_append_left e] at hj
    rw [List.getElem?_append_left (by rw [← h.len]; exact e)]
    exact owns_keepT (h.col j u hj) fun k cur => hk k cur _ (by decide)
  · have hl := (List.getElem?_eq_some_iff.1 hj).1
    have ej : j = gl.length := by simp at hl; omega
    subst ej
    rw [List.getElem?_append_right (Nat.le_refl _), Nat.sub_self, List.getElem?_cons_zero] at hj
    cases hj
    rw [List.getElem?_append_right (by rw [h.len]; exact Nat.le_refl _), h.len, Nat.sub_self, List.getElem?_cons_zero]
    exact owns_keepT hv fun k cur => hk k cur _ (by decide)
theorem OfL.zu {w : World} {base : Nat} {cs rs : List Nat} {ids : List Int} {gs : List (List Nat)} {vc vr vi vg : Value} {gl : List Value} (h : OfL w base cs rs ids gs vc vr vi vg gl) (N : Int) (bad : Bool) :
    ∃ u : ZD, (.agg #[.int .i64 N, vc, vi, vg, vr, .bool bad] : Value) = .agg (zRow u) ∧ ZU w u ∧ u.N = N ∧ u.bad = bad ∧ u.cs = cs ∧ u.rs = rs ∧ u.ids = ids ∧ u.gs = gs ∧ u.dn = ids.length ∧ u.gn = gs.length ∧ u.cn = cs.length ∧ u.rn = rs.length := by
  obtain ⟨co, cc, rfl, hc⟩ := rdU_of h.c
  obtain ⟨ro, rc, rfl, hr⟩ := rdU_of h.r
  obtain ⟨io, dc, rfl, hm1, h1⟩ := owns_slice h.i
  obtain ⟨go, gc, rfl, hm2, h2⟩ := owns_slice h.g
  have hx : ∀ j : Nat, ∃ p : Option Addr × Nat × Nat, j < gl.length → gl[j]? = some (.slice p.1 p.2.1 p.2.2) ∧ RdUs w p.1 p.2.1 p.2.2 (gs[j]?.getD []) := fun j => by
    by_cases hj : j < gl.length
    · obtain ⟨ao, cap, hv, hr⟩ := rdU_of (h.col j _ (List.getElem?_eq_getElem hj))
      exact ⟨(ao, _, cap), fun _ => ⟨by rw [List.getElem?_eq_getElem hj, hv], hr⟩⟩
    · exact ⟨(none, 0, 0), fun h => absurd h hj⟩
  have hln := h.len
  refine ⟨⟨N, co, cs.length, cc, io, ids.length, dc, go, gl.length, gc, ro, rs.length, rc, bad, cs, ids, fun j => Classical.choose (hx j), gs, rs⟩, rfl, ⟨hc, ⟨rfl, hm1, ?_⟩, ⟨hln.symm, hm2, ?_, fun j hj => (Classical.choose_spec (hx j) hj).2⟩, hr⟩, rfl, rfl, rfl, rfl, rfl, rfl, rfl, hln, rfl, rfl⟩
  · rcases h1 with h0 | ⟨g, rfl, hc⟩
    · exact .inl h0
    · refine .inr ⟨g, 0, rfl, fun j hj => ?_⟩
      dsimp only at hj ⊢
      rw [Nat.zero_add, hc j hj, List.getElem?_map, List.getElem?_eq_getElem hj]
      rfl
  · rcases h2 with h0 | ⟨g, rfl, hc⟩
    · exact .inl h0
    · refine .inr ⟨g, 0, rfl, fun j hj => ?_⟩
      rw [Nat.zero_add, hc j hj, (Classical.choose_spec (hx j) hj).1]
theorem allocUJ (w : World) : (Instr.alloc 30 true (.tuple #[])).run Try.prog w = .ok (.pointer (some ⟨w.heap.size, 0, none⟩)) (w.alloc (.cells #[.int .i64 0, .slice none 0 0, .slice none 0 0, .slice none 0 0, .slice none 0 0, .bool false] 30)) := by kernel_rfl
end Go.Proofs.Ytbjnkefjlaplkaa


namespace Go.Proofs.Ytbjnkefjlaplkaa
open Go.RowKit Go.Shelf
set_option linter.unusedVariables false
set_option linter.unusedSimpArgs false

theorem take_snocG {us : List (List Nat)} {k : Nat} (h : k < us.length) : us.take (k + 1) = us.take k ++ [us[k]?.getD []] := by
  rw [List.take_succ_eq_append_getElem h, List.getElem?_eq_getElem h]; rfl
theorem rdGs_at {w : World} {b off len cap : Nat} {gv : Nat → Option Addr × Nat × Nat} {gs : List (List Nat)} (h : RdGs w (some ⟨b, off, none⟩) len cap gv gs) {k : Nat} (hk : k < len) : w.cell? ⟨b, off + k, none⟩ = some (.slice (gv k).1 (gv k).2.1 (gv k).2.2) := by
  rcases h.cells with h0 | ⟨b', off', e, hc⟩
  · omega
  · cases e
    exact hc k hk
set_option maxRecDepth 100000 in
set_option maxHeartbeats 4000000 in
/-- The document's Of. -/
theorem of10_any (z : ZD) (w : World) (hz : ZR w z) (hw : ZW z) :
    Calls Try.prog 6 #[.agg (zRow z)] w fun e w' => ∃ u : ZD, e = .returned (.agg (zRow u)) ∧ ZU w' u ∧ u.N = z.N ∧ u.bad = z.bad ∧ u.cs = z.cs ∧ u.rs = z.rs ∧ u.ids = z.ids ∧ u.gs = z.gs ∧ u.dn = z.dn ∧ u.gn = z.gn ∧ u.cn = z.cn ∧ u.rn = z.rn ∧ Below w.heap.size w w' := by
  obtain ⟨N, co, cn, cc, io, dn, dc, go, gn, gc, ro, rn, rc, bad, cs, ids, gv, gs, rs⟩ := z
  have HC : Hid (∀ W', Below w.heap.size w W' → Calls Try.prog 7 #[.slice co cn cc] W' fun e w' => ∃ v, e = .returned v ∧ w'.ownsRow W'.heap.size 36 1 v cs.length (uJ cs) ∧ Below W'.heap.size W' w') := fun W' hb => bits10_any co cn cc cs W' (hz.later hb).c hw.cl
  have HR : Hid (∀ W', Below w.heap.size w W' → Calls Try.prog 7 #[.slice ro rn rc] W' fun e w' => ∃ v, e = .returned v ∧ w'.ownsRow W'.heap.size 36 1 v rs.length (uJ rs) ∧ Below W'.heap.size W' w') := fun W' hb => bits10_any ro rn rc rs W' (hz.later hb).r hw.rl
  have HG : Hid (∀ x, x < gn → ∀ W', Below w.heap.size w W' → Calls Try.prog 7 #[.slice (gv x).1 (gv x).2.1 (gv x).2.2] W' fun e w' => ∃ v, e = .returned v ∧ w'.ownsRow W'.heap.size 36 1 v (gs[x]?.getD []).length (uJ (gs[x]?.getD [])) ∧ Below W'.heap.size W' w') := fun x hx W' hb => bits10_any _ _ _ _ W' ((hz.later hb).g.each x hx) (hw.coll x hx)
  have HIR : Hid (∀ W', Below w.heap.size w W' → RdIs W' io dn dc ids) := fun W' hb => (hz.later hb).i
  have HGR : Hid (∀ W', Below w.heap.size w W' → RdGs W' go gn gc gv gs) := fun W' hb => (hz.later hb).g
  have HNI : Hid (io = none → dn = 0 ∧ dc = 0) := hw.i
  have HLN : Hid (ids.length = dn ∧ gs.length = gn) := ⟨hz.i.length, hz.g.length⟩
  have HLC : Hid (cs.length = cn ∧ rs.length = rn) := ⟨hz.c.length, hz.r.length⟩
  have hdl : dn ≤ 1050000 := hw.il
  have hgl : gn ≤ 1050000 := hw.gl
  clear hz hw
  have X0 : Below w.heap.size w ((w.alloc (.cells #[.int .i64 N, .slice co cn cc, .slice io dn dc, .slice go gn gc, .slice ro rn rc, .bool bad] 26)).alloc (.cells #[.int .i64 0, .slice none 0 0, .slice none 0 0, .slice none 0 0, .slice none 0 0, .bool false] 30)) := ((Below.refl _ w).alloc (Nat.le_refl _) _).alloc (by simp only [alloc_size]; omega) _
  have Y0 : ((w.alloc (.cells #[.int .i64 N, .slice co cn cc, .slice io dn dc, .slice go gn gc, .slice ro rn rc, .bool bad] 26)).alloc (.cells #[.int .i64 0, .slice none 0 0, .slice none 0 0, .slice none 0 0, .slice none 0 0, .bool false] 30)).heap[w.heap.size]? = some (.cells #[.int .i64 N, .slice co cn cc, .slice io dn dc, .slice go gn gc, .slice ro rn rc, .bool bad] 26) := alloc_kept (heap_alloc_new w _) _
  have Y1 : ((w.alloc (.cells #[.int .i64 N, .slice co cn cc, .slice io dn dc, .slice go gn gc, .slice ro rn rc, .bool bad] 26)).alloc (.cells #[.int .i64 0, .slice none 0 0, .slice none 0 0, .slice none 0 0, .slice none 0 0, .bool false] 30)).heap[w.heap.size + 1]? = some (.cells #[.int .i64 0, .slice none 0 0, .slice none 0 0, .slice none 0 0, .slice none 0 0, .bool false] 30) := heap_at _ _ (w.heap.size + 1) (by simp only [alloc_size])
  unfold zRow
  dsimp only
  go_enter Try.func6, Try.ntmps6
  go_upto_region 1 with fail
  obtain ⟨X, hX⟩ : ∃ X, ((w.alloc (.cells #[.int .i64 N, .slice co cn cc, .slice io dn dc, .slice go gn gc, .slice ro rn rc, .bool bad] 26)).alloc (.cells #[.int .i64 0, .slice none 0 0, .slice none 0 0, .slice none 0 0, .slice none 0 0, .bool false] 30)) = X := ⟨_, rfl⟩
  rw [hX] at X0 Y0 Y1 ⊢
  clear hX
  have HX : Hid (Below w.heap.size w X ∧ X.heap[w.heap.size]? = some (.cells #[.int .i64 N, .slice co cn cc, .slice io dn dc, .slice go gn gc, .slice ro rn rc, .bool bad] 26) ∧ X.heap[w.heap.size + 1]? = some (.cells #[.int .i64 0, .slice none 0 0, .slice none 0 0, .slice none 0 0, .slice none 0 0, .bool false] 30)) := ⟨X0, Y0, Y1⟩
  clear X0 Y0 Y1
  go_cut [3] (fun v wx => ∃ D vc vr, v = .pointer (some ⟨D, 0, none⟩) ∧ Hid (wx.heap[D]? = some (.cells #[.int .i64 N, vc, .slice none 0 0, .slice none 0 0, vr, .bool bad] 30)) ∧ Hid (OfL wx w.heap.size cs rs [] [] vc vr (.slice none 0 0) (.slice none 0 0) []) ∧ Hid (Below w.heap.size w wx) ∧ Hid (wx.heap[w.heap.size]? = some (.cells #[.int .i64 N, .slice co cn cc, .slice io dn dc, .slice go gn gc, .slice ro rn rc, .bool bad] 26) ∧ wx.heap[w.heap.size + 1]? = some (.cells #[.int .i64 0, .slice none 0 0, .slice none 0 0, .slice none 0 0, .slice none 0 0, .bool false] 30)) ∧ w.heap.size + 1 < D)
  case first =>
    have bX : Below X.heap.size X X.drew := (Below.refl _ _).drew
    refine wp_region_noPanic ?_
    refine wp_region_held_drew (S := (fun W' => Below X.heap.size X W')) (by kernel_rfl) bX (fun _ => ?_)
    refine takeH 5 (i := 0) (v := ?_) rfl rfl (by kernel_rfl) (by kernel_rfl) (by kernel_rfl) (fun _ _ _ h => h) (Or.inl ⟨by kernel_rfl, ?_⟩) bX ?_
    rotate_left
    · intro w' hSw; obtain ⟨c0, c1, c2, c3, c4, c5⟩ := cells6 ((hSw.block _ (blk_lt HX.out.2.1)).trans HX.out.2.1); go_simp; try with_reducible rfl
    try simp only [Act.put, List.setIfInBounds_toArray, List.set_cons_zero, List.set_cons_succ]
    refine takeH 6 (i := 1) (v := ?_) rfl rfl (by kernel_rfl) (by kernel_rfl) (by kernel_rfl) (fun _ _ _ h => h) (Or.inl ⟨by kernel_rfl, ?_⟩) bX ?_
    rotate_left
    · intro w' hSw; obtain ⟨c0, c1, c2, c3, c4, c5⟩ := cells6 ((hSw.block _ (blk_lt HX.out.2.1)).trans HX.out.2.1); go_simp; try with_reducible rfl
    try simp only [Act.put, List.setIfInBounds_toArray, List.set_cons_zero, List.set_cons_succ]
    refine takeH 7 (i := 2) (v := ?_) rfl rfl (by kernel_rfl) (by kernel_rfl) (by kernel_rfl) (fun _ _ _ h => h) (Or.inl ⟨by kernel_rfl, ?_⟩) bX ?_
    rotate_left
    · intro w' hSw; obtain ⟨c0, c1, c2, c3, c4, c5⟩ := cells6 ((hSw.block _ (blk_lt HX.out.2.1)).trans HX.out.2.1); go_simp; try with_reducible rfl
    try simp only [Act.put, List.setIfInBounds_toArray, List.set_cons_zero, List.set_cons_succ]
    refine takeH 8 (i := 3) (v := ?_) rfl rfl (by kernel_rfl) (by kernel_rfl) (by kernel_rfl) (fun _ _ _ h => h) (Or.inl ⟨by kernel_rfl, ?_⟩) bX ?_
    rotate_left
    · intro w' hSw; obtain ⟨c0, c1, c2, c3, c4, c5⟩ := cells6 ((hSw.block _ (blk_lt HX.out.2.1)).trans HX.out.2.1); go_simp; try with_reducible rfl
    try simp only [Act.put, List.setIfInBounds_toArray, List.set_cons_zero, List.set_cons_succ]
    refine takeH 10 (i := 5) (v := ?_) rfl rfl (by kernel_rfl) (by kernel_rfl) (by kernel_rfl) (fun _ _ _ h => h) (Or.inl ⟨by kernel_rfl, ?_⟩) bX ?_
    rotate_left
    · intro w' hSw; obtain ⟨c0, c1, c2, c3, c4, c5⟩ := cells6 ((hSw.block _ (blk_lt HX.out.2.1)).trans HX.out.2.1); go_simp; try with_reducible rfl
    try simp only [Act.put, List.setIfInBounds_toArray, List.set_cons_zero, List.set_cons_succ]
    refine takeH 11 (i := 6) (v := ?_) rfl rfl (by kernel_rfl) (by kernel_rfl) (by kernel_rfl) (fun _ _ _ h => h) (Or.inl ⟨by kernel_rfl, ?_⟩) bX ?_
    rotate_left
    · intro w' hSw; obtain ⟨c0, c1, c2, c3, c4, c5⟩ := cells6 ((hSw.block _ (blk_lt HX.out.2.1)).trans HX.out.2.1); go_simp; try with_reducible rfl
    try simp only [Act.put, List.setIfInBounds_toArray, List.set_cons_zero, List.set_cons_succ]
    refine takeH 13 (i := 8) (v := ?_) rfl rfl (by kernel_rfl) (by kernel_rfl) (by kernel_rfl) (fun _ _ _ h => h) (Or.inl ⟨by kernel_rfl, ?_⟩) bX ?_
    rotate_left
    · intro w' hSw; obtain ⟨c0, c1, c2, c3, c4, c5⟩ := cells6 ((hSw.block _ (blk_lt HX.out.2.1)).trans HX.out.2.1); go_simp; try with_reducible rfl
    try simp only [Act.put, List.setIfInBounds_toArray, List.set_cons_zero, List.set_cons_succ]
    refine takeH 14 (i := 9) (v := ?_) rfl rfl (by kernel_rfl) (by kernel_rfl) (by kernel_rfl) (fun _ _ _ h => h) (Or.inl ⟨by kernel_rfl, ?_⟩) bX ?_
    rotate_left
    · intro w' hSw; obtain ⟨c0, c1, c2, c3, c4, c5⟩ := cells6 ((hSw.block _ (blk_lt HX.out.2.1)).trans HX.out.2.1); go_simp; try with_reducible rfl
    try simp only [Act.put, List.setIfInBounds_toArray, List.set_cons_zero, List.set_cons_succ]
    obtain ⟨V, hV⟩ : ∃ V, X.drew = V := ⟨_, rfl⟩
    have bV : Below X.heap.size X V := hV ▸ bX
    rw [hV]
    clear hV bX
    refine wpAnyH_ready (rs := [4, 11]) (by kernel_rfl) (by simp) ?_
    refine consH _ rfl ?_ (consH _ rfl ?_ AllReadyH.nil)
    · refine hopCd 9 rfl (by kernel_rfl) rfl (by kernel_rfl) (Calls.mono (HC.out _ (HX.out.1.trans (bV.mono HX.out.1.size))) ?_)
      rintro e Vc ⟨vc, rfl, o1, hb⟩
      obtain ⟨avc, pvc, hvc, -⟩ := owns_slice o1
      subst hvc
      have bVc : Below X.heap.size X Vc := bV.trans (hb.mono bV.size)
      have ocVc := owns_monoJ o1 bV.size
      clear o1 hb
      refine ⟨_, rfl, bVc, ?_⟩
      try simp only [Act.put, List.setIfInBounds_toArray, List.set_cons_zero, List.set_cons_succ]
      refine wpAnyH_ready (rs := [7, 11]) (by kernel_rfl) (by simp) ?_
      refine consH _ rfl ?_ (consH _ rfl ?_ AllReadyH.nil)
      · refine hopCd 12 rfl (by kernel_rfl) rfl (by kernel_rfl) (Calls.mono (HR.out _ (HX.out.1.trans (bVc.mono HX.out.1.size))) ?_)
        rintro e Vcr ⟨vr, rfl, o1, hb⟩
        obtain ⟨avr, pvr, hvr, -⟩ := owns_slice o1
        subst hvr
        have bVcr : Below X.heap.size X Vcr := bVc.trans (hb.mono bVc.size)
        have ocVcr := owns_keepT ocVc fun k cur hc => hb.block k (blk_lt hc)
        have orVcr := owns_monoJ o1 bVc.size
        clear o1 hb
        refine ⟨_, rfl, bVcr, ?_⟩
        try simp only [Act.put, List.setIfInBounds_toArray, List.set_cons_zero, List.set_cons_succ]
        refine takeH 15 (i := 10) (v := .agg #[.int .i64 N, (.slice avc cs.length pvc), .slice none 0 0, .slice none 0 0, (.slice avr rs.length pvr), .bool bad]) rfl rfl (by kernel_rfl) (by kernel_rfl) (by kernel_rfl) (fun _ _ _ h => h) (Or.inl ⟨by kernel_rfl, fun w' _ => by kernel_rfl⟩) bVcr ?_
        try simp only [Act.put, List.setIfInBounds_toArray, List.set_cons_zero, List.set_cons_succ]
        refine wpAnyH_ready (rs := [11]) (by kernel_rfl) (by simp) ?_
        refine consH _ rfl ?_ AllReadyH.nil
        · refine hopAJ 3 rfl rfl rfl 30 rfl #[.int .i64 0, .slice none 0 0, .slice none 0 0, .slice none 0 0, .slice none 0 0, .bool false] allocUJ fun D Vcra hDVcra hDl hb => ?_
          have bVcra : Below X.heap.size X Vcra := bVcr.trans (hb.mono bVcr.size)
          have hDX : X.heap.size ≤ D := Nat.le_trans bVcr.size hDl
          have ocVcra := owns_keepT ocVcr fun k cur hc => hb.block k (blk_lt hc)
          have orVcra := owns_keepT orVcr fun k cur hc => hb.block k (blk_lt hc)
          refine ⟨bVcra, ?_⟩
          try simp only [Act.put, List.setIfInBounds_toArray, List.set_cons_zero, List.set_cons_succ]
          refine wpAnyH_ready (rs := [12]) (by kernel_rfl) (by simp) ?_
          refine consH _ rfl (hopL rfl (wpList_store_row (by rfl) 30 _ _ (by rfl) X X.heap.size D #[.int .i64 N, (.slice avc cs.length pvc), .slice none 0 0, .slice none 0 0, (.slice avr rs.length pvr), .bool bad] _ (by kernel_rfl) (by kernel_rfl) hDVcra bVcra hDX 6 Try.infoZu (by rfl) (by rfl) (oneZ _ _ _ _ _ (own_valJ ocVcra).1 rfl rfl (own_valJ orVcra).1 _) fun W9 e9 b9 hs9 ho9 => ?_)) AllReadyH.nil
          refine (And.intro b9 ?_ : _ ∧ _)
          try simp only [Act.put, List.setIfInBounds_toArray, List.set_cons_zero, List.set_cons_succ]
          refine wpAnyH_done (by kernel_rfl) ?_ _
          refine NoPanic.normal ?_
          try simp only [Act.put, List.setIfInBounds_toArray, List.set_cons_zero, List.set_cons_succ]
          go_wp2_with fail
          go_meet
          have hk9 : ∀ (k : Nat) (cur : Array Value), Vcra.heap[k]? = some (.cells cur 36) → W9.heap[k]? = Vcra.heap[k]? := fun k cur hc => ho9 k (by rintro rfl; rw [hDVcra] at hc; cases hc)
          exact ⟨D, .slice avc cs.length pvc, .slice avr rs.length pvr, rfl, e9, ⟨owns_monoJ (owns_keepT ocVcra hk9) HX.out.1.size, owns_monoJ (owns_keepT orVcra hk9) HX.out.1.size, World.ownsRow_nil _ _ _ _, World.ownsRow_nil _ _ _ _, rfl, fun j u hj => (by simp at hj)⟩, HX.out.1.trans (b9.mono HX.out.1.size), ⟨(b9.block _ (blk_lt HX.out.2.1)).trans HX.out.2.1, (b9.block _ (blk_lt HX.out.2.2)).trans HX.out.2.2⟩, Nat.lt_of_lt_of_le (blk_lt HX.out.2.2) hDX⟩
      · refine hopAJ 3 rfl rfl rfl 30 rfl #[.int .i64 0, .slice none 0 0, .slice none 0 0, .slice none 0 0, .slice none 0 0, .bool false] allocUJ fun D Vca hDVca hDl hb => ?_
        have bVca : Below X.heap.size X Vca := bVc.trans (hb.mono bVc.size)
        have hDX : X.heap.size ≤ D := Nat.le_trans bVc.size hDl
        have ocVca := owns_keepT ocVc fun k cur hc => hb.block k (blk_lt hc)
        refine ⟨bVca, ?_⟩
        try simp only [Act.put, List.setIfInBounds_toArray, List.set_cons_zero, List.set_cons_succ]
        refine wpAnyH_ready (rs := [7]) (by kernel_rfl) (by simp) ?_
        refine consH _ rfl ?_ AllReadyH.nil
        · refine hopCd 12 rfl (by kernel_rfl) rfl (by kernel_rfl) (Calls.mono (HR.out _ (HX.out.1.trans (bVca.mono HX.out.1.size))) ?_)
          rintro e Vcar ⟨vr, rfl, o1, hb⟩
          obtain ⟨avr, pvr, hvr, -⟩ := owns_slice o1
          subst hvr
          have bVcar : Below X.heap.size X Vcar := bVca.trans (hb.mono bVca.size)
          have ocVcar := owns_keepT ocVca fun k cur hc => hb.block k (blk_lt hc)
          have hDVcar := kept hb hDVca
          have orVcar := owns_monoJ o1 bVca.size
          clear o1 hb
          refine ⟨_, rfl, bVcar, ?_⟩
          try simp only [Act.put, List.setIfInBounds_toArray, List.set_cons_zero, List.set_cons_succ]
          refine takeH 15 (i := 10) (v := .agg #[.int .i64 N, (.slice avc cs.length pvc), .slice none 0 0, .slice none 0 0, (.slice avr rs.length pvr), .bool bad]) rfl rfl (by kernel_rfl) (by kernel_rfl) (by kernel_rfl) (fun _ _ _ h => h) (Or.inl ⟨by kernel_rfl, fun w' _ => by kernel_rfl⟩) bVcar ?_
          try simp only [Act.put, List.setIfInBounds_toArray, List.set_cons_zero, List.set_cons_succ]
          refine wpAnyH_ready (rs := [12]) (by kernel_rfl) (by simp) ?_
          refine consH _ rfl (hopL rfl (wpList_store_row (by rfl) 30 _ _ (by rfl) X X.heap.size D #[.int .i64 N, (.slice avc cs.length pvc), .slice none 0 0, .slice none 0 0, (.slice avr rs.length pvr), .bool bad] _ (by kernel_rfl) (by kernel_rfl) hDVcar bVcar hDX 6 Try.infoZu (by rfl) (by rfl) (oneZ _ _ _ _ _ (own_valJ ocVcar).1 rfl rfl (own_valJ orVcar).1 _) fun W9 e9 b9 hs9 ho9 => ?_)) AllReadyH.nil
          refine (And.intro b9 ?_ : _ ∧ _)
          try simp only [Act.put, List.setIfInBounds_toArray, List.set_cons_zero, List.set_cons_succ]
          refine wpAnyH_done (by kernel_rfl) ?_ _
          refine NoPanic.normal ?_
          try simp only [Act.put, List.setIfInBounds_toArray, List.set_cons_zero, List.set_cons_succ]
          go_wp2_with fail
          go_meet
          have hk9 : ∀ (k : Nat) (cur : Array Value), Vcar.heap[k]? = some (.cells cur 36) → W9.heap[k]? = Vcar.heap[k]? := fun k cur hc => ho9 k (by rintro rfl; rw [hDVcar] at hc; cases hc)
          exact ⟨D, .slice avc cs.length pvc, .slice avr rs.length pvr, rfl, e9, ⟨owns_monoJ (owns_keepT ocVcar hk9) HX.out.1.size, owns_monoJ (owns_keepT orVcar hk9) HX.out.1.size, World.ownsRow_nil _ _ _ _, World.ownsRow_nil _ _ _ _, rfl, fun j u hj => (by simp at hj)⟩, HX.out.1.trans (b9.mono HX.out.1.size), ⟨(b9.block _ (blk_lt HX.out.2.1)).trans HX.out.2.1, (b9.block _ (blk_lt HX.out.2.2)).trans HX.out.2.2⟩, Nat.lt_of_lt_of_le (blk_lt HX.out.2.2) hDX⟩
    · refine hopAJ 3 rfl rfl rfl 30 rfl #[.int .i64 0, .slice none 0 0, .slice none 0 0, .slice none 0 0, .slice none 0 0, .bool false] allocUJ fun D Va hDVa hDl hb => ?_
      have bVa : Below X.heap.size X Va := bV.trans (hb.mono bV.size)
      have hDX : X.heap.size ≤ D := Nat.le_trans bV.size hDl
      refine ⟨bVa, ?_⟩
      try simp only [Act.put, List.setIfInBounds_toArray, List.set_cons_zero, List.set_cons_succ]
      refine wpAnyH_ready (rs := [4]) (by kernel_rfl) (by simp) ?_
      refine consH _ rfl ?_ AllReadyH.nil
      · refine hopCd 9 rfl (by kernel_rfl) rfl (by kernel_rfl) (Calls.mono (HC.out _ (HX.out.1.trans (bVa.mono HX.out.1.size))) ?_)
        rintro e Vac ⟨vc, rfl, o1, hb⟩
        obtain ⟨avc, pvc, hvc, -⟩ := owns_slice o1
        subst hvc
        have bVac : Below X.heap.size X Vac := bVa.trans (hb.mono bVa.size)
        have hDVac := kept hb hDVa
        have ocVac := owns_monoJ o1 bVa.size
        clear o1 hb
        refine ⟨_, rfl, bVac, ?_⟩
        try simp only [Act.put, List.setIfInBounds_toArray, List.set_cons_zero, List.set_cons_succ]
        refine wpAnyH_ready (rs := [7]) (by kernel_rfl) (by simp) ?_
        refine consH _ rfl ?_ AllReadyH.nil
        · refine hopCd 12 rfl (by kernel_rfl) rfl (by kernel_rfl) (Calls.mono (HR.out _ (HX.out.1.trans (bVac.mono HX.out.1.size))) ?_)
          rintro e Vacr ⟨vr, rfl, o1, hb⟩
          obtain ⟨avr, pvr, hvr, -⟩ := owns_slice o1
          subst hvr
          have bVacr : Below X.heap.size X Vacr := bVac.trans (hb.mono bVac.size)
          have ocVacr := owns_keepT ocVac fun k cur hc => hb.block k (blk_lt hc)
          have hDVacr := kept hb hDVac
          have orVacr := owns_monoJ o1 bVac.size
          clear o1 hb
          refine ⟨_, rfl, bVacr, ?_⟩
          try simp only [Act.put, List.setIfInBounds_toArray, List.set_cons_zero, List.set_cons_succ]
          refine takeH 15 (i := 10) (v := .agg #[.int .i64 N, (.slice avc cs.length pvc), .slice none 0 0, .slice none 0 0, (.slice avr rs.length pvr), .bool bad]) rfl rfl (by kernel_rfl) (by kernel_rfl) (by kernel_rfl) (fun _ _ _ h => h) (Or.inl ⟨by kernel_rfl, fun w' _ => by kernel_rfl⟩) bVacr ?_
          try simp only [Act.put, List.setIfInBounds_toArray, List.set_cons_zero, List.set_cons_succ]
          refine wpAnyH_ready (rs := [12]) (by kernel_rfl) (by simp) ?_
          refine consH _ rfl (hopL rfl (wpList_store_row (by rfl) 30 _ _ (by rfl) X X.heap.size D #[.int .i64 N, (.slice avc cs.length pvc), .slice none 0 0, .slice none 0 0, (.slice avr rs.length pvr), .bool bad] _ (by kernel_rfl) (by kernel_rfl) hDVacr bVacr hDX 6 Try.infoZu (by rfl) (by rfl) (oneZ _ _ _ _ _ (own_valJ ocVacr).1 rfl rfl (own_valJ orVacr).1 _) fun W9 e9 b9 hs9 ho9 => ?_)) AllReadyH.nil
          refine (And.intro b9 ?_ : _ ∧ _)
          try simp only [Act.put, List.setIfInBounds_toArray, List.set_cons_zero, List.set_cons_succ]
          refine wpAnyH_done (by kernel_rfl) ?_ _
          refine NoPanic.normal ?_
          try simp only [Act.put, List.setIfInBounds_toArray, List.set_cons_zero, List.set_cons_succ]
          go_wp2_with fail
          go_meet
          have hk9 : ∀ (k : Nat) (cur : Array Value), Vacr.heap[k]? = some (.cells cur 36) → W9.heap[k]? = Vacr.heap[k]? := fun k cur hc => ho9 k (by rintro rfl; rw [hDVacr] at hc; cases hc)
          exact ⟨D, .slice avc cs.length pvc, .slice avr rs.length pvr, rfl, e9, ⟨owns_monoJ (owns_keepT ocVacr hk9) HX.out.1.size, owns_monoJ (owns_keepT orVacr hk9) HX.out.1.size, World.ownsRow_nil _ _ _ _, World.ownsRow_nil _ _ _ _, rfl, fun j u hj => (by simp at hj)⟩, HX.out.1.trans (b9.mono HX.out.1.size), ⟨(b9.block _ (blk_lt HX.out.2.1)).trans HX.out.2.1, (b9.block _ (blk_lt HX.out.2.2)).trans HX.out.2.2⟩, Nat.lt_of_lt_of_le (blk_lt HX.out.2.2) hDX⟩
  case rest =>
  obtain ⟨D, vc, vr, rfl, ED, EL, EB, EK, hDl'⟩ := hcut
  have hDl : w.heap.size ≤ D := by omega
  have hDz : w.heap.size ≠ D := by omega
  have hD1 : w.heap.size + 1 ≠ D := by omega
  clear HX HC HR
  obtain ⟨d0, d1, d2, d3, d4, d5⟩ := cells6 ED.out
  obtain ⟨z0, z1, z2, z3, z4, z5⟩ := cells6 EK.out.1
  go_upto_region 3 with (first
    | (at_builtin; refine append_gnJ Try.underlying23 Try.infoIJ rfl (by decide) (by decide) wc (by rfl) _ _ (by rfl) w.heap.size (.slice none 0 0) 0 [] (by rfl) (World.ownsRow_nil _ _ _ _) io dn dc (ids.map (Value.int .i64)) (by rfl) HNI.out (by rw [List.length_map, HLN.out.1]; omega) (rdI_news (HIR.out _ EB.out)) (intJ_one ids) (by omega) EB.out.size ?_; intro vi w1 o1 g1; rw [List.nil_append, Nat.zero_add, ← HLN.out.1] at o1; have s1D : w1.heap[D]? = _ := (g1.by'.block D (blk_lt ED.out) (by intro e; cases e)).trans ED.out; have q1 : Below w.heap.size w w1 := EB.out.trans (g1.below (fun k hk => by cases hk) EB.out.size))
    | (refine wpList_store_at (by rfl) 23 _ _ (by rfl) w w.heap.size D 2 vi _ #[.int .i64 N, vc, vi, .slice none 0 0, vr, .bool bad] 30 (by rfl) (by rfl) s1D q1 hDl 1 Try.szIs (by rw [(own_valJ o1).2]; rfl) (Nat.le_of_ble_eq_true rfl) (by intro u hu; rw [(own_valJ o1).2] at hu; simp only [List.mem_cons, List.not_mem_nil, or_false] at hu; subst hu; exact (own_valJ o1).1) (by rw [(own_valJ o1).2]; rfl) ?_; intro w2 e2 b2 s2 k2))
  have L2 : OfL w2 w.heap.size cs rs ids [] vc vr vi (.slice none 0 0) [] := (EL.out.pushI (vi' := vi) g1 o1).keep fun k cur t ht hc => k2 k (by rintro rfl; rw [s1D] at hc; cases hc; exact ht rfl)
  have Z2 : w2.heap[w.heap.size]? = some (.cells #[.int .i64 N, .slice co cn cc, .slice io dn dc, .slice go gn gc, .slice ro rn rc, .bool bad] 26) := (k2 _ hDz).trans ((g1.by'.block _ (blk_lt EK.out.1) (by intro e; cases e)).trans EK.out.1)
  have R2 : w2.heap[w.heap.size + 1]? = some (.cells #[.int .i64 0, .slice none 0 0, .slice none 0 0, .slice none 0 0, .slice none 0 0, .bool false] 30) := (k2 _ hD1).trans ((g1.by'.block _ (blk_lt EK.out.2) (by intro e; cases e)).trans EK.out.2)
  have H2 : Hid _ := And.intro e2 (And.intro L2 (And.intro b2 (And.intro Z2 R2)))
  clear e2 L2 b2 Z2 R2 s2 k2 o1 g1 s1D q1 ED EL EB EK d0 d1 d2 d3 d4 d5 z0 z1 z2 z3 z4 z5 HIR HNI
  go_wp2_with fail
  go_loopg [4] gn (fun g u wx => ∃ (k : Nat) (vg : Value) (gl : List Value), u = .int .i64 k ∧ k + g = gn ∧ Hid (OfL wx w.heap.size cs rs ids (gs.take k) vc vr vi vg gl) ∧ Hid (wx.heap[D]? = some (.cells #[.int .i64 N, vc, vi, vg, vr, .bool bad] 30)) ∧ Hid (Below w.heap.size w wx) ∧ Hid (wx.heap[w.heap.size]? = some (.cells #[.int .i64 N, .slice co cn cc, .slice io dn dc, .slice go gn gc, .slice ro rn rc, .bool bad] 26) ∧ wx.heap[w.heap.size + 1]? = some (.cells #[.int .i64 0, .slice none 0 0, .slice none 0 0, .slice none 0 0, .slice none 0 0, .bool false] 30)))
  case atStart =>
    obtain ⟨e2, L2, b2, z2, r2⟩ := H2.out
    exact ⟨0, _, [], rfl, by omega, L2, e2, b2, ⟨z2, r2⟩⟩
  case round =>
    obtain ⟨k, vg, gl, rfl, hk, HL, HD, HB, HK⟩ := hrel
    clear H2
    obtain ⟨z0, z1, z2, z3, z4, z5⟩ := cells6 HK.out.1
    by_cases hlt : k < gn
    · have hd : decide ((k : Int) < (gn : Int)) = true := decide_eq_true (by omega)
      obtain ⟨g, rfl⟩ : ∃ g, gk = g + 1 := ⟨gk - 1, by omega⟩
      have HIG : Hid _ := hk
      obtain ⟨gb, goff, rfl⟩ : ∃ gb goff, go = some ⟨gb, goff, none⟩ := by
        rcases (HGR.out wr HB.out).cells with h0 | ⟨b, off, e, _⟩
        · omega
        · exact ⟨b, off, e⟩
      go_upto_region 6 with fail
      have HLG : Hid (gl.length + 1 ≤ 4000000) := by unfold Hid; have := HL.out.len; rw [List.length_take] at this; omega
      have sV : wr.drew.heap[D]? = some (.cells #[.int .i64 N, vc, vi, vg, vr, .bool bad] 30) ∧ wr.drew.heap[w.heap.size]? = some (.cells #[.int .i64 N, .slice co cn cc, .slice io dn dc, .slice (some ⟨gb, goff, none⟩) gn gc, .slice ro rn rc, .bool bad] 26) ∧ RdGs wr.drew (some ⟨gb, goff, none⟩) gn gc gv gs := ⟨HD.out, HK.out.1, HGR.out _ HB.out.drew⟩
      have rV : wr.drew.heap[w.heap.size + 1]? = some (.cells #[.int .i64 0, .slice none 0 0, .slice none 0 0, .slice none 0 0, .slice none 0 0, .bool false] 30) := HK.out.2
      have LV := HL.out.keep (w' := wr.drew) fun _ _ _ _ _ => rfl
      have qV : Below w.heap.size w wr.drew := HB.out.drew
      clear z0 z1 z2 z3 z4 z5 hk
      refine wp_region_noPanic ?_
      refine wp_region_P (fun V => V.heap[D]? = some (.cells #[.int .i64 N, vc, vi, vg, vr, .bool bad] 30) ∧ V.heap[w.heap.size]? = some (.cells #[.int .i64 N, .slice co cn cc, .slice io dn dc, .slice (some ⟨gb, goff, none⟩) gn gc, .slice ro rn rc, .bool bad] 26) ∧ RdGs V (some ⟨gb, goff, none⟩) gn gc gv gs) 11 (by kernel_rfl) ?_
      refine takeP0 29 (i := 0) (v := ?_) rfl rfl (by kernel_rfl) (by kernel_rfl) (by kernel_rfl) rfl (fun _ _ _ h => h) (Or.inl ⟨by kernel_rfl, ?_⟩) (fun _ => sV) ?_
      rotate_left
      · intro w' hSw; go_simp; try with_reducible rfl
      try simp only [Act.put, List.setIfInBounds_toArray, List.set_cons_zero, List.set_cons_succ]
      refine takeP 30 (i := 1) (v := ?_) rfl rfl (by kernel_rfl) (by kernel_rfl) (by kernel_rfl) (by kernel_rfl) rfl (by kernel_rfl) (fun _ _ _ h => h) (Or.inl ⟨by kernel_rfl, ?_⟩) sV ?_
      rotate_left
      · intro w' hSw; obtain ⟨c0, c1, c2, c3, c4, c5⟩ := cells6 hSw.1; obtain ⟨z0, z1, z2, z3, z4, z5⟩ := cells6 hSw.2.1; go_simp; try with_reducible rfl
      try simp only [Act.put, List.setIfInBounds_toArray, List.set_cons_zero, List.set_cons_succ]
      refine takeP0 31 (i := 2) (v := ?_) rfl rfl (by kernel_rfl) (by kernel_rfl) (by kernel_rfl) rfl (fun _ _ _ h => h) (Or.inl ⟨by kernel_rfl, ?_⟩) (fun _ => sV) ?_
      rotate_left
      · intro w' hSw; go_simp; try with_reducible rfl
      try simp only [Act.put, List.setIfInBounds_toArray, List.set_cons_zero, List.set_cons_succ]
      refine takeP 32 (i := 3) (v := ?_) rfl rfl (by kernel_rfl) (by kernel_rfl) (by kernel_rfl) (by kernel_rfl) rfl (by kernel_rfl) (fun _ _ _ h => h) (Or.inl ⟨by kernel_rfl, ?_⟩) sV ?_
      rotate_left
      · intro w' hSw; obtain ⟨c0, c1, c2, c3, c4, c5⟩ := cells6 hSw.1; obtain ⟨z0, z1, z2, z3, z4, z5⟩ := cells6 hSw.2.1; go_simp; try with_reducible rfl
      try simp only [Act.put, List.setIfInBounds_toArray, List.set_cons_zero, List.set_cons_succ]
      refine takeP0 33 (i := 4) (v := ?_) rfl rfl (by kernel_rfl) (by kernel_rfl) (by kernel_rfl) rfl (fun _ _ _ h => h) (Or.inl ⟨by kernel_rfl, ?_⟩) (fun _ => sV) ?_
      rotate_left
      · intro w' hSw; go_simp; try with_reducible rfl
      try simp only [Act.put, List.setIfInBounds_toArray, List.set_cons_zero, List.set_cons_succ]
      refine takeP0 34 (i := 5) (v := ?_) rfl rfl (by kernel_rfl) (by kernel_rfl) (by kernel_rfl) rfl (fun _ _ _ h => h) (Or.inl ⟨by kernel_rfl, ?_⟩) (fun _ => sV) ?_
      rotate_left
      · intro w' hSw; go_simp; try with_reducible rfl
      try simp only [Act.put, List.setIfInBounds_toArray, List.set_cons_zero, List.set_cons_succ]
      refine takeP 35 (i := 6) (v := ?_) rfl rfl (by kernel_rfl) (by kernel_rfl) (by kernel_rfl) (by kernel_rfl) rfl (by kernel_rfl) (fun _ _ _ h => h) (Or.inl ⟨by kernel_rfl, ?_⟩) sV ?_
      rotate_left
      · intro w' hSw; have q0 := rdGs_at hSw.2.2 hlt; go_simp; try with_reducible rfl
      try simp only [Act.put, List.setIfInBounds_toArray, List.set_cons_zero, List.set_cons_succ]
      refine wpAnyP_ready (rs := [7]) (by kernel_rfl) (by simp) ?_
      refine consP _ rfl (hopCd 36 rfl (by kernel_rfl) rfl (by kernel_rfl) (Calls.mono (HG.out k hlt _ qV) ?_)) AllReadyP.nil
      rintro e V1 ⟨v1, rfl, o1, b1⟩
      obtain ⟨a1, cp1, hv1, -⟩ := owns_slice o1
      subst hv1
      have s1 := And.intro (kept b1 sV.1) (And.intro (kept b1 sV.2.1) (sV.2.2.later b1))
      have L1 := LV.later b1
      have o1' := owns_monoJ o1 qV.size
      have q1 := qV.trans (b1.mono qV.size)
      refine ⟨_, rfl, s1, ?_⟩
      try simp only [Act.put, List.setIfInBounds_toArray, List.set_cons_zero, List.set_cons_succ]
      refine wpAnyP_ready (rs := [8]) (by kernel_rfl) (by simp) ?_
      refine consP _ rfl (hopBJ 37 (Value.slice a1 (gs[k]?.getD []).length cp1) 27 rfl rfl rfl (by kernel_rfl) fun I V2 hI b2 => ?_) AllReadyP.nil
      have s2 := And.intro (kept b2 s1.1) (And.intro (kept b2 s1.2.1) (s1.2.2.later b2))
      have L2 := L1.later b2
      have o2 := owns_keepT o1' fun k cur hc => b2.block k (blk_lt hc)
      have q2 := q1.trans (b2.mono q1.size)
      refine ⟨s2, ?_⟩
      try simp only [Act.put, List.setIfInBounds_toArray, List.set_cons_zero, List.set_cons_succ]
      refine wpAnyP_ready (rs := [9]) (by kernel_rfl) (by simp) ?_
      refine consP _ rfl (hopL rfl (append_gsJ Try.underlying28 Try.infoUsJ rfl (by decide) (by decide) V2 (by rfl) _ _ (by rfl) w.heap.size vg _ _ (by kernel_rfl) L2.g ⟨I, 0, none⟩ 1 1 [(Value.slice a1 (gs[k]?.getD []).length cp1)] (by kernel_rfl) rfl (news_oneJ hI) (oneI _ (own_valJ o2).1) HLG.out q2.size fun v6 w6 o6 g6 => ?_)) AllReadyP.nil
      change QK _ _ Exit.normal (Act.put _ (some 38) v6) w6
      have q6 := q2.trans (g6.below (fun k hk => (World.ownsRow.lt L2.g k hk).1) q2.size)
      have s6D := (grw_types L2.g g6 D _ _ (by decide) s2.1).trans s2.1
      have s6Z := (grw_types L2.g g6 _ _ _ (by decide) s2.2.1).trans s2.2.1
      have s6R : w6.heap[w.heap.size + 1]? = _ := (grw_types L2.g g6 _ _ _ (by decide) (kept b2 (kept b1 rV))).trans (kept b2 (kept b1 rV))
      have s6G := HGR.out w6 q6
      have L6 := L2.pushG g6 o6 o2
      refine (And.intro (And.intro s6D (And.intro s6Z s6G)) ?_ : _ ∧ _)
      try simp only [Act.put, List.setIfInBounds_toArray, List.set_cons_zero, List.set_cons_succ]
      clear g6
      refine takeP0 39 (i := 10) (v := ?_) rfl rfl (by kernel_rfl) (by kernel_rfl) (by kernel_rfl) rfl (fun _ _ _ h => h) (Or.inl ⟨by kernel_rfl, ?_⟩) (fun _ => And.intro s6D (And.intro s6Z s6G)) ?_
      rotate_left
      · intro w' hSw; go_simp; try with_reducible rfl
      try simp only [Act.put, List.setIfInBounds_toArray, List.set_cons_zero, List.set_cons_succ]
      refine wpAnyP_ready (rs := [11]) (by kernel_rfl) (by simp) ?_
      refine consPs _ rfl (by kernel_rfl) (hopL rfl (wpList_store_at (by rfl) 28 _ _ (by rfl) w w.heap.size D 3 v6 _ #[.int .i64 N, vc, vi, v6, vr, .bool bad] 30 (by kernel_rfl) (by kernel_rfl) s6D q6 hDl 1 Try.szUss (by rw [(own_valJ L6.g).2]; rfl) (Nat.le_of_ble_eq_true rfl) (by intro u hu; rw [(own_valJ L6.g).2] at hu; simp only [List.mem_cons, List.not_mem_nil, or_false] at hu; subst hu; exact (own_valJ L6.g).1) (by rw [(own_valJ L6.g).2]; rfl) fun w8 e8 b8 s8 k8 => ?_)) AllReadyP.nil
      refine (And.intro trivial ?_ : _ ∧ _)
      try simp only [Act.put, List.setIfInBounds_toArray, List.set_cons_zero, List.set_cons_succ]
      refine wpAnyP_done (by kernel_rfl) ?_ _
      refine NoPanic.normal ?_
      try simp only [Act.put, List.setIfInBounds_toArray, List.set_cons_zero, List.set_cons_succ]
      have L8 := L6.keep (w' := w8) fun k cur t ht hc => k8 k (by rintro rfl; rw [s6D] at hc; cases hc; exact ht rfl)
      have E8 : Hid _ := And.intro e8 (And.intro L8 (And.intro b8 (And.intro ((k8 _ hDz).trans s6Z) ((k8 _ hD1).trans s6R))))
      clear s6D s6Z s6R s6G L6 q6 e8 b8 s8 k8 L8 o6 o2 o1 o1' L1 L2 q1 q2 b1 b2 hI s1 s2 sV LV qV rV
      go_wp2_with fail
      go_roundg g
      case measure => omega
      case rel =>
        obtain ⟨e8, L8, b8, z8, r8⟩ := E8.out
        refine ⟨k + 1, v6, gl ++ [(Value.slice a1 (gs[k]?.getD []).length cp1)], by go_num, by have := HIG.out; omega, ?_, e8, b8, ⟨z8, r8⟩⟩
        unfold Hid
        rw [take_snocG (by rw [HLN.out.2]; exact hlt)]
        exact L8
    · have hd : decide ((k : Int) < (gn : Int)) = false := decide_eq_false (by omega)
      obtain rfl : k = gn := by omega
      have L9 := HL.out
      rw [List.take_of_length_le (by rw [HLN.out.2]; exact Nat.le_refl _)] at L9
      have HL9 : Hid _ := L9
      clear L9
      go_wp2_with (first
        | (refine wpList_load_row (by rfl) 30 _ (by rfl) D _ (by rfl) HD.out _ Try.underlying30 rfl 6 Try.infoZu (by rfl) ?_)
        | (refine wpList_store_row (by rfl) 30 _ _ (by rfl) w w.heap.size (w.heap.size + 1) _ _ (by rfl) (by rfl) HK.out.2 HB.out (Nat.le_succ _) 6 Try.infoZu (by rfl) (by rfl) (oneZ _ _ _ _ _ (own_valJ HL.out.c).1 (own_valJ HL.out.i).1 (own_valJ HL.out.g).1 (own_valJ HL.out.r).1 _) ?_; intro W9 e9 b9 s9 o9))
      have L10 := HL9.out.keep (w' := W9) fun j cur t ht hc => o9 j (by rintro rfl; rw [HK.out.2] at hc; cases hc; exact ht rfl)
      obtain ⟨u, hu, h1, h2, h3, h4, h5, h6, h7, h8, h9, h10, h11⟩ := L10.zu N bad
      refine bodyPost_ret (res_oneJ _ 2 30 (by kernel_rfl) _ _ (w.heap.size + 1) _ (by rfl) _ Try.underlying30 rfl 6 Try.infoZu rfl e9) rfl ?_
      exact ⟨u, congrArg Ending.returned hu, h1, h2, h3, h4, h5, h6, h7, h8.trans HLN.out.1, h9.trans HLN.out.2, h10.trans HLC.out.1, h11.trans HLC.out.2, b9⟩
end Go.Proofs.Ytbjnkefjlaplkaa
