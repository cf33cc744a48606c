import Derived.Test.YtjeghdmclmelfaaGreatGJi
namespace Go.Proofs.YtjeghdmclmelfaaGreat
open Go.RowKit Go.Shelf
set_option linter.unusedVariables false
set_option linter.unusedSimpArgs false
structure WdI (w : World) (base g cap : Nat) (is : List Int) : Prop where
 lo : base ≤ g
 room : is.length + 2 ≤ cap
 max : cap ≤ maxLen
 cur : ∃ cur, w.heap[g]? = some (.cells cur 3) ∧ (∀ j, j < is.length → cur[j]? = some (.int .i64 (is[j]?.getD 0))) ∧ cur[is.length]? = some (.int .i64 901) ∧ cur[is.length + 1]? = some (.int .i64 902)
theorem WdI.keep {w w' : World} {base g cap : Nat} {is : List Int} (h : WdI w base g cap is) (hk : ∀ (k : Nat) (cur : Array Value), w.heap[k]? = some (.cells cur 3) → w'.heap[k]? = w.heap[k]?) : WdI w' base g cap is := by
 obtain ⟨cur, h1, h2⟩ := h.cur
 exact ⟨h.lo, h.room, h.max, cur, (hk g cur h1).trans h1, h2⟩
theorem WdI.rd {w : World} {base g cap : Nat} {is : List Int} (h : WdI w base g cap is) : RdIs w (some ⟨g, 0, none⟩) is.length cap is := by
 obtain ⟨cur, h1, h2, h3⟩ := h.cur
 exact ⟨rfl, by have := h.room; have := h.max; omega, .inr ⟨g, 0, rfl, fun j hj => by rw [Nat.zero_add]; exact cellAtJ h1 j _ (h2 j hj)⟩⟩
theorem WdI.of {w : World} {base c g n : Nat} {is : List Int} (h : w.ownsRow base 3 1 (.slice (some ⟨g, 0, none⟩) n c) n (is.map (Value.int .i64) ++ [.int .i64 901, .int .i64 902])) : WdI w base g c is ∧ n = is.length + 2 := by
 have hl : n = is.length + 2 := by have := h.1; simp at this; omega
 subst hl
 rcases h.2 with ⟨h1, h2⟩ | ⟨g', cap, cur, hv, hg, hh, k1, k2, k3, k4⟩
 ·cases h1
 ·cases hv
  have hat : ∀ j, j < is.length + 2 → cur[j]? = (is.map (Value.int .i64) ++ [.int .i64 901, .int .i64 902])[j]? := fun j hj => by rw [← k4, List.getElem?_take, if_pos (by omega), Array.getElem?_toList]
  refine ⟨⟨hg, k1, k2, cur, hh, fun j hj => ?_, ?_, ?_⟩, rfl⟩
  ·rw [hat j (by omega), List.getElem?_append_left (by simpa using hj), List.getElem?_map, List.getElem?_eq_getElem hj]
   rfl
  ·rw [hat _ (by omega), List.getElem?_append_right (by simp)]
   simp
  ·rw [hat _ (by omega), List.getElem?_append_right (by simp)]
   simp
structure ColW (w : World) (base : Nat) (gs : List (List Nat)) (vs : List Value) : Prop where
 len : vs.length = gs.length
 col : ∀ (j : Nat) (u : Value), vs[j]? = some u → ∃ b c, u = .slice (some ⟨b, 0, none⟩) (gs[j]?.getD []).length c ∧ WdB w base b c (gs[j]?.getD [])
theorem ColW.nil (w : World) (base : Nat) : ColW w base [] [] := ⟨rfl, fun j u hj => by simp at hj⟩
theorem ColW.keep {w w' : World} {base : Nat} {gs : List (List Nat)} {vs : List Value} (h : ColW w base gs vs) (hk : ∀ (k : Nat) (cur : Array Value), w.heap[k]? = some (.cells cur 37) → w'.heap[k]? = w.heap[k]?) : ColW w' base gs vs :=
 ⟨h.len, fun j u hj => by obtain ⟨b, c, h1, h2⟩ := h.col j u hj; exact ⟨b, c, h1, h2.keep hk⟩⟩
theorem ColW.snoc {w : World} {base b c : Nat} {gs : List (List Nat)} {vs : List Value} {us : List Nat} (h : ColW w base gs vs) (hb : WdB w base b c us) : ColW w base (gs ++ [us]) (vs ++ [.slice (some ⟨b, 0, none⟩) us.length c]) := by
 refine ⟨by simp [h.len], fun j u hj => ?_⟩
 by_cases e : j < vs.length
 ·rw [List.getElem?_append_left e] at hj
  rw [List.getElem?_append_left (by rw [← h.len]; exact e)]
  exact h.col j u hj
 ·have hl := (List.getElem?_eq_some_iff.1 hj).1
  have ej : j = vs.length := by simp at hl; omega
  subst ej
  rw [List.getElem?_append_right (Nat.le_refl _), Nat.sub_self, List.getElem?_cons_zero] at hj
  cases hj
  rw [List.getElem?_append_right (by rw [h.len]; exact Nat.le_refl _), h.len, Nat.sub_self, List.getElem?_cons_zero]
  exact ⟨b, c, rfl, hb⟩
structure LdR (w : World) (base : Nat) (z x : ZD) : Prop where
 zr : ZR w x
 N : x.N = z.N
 bad : x.bad = z.bad
 cs : x.cs = z.cs
 rs : x.rs = z.rs
 ids : x.ids = z.ids
 gs : x.gs = z.gs
 c : ∃ g, x.co = some ⟨g, 0, none⟩ ∧ WdB w base g x.cc x.cs ∧ x.cn = x.cs.length
 r : ∃ g, x.ro = some ⟨g, 0, none⟩ ∧ WdB w base g x.rc x.rs ∧ x.rn = x.rs.length
 i : ∃ g, x.io = some ⟨g, 0, none⟩ ∧ WdI w base g x.dc x.ids ∧ x.dn = x.ids.length
 g : ∃ g mb, x.go = some ⟨g, 0, none⟩ ∧ x.gn = x.gs.length ∧ x.gn + 1 ≤ x.gc ∧ x.gc ≤ maxLen ∧ w.cell? ⟨g, x.gn, none⟩ = some (.slice (some ⟨mb, 0, none⟩) 1 1) ∧ w.cell? ⟨mb, 0, none⟩ = some (.float .f64 4651136495631990784)
 col : ∀ j, j < x.gn → ∃ b, x.gv j = (some ⟨b, 0, none⟩, (x.gs[j]?.getD []).length, (x.gv j).2.2) ∧ WdB w base b (x.gv j).2.2 (x.gs[j]?.getD [])
theorem Tryz.elemIJ : Tryz.prog.elem 23 = 3 := by kernel_rfl
theorem Tryz.elemGJ : Tryz.prog.elem 24 = 22 := by kernel_rfl
theorem sizeIJ (w : World) : (sizeOf 3).run Tryz.prog w = .ok 1 w := by kernel_rfl
theorem sizeGJ (w : World) : (sizeOf 22).run Tryz.prog w = .ok 1 w := by kernel_rfl
theorem cutIJ (b len cap q : Nat) (hq : q ≤ cap) (hc : 0 < cap) (w : World) : (Instr.slice 23 (.slice (some ⟨b, 0, none⟩) len cap) none (some (.int .i64 (q : Int))) none).run Tryz.prog w = .ok (.slice (some ⟨b, 0, none⟩) q cap) w := by
 rw [run_slice_h w _ _ _ _ (by rw [Tryz.elemIJ]; exact Tryz.underlying23) .i64 q (by omega) (by omega), Tryz.elemIJ, sizeIJ]
 simp only [Result.andThen, sliced, if_neg (Nat.ne_of_gt hc), Option.map_some, add_zeroJ]
 simp
theorem cutGJ (b len cap q : Nat) (hq : q ≤ cap) (hc : 0 < cap) (w : World) : (Instr.slice 24 (.slice (some ⟨b, 0, none⟩) len cap) none (some (.int .i64 (q : Int))) none).run Tryz.prog w = .ok (.slice (some ⟨b, 0, none⟩) q cap) w := by
 rw [run_slice_h w _ _ _ _ (by rw [Tryz.elemGJ]; exact Tryz.underlying24) .i64 q (by omega) (by omega), Tryz.elemGJ, sizeGJ]
 simp only [Result.andThen, sliced, if_neg (Nat.ne_of_gt hc), Option.map_some, add_zeroJ]
 simp
end Go.Proofs.YtjeghdmclmelfaaGreat
namespace Go.Proofs.YtjeghdmclmelfaaGreat
open Go.RowKit Go.Shelf
set_option linter.unusedVariables false
set_option linter.unusedSimpArgs false
theorem news_twoJ {W : World} {I : Nat} {x y : Value} {E : TypeId} (h : W.heap[I]? = some (.cells #[x, y] E)) : ∀ j u, [x, y][j]? = some u → W.cell? ((⟨I, 0, none⟩ : Addr).add j) = some u := by
 intro j u hj
 match j, hj with
 | 0, hj =>
  cases hj
  rw [Addr.add_lit, cell_of_row _ I _ _ _ _ h]
  rfl
 | 1, hj =>
  cases hj
  rw [Addr.add_lit, cell_of_row _ I _ _ _ _ h]
  rfl
theorem oneII : ∀ (x y : Value), x.oneCell' = true → y.oneCell' = true → ∀ u ∈ [x, y], u.oneCell' = true := by
 intro x y hx hy u hu
 simp only [List.mem_cons, List.not_mem_nil, or_false] at hu
 rcases hu with rfl | rfl <;> assumption
set_option maxRecDepth 100000 in
set_option maxHeartbeats 4000000 in
theorem laid_any (z : ZD) (w : World) (hz : ZR w z) (hw : ZW z) :
  Calls Tryz.prog 4 #[.agg (zRow z)] w fun e w' => ∃ x : ZD, e = .returned (.agg (zRow x)) ∧ LdR w' w.heap.size z x ∧ Below w.heap.size w w' := by
 obtain ⟨N, co, cn, cc, io, dn, dc, go, gn, gc, ro, rn, rc, bad, cs, ids, gv, gs, rs⟩ := z
 have HC : Hid (∀ W', Below w.heap.size w W' → Calls Tryz.prog 20 #[.slice co cn cc] W' fun e w' => ∃ g c, e = .returned (.slice (some ⟨g, 0, none⟩) cn c) ∧ WdB w' W'.heap.size g c cs ∧ Below W'.heap.size W' w') := fun W' hb => wide_any co cn cc cs W' (hz.later hb).c hw.c hw.cl
 have HR : Hid (∀ W', Below w.heap.size w W' → Calls Tryz.prog 20 #[.slice ro rn rc] W' fun e w' => ∃ g c, e = .returned (.slice (some ⟨g, 0, none⟩) rn c) ∧ WdB w' W'.heap.size g c rs ∧ Below W'.heap.size W' w') := fun W' hb => wide_any ro rn rc rs W' (hz.later hb).r hw.r hw.rl
 have HG : Hid (∀ x, x < gn → ∀ W', Below w.heap.size w W' → Calls Tryz.prog 20 #[.slice (gv x).1 (gv x).2.1 (gv x).2.2] W' fun e w' => ∃ g c, e = .returned (.slice (some ⟨g, 0, none⟩) (gs[x]?.getD []).length c) ∧ WdB w' W'.heap.size g c (gs[x]?.getD []) ∧ Below W'.heap.size W' w') := fun x hx W' hb => by
  have h1 := (hz.later hb).g.each x hx
  have h2 := h1.length
  have h3 := wide_any _ _ _ _ W' h1 (hw.col x hx) (hw.coll x hx)
  rw [h2]
  exact h3
 have HIR : Hid (∀ W', Below w.heap.size w W' → RdIs W' io dn dc ids) := fun W' hb => (hz.later hb).i
 have HGR : Hid (∀ W', Below w.heap.size w W' → RdGs W' go gn gc gv gs) := fun W' hb => (hz.later hb).g
 have HNI : Hid (io = none → dn = 0 ∧ dc = 0) := hw.i
 have HLN : Hid (ids.length = dn ∧ gs.length = gn) := ⟨hz.i.length, hz.g.length⟩
 have HLC : Hid (cs.length = cn ∧ rs.length = rn) := ⟨hz.c.length, hz.r.length⟩
 have hdl : dn ≤ 1050000 := hw.il
 have hgl : gn ≤ 1050000 := hw.gl
 clear hz hw
 have X0 : Below w.heap.size w (((w.alloc (.cells #[.int .i64 N, .slice co cn cc, .slice io dn dc, .slice go gn gc, .slice ro rn rc, .bool bad] 26)).alloc (.cells #[.int .i64 0, .slice none 0 0, .slice none 0 0, .slice none 0 0, .slice none 0 0, .bool false] 26)).alloc (.cells #[.int .i64 N, .slice co cn cc, .slice io dn dc, .slice go gn gc, .slice ro rn rc, .bool bad] 26)) := (((Below.refl _ w).alloc (Nat.le_refl _) _).alloc (by simp only [alloc_size]; omega) _).alloc (by simp only [alloc_size]; omega) _
 have Y0 : (((w.alloc (.cells #[.int .i64 N, .slice co cn cc, .slice io dn dc, .slice go gn gc, .slice ro rn rc, .bool bad] 26)).alloc (.cells #[.int .i64 0, .slice none 0 0, .slice none 0 0, .slice none 0 0, .slice none 0 0, .bool false] 26)).alloc (.cells #[.int .i64 N, .slice co cn cc, .slice io dn dc, .slice go gn gc, .slice ro rn rc, .bool bad] 26)).heap[w.heap.size]? = some (.cells #[.int .i64 N, .slice co cn cc, .slice io dn dc, .slice go gn gc, .slice ro rn rc, .bool bad] 26) := alloc_kept (alloc_kept (heap_alloc_new w _) _) _
 have Y1 : (((w.alloc (.cells #[.int .i64 N, .slice co cn cc, .slice io dn dc, .slice go gn gc, .slice ro rn rc, .bool bad] 26)).alloc (.cells #[.int .i64 0, .slice none 0 0, .slice none 0 0, .slice none 0 0, .slice none 0 0, .bool false] 26)).alloc (.cells #[.int .i64 N, .slice co cn cc, .slice io dn dc, .slice go gn gc, .slice ro rn rc, .bool bad] 26)).heap[w.heap.size + 1]? = some (.cells #[.int .i64 0, .slice none 0 0, .slice none 0 0, .slice none 0 0, .slice none 0 0, .bool false] 26) := alloc_kept (heap_at _ _ (w.heap.size + 1) (by simp only [alloc_size])) _
 have Y2 : (((w.alloc (.cells #[.int .i64 N, .slice co cn cc, .slice io dn dc, .slice go gn gc, .slice ro rn rc, .bool bad] 26)).alloc (.cells #[.int .i64 0, .slice none 0 0, .slice none 0 0, .slice none 0 0, .slice none 0 0, .bool false] 26)).alloc (.cells #[.int .i64 N, .slice co cn cc, .slice io dn dc, .slice go gn gc, .slice ro rn rc, .bool bad] 26)).heap[w.heap.size + 1 + 1]? = some (.cells #[.int .i64 N, .slice co cn cc, .slice io dn dc, .slice go gn gc, .slice ro rn rc, .bool bad] 26) := heap_at _ _ (w.heap.size + 1 + 1) (by simp only [alloc_size])
 unfold zRow
 dsimp only
 go_enter Tryz.func4, Tryz.ntmps4
 go_upto_region 2 with fail
 obtain ⟨X, hX⟩ : ∃ X, (((w.alloc (.cells #[.int .i64 N, .slice co cn cc, .slice io dn dc, .slice go gn gc, .slice ro rn rc, .bool bad] 26)).alloc (.cells #[.int .i64 0, .slice none 0 0, .slice none 0 0, .slice none 0 0, .slice none 0 0, .bool false] 26)).alloc (.cells #[.int .i64 N, .slice co cn cc, .slice io dn dc, .slice go gn gc, .slice ro rn rc, .bool bad] 26)) = X := ⟨_, rfl⟩
 rw [hX] at X0 Y0 Y1 Y2 ⊢
 clear hX
 obtain ⟨D, hD⟩ : ∃ D, w.heap.size + 1 + 1 = D := ⟨_, rfl⟩
 rw [hD] at Y2 ⊢
 have hDl : w.heap.size ≤ D := by omega
 have hDz : w.heap.size ≠ D := by omega
 have hD1 : w.heap.size + 1 ≠ D := by omega
 clear hD
 obtain ⟨z0, z1, z2, z3, z4, z5⟩ := cells6 Y0
 have HX : Hid _ := And.intro X0 (And.intro Y0 (And.intro Y1 Y2))
 clear X0 Y0 Y1 Y2
 go_upto_region 3 with (first
  | (go_at_call 20; refine Calls.mono (HC.out _ HX.out.1) ?_; rintro e w1 ⟨g1, c1, rfl, o1, b1⟩)
  | (refine wpList_store_at (by rfl) 22 _ _ (by rfl) w w.heap.size D 1 (.slice (some ⟨g1, 0, none⟩) cn c1) _ #[.int .i64 N, (.slice (some ⟨g1, 0, none⟩) cn c1), .slice io dn dc, .slice go gn gc, .slice ro rn rc, .bool bad] 26 (by rfl) (by rfl) (kept b1 HX.out.2.2.2) (to_call HX.out.1 b1) hDl 1 Tryz.szFs (by rfl) (Nat.le_of_ble_eq_true rfl) (oneI _ rfl) (by rfl) ?_; intro w2 e2 b2 s2 k2))
 have P2 : Hid (WdB w2 w.heap.size g1 c1 cs ∧ w2.heap[D]? = some (.cells #[.int .i64 N, (.slice (some ⟨g1, 0, none⟩) cn c1), .slice io dn dc, .slice go gn gc, .slice ro rn rc, .bool bad] 26) ∧ Below w.heap.size w w2 ∧ (w2.heap[w.heap.size]? = some (.cells #[.int .i64 N, .slice co cn cc, .slice io dn dc, .slice go gn gc, .slice ro rn rc, .bool bad] 26) ∧ w2.heap[w.heap.size + 1]? = some (.cells #[.int .i64 0, .slice none 0 0, .slice none 0 0, .slice none 0 0, .slice none 0 0, .bool false] 26))) := ⟨(o1.mono HX.out.1.size).keep fun k cur hc => k2 k (by rintro rfl; rw [kept b1 HX.out.2.2.2] at hc; cases hc), e2, b2, (k2 _ hDz).trans (kept b1 HX.out.2.1), (k2 _ hD1).trans (kept b1 HX.out.2.2.1)⟩
 clear HX o1 b1 e2 b2 s2 k2 z0 z1 z2 z3 z4 z5
 obtain ⟨z0, z1, z2, z3, z4, z5⟩ := cells6 P2.out.2.2.2.1
 go_upto_region 4 with (first
  | (go_at_call 20; refine Calls.mono (HR.out _ P2.out.2.2.1) ?_; rintro e w3 ⟨g4, c4, rfl, o3, b3⟩)
  | (refine wpList_store_at (by rfl) 22 _ _ (by rfl) w w.heap.size D 4 (.slice (some ⟨g4, 0, none⟩) rn c4) _ #[.int .i64 N, (.slice (some ⟨g1, 0, none⟩) cn c1), .slice io dn dc, .slice go gn gc, (.slice (some ⟨g4, 0, none⟩) rn c4), .bool bad] 26 (by rfl) (by rfl) (kept b3 P2.out.2.1) (to_call P2.out.2.2.1 b3) hDl 1 Tryz.szFs (by rfl) (Nat.le_of_ble_eq_true rfl) (oneI _ rfl) (by rfl) ?_; intro w4 e4 b4 s4 k4))
 have P4 : Hid (WdB w4 w.heap.size g1 c1 cs ∧ WdB w4 w.heap.size g4 c4 rs ∧ w4.heap[D]? = some (.cells #[.int .i64 N, (.slice (some ⟨g1, 0, none⟩) cn c1), .slice io dn dc, .slice go gn gc, (.slice (some ⟨g4, 0, none⟩) rn c4), .bool bad] 26) ∧ Below w.heap.size w w4 ∧ (w4.heap[w.heap.size]? = some (.cells #[.int .i64 N, .slice co cn cc, .slice io dn dc, .slice go gn gc, .slice ro rn rc, .bool bad] 26) ∧ w4.heap[w.heap.size + 1]? = some (.cells #[.int .i64 0, .slice none 0 0, .slice none 0 0, .slice none 0 0, .slice none 0 0, .bool false] 26))) := by
  have hk : ∀ (k : Nat) (cur : Array Value), w3.heap[k]? = some (.cells cur 37) → w4.heap[k]? = w3.heap[k]? := fun k cur hc => k4 k (by rintro rfl; rw [kept b3 P2.out.2.1] at hc; cases hc)
  exact ⟨(P2.out.1.later b3).keep hk, (o3.mono P2.out.2.2.1.size).keep hk, e4, b4, (k4 _ hDz).trans (kept b3 P2.out.2.2.2.1), (k4 _ hD1).trans (kept b3 P2.out.2.2.2.2)⟩
 clear P2 o3 b3 e4 b4 s4 k4 z0 z1 z2 z3 z4 z5
 obtain ⟨z0, z1, z2, z3, z4, z5⟩ := cells6 P4.out.2.2.2.2.1
 go_upto_region 6 with (first
  | (at_builtin; refine append_gnJ Tryz.underlying23 Tryz.infoIJ rfl (by decide) (by decide) w4 (by rfl) _ _ (by rfl) w.heap.size (.slice none 0 0) 0 [] (by rfl) (World.ownsRow_nil _ _ _ _) io dn dc (ids.map (Value.int .i64)) (by rfl) HNI.out (by rw [List.length_map, HLN.out.1]; omega) (rdI_news (HIR.out _ P4.out.2.2.2.1)) (intJ_one ids) (by omega) P4.out.2.2.2.1.size ?_; intro v5 w5 o5 g5))
 rw [List.nil_append, Nat.zero_add] at o5
 have q5 : Below w4.heap.size w4 w5 := g5.below (fun k hk => by cases hk) (Nat.le_refl _)
 have P5 : Hid (WdB w5 w.heap.size g1 c1 cs ∧ WdB w5 w.heap.size g4 c4 rs ∧ w5.heap[D]? = some (.cells #[.int .i64 N, (.slice (some ⟨g1, 0, none⟩) cn c1), .slice io dn dc, .slice go gn gc, (.slice (some ⟨g4, 0, none⟩) rn c4), .bool bad] 26) ∧ Below w.heap.size w w5 ∧ (w5.heap[w.heap.size]? = some (.cells #[.int .i64 N, .slice co cn cc, .slice io dn dc, .slice go gn gc, .slice ro rn rc, .bool bad] 26) ∧ w5.heap[w.heap.size + 1]? = some (.cells #[.int .i64 0, .slice none 0 0, .slice none 0 0, .slice none 0 0, .slice none 0 0, .bool false] 26))) := ⟨P4.out.1.later q5, P4.out.2.1.later q5, kept q5 P4.out.2.2.1, to_call P4.out.2.2.2.1 q5, kept q5 P4.out.2.2.2.2.1, kept q5 P4.out.2.2.2.2.2⟩
 have O5 : Hid _ := o5
 clear P4 o5 g5 q5 z0 z1 z2 z3 z4 z5
 have hsz5 := P5.out.2.2.2.1.size
 go_upto_region 7 with (first
  | (at_builtin; refine append_gsJ Tryz.underlying23 Tryz.infoIJ rfl (by decide) (by decide) _ (by rfl) _ _ (by rfl) w.heap.size v5 dn _ (by rfl) (World.ownsRow.alloc O5.out _) ⟨w5.heap.size, 0, none⟩ 2 2 [.int .i64 901, .int .i64 902] (by rfl) rfl (news_twoJ (heap_alloc_new w5 _)) (oneII _ _ rfl rfl) (by omega) (by simp only [alloc_size]; omega) ?_; intro v6 w6 o6 g6))
 have hk6 := fun (k : Nat) (cur : Array Value) (t : TypeId) (ht : t ≠ 3) (hc : w5.heap[k]? = some (.cells cur t)) => (grw_types (World.ownsRow.alloc O5.out _) g6 k cur t ht (alloc_kept hc _)).trans (alloc_kept hc _ |>.trans hc.symm)
 have q6 : Below w.heap.size w w6 := (P5.out.2.2.2.1.alloc hsz5 _).trans (g6.below (fun k hk => (World.ownsRow.lt O5.out k hk).1) (by simp only [alloc_size]; omega))
 obtain ⟨gi, ci, cur6, hv6⟩ : ∃ gi ci cur, v6 = .slice (some ⟨gi, 0, none⟩) (dn + 2) ci ∧ w6.heap[gi]? = some (.cells cur 3) := by
  rcases o6.2 with ⟨h1, h2⟩ | ⟨g, c, cur, hv, hg, hh, k1, k2, k3, k4⟩
  ·omega
  ·exact ⟨g, c, cur, hv, hh⟩
 obtain ⟨hv6, hh6⟩ := hv6
 subst hv6
 have W6 := (WdI.of o6).1
 have P6 : Hid (WdB w6 w.heap.size g1 c1 cs ∧ WdB w6 w.heap.size g4 c4 rs ∧ w6.heap[D]? = some (.cells #[.int .i64 N, (.slice (some ⟨g1, 0, none⟩) cn c1), .slice io dn dc, .slice go gn gc, (.slice (some ⟨g4, 0, none⟩) rn c4), .bool bad] 26) ∧ Below w.heap.size w w6 ∧ (w6.heap[w.heap.size]? = some (.cells #[.int .i64 N, .slice co cn cc, .slice io dn dc, .slice go gn gc, .slice ro rn rc, .bool bad] 26) ∧ w6.heap[w.heap.size + 1]? = some (.cells #[.int .i64 0, .slice none 0 0, .slice none 0 0, .slice none 0 0, .slice none 0 0, .bool false] 26)) ∧ WdI w6 w.heap.size gi ci ids) := ⟨P5.out.1.keep fun k cur hc => hk6 k cur _ (by decide) hc, P5.out.2.1.keep fun k cur hc => hk6 k cur _ (by decide) hc, (hk6 _ _ _ (by decide) P5.out.2.2.1).trans P5.out.2.2.1, q6, ⟨(hk6 _ _ _ (by decide) P5.out.2.2.2.2.1).trans P5.out.2.2.2.2.1, (hk6 _ _ _ (by decide) P5.out.2.2.2.2.2).trans P5.out.2.2.2.2.2⟩, W6⟩
 have hr6 := W6.room
 rw [HLN.out.1] at hr6
 clear P5 O5 o6 g6 hk6 q6 hsz5 W6 hh6
 obtain ⟨z0, z1, z2, z3, z4, z5⟩ := cells6 P6.out.2.2.2.2.1.1
 have hcut := cutIJ gi (dn + 2) ci dn (by omega) (by omega)
 go_upto_region 8 with (first
  | (refine wpList_store_at (by rfl) 23 _ _ (by rfl) w w.heap.size D 2 (.slice (some ⟨gi, 0, none⟩) dn ci) _ #[.int .i64 N, (.slice (some ⟨g1, 0, none⟩) cn c1), (.slice (some ⟨gi, 0, none⟩) dn ci), .slice go gn gc, (.slice (some ⟨g4, 0, none⟩) rn c4), .bool bad] 26 (by rfl) (by rfl) P6.out.2.2.1 P6.out.2.2.2.1 hDl 1 Tryz.szIs (by rfl) (Nat.le_of_ble_eq_true rfl) (oneI _ rfl) (by rfl) ?_; intro w7 e7 b7 s7 k7))
 have P7 : Hid (WdB w7 w.heap.size g1 c1 cs ∧ WdB w7 w.heap.size g4 c4 rs ∧ w7.heap[D]? = some (.cells #[.int .i64 N, (.slice (some ⟨g1, 0, none⟩) cn c1), (.slice (some ⟨gi, 0, none⟩) dn ci), .slice go gn gc, (.slice (some ⟨g4, 0, none⟩) rn c4), .bool bad] 26) ∧ Below w.heap.size w w7 ∧ (w7.heap[w.heap.size]? = some (.cells #[.int .i64 N, .slice co cn cc, .slice io dn dc, .slice go gn gc, .slice ro rn rc, .bool bad] 26) ∧ w7.heap[w.heap.size + 1]? = some (.cells #[.int .i64 0, .slice none 0 0, .slice none 0 0, .slice none 0 0, .slice none 0 0, .bool false] 26)) ∧ WdI w7 w.heap.size gi ci ids) := by
  have hk : ∀ (k : Nat) (cur : Array Value) (t : TypeId), t ≠ 26 → w6.heap[k]? = some (.cells cur t) → w7.heap[k]? = w6.heap[k]? := fun k cur t ht hc => k7 k (by rintro rfl; rw [P6.out.2.2.1] at hc; cases hc; exact ht rfl)
  exact ⟨P6.out.1.keep fun k cur hc => hk k cur _ (by decide) hc, P6.out.2.1.keep fun k cur hc => hk k cur _ (by decide) hc, e7, b7, ⟨(k7 _ hDz).trans P6.out.2.2.2.2.1.1, (k7 _ hD1).trans P6.out.2.2.2.2.1.2⟩, P6.out.2.2.2.2.2.keep fun k cur hc => hk k cur _ (by decide) hc⟩
 clear P6 e7 b7 s7 k7 hcut z0 z1 z2 z3 z4 z5 HIR HNI HC HR
 go_wp2_with fail
 go_loopg [5, 6] gn (fun q v u wx => ∃ (k : Nat) (vs : List Value), u = .int .i64 k ∧ k + q = gn ∧ Hid (wx.ownsRow w.heap.size 22 1 v k vs) ∧ Hid (ColW wx w.heap.size (gs.take k) vs) ∧ Hid (WdB wx w.heap.size g1 c1 cs ∧ WdB wx w.heap.size g4 c4 rs ∧ wx.heap[D]? = some (.cells #[.int .i64 N, (.slice (some ⟨g1, 0, none⟩) cn c1), (.slice (some ⟨gi, 0, none⟩) dn ci), .slice go gn gc, (.slice (some ⟨g4, 0, none⟩) rn c4), .bool bad] 26) ∧ Below w.heap.size w wx ∧ (wx.heap[w.heap.size]? = some (.cells #[.int .i64 N, .slice co cn cc, .slice io dn dc, .slice go gn gc, .slice ro rn rc, .bool bad] 26) ∧ wx.heap[w.heap.size + 1]? = some (.cells #[.int .i64 0, .slice none 0 0, .slice none 0 0, .slice none 0 0, .slice none 0 0, .bool false] 26)) ∧ WdI wx w.heap.size gi ci ids))
 case atStart => exact ⟨0, [], rfl, by omega, World.ownsRow_nil _ _ _ _, ColW.nil _ _, P7⟩
 case round =>
  obtain ⟨k, vs, rfl, hk, HO, HCW, HP⟩ := hrel
  clear P7
  obtain ⟨z0, z1, z2, z3, z4, z5⟩ := cells6 HP.out.2.2.2.2.1.1
  have hsr := HP.out.2.2.2.1.size
  by_cases hlt : k < gn
  ·have hd : decide ((k : Int) < (gn : Int)) = true := decide_eq_true (by omega)
   obtain ⟨q, rfl⟩ : ∃ q, gk = q + 1 := ⟨gk - 1, by omega⟩
   have HIG : Hid _ := hk
   obtain ⟨gb, goff, rfl⟩ : ∃ gb goff, go = some ⟨gb, goff, none⟩ := by
    rcases (HGR.out wr HP.out.2.2.2.1).cells with h0 | ⟨b, off, e, _⟩
    ·omega
    ·exact ⟨b, off, e⟩
   have c0 := rdGs_at (HGR.out wr HP.out.2.2.2.1) hlt
   clear hk
   go_wp2_with (first
    | (go_at_call 20; refine Calls.mono (HG.out k hlt _ HP.out.2.2.2.1) ?_; rintro e w8 ⟨g8, c8, rfl, o8, b8⟩; have O8 : Hid (w8.ownsRow w.heap.size 22 1 _ k vs) := owns_keepT HO.out fun k cur hc => b8.block k (blk_lt hc); have s8 := b8.size)
    | (at_builtin; refine append_gsJ Tryz.underlying24 Tryz.infoFsJ rfl (by decide) (by decide) _ (by rfl) _ _ (by rfl) w.heap.size _ k vs (by rfl) (World.ownsRow.alloc O8.out _) ⟨w8.heap.size, 0, none⟩ 1 1 [.slice (some ⟨g8, 0, none⟩) (gs[k]?.getD []).length c8] (by rfl) rfl (news_oneJ (heap_alloc_new w8 _)) (oneI _ rfl) (by omega) (by simp only [alloc_size]; omega) ?_; intro v9 w9 o9 g9))
   have hk9 := fun (k : Nat) (cur : Array Value) (t : TypeId) (ht : t ≠ 22) (hc : w8.heap[k]? = some (.cells cur t)) => (grw_types (World.ownsRow.alloc O8.out _) g9 k cur t ht (alloc_kept hc _)).trans (alloc_kept hc _ |>.trans hc.symm)
   have q9 : Below w.heap.size w w9 := ((to_call HP.out.2.2.2.1 b8).alloc (to_call HP.out.2.2.2.1 b8).size _).trans (g9.below (fun k hk => (World.ownsRow.lt O8.out k hk).1) (by simp only [alloc_size]; omega))
   have E9 : Hid (w9.ownsRow w.heap.size 22 1 v9 (k + 1) (vs ++ [.slice (some ⟨g8, 0, none⟩) (gs[k]?.getD []).length c8]) ∧ ColW w9 w.heap.size (gs.take k ++ [gs[k]?.getD []]) (vs ++ [.slice (some ⟨g8, 0, none⟩) (gs[k]?.getD []).length c8]) ∧ (WdB w9 w.heap.size g1 c1 cs ∧ WdB w9 w.heap.size g4 c4 rs ∧ w9.heap[D]? = some (.cells #[.int .i64 N, (.slice (some ⟨g1, 0, none⟩) cn c1), (.slice (some ⟨gi, 0, none⟩) dn ci), .slice (some ⟨gb, goff, none⟩) gn gc, (.slice (some ⟨g4, 0, none⟩) rn c4), .bool bad] 26) ∧ Below w.heap.size w w9 ∧ (w9.heap[w.heap.size]? = some (.cells #[.int .i64 N, .slice co cn cc, .slice io dn dc, .slice (some ⟨gb, goff, none⟩) gn gc, .slice ro rn rc, .bool bad] 26) ∧ w9.heap[w.heap.size + 1]? = some (.cells #[.int .i64 0, .slice none 0 0, .slice none 0 0, .slice none 0 0, .slice none 0 0, .bool false] 26)) ∧ WdI w9 w.heap.size gi ci ids)) :=
    ⟨o9, ((HCW.out.keep fun k cur hc => b8.block k (blk_lt hc)).snoc (o8.mono hsr)).keep fun k cur hc => hk9 k cur _ (by decide) hc, (HP.out.1.later b8).keep fun k cur hc => hk9 k cur _ (by decide) hc, (HP.out.2.1.later b8).keep fun k cur hc => hk9 k cur _ (by decide) hc, (hk9 _ _ _ (by decide) (kept b8 HP.out.2.2.1)).trans (kept b8 HP.out.2.2.1), q9, ⟨(hk9 _ _ _ (by decide) (kept b8 HP.out.2.2.2.2.1.1)).trans (kept b8 HP.out.2.2.2.2.1.1), (hk9 _ _ _ (by decide) (kept b8 HP.out.2.2.2.2.1.2)).trans (kept b8 HP.out.2.2.2.2.1.2)⟩, (HP.out.2.2.2.2.2.keep fun k cur hc => b8.block k (blk_lt hc)).keep fun k cur hc => hk9 k cur _ (by decide) hc⟩
   clear o9 g9 hk9 q9 o8 b8 O8 s8 c0 z0 z1 z2 z3 z4 z5
   go_roundg q
   case measure => omega
   case rel =>
    refine ⟨k + 1, _, by go_num, by have := HIG.out; omega, E9.out.1, ?_, E9.out.2.2⟩
    unfold Hid
    rw [take_snocG (by rw [HLN.out.2]; exact hlt)]
    exact E9.out.2.1
  ·have hd : decide ((k : Int) < (gn : Int)) = false := decide_eq_false (by omega)
   obtain rfl : k = gn := by omega
   have CW := HCW.out
   rw [List.take_of_length_le (by rw [HLN.out.2]; exact Nat.le_refl _)] at CW
   have HCW' : Hid _ := CW
   clear CW HCW
   have hA : (wr.alloc (.cells #[.float .f64 4651136495631990784] 37)).heap.size = wr.heap.size + 1 := by simp only [alloc_size]
   go_upto_region 14 with (first
    | (at_builtin; refine append_gsJ Tryz.underlying24 Tryz.infoFsJ rfl (by decide) (by decide) _ (by rfl) _ _ (by rfl) w.heap.size _ k vs (by rfl) (World.ownsRow.alloc (World.ownsRow.alloc HO.out _) _) ⟨wr.heap.size + 1, 0, none⟩ 1 1 [(.slice (some ⟨wr.heap.size, 0, none⟩) 1 1)] (by rfl) rfl (news_oneJ (heap_at _ _ (wr.heap.size + 1) (by simp only [alloc_size]))) (oneI _ rfl) (by omega) (by simp only [alloc_size]; omega) ?_; intro v9 w9 o9 g9))
   have hk9 := fun (k : Nat) (cur : Array Value) (t : TypeId) (ht : t ≠ 22) (hc : wr.heap[k]? = some (.cells cur t)) => (grw_types (World.ownsRow.alloc (World.ownsRow.alloc HO.out _) _) g9 k cur t ht (alloc_kept (alloc_kept hc _) _)).trans (alloc_kept (alloc_kept hc _) _ |>.trans hc.symm)
   have m9 : w9.heap[wr.heap.size]? = some (.cells #[.float .f64 4651136495631990784] 37) := (grw_types (World.ownsRow.alloc (World.ownsRow.alloc HO.out _) _) g9 _ _ _ (by decide) (alloc_kept (heap_alloc_new wr _) _)).trans (alloc_kept (heap_alloc_new wr _) _)
   have q9 : Below w.heap.size w w9 := ((HP.out.2.2.2.1.alloc hsr _).alloc (by simp only [alloc_size]; omega) _).trans (g9.below (fun k hk => (World.ownsRow.lt HO.out k hk).1) (by simp only [alloc_size]; omega))
   obtain ⟨gg, cg, cur9, hv9, hbg9, hh9, hr9, hmx9, hsz9, htk9⟩ : ∃ gg cg cur, v9 = .slice (some ⟨gg, 0, none⟩) (k + 1) cg ∧ w.heap.size ≤ gg ∧ w9.heap[gg]? = some (.cells cur 22) ∧ k + 1 ≤ cg ∧ cg ≤ maxLen ∧ cur.size = cg * 1 ∧ cur.toList.take ((k + 1) * 1) = vs ++ [(.slice (some ⟨wr.heap.size, 0, none⟩) 1 1)] := by
    rcases o9.2 with ⟨h1, h2⟩ | ⟨g, c, cur, hv, hg, hh, k1, k2, k3, k4⟩
    ·omega
    ·exact ⟨g, c, cur, hv, hg, hh, k1, k2, k3, k4⟩
   subst hv9
   have P9 : Hid (WdB w9 w.heap.size g1 c1 cs ∧ WdB w9 w.heap.size g4 c4 rs ∧ w9.heap[D]? = some (.cells #[.int .i64 N, (.slice (some ⟨g1, 0, none⟩) cn c1), (.slice (some ⟨gi, 0, none⟩) dn ci), .slice go k gc, (.slice (some ⟨g4, 0, none⟩) rn c4), .bool bad] 26) ∧ Below w.heap.size w w9 ∧ (w9.heap[w.heap.size]? = some (.cells #[.int .i64 N, .slice co cn cc, .slice io dn dc, .slice go k gc, .slice ro rn rc, .bool bad] 26) ∧ w9.heap[w.heap.size + 1]? = some (.cells #[.int .i64 0, .slice none 0 0, .slice none 0 0, .slice none 0 0, .slice none 0 0, .bool false] 26)) ∧ WdI w9 w.heap.size gi ci ids ∧ ColW w9 w.heap.size gs vs) :=
    ⟨HP.out.1.keep fun k cur hc => hk9 k cur _ (by decide) hc, HP.out.2.1.keep fun k cur hc => hk9 k cur _ (by decide) hc, (hk9 _ _ _ (by decide) HP.out.2.2.1).trans HP.out.2.2.1, q9, ⟨(hk9 _ _ _ (by decide) HP.out.2.2.2.2.1.1).trans HP.out.2.2.2.2.1.1, (hk9 _ _ _ (by decide) HP.out.2.2.2.2.1.2).trans HP.out.2.2.2.2.1.2⟩, HP.out.2.2.2.2.2.keep fun k cur hc => hk9 k cur _ (by decide) hc, HCW'.out.keep fun k cur hc => hk9 k cur _ (by decide) hc⟩
   have hat : Hid (∀ j, j < k + 1 → cur9[j]? = (vs ++ [(.slice (some ⟨wr.heap.size, 0, none⟩) 1 1)])[j]?) := fun j hj => by rw [← htk9, List.getElem?_take, if_pos (by omega), Array.getElem?_toList]
   obtain ⟨mb, hmb⟩ : ∃ mb, wr.heap.size = mb := ⟨_, rfl⟩
   rw [hmb] at m9 hat
   have M9 : Hid _ := And.intro m9 hh9
   have HVL : Hid (vs.length = k) := by have := HO.out.1; unfold Hid; omega
   clear m9 hh9 o9 g9 hk9 q9 HO HP HCW' hsz9 htk9 z0 z1 z2 z3 z4 z5 hA hmb
   obtain ⟨z0, z1, z2, z3, z4, z5⟩ := cells6 P9.out.2.2.2.2.1.1
   have hcut := cutGJ gg (k + 1) cg k (by omega) (by omega)
   go_wp2_with (first
    | (refine wpList_store_at (by rfl) 24 _ _ (by rfl) w w.heap.size D 3 (.slice (some ⟨gg, 0, none⟩) k cg) _ #[.int .i64 N, (.slice (some ⟨g1, 0, none⟩) cn c1), (.slice (some ⟨gi, 0, none⟩) dn ci), (.slice (some ⟨gg, 0, none⟩) k cg), (.slice (some ⟨g4, 0, none⟩) rn c4), .bool bad] 26 (by rfl) (by rfl) P9.out.2.2.1 P9.out.2.2.2.1 hDl 1 Tryz.szFss (by rfl) (Nat.le_of_ble_eq_true rfl) (oneI _ rfl) (by rfl) ?_; intro wa ea ba sa ka)
    | (refine wpList_load_row (by rfl) 26 _ (by rfl) D _ (by rfl) ea _ Tryz.underlying26 rfl 6 Tryz.infoZ (by rfl) ?_)
    | (refine wpList_store_row (by rfl) 26 _ _ (by rfl) w w.heap.size (w.heap.size + 1) _ _ (by rfl) (by rfl) ((ka _ hD1).trans P9.out.2.2.2.2.1.2) ba (Nat.le_succ _) 6 Tryz.infoZ (by rfl) (by rfl) (oneZ _ _ _ _ _ rfl rfl rfl rfl _) ?_; intro wb eb bb sb kb))
   have hkb : ∀ (j : Nat) (cur : Array Value) (t : TypeId), t ≠ 26 → w9.heap[j]? = some (.cells cur t) → wb.heap[j]? = w9.heap[j]? := fun j cur t ht hc => (kb j (by rintro rfl; rw [P9.out.2.2.2.2.1.2] at hc; cases hc; exact ht rfl)).trans (ka j (by rintro rfl; rw [P9.out.2.2.1] at hc; cases hc; exact ht rfl))
   refine bodyPost_ret (res_oneJ _ 2 26 (by kernel_rfl) _ _ (w.heap.size + 1) _ (by rfl) _ Tryz.underlying26 rfl 6 Tryz.infoZ rfl eb) rfl ?_
   have Wc := P9.out.1.keep (w' := wb) fun j cur hc => hkb j cur _ (by decide) hc
   have Wr := P9.out.2.1.keep (w' := wb) fun j cur hc => hkb j cur _ (by decide) hc
   have Wi := P9.out.2.2.2.2.2.1.keep (w' := wb) fun j cur hc => hkb j cur _ (by decide) hc
   have Wg := P9.out.2.2.2.2.2.2.keep (w' := wb) fun j cur hc => hkb j cur _ (by decide) hc
   have hgb := (hkb _ _ _ (by decide) M9.out.2).trans M9.out.2
   have hmb := (hkb _ _ _ (by decide) M9.out.1).trans M9.out.1
   have hx : ∀ j : Nat, ∃ p : Nat × Nat, j < k → cur9[j]? = some (.slice (some ⟨p.1, 0, none⟩) (gs[j]?.getD []).length p.2) ∧ WdB wb w.heap.size p.1 p.2 (gs[j]?.getD []) := fun j => by
    by_cases hj : j < k
    ·have h1 := hat.out j (by omega)
     rw [List.getElem?_append_left (by rw [HVL.out]; exact hj)] at h1
     have hjv : j < vs.length := by rw [HVL.out]; exact hj
     obtain ⟨b, c, e1, e2⟩ := Wg.col j _ (List.getElem?_eq_getElem hjv)
     exact ⟨(b, c), fun _ => ⟨by rw [h1, List.getElem?_eq_getElem hjv, e1], e2⟩⟩
    ·exact ⟨(0, 0), fun h => absurd h hj⟩
   refine ⟨⟨N, some ⟨g1, 0, none⟩, cn, c1, some ⟨gi, 0, none⟩, dn, ci, some ⟨gg, 0, none⟩, k, cg, some ⟨g4, 0, none⟩, rn, c4, bad, cs, ids, fun j => (some ⟨(Classical.choose (hx j)).1, 0, none⟩, (gs[j]?.getD []).length, (Classical.choose (hx j)).2), gs, rs⟩, rfl, ⟨⟨?_, ?_, ⟨HLN.out.2, (show k ≤ maxLen by omega), .inr ⟨gg, 0, rfl, fun j hj => ?_⟩, fun j hj => (Classical.choose_spec (hx j) hj).2.rd⟩, ?_⟩, rfl, rfl, rfl, rfl, rfl, rfl, ⟨g1, rfl, Wc, HLC.out.1.symm⟩, ⟨g4, rfl, Wr, HLC.out.2.symm⟩, ⟨gi, rfl, Wi, HLN.out.1.symm⟩, ⟨gg, mb, rfl, HLN.out.2.symm, hr9, hmx9, ?_, cellAtJ hmb 0 _ rfl⟩, fun j hj => ⟨_, rfl, (Classical.choose_spec (hx j) hj).2⟩⟩, bb⟩
   ·have := Wc.rd; rw [HLC.out.1] at this; exact this
   ·have := Wi.rd; rw [HLN.out.1] at this; exact this
   ·rw [Nat.zero_add]; exact cellAtJ hgb j _ (Classical.choose_spec (hx j) hj).1
   ·have := Wr.rd; rw [HLC.out.2] at this; exact this
   ·refine cellAtJ hgb k _ ?_
    rw [hat.out k (by omega), List.getElem?_append_right (by rw [HVL.out]; exact Nat.le_refl _), HVL.out, Nat.sub_self]
    rfl
end Go.Proofs.YtjeghdmclmelfaaGreat
