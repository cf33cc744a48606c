import Derived.Test.YtnhaapnmgjlbjaaDoorVE
import Derived.Test.YtnhaapnmgjlbjaaDoorKG
namespace Go.Proofs.YtnhaapnmgjlbjaaDoor
open Go.RowKit
set_option linter.unusedVariables false

theorem mk_wr {w0 x W : World} {base B b : Nat} {cur c : Array Value} {v : Value} {us : List Nat} (h : Wr w0 base B 27 x W cur) (hx : x.heap[B]? = some (.cells c 27)) (hu : Mk x b v us) : Mk W b v us := by
  refine hu.keep fun k _ cu hc => h.oth k fun e => ?_
  subst e
  rw [hx] at hc
  simp at hc
theorem mkl_wr {w0 x W : World} {base B b : Nat} {cur c : Array Value} {v : Value} {uss : List (List Nat)} (h : Wr w0 base B 27 x W cur) (hx : x.heap[B]? = some (.cells c 27)) (hu : MkL x b v uss) : MkL W b v uss := by
  obtain ⟨G, cap, cu, h1, h2, h3, h4, h5, h6, h7, m, h8, h9⟩ := hu
  have n1 : G ≠ B := fun e => by subst e; rw [hx] at h3; simp at h3
  have n2 : m ≠ B := fun e => by subst e; rw [hx] at h9; simp at h9
  refine ⟨G, cap, cu, h1, h2, (h.oth G n1).trans h3, h4, h5, h6, fun j hj => ?_, m, h8, (h.oth m n2).trans h9⟩
  obtain ⟨u, a, d⟩ := h7 j hj
  exact ⟨u, a, mk_wr h hx d⟩
theorem Tryd.infoProp : (Tryd.prog.info? 27).map (·.size) = some 7 := by kernel_rfl
theorem MkL.sl {w : World} {base : Nat} {v : Value} {uss : List (List Nat)} (h : MkL w base v uss) : ∃ (g n cap : Nat), v = .slice (some ⟨g, 0, none⟩) n cap := by
  obtain ⟨g, cap, cur, h1, _⟩ := h; exact ⟨g, _, cap, h1⟩
theorem res_lprop (f : Func) (i : Nat) (hf : f.results = #[ResultVar.cell i 27]) (tmps : Array Value) (W : World) (B : Nat) (c : Array Value) (hp : tmps[i]? = some (.pointer (some ⟨B, 0, none⟩)))
    (hc : c.size = 7) (h : W.heap[B]? = some (.cells c 27)) : (results f tmps).run Tryd.prog W = .ok (.agg c) W := by
  have hr : W.rangeAt B 0 c.toList := by
    have := World.rangeAt_of_block h 0 c.size
    simpa using this
  have hl := run_loadVar_mid (P := Tryd.prog) W B 0 27 c.toList _ hr Tryd.underlying27 rfl (by rw [Tryd.infoProp]; simp [hc])
  have hl2 : (loadVar 27 ⟨B, 0, none⟩).run Tryd.prog W = .ok (.agg c) W := by simpa using hl
  simp [results, hf, hp, hl2, asAddr]
theorem one7 (o1 o2 o3 : Option Addr) (n1 c1 n2 c2 n3 c3 : Nat) (t K D L : Int) : (#[.slice o1 n1 c1, .slice o2 n2 c2, .int .i64 t, .slice o3 n3 c3, .int .i64 K, .int .i64 D, .int .i64 L] : Array Value).all (·.oneCell') = true := by
  simp only [Array.all_eq_true_iff_forall_mem]
  intro v hv
  simp only [List.mem_toArray, List.mem_cons, List.not_mem_nil, or_false] at hv
  rcases hv with rfl | rfl | rfl | rfl | rfl | rfl | rfl <;> rfl
theorem one_sl (o : Option Addr) (n c : Nat) : ∀ u ∈ (Value.slice o n c).cells.toList, u.oneCell' = true := by
  intro u hu
  simp only [Value.cells, List.mem_cons, List.not_mem_nil, or_false] at hu
  subst hu; rfl
theorem Tryd.infoFs1 : (Tryd.prog.info? 24).map (·.size) = some 1 := by kernel_rfl
theorem Tryd.infoFss1 : (Tryd.prog.info? 25).map (·.size) = some 1 := by kernel_rfl
set_option maxRecDepth 100000 in
set_option maxHeartbeats 2000000 in
theorem lawProp_any (co go lo : Option Addr) (cn cc gn gc ln lc : Nat) (cs : List Nat) (gs ls : List (List Nat)) (t K D L : Int) (w : World)
    (hc : RdF w co cn cc cs) (hc1 : cn ≤ cc) (hc2 : co = none → cc = 0) (hc3 : cc ≤ maxLen) (hg : RdQ w go gn gc gs) (hl : RdQ w lo ln lc ls) :
    Calls Tryd.prog 9 #[.agg #[.slice co cn cc, .slice go gn gc, .int .i64 t, .slice lo ln lc, .int .i64 K, .int .i64 D, .int .i64 L]] w fun e w' => ∃ v1 v2 v3, e = .returned (.agg #[v1, v2, .int .i64 t, v3, .int .i64 K, .int .i64 D, .int .i64 L]) ∧ Mk w' w.heap.size v1 (cs.take 300) ∧ MkL w' w.heap.size v2 (tk gs) ∧ MkL w' w.heap.size v3 (tk ls) ∧ Below w.heap.size w w' := by
  have H1 : Hid (∀ wx, Below w.heap.size w wx → Calls Tryd.prog 21 #[.slice co cn cc, .int .i64 300] wx fun e w' => ∃ v, e = .returned v ∧ Mk w' wx.heap.size v (cs.take 300) ∧ Below wx.heap.size wx w') := fun wx h => laid_any co cn cc cs wx (hc.later h) hc1 hc2 hc3
  have H2 : Hid (∀ wx, Below w.heap.size w wx → Calls Tryd.prog 22 #[.slice go gn gc] wx fun e w' => ∃ v, e = .returned v ∧ MkL w' wx.heap.size v (tk gs) ∧ Below wx.heap.size wx w') := fun wx h => listsLaid_any go gn gc gs wx (hg.later h)
  have H3 : Hid (∀ wx, Below w.heap.size w wx → Calls Tryd.prog 22 #[.slice lo ln lc] wx fun e w' => ∃ v, e = .returned v ∧ MkL w' wx.heap.size v (tk ls) ∧ Below wx.heap.size wx w') := fun wx h => listsLaid_any lo ln lc ls wx (hl.later h)
  clear hc hc1 hc2 hc3 hg hl
  go_enter Tryd.func9, Tryd.ntmps9
  go_upto_region 1 with fail
  have k0 := alloc_kept (heap_alloc_new w (Obj.cells #[.slice co cn cc, .slice go gn gc, .int .i64 t, .slice lo ln lc, .int .i64 K, .int .i64 D, .int .i64 L] 27)) (Obj.cells #[.slice none 0 0, .slice none 0 0, .int .i64 0, .slice none 0 0, .int .i64 0, .int .i64 0, .int .i64 0] 27)
  have k1 := heap_at (w.alloc (Obj.cells #[.slice co cn cc, .slice go gn gc, .int .i64 t, .slice lo ln lc, .int .i64 K, .int .i64 D, .int .i64 L] 27)) (Obj.cells #[.slice none 0 0, .slice none 0 0, .int .i64 0, .slice none 0 0, .int .i64 0, .int .i64 0, .int .i64 0] 27) (w.heap.size + 1) (by simp only [alloc_size])
  have hb0 := ((Below.refl _ w).alloc (Nat.le_refl _) (Obj.cells #[.slice co cn cc, .slice go gn gc, .int .i64 t, .slice lo ln lc, .int .i64 K, .int .i64 D, .int .i64 L] 27)).alloc (by simp only [alloc_size]; omega) (Obj.cells #[.slice none 0 0, .slice none 0 0, .int .i64 0, .slice none 0 0, .int .i64 0, .int .i64 0, .int .i64 0] 27)
  obtain ⟨W0, hW0⟩ : ∃ W0, (w.alloc (Obj.cells #[.slice co cn cc, .slice go gn gc, .int .i64 t, .slice lo ln lc, .int .i64 K, .int .i64 D, .int .i64 L] 27)).alloc (Obj.cells #[.slice none 0 0, .slice none 0 0, .int .i64 0, .slice none 0 0, .int .i64 0, .int .i64 0, .int .i64 0] 27) = W0 := ⟨_, rfl⟩
  rw [hW0] at k0 k1 hb0 ⊢
  clear hW0
  have HB0 : Hid (Below w.heap.size w W0) := hb0
  have HK0 : Hid _ := (And.intro k0 k1)
  obtain ⟨a0, a1, a2, a3, a4, a5, a6⟩ := cells7 k0
  clear k0 k1 hb0
  go_wp2_with fail
  refine Calls.mono (H1.out _ HB0.out) ?_
  rintro e W1 ⟨v1, rfl, m1, bb⟩
  obtain ⟨g1, l1, cp1, rfl⟩ := m1.sl
  have HB1 : Hid (Below w.heap.size w W1) := to_call HB0.out bb
  have HK1 : Hid _ := (And.intro (kept bb HK0.out.1) (kept bb HK0.out.2))
  have M1 : Hid (Mk W1 w.heap.size _ (cs.take 300)) := m1.mono HB0.out.size
  clear m1 bb H1 HK0 HB0 a0 a1 a2 a3 a4 a5 a6
  go_upto_region 2 with (first | (refine wpList_store_at (by rfl) 24 _ _ (by rfl) w w.heap.size w.heap.size 0 (.slice (some ⟨g1, 0, none⟩) l1 cp1) _ #[(.slice (some ⟨g1, 0, none⟩) l1 cp1), .slice go gn gc, .int .i64 t, .slice lo ln lc, .int .i64 K, .int .i64 D, .int .i64 L] 27 (by rfl) (by rfl) HK1.out.1 HB1.out (Nat.le_refl _) 1 Tryd.infoFs1 (by rfl) (Nat.le_of_ble_eq_true rfl) (by exact one_sl _ _ _) (by rfl) ?_; intro W2 e2 hb2 hs2 ho2))
  have HWR : Hid (Wr w w.heap.size w.heap.size 27 W1 W2 _) := ⟨e2, hb2, ho2⟩
  have M2 : Hid (Mk W2 w.heap.size _ (cs.take 300)) := mk_wr HWR.out HK1.out.1 M1.out
  have HK2 : Hid _ := (And.intro e2 ((ho2 (w.heap.size + 1) (by omega)).trans HK1.out.2))
  have HB2 : Hid (Below w.heap.size w W2) := hb2
  obtain ⟨a0, a1, a2, a3, a4, a5, a6⟩ := cells7 e2
  clear HWR M1 HK1 HB1 e2 hb2 hs2 ho2
  go_wp2_with fail
  refine Calls.mono (H2.out _ HB2.out) ?_
  rintro e W3 ⟨v2, rfl, m3, bb⟩
  obtain ⟨g2, l2, cp2, rfl⟩ := m3.sl
  have HB3 : Hid (Below w.heap.size w W3) := to_call HB2.out bb
  have HK3 : Hid _ := (And.intro (kept bb HK2.out.1) (kept bb HK2.out.2))
  have M3 : Hid (Mk W3 w.heap.size _ (cs.take 300)) := M2.out.later bb
  have N3 : Hid (MkL W3 w.heap.size _ (tk gs)) := m3.mono HB2.out.size
  clear m3 bb H2 HK2 HB2 M2 a0 a1 a2 a3 a4 a5 a6
  go_upto_region 3 with (first | (refine wpList_store_at (by rfl) 25 _ _ (by rfl) w w.heap.size w.heap.size 1 (.slice (some ⟨g2, 0, none⟩) l2 cp2) _ #[(.slice (some ⟨g1, 0, none⟩) l1 cp1), (.slice (some ⟨g2, 0, none⟩) l2 cp2), .int .i64 t, .slice lo ln lc, .int .i64 K, .int .i64 D, .int .i64 L] 27 (by rfl) (by rfl) HK3.out.1 HB3.out (Nat.le_refl _) 1 Tryd.infoFss1 (by rfl) (Nat.le_of_ble_eq_true rfl) (by exact one_sl _ _ _) (by rfl) ?_; intro W4 e4 hb4 hs4 ho4))
  have HWR : Hid (Wr w w.heap.size w.heap.size 27 W3 W4 _) := ⟨e4, hb4, ho4⟩
  have M4 : Hid (Mk W4 w.heap.size _ (cs.take 300)) := mk_wr HWR.out HK3.out.1 M3.out
  have N4 : Hid (MkL W4 w.heap.size _ (tk gs)) := mkl_wr HWR.out HK3.out.1 N3.out
  have HK4 : Hid _ := (And.intro e4 ((ho4 (w.heap.size + 1) (by omega)).trans HK3.out.2))
  have HB4 : Hid (Below w.heap.size w W4) := hb4
  obtain ⟨a0, a1, a2, a3, a4, a5, a6⟩ := cells7 e4
  clear HWR M3 N3 HK3 HB3 e4 hb4 hs4 ho4
  go_wp2_with fail
  refine Calls.mono (H3.out _ HB4.out) ?_
  rintro e W5 ⟨v3, rfl, m5, bb⟩
  obtain ⟨g3, l3, cp3, rfl⟩ := m5.sl
  have HB5 : Hid (Below w.heap.size w W5) := to_call HB4.out bb
  have HK5 : Hid _ := (And.intro (kept bb HK4.out.1) (kept bb HK4.out.2))
  have M5 : Hid (Mk W5 w.heap.size _ (cs.take 300)) := M4.out.later bb
  have N5 : Hid (MkL W5 w.heap.size _ (tk gs)) := N4.out.later bb
  have O5 : Hid (MkL W5 w.heap.size _ (tk ls)) := m5.mono HB4.out.size
  clear m5 bb H3 HK4 HB4 M4 N4 a0 a1 a2 a3 a4 a5 a6
  go_upto_region 4 with (first | (refine wpList_store_at (by rfl) 25 _ _ (by rfl) w w.heap.size w.heap.size 3 (.slice (some ⟨g3, 0, none⟩) l3 cp3) _ #[(.slice (some ⟨g1, 0, none⟩) l1 cp1), (.slice (some ⟨g2, 0, none⟩) l2 cp2), .int .i64 t, (.slice (some ⟨g3, 0, none⟩) l3 cp3), .int .i64 K, .int .i64 D, .int .i64 L] 27 (by rfl) (by rfl) HK5.out.1 HB5.out (Nat.le_refl _) 1 Tryd.infoFss1 (by rfl) (Nat.le_of_ble_eq_true rfl) (by exact one_sl _ _ _) (by rfl) ?_; intro W6 e6 hb6 hs6 ho6))
  have HWR : Hid (Wr w w.heap.size w.heap.size 27 W5 W6 _) := ⟨e6, hb6, ho6⟩
  have M6 : Hid (Mk W6 w.heap.size _ (cs.take 300)) := mk_wr HWR.out HK5.out.1 M5.out
  have N6 : Hid (MkL W6 w.heap.size _ (tk gs)) := mkl_wr HWR.out HK5.out.1 N5.out
  have O6 : Hid (MkL W6 w.heap.size _ (tk ls)) := mkl_wr HWR.out HK5.out.1 O5.out
  have HK6 : Hid _ := (And.intro e6 ((ho6 (w.heap.size + 1) (by omega)).trans HK5.out.2))
  have HB6 : Hid (Below w.heap.size w W6) := hb6
  clear HWR M5 N5 O5 HK5 HB5 e6 hb6 hs6 ho6
  go_wp2_with (first
    | (refine wpList_load_row (by rfl) 27 _ (by rfl) w.heap.size _ (by rfl) HK6.out.1 _ Tryd.underlying27 rfl 7 Tryd.infoProp (by rfl) ?_)
    | (refine wpList_store_row (by rfl) 27 _ _ (by rfl) w w.heap.size (w.heap.size + 1) _ _ (by rfl) (by rfl) HK6.out.2 HB6.out (by omega) 7 Tryd.infoProp (by rfl) (by rfl) (by exact one7 ..) ?_; intro W9 e9 hb9 hs9 ho9))
  have HWR : Wr w w.heap.size (w.heap.size + 1) 27 W6 W9 _ := ⟨e9, hb9, ho9⟩
  refine bodyPost_ret (res_lprop _ 2 (by kernel_rfl) _ _ (w.heap.size + 1) _ (by rfl) rfl e9) rfl ?_
  exact ⟨_, _, _, rfl, mk_wr HWR HK6.out.2 M6.out, mkl_wr HWR HK6.out.2 N6.out, mkl_wr HWR HK6.out.2 O6.out, hb9⟩
end Go.Proofs.YtnhaapnmgjlbjaaDoor
