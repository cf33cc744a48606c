import Derived.Test.YtjeghdmclmelfaaGreatGXc
import Derived.Test.YtjeghdmclmelfaaGreatJZy
namespace Go.Proofs.YtjeghdmclmelfaaGreat
open Go.RowKit Go.Shelf
set_option linter.unusedVariables false
set_option linter.unusedSimpArgs false
set_option maxRecDepth 100000 in
set_option maxHeartbeats 2000000 in
theorem refSizeZ_any (u : ZD) (w : World) (hu : ZU w u) (hw : UW u) :
  Calls Tryz.prog 27 #[.agg (zRow u)] w fun e w' => e = .returned (.int .i64 (if checkB u then u.N else 0)) ∧ Below w.heap.size w w' := by
 have HRl : ∀ W', Below w.heap.size w W' → _ := fun W' hb => reals_any u 1074 rfl W' (hu.later hb) hw
 have HEm : ∀ W', _ := fun W' => refEmpty_any u.N u.co u.io u.go u.ro u.cn u.cc u.dn u.dc u.gn u.gc u.rn u.rc u.bad (by have := hw.cl; omega) (by have := hw.il; omega) (by have := hw.gl; omega) (by have := hw.rl; omega) W'
 have HOR : Hid _ := check_or u
 obtain ⟨ok, hok⟩ : ∃ ok, (!u.bad && wholeB u) = ok := ⟨_, rfl⟩
 obtain ⟨em, hem⟩ : ∃ em, emptyB u.bad u.N u.cn u.dn u.gn u.rn = em := ⟨_, rfl⟩
 obtain ⟨cb, hcb⟩ : ∃ cb, checkB u = cb := ⟨_, rfl⟩
 rw [hok, hem, hcb] at HOR
 rw [hok] at HRl
 rw [hem] at HEm
 rw [hcb]
 obtain ⟨rv, hrv⟩ : ∃ rv : Int, (if cb = true then u.N else 0) = rv := ⟨_, rfl⟩
 rw [hrv]
 have HRV : Hid _ := hrv
 clear hok hem hcb hu hw hrv
 obtain ⟨N, co, cn, cc, io, dn, dc, go, gn, gc, ro, rn, rc, bad, cs, ids, gv, gs, rs⟩ := u
 unfold zRow at HRl ⊢
 dsimp only at HRl HEm ⊢
 have HR : Hid _ := HRl
 have HE : Hid _ := HEm
 clear HRl HEm
 have X0 : Below w.heap.size w (w.alloc (.cells #[.int .i64 N, .slice co cn cc, .slice io dn dc, .slice go gn gc, .slice ro rn rc, .bool bad] 31)) := (Below.refl _ w).alloc (Nat.le_refl _) _
 have Y0 : (w.alloc (.cells #[.int .i64 N, .slice co cn cc, .slice io dn dc, .slice go gn gc, .slice ro rn rc, .bool bad] 31)).heap[w.heap.size]? = some (.cells #[.int .i64 N, .slice co cn cc, .slice io dn dc, .slice go gn gc, .slice ro rn rc, .bool bad] 31) := heap_alloc_new w _
 have HX : Hid _ := And.intro X0 Y0
 clear X0 Y0
 go_enter Tryz.func27, Tryz.ntmps27
 go_upto_region 2 with (first
  | (refine wpList_load_row (by rfl) 31 _ (by rfl) w.heap.size _ (by rfl) HX.out.2 _ Tryz.underlying31 rfl 6 Tryz.infoZu (by rfl) ?_)
  | (go_at_call 25; refine Calls.mono (HR.out _ HX.out.1) ?_; rintro e w1 ⟨⟨N', a1, l1, c1, a2, l2, c2, a3, l3, c3, a4, l4, c4, rfl, -⟩, b1⟩))
 have P1 : Hid (Below w.heap.size w (w1.alloc (.cells #[.int .i64 N', .slice a1 l1 c1, .slice a2 l2 c2, .slice a3 l3 c3, .slice a4 l4 c4] 62)) ∧ (w1.alloc (.cells #[.int .i64 N', .slice a1 l1 c1, .slice a2 l2 c2, .slice a3 l3 c3, .slice a4 l4 c4] 62)).heap[w.heap.size]? = some (.cells #[.int .i64 N, .slice co cn cc, .slice io dn dc, .slice go gn gc, .slice ro rn rc, .bool bad] 31)) := ⟨(to_call HX.out.1 b1).alloc (to_call HX.out.1 b1).size _, alloc_kept (kept b1 HX.out.2) _⟩
 clear b1 HR HX
 have k0 := cellAtJ P1.out.2 0 _ rfl
 cases ok
 case true =>
  have HC : Hid (cb = true) := HOR.out.symm
  go_wp2_with fail
  go_ret
  exact ⟨by rw [← HRV.out, HC.out]; rfl, P1.out.1⟩
 case false =>
  have HC : Hid (cb = em) := by unfold Hid; rw [← HOR.out, Bool.false_or]
  cases em
  case true =>
   go_wp2_with (first
    | (refine wpList_load_rowG (by rfl) 31 _ (by rfl) w.heap.size _ (by rfl) P1.out.2 _ Tryz.underlying31 rfl 6 Tryz.infoZu (by rfl) ?_)
    | (go_at_call 57; refine Calls.mono (HE.out _) ?_; rintro e w2 ⟨rfl, b2⟩; have k2 := cellAtJ (kept b2 P1.out.2) 0 _ rfl))
   go_ret
   exact ⟨by rw [← HRV.out, HC.out]; rfl, to_call P1.out.1 b2⟩
  case false =>
   go_wp2_with (first
    | (refine wpList_load_rowG (by rfl) 31 _ (by rfl) w.heap.size _ (by rfl) P1.out.2 _ Tryz.underlying31 rfl 6 Tryz.infoZu (by rfl) ?_)
    | (go_at_call 57; refine Calls.mono (HE.out _) ?_; rintro e w2 ⟨rfl, b2⟩; have k2 := cellAtJ (kept b2 P1.out.2) 0 _ rfl))
   go_ret
   exact ⟨by rw [← HRV.out, HC.out]; rfl, to_call P1.out.1 b2⟩
structure BxD (u v : ZD) : Prop where
 is : ((!u.bad && wholeB u) = true ∧ v.N = u.N ∧ v.bad = false ∧ v.cs = u.cs.map plainW ∧ v.rs.length = u.rn ∧ (∀ j, j < u.rn → RndZ 1 (farV u.rs u.gs j) 1 (v.rs[j]?.getD 0, true)) ∧ v.ids = [] ∧ v.gs = []) ∨ (((!u.bad && wholeB u) = false ∨ ∃ j x, j < u.rn ∧ RndZ 1 (farV u.rs u.gs j) 1 (x, false)) ∧ v.N = (tkZ u).N ∧ v.bad = true ∧ v.cs = [] ∧ v.rs = [] ∧ v.ids = [] ∧ v.gs = [])
theorem badU (n : Int) (W : World) : ZU W (⟨n, none, 0, 0, none, 0, 0, none, 0, 0, none, 0, 0, true, [], [], fun _ => (none, 0, 0), [], []⟩ : ZD) := ⟨⟨rfl, Nat.zero_le _, .inl rfl⟩, ⟨rfl, Nat.zero_le _, .inl rfl⟩, ⟨rfl, Nat.zero_le _, .inl rfl, fun j hj => absurd hj (Nat.not_lt_zero _)⟩, ⟨rfl, Nat.zero_le _, .inl rfl⟩⟩
theorem Tryz.szUsJ : (Tryz.prog.info? 28).map (·.size) = some 1 := by kernel_rfl
theorem tk_N (u : ZD) : (if checkB u = true then u.N else 0) = (tkZ u).N := by unfold tkZ; split <;> rfl
set_option maxRecDepth 100000 in
set_option maxHeartbeats 8000000 in
theorem refBox_any (u : ZD) (w : World) (hu : ZU w u) (huw : UW u) :
  Calls Tryz.prog 17 #[.agg (zRow u)] w fun e w' => ∃ v : ZD, e = .returned (.agg (zRow v)) ∧ ZU w' v ∧ BxD u v ∧ Below w.heap.size w w' := by
 obtain ⟨E, hE⟩ : ∃ E : Nat, E = 1074 := ⟨_, rfl⟩
 have HE : Hid (E = 1074) := hE
 have HRE : Hid (∀ W', Below w.heap.size w W' → _) := fun W' hb => reals_any u E hE W' (hu.later hb) huw
 have HSZ : Hid (∀ W', Below w.heap.size w W' → _) := fun W' hb => refSizeZ_any u W' (hu.later hb) huw
 have HPA : Hid (∀ W', Below w.heap.size w W' → _) := fun W' hb => plainAll_any u.co u.cn u.cc u.cs W' (hu.later hb).c huw.cl
 have HU : Hid (ZU w u ∧ UW u) := ⟨hu, huw⟩
 rw [tk_N] at HSZ
 unfold zRow at HRE HSZ ⊢
 clear hu huw hE
 have X0 : Below w.heap.size w ((w.alloc (.cells #[.int .i64 u.N, .slice u.co u.cn u.cc, .slice u.io u.dn u.dc, .slice u.go u.gn u.gc, .slice u.ro u.rn u.rc, .bool u.bad] 31)).alloc (.cells #[.int .i64 0, .slice none 0 0, .slice none 0 0, .slice none 0 0, .slice none 0 0, .bool false] 31)) := ((Below.refl _ w).alloc (Nat.le_refl _) _).alloc (by simp only [alloc_size]; omega) _
 have Y0 : ((w.alloc (.cells #[.int .i64 u.N, .slice u.co u.cn u.cc, .slice u.io u.dn u.dc, .slice u.go u.gn u.gc, .slice u.ro u.rn u.rc, .bool u.bad] 31)).alloc (.cells #[.int .i64 0, .slice none 0 0, .slice none 0 0, .slice none 0 0, .slice none 0 0, .bool false] 31)).heap[w.heap.size]? = some (.cells #[.int .i64 u.N, .slice u.co u.cn u.cc, .slice u.io u.dn u.dc, .slice u.go u.gn u.gc, .slice u.ro u.rn u.rc, .bool u.bad] 31) := alloc_kept (heap_alloc_new w _) _
 have Y1 : ((w.alloc (.cells #[.int .i64 u.N, .slice u.co u.cn u.cc, .slice u.io u.dn u.dc, .slice u.go u.gn u.gc, .slice u.ro u.rn u.rc, .bool u.bad] 31)).alloc (.cells #[.int .i64 0, .slice none 0 0, .slice none 0 0, .slice none 0 0, .slice none 0 0, .bool false] 31)).heap[w.heap.size + 1]? = some (.cells #[.int .i64 0, .slice none 0 0, .slice none 0 0, .slice none 0 0, .slice none 0 0, .bool false] 31) := heap_at _ _ (w.heap.size + 1) (by simp only [alloc_size])
 go_enter Tryz.func17, Tryz.ntmps17
 go_upto_region 1 with fail
 obtain ⟨X', hX'⟩ : ∃ X', ((w.alloc (.cells #[.int .i64 u.N, .slice u.co u.cn u.cc, .slice u.io u.dn u.dc, .slice u.go u.gn u.gc, .slice u.ro u.rn u.rc, .bool u.bad] 31)).alloc (.cells #[.int .i64 0, .slice none 0 0, .slice none 0 0, .slice none 0 0, .slice none 0 0, .bool false] 31)) = X' := ⟨_, rfl⟩
 rw [hX'] at X0 Y0 Y1 ⊢
 have HX : Hid (Below w.heap.size w X' ∧ X'.heap[w.heap.size]? = some (.cells #[.int .i64 u.N, .slice u.co u.cn u.cc, .slice u.io u.dn u.dc, .slice u.go u.gn u.gc, .slice u.ro u.rn u.rc, .bool u.bad] 31) ∧ X'.heap[w.heap.size + 1]? = some (.cells #[.int .i64 0, .slice none 0 0, .slice none 0 0, .slice none 0 0, .slice none 0 0, .bool false] 31)) := ⟨X0, Y0, Y1⟩
 clear hX' X0 Y0 Y1
 go_upto_region 2 with (first
  | (refine wpList_load_row (by rfl) 31 _ (by rfl) w.heap.size _ (by rfl) HX.out.2.1 _ Tryz.underlying31 rfl 6 Tryz.infoZu (by rfl) ?_)
  | (go_at_call 25; refine Calls.mono (HRE.out _ HX.out.1) ?_; rintro e w1 ⟨⟨N', a1, l1, c1, a2, l2, c2, a3, l3, c3, a4, l4, c4, rfl, hN⟩, b1⟩; have HN : Hid _ := hN; clear hN))
 have A1 : Below w1.heap.size w1 (w1.alloc (.cells #[.int .i64 N', .slice a1 l1 c1, .slice a2 l2 c2, .slice a3 l3 c3, .slice a4 l4 c4] 62)) := (Below.refl _ w1).alloc (Nat.le_refl _) _
 have P1 : Hid (Below w.heap.size w (w1.alloc (.cells #[.int .i64 N', .slice a1 l1 c1, .slice a2 l2 c2, .slice a3 l3 c3, .slice a4 l4 c4] 62)) ∧ (w1.alloc (.cells #[.int .i64 N', .slice a1 l1 c1, .slice a2 l2 c2, .slice a3 l3 c3, .slice a4 l4 c4] 62)).heap[w.heap.size]? = some (.cells #[.int .i64 u.N, .slice u.co u.cn u.cc, .slice u.io u.dn u.dc, .slice u.go u.gn u.gc, .slice u.ro u.rn u.rc, .bool u.bad] 31) ∧ (w1.alloc (.cells #[.int .i64 N', .slice a1 l1 c1, .slice a2 l2 c2, .slice a3 l3 c3, .slice a4 l4 c4] 62)).heap[w.heap.size + 1]? = some (.cells #[.int .i64 0, .slice none 0 0, .slice none 0 0, .slice none 0 0, .slice none 0 0, .bool false] 31) ∧ (w1.alloc (.cells #[.int .i64 N', .slice a1 l1 c1, .slice a2 l2 c2, .slice a3 l3 c3, .slice a4 l4 c4] 62)).heap[w1.heap.size]? = some (.cells #[.int .i64 N', .slice a1 l1 c1, .slice a2 l2 c2, .slice a3 l3 c3, .slice a4 l4 c4] 62) ∧ ((!u.bad && wholeB u) = true → N' = u.N ∧ ∃ gl, RlS (w1.alloc (.cells #[.int .i64 N', .slice a1 l1 c1, .slice a2 l2 c2, .slice a3 l3 c3, .slice a4 l4 c4] 62)) X'.heap.size E u.cs u.rs u.ids u.gs (.slice a1 l1 c1) (.slice a4 l4 c4) (.slice a2 l2 c2) (.slice a3 l3 c3) gl)) := ⟨to_call (to_call HX.out.1 b1) A1, kept A1 (kept b1 HX.out.2.1), kept A1 (kept b1 HX.out.2.2), heap_alloc_new w1 _, fun g => ⟨(HN.out g).1, by obtain ⟨gl, hr⟩ := (HN.out g).2; exact ⟨gl, hr.later A1⟩⟩⟩
 obtain ⟨X, hX⟩ : ∃ X, w1.alloc (.cells #[.int .i64 N', .slice a1 l1 c1, .slice a2 l2 c2, .slice a3 l3 c3, .slice a4 l4 c4] 62) = X := ⟨_, rfl⟩
 obtain ⟨B3, hB3⟩ : ∃ B3, w1.heap.size = B3 := ⟨_, rfl⟩
 rw [hX, hB3] at P1
 rw [hX, hB3]
 clear hX hB3 A1 b1 HN HX HRE
 cases hgd : (!u.bad && wholeB u) with
 | false =>
  have HG : Hid _ := hgd
  clear hgd
  obtain ⟨n0, hn0⟩ : ∃ n0, (tkZ u).N = n0 := ⟨_, rfl⟩
  have HN0 : Hid (n0 = (tkZ u).N) := hn0.symm
  rw [hn0] at HSZ
  clear hn0
  go_wp2_with (first
   | (refine wpList_load_row (by rfl) 31 _ (by rfl) w.heap.size _ (by rfl) P1.out.2.1 _ Tryz.underlying31 rfl 6 Tryz.infoZu (by rfl) ?_)
   | (go_at_call 27; refine Calls.mono (HSZ.out _ P1.out.1) ?_; rintro e w2 ⟨rfl, b2⟩)
   | (go_at_call 26; refine Calls.mono (lost_any n0 _) ?_; rintro e w3 ⟨rfl, b3⟩)
   | (refine wpList_store_row (by rfl) 31 _ _ (by rfl) w w.heap.size (w.heap.size + 1) #[.int .i64 n0, .slice none 0 0, .slice none 0 0, .slice none 0 0, .slice none 0 0, .bool true] _ (by rfl) (by rfl) (kept b3 (kept b2 P1.out.2.2.1)) (to_call (to_call P1.out.1 b2) b3) (by omega) 6 Tryz.infoZu (by rfl) (by rfl) (oneZ _ _ _ _ _ rfl rfl rfl rfl _) ?_; intro W9 e9 b9 s9 o9))
  refine bodyPost_ret (res_oneJ _ 2 31 (by kernel_rfl) _ _ (w.heap.size + 1) _ (by rfl) _ Tryz.underlying31 rfl 6 Tryz.infoZu rfl e9) rfl ?_
  exact ⟨(⟨n0, none, 0, 0, none, 0, 0, none, 0, 0, none, 0, 0, true, [], [], fun _ => (none, 0, 0), [], []⟩ : ZD), rfl, badU _ _, ⟨.inr ⟨.inl HG.out, HN0.out, rfl, rfl, rfl, rfl, rfl⟩⟩, b9⟩
 | true =>
  obtain ⟨hb0, hwh, hck⟩ := tk_good hgd
  have HF : Hid (WhF u) := WhF.ofU HU.out.1 HU.out.2.il hwh
  obtain ⟨hN1, gl, hR⟩ := P1.out.2.2.2.2 hgd
  have HG : Hid ((!u.bad && wholeB u) = true ∧ (tkZ u).N = u.N) := ⟨hgd, by rw [tk_self hck]⟩
  replace hN1 := hN1.trans HF.out.N
  subst hN1
  have P2 : Hid (Below w.heap.size w X ∧ X.heap[w.heap.size]? = some (.cells #[.int .i64 u.N, .slice u.co u.cn u.cc, .slice u.io u.dn u.dc, .slice u.go u.gn u.gc, .slice u.ro u.rn u.rc, .bool u.bad] 31) ∧ X.heap[w.heap.size + 1]? = some (.cells #[.int .i64 0, .slice none 0 0, .slice none 0 0, .slice none 0 0, .slice none 0 0, .bool false] 31) ∧ X.heap[B3]? = some (.cells #[.int .i64 (u.rn : Int), .slice a1 l1 c1, .slice a2 l2 c2, .slice a3 l3 c3, .slice a4 l4 c4] 62) ∧ RlS X X'.heap.size E u.cs u.rs u.ids u.gs (.slice a1 l1 c1) (.slice a4 l4 c4) (.slice a2 l2 c2) (.slice a3 l3 c3) gl) := ⟨P1.out.1, P1.out.2.1, P1.out.2.2.1, P1.out.2.2.2.1, hR⟩
  have hgl2 : u.gs.length = u.dn := by rw [HU.out.1.g.length, HF.out.dg]
  have HFA : Hid (∀ (i : Nat), i < u.rn → ∀ W', Below X.heap.size X W' → _) := fun i hi W' hb => far_any (u.rn : Int) a1 l1 c1 a2 l2 c2 a3 l3 c3 a4 l4 c4 u.cs u.rs u.ids u.gs gl X'.heap.size E u.rn i HE.out W' (P2.out.2.2.2.2.later hb) hi HF.out.rl (fun k hk => HF.out.gl k (by omega)) (HF.out.fin.r i) (fun k => HF.out.fin.g k i) (by rw [hgl2]; exact HF.out.fin.few) HF.out.n2
  have hn2 : u.rn ≤ 256 := HF.out.n2
  clear hR hgd hb0 hwh hck P1 hgl2 HSZ
  go_upto_region 4 with fail
  go_cut [5] (fun v wx => ∃ D vc, v = .pointer (some ⟨D, 0, none⟩) ∧ Hid (wx.heap[D]? = some (.cells #[.int .i64 u.N, vc, .slice none 0 0, .slice none 0 0, .slice none 0 0, .bool false] 31)) ∧ Hid (wx.ownsRow X.heap.size 40 1 vc u.cs.length (uJ (u.cs.map plainW))) ∧ Hid (Below X.heap.size X wx) ∧ X.heap.size ≤ D)
  case first =>
   have bX : Below X.heap.size X X.drew := (Below.refl _ _).drew
   refine wp_region_noPanic ?_
   refine wp_region_held_drew (S := (fun W' => Below X.heap.size X W')) (by kernel_rfl) bX (fun _ => ?_)
   refine takeH 19 (i := 0) (v := ?_) rfl rfl (by kernel_rfl) (by kernel_rfl) (by kernel_rfl) (fun _ _ _ h => h) (Or.inl ⟨by kernel_rfl, ?_⟩) bX ?_
   rotate_left
   ·intro w' hSw; obtain ⟨c0, c1, c2, c3, c4, c5⟩ := cells6 ((hSw.block _ (blk_lt P2.out.2.1)).trans P2.out.2.1); go_simp; try with_reducible rfl
   try simp only [Act.put, List.setIfInBounds_toArray, List.set_cons_zero, List.set_cons_succ]
   refine takeH 20 (i := 1) (v := ?_) rfl rfl (by kernel_rfl) (by kernel_rfl) (by kernel_rfl) (fun _ _ _ h => h) (Or.inl ⟨by kernel_rfl, ?_⟩) bX ?_
   rotate_left
   ·intro w' hSw; obtain ⟨c0, c1, c2, c3, c4, c5⟩ := cells6 ((hSw.block _ (blk_lt P2.out.2.1)).trans P2.out.2.1); go_simp; try with_reducible rfl
   try simp only [Act.put, List.setIfInBounds_toArray, List.set_cons_zero, List.set_cons_succ]
   refine takeH 21 (i := 2) (v := ?_) rfl rfl (by kernel_rfl) (by kernel_rfl) (by kernel_rfl) (fun _ _ _ h => h) (Or.inl ⟨by kernel_rfl, ?_⟩) bX ?_
   rotate_left
   ·intro w' hSw; obtain ⟨c0, c1, c2, c3, c4, c5⟩ := cells6 ((hSw.block _ (blk_lt P2.out.2.1)).trans P2.out.2.1); go_simp; try with_reducible rfl
   try simp only [Act.put, List.setIfInBounds_toArray, List.set_cons_zero, List.set_cons_succ]
   refine takeH 22 (i := 3) (v := ?_) rfl rfl (by kernel_rfl) (by kernel_rfl) (by kernel_rfl) (fun _ _ _ h => h) (Or.inl ⟨by kernel_rfl, ?_⟩) bX ?_
   rotate_left
   ·intro w' hSw; obtain ⟨c0, c1, c2, c3, c4, c5⟩ := cells6 ((hSw.block _ (blk_lt P2.out.2.1)).trans P2.out.2.1); go_simp; try with_reducible rfl
   try simp only [Act.put, List.setIfInBounds_toArray, List.set_cons_zero, List.set_cons_succ]
   obtain ⟨V, hV⟩ : ∃ V, X.drew = V := ⟨_, rfl⟩
   have bV : Below X.heap.size X V := hV ▸ bX
   rw [hV]
   clear hV bX
   refine wpAnyH_ready (rs := [4, 6]) (by kernel_rfl) (by simp) ?_
   refine consH _ rfl ?_ (consH _ rfl ?_ AllReadyH.nil)
   ·refine hopCd 23 rfl (by kernel_rfl) rfl (by kernel_rfl) (Calls.mono (HPA.out _ (to_call P2.out.1 bV)) ?_)
    rintro e Vc ⟨vc, rfl, o1, hb⟩
    obtain ⟨avc, pvc, hvc, -⟩ := owns_slice o1
    skip
    subst hvc
    have bVc : Below X.heap.size X Vc := bV.trans (hb.mono bV.size)
    have ocVc := owns_monoJ o1 bV.size
    refine ⟨_, rfl, bVc, ?_⟩
    try simp only [Act.put, List.setIfInBounds_toArray, List.set_cons_zero, List.set_cons_succ]
    refine takeH 24 (i := 5) (v := .agg #[.int .i64 u.N, (.slice avc u.cs.length pvc), .slice none 0 0, .slice none 0 0, .slice none 0 0, .bool false]) rfl rfl (by kernel_rfl) (by kernel_rfl) (by kernel_rfl) (fun _ _ _ h => h) (Or.inl ⟨by kernel_rfl, fun w' _ => by kernel_rfl⟩) bVc ?_
    try simp only [Act.put, List.setIfInBounds_toArray, List.set_cons_zero, List.set_cons_succ]
    refine wpAnyH_ready (rs := [6]) (by kernel_rfl) (by simp) ?_
    refine consH _ rfl ?_ AllReadyH.nil
    refine hopAJ 5 rfl rfl rfl 31 rfl #[.int .i64 0, .slice none 0 0, .slice none 0 0, .slice none 0 0, .slice none 0 0, .bool false] allocUJ fun D Vca hDVca hDl hb => ?_
    have bVca : Below X.heap.size X Vca := bVc.trans (hb.mono bVc.size)
    have hDX : X.heap.size ≤ D := Nat.le_trans bVc.size hDl
    have ocVca := owns_keepT ocVc fun k cur hc => hb.block k (blk_lt hc)
    refine ⟨bVca, ?_⟩
    try simp only [Act.put, List.setIfInBounds_toArray, List.set_cons_zero, List.set_cons_succ]
    refine wpAnyH_ready (rs := [7]) (by kernel_rfl) (by simp) ?_
    refine consH _ rfl (hopL rfl (wpList_store_row (by rfl) 31 _ _ (by rfl) X X.heap.size D #[.int .i64 u.N, (.slice avc u.cs.length pvc), .slice none 0 0, .slice none 0 0, .slice none 0 0, .bool false] _ (by kernel_rfl) (by kernel_rfl) hDVca bVca hDX 6 Tryz.infoZu (by rfl) (by rfl) (oneZ _ _ _ _ _ (own_valJ ocVca).1 rfl rfl rfl _) fun W9 e9 b9 hs9 ho9 => ?_)) AllReadyH.nil
    refine (And.intro b9 ?_ : _ ∧ _)
    try simp only [Act.put, List.setIfInBounds_toArray, List.set_cons_zero, List.set_cons_succ]
    refine wpAnyH_done (by kernel_rfl) ?_ _
    refine NoPanic.normal ?_
    try simp only [Act.put, List.setIfInBounds_toArray, List.set_cons_zero, List.set_cons_succ]
    go_wp2_with fail
    go_meet
    have hk9 : ∀ (k : Nat) (cur : Array Value), Vca.heap[k]? = some (.cells cur 40) → W9.heap[k]? = Vca.heap[k]? := fun k cur hc => ho9 k (by rintro rfl; rw [hDVca] at hc; cases hc)
    exact ⟨D, (.slice avc u.cs.length pvc), rfl, e9, owns_keepT ocVca hk9, b9, hDX⟩
   ·refine hopAJ 5 rfl rfl rfl 31 rfl #[.int .i64 0, .slice none 0 0, .slice none 0 0, .slice none 0 0, .slice none 0 0, .bool false] allocUJ fun D Va hDVa hDl hb => ?_
    have bVa : Below X.heap.size X Va := bV.trans (hb.mono bV.size)
    have hDX : X.heap.size ≤ D := Nat.le_trans bV.size hDl
    refine ⟨bVa, ?_⟩
    try simp only [Act.put, List.setIfInBounds_toArray, List.set_cons_zero, List.set_cons_succ]
    refine wpAnyH_ready (rs := [4]) (by kernel_rfl) (by simp) ?_
    refine consH _ rfl ?_ AllReadyH.nil
    refine hopCd 23 rfl (by kernel_rfl) rfl (by kernel_rfl) (Calls.mono (HPA.out _ (to_call P2.out.1 bVa)) ?_)
    rintro e Vac ⟨vc, rfl, o1, hb⟩
    obtain ⟨avc, pvc, hvc, -⟩ := owns_slice o1
    skip
    subst hvc
    have bVac : Below X.heap.size X Vac := bVa.trans (hb.mono bVa.size)
    have hDVac := kept hb hDVa
    have ocVac := owns_monoJ o1 bVa.size
    refine ⟨_, rfl, bVac, ?_⟩
    try simp only [Act.put, List.setIfInBounds_toArray, List.set_cons_zero, List.set_cons_succ]
    refine takeH 24 (i := 5) (v := .agg #[.int .i64 u.N, (.slice avc u.cs.length pvc), .slice none 0 0, .slice none 0 0, .slice none 0 0, .bool false]) rfl rfl (by kernel_rfl) (by kernel_rfl) (by kernel_rfl) (fun _ _ _ h => h) (Or.inl ⟨by kernel_rfl, fun w' _ => by kernel_rfl⟩) bVac ?_
    try simp only [Act.put, List.setIfInBounds_toArray, List.set_cons_zero, List.set_cons_succ]
    refine wpAnyH_ready (rs := [7]) (by kernel_rfl) (by simp) ?_
    refine consH _ rfl (hopL rfl (wpList_store_row (by rfl) 31 _ _ (by rfl) X X.heap.size D #[.int .i64 u.N, (.slice avc u.cs.length pvc), .slice none 0 0, .slice none 0 0, .slice none 0 0, .bool false] _ (by kernel_rfl) (by kernel_rfl) hDVac bVac hDX 6 Tryz.infoZu (by rfl) (by rfl) (oneZ _ _ _ _ _ (own_valJ ocVac).1 rfl rfl rfl _) fun W9 e9 b9 hs9 ho9 => ?_)) AllReadyH.nil
    refine (And.intro b9 ?_ : _ ∧ _)
    try simp only [Act.put, List.setIfInBounds_toArray, List.set_cons_zero, List.set_cons_succ]
    refine wpAnyH_done (by kernel_rfl) ?_ _
    refine NoPanic.normal ?_
    try simp only [Act.put, List.setIfInBounds_toArray, List.set_cons_zero, List.set_cons_succ]
    go_wp2_with fail
    go_meet
    have hk9 : ∀ (k : Nat) (cur : Array Value), Vac.heap[k]? = some (.cells cur 40) → W9.heap[k]? = Vac.heap[k]? := fun k cur hc => ho9 k (by rintro rfl; rw [hDVac] at hc; cases hc)
    exact ⟨D, (.slice avc u.cs.length pvc), rfl, e9, owns_keepT ocVac hk9, b9, hDX⟩
  case rest =>
   obtain ⟨D, vc, rfl, ED, EC, EB, hDX⟩ := hcut
   obtain ⟨X2, rfl⟩ : ∃ X2, X2 = wc := ⟨_, rfl⟩
   have I0 : Hid (X2.heap[D]? = some (.cells #[.int .i64 u.N, vc, .slice none 0 0, .slice none 0 0, (.slice none 0 0), .bool false] 31) ∧ X2.ownsRow X.heap.size 40 1 vc u.cs.length (uJ (u.cs.map plainW)) ∧ X2.ownsRow X2.heap.size 40 1 (.slice none 0 0) 0 (uJ ([] : List Nat)) ∧ Below X.heap.size X X2 ∧ X2.heap.size ≤ X2.heap.size ∧ ([] : List Nat).length = 0 ∧ (∀ x ∈ ([] : List Nat), x < 18446744073709551616) ∧ ∀ j, j < 0 → RndZ 1 (farV u.rs u.gs j) 1 (([] : List Nat)[j]?.getD 0, true)) := ⟨ED.out, EC.out, World.ownsRow_nil _ _ _ _, EB.out, Nat.le_refl _, rfl, fun x hx => (by cases hx), fun j hj => absurd hj (Nat.not_lt_zero _)⟩
   have HC2 : Hid (∀ k, vc.ownBlock = some k → k < X2.heap.size) := fun k hk => (World.ownsRow.lt EC.out k hk).2
   have hDl := blk_lt ED.out
   have HXX : Hid (X.heap.size ≤ X2.heap.size) := EB.out.size
   clear ED EC EB HPA
   go_wp2_with fail
   go_loopg [6] u.rn (fun q v6 wx => ∃ (k : Nat), v6 = .int .i64 k ∧ k + q = u.rn ∧ ∃ (us : List Nat) (vr : Value), Hid (wx.heap[D]? = some (.cells #[.int .i64 u.N, vc, .slice none 0 0, .slice none 0 0, vr, .bool false] 31) ∧ wx.ownsRow X.heap.size 40 1 vc u.cs.length (uJ (u.cs.map plainW)) ∧ wx.ownsRow X2.heap.size 40 1 vr k (uJ us) ∧ Below X.heap.size X wx ∧ X2.heap.size ≤ wx.heap.size ∧ us.length = k ∧ (∀ x ∈ us, x < 18446744073709551616) ∧ ∀ j, j < k → RndZ 1 (farV u.rs u.gs j) 1 (us[j]?.getD 0, true)))
   case atStart => exact ⟨0, rfl, by omega, [], _, I0⟩
   case round =>
    clear I0
    obtain ⟨k, rfl, hk, us, vr, HI⟩ := hrel
    have k0 : wr.cell? ⟨B3, 0, none⟩ = some (.int .i64 (u.rn : Int)) := cellAtJ (kept HI.out.2.2.2.1 P2.out.2.2.2.1) 0 _ rfl
    by_cases h1 : k < u.rn
    ·have hd1 : decide ((k : Int) < (u.rn : Int)) = true := decide_eq_true (by omega)
     obtain ⟨q, rfl⟩ : ∃ q, gk = q + 1 := ⟨gk - 1, by omega⟩
     have HIG : Hid _ := hk
     clear hk
     go_upto_region 9 with (first
      | (refine wpList_load_row (by rfl) 62 _ (by rfl) B3 _ (by rfl) (kept HI.out.2.2.2.1 P2.out.2.2.2.1) _ Tryz.underlying62 rfl 5 Tryz.infoRl (by rfl) ?_)
      | (go_at_call 47; refine Calls.mono (HFA.out k h1 _ HI.out.2.2.2.1) ?_; rintro e w3 ⟨v3, rfl, hz3, b3⟩; have HZ3 : Hid (NumC w3 v3 E 1060 (farV u.rs u.gs k)) := hz3; clear hz3)
      | (go_at_call 40; refine Calls.mono (roundZ_any 1 _ E 0 1060 _ _ HZ3.out.toZ E HE.out rfl (by rw [HE.out]; omega) (by omega) (by omega) (by omega)) ?_; rintro e w4 ⟨r4, ok4, rfl, hr4, b4⟩; have HR4 : Hid (RndZ 1 (farV u.rs u.gs k) 1 (r4, ok4)) := hr4; clear hr4))
     have Q4 : Hid (w4.heap[D]? = some (.cells #[.int .i64 u.N, vc, .slice none 0 0, .slice none 0 0, vr, .bool false] 31) ∧ w4.ownsRow X.heap.size 40 1 vc u.cs.length (uJ (u.cs.map plainW)) ∧ w4.ownsRow X2.heap.size 40 1 vr k (uJ us) ∧ Below X.heap.size X w4 ∧ X2.heap.size ≤ w4.heap.size ∧ us.length = k ∧ (∀ x ∈ us, x < 18446744073709551616) ∧ ∀ j, j < k → RndZ 1 (farV u.rs u.gs j) 1 (us[j]?.getD 0, true)) := ⟨kept b4 (kept b3 HI.out.1), owns_keepT (owns_keepT HI.out.2.1 fun j cur hc => b3.block j (blk_lt hc)) fun j cur hc => b4.block j (blk_lt hc), owns_keepT (owns_keepT HI.out.2.2.1 fun j cur hc => b3.block j (blk_lt hc)) fun j cur hc => b4.block j (blk_lt hc), to_call (to_call HI.out.2.2.2.1 b3) b4, Nat.le_trans HI.out.2.2.2.2.1 (Nat.le_trans b3.size b4.size), HI.out.2.2.2.2.2.1, HI.out.2.2.2.2.2.2.1, HI.out.2.2.2.2.2.2.2⟩
     clear b3 b4 HZ3 HI k0 hd1
     cases ok4 with
     | false =>
      obtain ⟨d0, -, -, -, -, -⟩ := cells6 (kept Q4.out.2.2.2.1 P2.out.2.1)
      go_wp2_with (first
       | (go_at_call 26; refine Calls.mono (lost_any u.N _) ?_; rintro e w5 ⟨rfl, b5⟩)
       | (refine wpList_store_row (by rfl) 31 _ _ (by rfl) w w.heap.size (w.heap.size + 1) #[.int .i64 u.N, .slice none 0 0, .slice none 0 0, .slice none 0 0, .slice none 0 0, .bool true] _ (by rfl) (by rfl) (kept b5 (kept Q4.out.2.2.2.1 P2.out.2.2.1)) (to_call (to_call P2.out.1 Q4.out.2.2.2.1) b5) (by omega) 6 Tryz.infoZu (by rfl) (by rfl) (oneZ _ _ _ _ _ rfl rfl rfl rfl _) ?_; intro W9 e9 b9 s9 o9))
      refine bodyPost_ret (res_oneJ _ 2 31 (by kernel_rfl) _ _ (w.heap.size + 1) _ (by rfl) _ Tryz.underlying31 rfl 6 Tryz.infoZu rfl e9) rfl ?_
      exact ⟨(⟨u.N, none, 0, 0, none, 0, 0, none, 0, 0, none, 0, 0, true, [], [], fun _ => (none, 0, 0), [], []⟩ : ZD), rfl, badU _ _, ⟨.inr ⟨.inr ⟨k, r4, h1, HR4.out⟩, HG.out.2.symm, rfl, rfl, rfl, rfl, rfl⟩⟩, b9⟩
     | true =>
      obtain ⟨-, -, -, -, d4, -⟩ := cells6 Q4.out.1
      obtain ⟨ra, rc, hvr, -⟩ := owns_slice Q4.out.2.2.1
      subst hvr
      have hk2 : k + 1 ≤ 4000000 := by omega
      go_upto_region 7 with (first
       | (at_builtin; refine append_gsJ Tryz.underlying28 Tryz.infoUJ rfl (by decide) (by decide) _ (by rfl) _ _ (by rfl) X2.heap.size (.slice ra k rc) k _ (by rfl) (World.ownsRow.alloc Q4.out.2.2.1 _) ⟨w4.heap.size, 0, none⟩ 1 1 [.int .u64 (r4 : Int)] (by rfl) rfl (news_oneJ (heap_alloc_new w4 _)) (oneI _ rfl) hk2 (by simp only [alloc_size]; have := Q4.out.2.2.2.2.1; omega) ?_; intro v5 w5 o5 g5; have s5D := (grw_types (World.ownsRow.alloc Q4.out.2.2.1 _) g5 D _ _ (by decide) (alloc_kept Q4.out.1 _)).trans (alloc_kept Q4.out.1 _); have q5 : Below X.heap.size X w5 := (Q4.out.2.2.2.1.alloc Q4.out.2.2.2.1.size _).trans (g5.below (fun j hj => Nat.le_trans HXX.out (World.ownsRow.lt Q4.out.2.2.1 j hj).1) (by simp only [alloc_size]; have := Q4.out.2.2.2.1.size; omega)))
       | (refine wpList_store_at (by rfl) 28 _ _ (by rfl) X X.heap.size D 4 v5 _ #[.int .i64 u.N, vc, .slice none 0 0, .slice none 0 0, v5, .bool false] 31 (by rfl) (by rfl) s5D q5 hDX 1 Tryz.szUsJ (by rw [(own_valJ o5).2]; rfl) (Nat.le_of_ble_eq_true rfl) (by intro u hu; rw [(own_valJ o5).2] at hu; simp only [List.mem_cons, List.not_mem_nil, or_false] at hu; subst hu; exact (own_valJ o5).1) (by rw [(own_valJ o5).2]; rfl) ?_; intro w6 e6 b6 s6 k6))
      have HN : Hid (w6.heap[D]? = some (.cells #[.int .i64 u.N, vc, .slice none 0 0, .slice none 0 0, v5, .bool false] 31) ∧ w6.ownsRow X.heap.size 40 1 vc u.cs.length (uJ (u.cs.map plainW)) ∧ w6.ownsRow X2.heap.size 40 1 v5 (k + 1) (uJ (us ++ [r4])) ∧ Below X.heap.size X w6 ∧ X2.heap.size ≤ w6.heap.size ∧ (us ++ [r4]).length = (k + 1) ∧ (∀ x ∈ (us ++ [r4]), x < 18446744073709551616) ∧ ∀ j, j < (k + 1) → RndZ 1 (farV u.rs u.gs j) 1 ((us ++ [r4])[j]?.getD 0, true)) := by
       have o6 : w6.ownsRow X2.heap.size 40 1 v5 (k + 1) (uJ (us ++ [r4])) := by rw [uJ_snoc]; exact owns_keepT o5 fun j cur hc => k6 j (by rintro rfl; rw [s5D] at hc; cases hc)
       have oc5 : w5.ownsRow X.heap.size 40 1 vc u.cs.length (uJ (u.cs.map plainW)) := owns_keep (World.ownsRow.alloc Q4.out.2.1 _) fun j hj => g5.by'.block j (by have := HC2.out j hj; have := Q4.out.2.2.2.2.1; simp only [alloc_size]; omega) (fun hc => by have h1 := HC2.out j hj; have h2 := (World.ownsRow.lt Q4.out.2.2.1 j hc.symm).1; omega)
       refine ⟨e6, owns_keepT oc5 fun j cur hc => k6 j (by rintro rfl; rw [s5D] at hc; cases hc), o6, b6, ?_, ?_, ?_, ?_⟩
       ·have h1 := Q4.out.2.2.2.2.1; have h2 := g5.by'.size; simp only [alloc_size] at h2; omega
       ·rw [List.length_append, Q4.out.2.2.2.2.2.1]; rfl
       ·intro x hx
        rcases List.mem_append.1 hx with h | h
        ·exact Q4.out.2.2.2.2.2.2.1 x h
        ·rw [List.mem_singleton.1 h]; exact (rz_canon HR4.out).2.1
       ·intro j hj
        by_cases e : j < k
        ·rw [List.getElem?_append_left (by rw [Q4.out.2.2.2.2.2.1]; exact e)]; exact Q4.out.2.2.2.2.2.2.2 j e
        ·have ej : j = k := by omega
         subst ej
         rw [List.getElem?_append_right (by rw [Q4.out.2.2.2.2.2.1]; exact Nat.le_refl _), Q4.out.2.2.2.2.2.1, Nat.sub_self]; exact HR4.out
      clear o5 g5 s5D q5 e6 b6 s6 k6 Q4 HR4 d4
      go_wp2_with fail
      go_roundg q
      case measure => omega
      case rel => exact ⟨k + 1, by go_num, by have := HIG.out; omega, us ++ [r4], v5, HN⟩
    ·have hd1 : decide ((k : Int) < (u.rn : Int)) = false := decide_eq_false (by omega)
     have ek : k = u.rn := by omega
     have HJ : Hid (wr.heap[D]? = some (.cells #[.int .i64 u.N, vc, .slice none 0 0, .slice none 0 0, vr, .bool false] 31) ∧ wr.ownsRow X.heap.size 40 1 vc u.cs.length (uJ (u.cs.map plainW)) ∧ wr.ownsRow X2.heap.size 40 1 vr u.rn (uJ us) ∧ Below X.heap.size X wr ∧ X2.heap.size ≤ wr.heap.size ∧ us.length = u.rn ∧ (∀ x ∈ us, x < 18446744073709551616) ∧ ∀ j, j < u.rn → RndZ 1 (farV u.rs u.gs j) 1 (us[j]?.getD 0, true)) := by have := HI.out; rw [ek] at this; exact this
     clear ek HI hk
     go_wp2_with (first
      | (refine wpList_load_row (by rfl) 31 _ (by rfl) D _ (by rfl) HJ.out.1 _ Tryz.underlying31 rfl 6 Tryz.infoZu (by rfl) ?_)
      | (refine wpList_store_row (by rfl) 31 _ _ (by rfl) w w.heap.size (w.heap.size + 1) #[.int .i64 u.N, vc, .slice none 0 0, .slice none 0 0, vr, .bool false] _ (by rfl) (by rfl) (kept HJ.out.2.2.2.1 P2.out.2.2.1) (to_call P2.out.1 HJ.out.2.2.2.1) (by omega) 6 Tryz.infoZu (by rfl) (by rfl) (oneZ _ _ _ _ _ (own_valJ HJ.out.2.1).1 rfl rfl (own_valJ HJ.out.2.2.1).1 _) ?_; intro W9 e9 b9 s9 o9))
     have hk9 : ∀ (k : Nat) (cur : Array Value), wr.heap[k]? = some (.cells cur 40) → W9.heap[k]? = wr.heap[k]? := fun k cur hc => o9 k (by rintro rfl; rw [kept HJ.out.2.2.2.1 P2.out.2.2.1] at hc; cases hc)
     have HL : OfL W9 X.heap.size (u.cs.map plainW) us [] [] vc vr (.slice none 0 0) (.slice none 0 0) [] := ⟨by rw [List.length_map]; exact owns_keepT HJ.out.2.1 hk9, by rw [HJ.out.2.2.2.2.2.1]; exact owns_monoJ (owns_keepT HJ.out.2.2.1 hk9) HXX.out, World.ownsRow_nil _ _ _ _, World.ownsRow_nil _ _ _ _, rfl, fun j u hj => (by simp at hj)⟩
     obtain ⟨v, hv, hzu, v1, v2, v3, v4, v5, v6, v7, v8, v9, v10⟩ := HL.zu u.N false
     refine bodyPost_ret (res_oneJ _ 2 31 (by kernel_rfl) _ _ (w.heap.size + 1) _ (by rfl) _ Tryz.underlying31 rfl 6 Tryz.infoZu rfl e9) rfl ?_
     exact ⟨v, congrArg Ending.returned hv, hzu, ⟨.inl ⟨HG.out.1, v1, v2, v3, by rw [v4]; exact HJ.out.2.2.2.2.2.1, fun j hj => by rw [v4]; exact HJ.out.2.2.2.2.2.2.2 j hj, v5, v6⟩⟩, b9⟩
end Go.Proofs.YtjeghdmclmelfaaGreat
