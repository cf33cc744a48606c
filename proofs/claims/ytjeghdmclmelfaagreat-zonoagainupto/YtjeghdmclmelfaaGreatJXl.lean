import Derived.Test.YtjeghdmclmelfaaGreatJXk
namespace Go.Proofs.YtjeghdmclmelfaaGreat
open Go.RowKit Go.Shelf
set_option linter.unusedVariables false
set_option linter.unusedSimpArgs false
structure LfD (u : ZD) (next : Int) (v : ZD) (m : Int) : Prop where
 is : ((!u.bad && wholeB u) = true ∧ mayB u next = true ∧ v.N = u.N ∧ v.bad = false ∧ v.cs = (u.cs.map plainW) ∧ v.rs = (List.replicate u.rn 0) ∧ v.ids = u.ids ++ (lfS u.rn u.rs next u.rn).1 ∧ v.gs = (u.gs.map (·.map plainW)) ++ (lfS u.rn u.rs next u.rn).2.1 ∧ m = next + (madeN u.rs : Nat)) ∨ (((!u.bad && wholeB u) = false ∨ mayB u next = false) ∧ v.N = (tkZ u).N ∧ v.bad = true ∧ v.cs = [] ∧ v.rs = [] ∧ v.ids = [] ∧ v.gs = [] ∧ m = next)
theorem Tryz.szU1 : (Tryz.prog.info? 40).map (·.size) = some 1 := by kernel_rfl
theorem map_getW (gs : List (List Nat)) (k : Nat) : (gs.map (·.map plainW))[k]?.getD [] = (gs[k]?.getD []).map plainW := by
 rw [List.getElem?_map]
 cases gs[k]? <;> rfl
theorem owns_setU {W : World} {base n : Nat} {a : Option Addr} {c : Nat} {us : List Nat} {i x : Nat} (h : W.ownsRow base 40 1 (.slice a n c) n (uJ us)) (hi : i < n) (hl : us.length = n) : ∃ g cur, a = some ⟨g, 0, none⟩ ∧ base ≤ g ∧ W.heap[g]? = some (.cells cur 40) ∧ i + 1 ≤ cur.size ∧ (∀ W' : World, W'.heap[g]? = some (.cells (cur.toList.take i ++ [Value.int .u64 (x : Int)] ++ cur.toList.drop (i + 1)).toArray 40) → W'.ownsRow base 40 1 (.slice a n c) n (uJ (us.set i x))) := by
 rcases h.2 with ⟨_, h0⟩ | ⟨g, cap, cur, hv, hg, hh, h1, h2, h3, h4⟩
 ·omega
 ·obtain ⟨ha, _, hc⟩ := Value.slice.inj hv
  rw [Nat.mul_one] at h3 h4
  refine ⟨g, cur, ha, hg, hh, by omega, fun W' hW => ⟨by rw [uJ_len, List.length_set]; omega, .inr ⟨g, cap, _, hv, hg, hW, h1, h2, ?_, ?_⟩⟩⟩
  ·simp only [List.size_toArray, List.length_append, List.length_take, List.length_cons, List.length_nil, List.length_drop, Array.length_toList]; omega
  ·have e1 : cur.toList.take i ++ [Value.int .u64 (x : Int)] ++ cur.toList.drop (i + 1) = cur.toList.set i (Value.int .u64 (x : Int)) := by
    rw [List.set_eq_take_append_cons_drop, if_pos (by rw [Array.length_toList]; omega)]
    simp
   rw [Nat.mul_one, e1]
   show (cur.toList.set i _).take n = _
   rw [List.take_set, h4]
   unfold uJ
   rw [List.map_set]
set_option maxRecDepth 100000 in
set_option maxHeartbeats 8000000 in
theorem refLift_any (u : ZD) (next : Int) (w : World) (hu : ZU w u) (huw : UW u) (hd : u.dn ≤ 1049000) (hnx : -9223372036854775808 ≤ next ∧ next < 9223372036854775808) :
  Calls Tryz.prog 7 #[.agg (zRow u), .int .i64 next] w fun e w' => ∃ (v : ZD) (m : Int), e = .returned (.tuple #[.agg (zRow v), .int .i64 m]) ∧ ZU w' v ∧ LfD u next v m ∧ Below w.heap.size w w' := by
 obtain ⟨E, hE⟩ : ∃ E : Nat, E = 1074 := ⟨_, rfl⟩
 have HE : Hid (E = 1074) := hE
 have HRE : Hid (∀ W', Below w.heap.size w W' → _) := fun W' hb => reals_any u E hE W' (hu.later hb) huw
 have HSZ : Hid (∀ W', Below w.heap.size w W' → _) := fun W' hb => refSizeZ_any u W' (hu.later hb) huw
 have HPA : Hid (∀ W', Below w.heap.size w W' → _) := fun W' hb => plainAll_any u.co u.cn u.cc u.cs W' (hu.later hb).c huw.cl
 have HU : Hid (ZU w u ∧ UW u ∧ u.dn ≤ 1049000) := ⟨hu, huw, hd⟩
 have HNX : Hid (-9223372036854775808 ≤ next ∧ next < 9223372036854775808) := hnx
 rw [tk_N] at HSZ
 obtain ⟨n0, hn0⟩ : ∃ n0, (tkZ u).N = n0 := ⟨_, rfl⟩
 have HN0 : Hid (n0 = (tkZ u).N) := hn0.symm
 rw [hn0] at HSZ
 unfold zRow at HRE HSZ ⊢
 clear hu huw hE hn0 hnx hd
 have X0 : Below w.heap.size w ((w.alloc (.cells #[.int .i64 u.N, .slice u.co u.cn u.cc, .slice u.io u.dn u.dc, .slice u.go u.gn u.gc, .slice u.ro u.rn u.rc, .bool u.bad] 31)).alloc (.cells #[.int .i64 0, .slice none 0 0, .slice none 0 0, .slice none 0 0, .slice none 0 0, .bool false] 31)) := ((Below.refl _ w).alloc (Nat.le_refl _) _).alloc (by simp only [alloc_size]; omega) _
 have Y0 : ((w.alloc (.cells #[.int .i64 u.N, .slice u.co u.cn u.cc, .slice u.io u.dn u.dc, .slice u.go u.gn u.gc, .slice u.ro u.rn u.rc, .bool u.bad] 31)).alloc (.cells #[.int .i64 0, .slice none 0 0, .slice none 0 0, .slice none 0 0, .slice none 0 0, .bool false] 31)).heap[w.heap.size]? = some (.cells #[.int .i64 u.N, .slice u.co u.cn u.cc, .slice u.io u.dn u.dc, .slice u.go u.gn u.gc, .slice u.ro u.rn u.rc, .bool u.bad] 31) := alloc_kept (heap_alloc_new w _) _
 have Y1 : ((w.alloc (.cells #[.int .i64 u.N, .slice u.co u.cn u.cc, .slice u.io u.dn u.dc, .slice u.go u.gn u.gc, .slice u.ro u.rn u.rc, .bool u.bad] 31)).alloc (.cells #[.int .i64 0, .slice none 0 0, .slice none 0 0, .slice none 0 0, .slice none 0 0, .bool false] 31)).heap[w.heap.size + 1]? = some (.cells #[.int .i64 0, .slice none 0 0, .slice none 0 0, .slice none 0 0, .slice none 0 0, .bool false] 31) := heap_at _ _ (w.heap.size + 1) (by simp only [alloc_size])
 go_enter Tryz.func7, Tryz.ntmps7
 go_upto_region 1 with fail
 obtain ⟨X', hX'⟩ : ∃ X', ((w.alloc (.cells #[.int .i64 u.N, .slice u.co u.cn u.cc, .slice u.io u.dn u.dc, .slice u.go u.gn u.gc, .slice u.ro u.rn u.rc, .bool u.bad] 31)).alloc (.cells #[.int .i64 0, .slice none 0 0, .slice none 0 0, .slice none 0 0, .slice none 0 0, .bool false] 31)) = X' := ⟨_, rfl⟩
 rw [hX'] at X0 Y0 Y1 ⊢
 have HX : Hid (Below w.heap.size w X' ∧ X'.heap[w.heap.size]? = some (.cells #[.int .i64 u.N, .slice u.co u.cn u.cc, .slice u.io u.dn u.dc, .slice u.go u.gn u.gc, .slice u.ro u.rn u.rc, .bool u.bad] 31) ∧ X'.heap[w.heap.size + 1]? = some (.cells #[.int .i64 0, .slice none 0 0, .slice none 0 0, .slice none 0 0, .slice none 0 0, .bool false] 31)) := ⟨X0, Y0, Y1⟩
 clear hX' X0 Y0 Y1
 go_upto_region 2 with (first
  | (refine wpList_load_row (by rfl) 31 _ (by rfl) w.heap.size _ (by rfl) HX.out.2.1 _ Tryz.underlying31 rfl 6 Tryz.infoZu (by rfl) ?_)
  | (go_at_call 25; refine Calls.mono (HRE.out _ HX.out.1) ?_; rintro e w1 ⟨⟨N', a1, l1, c1, a2, l2, c2, a3, l3, c3, a4, l4, c4, rfl, hN⟩, b1⟩; have HN : Hid _ := hN; clear hN))
 have A1 : Below w1.heap.size w1 (w1.alloc (.cells #[.int .i64 N', .slice a1 l1 c1, .slice a2 l2 c2, .slice a3 l3 c3, .slice a4 l4 c4] 62)) := (Below.refl _ w1).alloc (Nat.le_refl _) _
 have P1 : Hid (Below w.heap.size w (w1.alloc (.cells #[.int .i64 N', .slice a1 l1 c1, .slice a2 l2 c2, .slice a3 l3 c3, .slice a4 l4 c4] 62)) ∧ (w1.alloc (.cells #[.int .i64 N', .slice a1 l1 c1, .slice a2 l2 c2, .slice a3 l3 c3, .slice a4 l4 c4] 62)).heap[w.heap.size]? = some (.cells #[.int .i64 u.N, .slice u.co u.cn u.cc, .slice u.io u.dn u.dc, .slice u.go u.gn u.gc, .slice u.ro u.rn u.rc, .bool u.bad] 31) ∧ (w1.alloc (.cells #[.int .i64 N', .slice a1 l1 c1, .slice a2 l2 c2, .slice a3 l3 c3, .slice a4 l4 c4] 62)).heap[w.heap.size + 1]? = some (.cells #[.int .i64 0, .slice none 0 0, .slice none 0 0, .slice none 0 0, .slice none 0 0, .bool false] 31) ∧ (w1.alloc (.cells #[.int .i64 N', .slice a1 l1 c1, .slice a2 l2 c2, .slice a3 l3 c3, .slice a4 l4 c4] 62)).heap[w1.heap.size]? = some (.cells #[.int .i64 N', .slice a1 l1 c1, .slice a2 l2 c2, .slice a3 l3 c3, .slice a4 l4 c4] 62) ∧ ((!u.bad && wholeB u) = true → N' = u.N ∧ ∃ gl, RlS (w1.alloc (.cells #[.int .i64 N', .slice a1 l1 c1, .slice a2 l2 c2, .slice a3 l3 c3, .slice a4 l4 c4] 62)) X'.heap.size E u.cs u.rs u.ids u.gs (.slice a1 l1 c1) (.slice a4 l4 c4) (.slice a2 l2 c2) (.slice a3 l3 c3) gl)) := ⟨to_call (to_call HX.out.1 b1) A1, kept A1 (kept b1 HX.out.2.1), kept A1 (kept b1 HX.out.2.2), heap_alloc_new w1 _, fun g => ⟨(HN.out g).1, by obtain ⟨gl, hr⟩ := (HN.out g).2; exact ⟨gl, hr.later A1⟩⟩⟩
 obtain ⟨X, hX⟩ : ∃ X, w1.alloc (.cells #[.int .i64 N', .slice a1 l1 c1, .slice a2 l2 c2, .slice a3 l3 c3, .slice a4 l4 c4] 62) = X := ⟨_, rfl⟩
 obtain ⟨B6, hB6⟩ : ∃ B6, w1.heap.size = B6 := ⟨_, rfl⟩
 rw [hX, hB6] at P1
 rw [hX, hB6]
 clear hX hB6 A1 b1 HN HX HRE
 go_upto_region 3 with (first
  | (refine wpList_load_row (by rfl) 31 _ (by rfl) w.heap.size _ (by rfl) P1.out.2.1 _ Tryz.underlying31 rfl 6 Tryz.infoZu (by rfl) ?_)
  | (go_at_call 27; refine Calls.mono (HSZ.out _ P1.out.1) ?_; rintro e w2 ⟨rfl, b2⟩)
  | (go_at_call 26; refine Calls.mono (lost_any n0 _) ?_; rintro e w3 ⟨rfl, b3⟩))
 have A3 : Below w3.heap.size w3 (w3.alloc (.cells #[.int .i64 n0, .slice none 0 0, .slice none 0 0, .slice none 0 0, .slice none 0 0, .bool true] 31)) := (Below.refl _ w3).alloc (Nat.le_refl _) _
 have bX3 : Below X.heap.size X (w3.alloc (.cells #[.int .i64 n0, .slice none 0 0, .slice none 0 0, .slice none 0 0, .slice none 0 0, .bool true] 31)) := to_call (to_call b2 b3) A3
 have P3 : Hid (Below w.heap.size w (w3.alloc (.cells #[.int .i64 n0, .slice none 0 0, .slice none 0 0, .slice none 0 0, .slice none 0 0, .bool true] 31)) ∧ (w3.alloc (.cells #[.int .i64 n0, .slice none 0 0, .slice none 0 0, .slice none 0 0, .slice none 0 0, .bool true] 31)).heap[w.heap.size]? = some (.cells #[.int .i64 u.N, .slice u.co u.cn u.cc, .slice u.io u.dn u.dc, .slice u.go u.gn u.gc, .slice u.ro u.rn u.rc, .bool u.bad] 31) ∧ (w3.alloc (.cells #[.int .i64 n0, .slice none 0 0, .slice none 0 0, .slice none 0 0, .slice none 0 0, .bool true] 31)).heap[w.heap.size + 1]? = some (.cells #[.int .i64 0, .slice none 0 0, .slice none 0 0, .slice none 0 0, .slice none 0 0, .bool false] 31) ∧ (w3.alloc (.cells #[.int .i64 n0, .slice none 0 0, .slice none 0 0, .slice none 0 0, .slice none 0 0, .bool true] 31)).heap[B6]? = some (.cells #[.int .i64 N', .slice a1 l1 c1, .slice a2 l2 c2, .slice a3 l3 c3, .slice a4 l4 c4] 62) ∧ ((!u.bad && wholeB u) = true → N' = u.N ∧ ∃ gl, RlS (w3.alloc (.cells #[.int .i64 n0, .slice none 0 0, .slice none 0 0, .slice none 0 0, .slice none 0 0, .bool true] 31)) X'.heap.size E u.cs u.rs u.ids u.gs (.slice a1 l1 c1) (.slice a4 l4 c4) (.slice a2 l2 c2) (.slice a3 l3 c3) gl) ∧ (w3.alloc (.cells #[.int .i64 n0, .slice none 0 0, .slice none 0 0, .slice none 0 0, .slice none 0 0, .bool true] 31)).heap[w3.heap.size]? = some (.cells #[.int .i64 n0, .slice none 0 0, .slice none 0 0, .slice none 0 0, .slice none 0 0, .bool true] 31)) := ⟨to_call P1.out.1 bX3, kept bX3 P1.out.2.1, kept bX3 P1.out.2.2.1, kept bX3 P1.out.2.2.2.1, fun g => ⟨(P1.out.2.2.2.2 g).1, by obtain ⟨gl, hr⟩ := (P1.out.2.2.2.2 g).2; exact ⟨gl, hr.later bX3⟩⟩, heap_alloc_new w3 _⟩
 obtain ⟨Y, hY⟩ : ∃ Y, w3.alloc (.cells #[.int .i64 n0, .slice none 0 0, .slice none 0 0, .slice none 0 0, .slice none 0 0, .bool true] 31) = Y := ⟨_, rfl⟩
 obtain ⟨B8, hB8⟩ : ∃ B8, w3.heap.size = B8 := ⟨_, rfl⟩
 rw [hY, hB8] at P3
 rw [hY, hB8]
 clear hY hB8 A3 bX3 b2 b3 P1 HSZ
 cases hgd : (!u.bad && wholeB u) with
 | false =>
  have HG : Hid _ := hgd
  clear hgd
  go_upto_region 4 with fail
  go_wp2_with (first
   | (refine wpList_load_row (by rfl) 31 _ (by rfl) B8 _ (by rfl) P3.out.2.2.2.2.2 _ Tryz.underlying31 rfl 6 Tryz.infoZu (by rfl) ?_)
   | (refine wpList_store_row (by rfl) 31 _ _ (by rfl) w w.heap.size (w.heap.size + 1) #[.int .i64 n0, .slice none 0 0, .slice none 0 0, .slice none 0 0, .slice none 0 0, .bool true] _ (by rfl) (by rfl) P3.out.2.2.1 P3.out.1 (by omega) 6 Tryz.infoZu (by rfl) (by rfl) (oneZ _ _ _ _ _ rfl rfl rfl rfl _) ?_; intro W9 e9 b9 s9 o9))
  refine bodyPost_ret (res_ctJ _ 4 5 31 (by kernel_rfl) _ _ (w.heap.size + 1) _ _ (by rfl) (by rfl) _ Tryz.underlying31 rfl 6 Tryz.infoZu rfl e9) rfl ?_
  refine ⟨(⟨n0, none, 0, 0, none, 0, 0, none, 0, 0, none, 0, 0, true, [], [], fun _ => (none, 0, 0), [], []⟩ : ZD), next, ?_, ?_, ?_, ?_⟩
  ·rfl
  ·exact badU _ _
  ·exact ⟨.inr ⟨.inl HG.out, HN0.out, rfl, rfl, rfl, rfl, rfl, rfl⟩⟩
  ·exact b9
 | true =>
  obtain ⟨hb0, hwh, hck⟩ := tk_good hgd
  have HF : Hid (WhF u) := WhF.ofU HU.out.1 HU.out.2.1.il hwh
  obtain ⟨hN1, gl, hR⟩ := P3.out.2.2.2.2.1 hgd
  have HG : Hid ((!u.bad && wholeB u) = true ∧ (tkZ u).N = u.N) := ⟨hgd, by rw [tk_self hck]⟩
  replace hN1 := hN1.trans HF.out.N
  subst hN1
  have PY : Hid (Below w.heap.size w Y ∧ Y.heap[w.heap.size]? = some (.cells #[.int .i64 (u.rn : Int), .slice u.co u.cn u.cc, .slice u.io u.dn u.dc, .slice u.go u.gn u.gc, .slice u.ro u.rn u.rc, .bool u.bad] 31) ∧ Y.heap[w.heap.size + 1]? = some (.cells #[.int .i64 0, .slice none 0 0, .slice none 0 0, .slice none 0 0, .slice none 0 0, .bool false] 31) ∧ Y.heap[B6]? = some (.cells #[.int .i64 (u.rn : Int), .slice a1 l1 c1, .slice a2 l2 c2, .slice a3 l3 c3, .slice a4 l4 c4] 62) ∧ RlS Y X'.heap.size E u.cs u.rs u.ids u.gs (.slice a1 l1 c1) (.slice a4 l4 c4) (.slice a2 l2 c2) (.slice a3 l3 c3) gl ∧ Y.heap[B8]? = some (.cells #[.int .i64 n0, .slice none 0 0, .slice none 0 0, .slice none 0 0, .slice none 0 0, .bool true] 31)) := ⟨P3.out.1, by have := P3.out.2.1; rw [HF.out.N] at this; exact this, P3.out.2.2.1, P3.out.2.2.2.1, hR, P3.out.2.2.2.2.2⟩
  have hil : u.ids.length = u.dn := HU.out.1.i.length
  obtain ⟨ia, ic, hi1, hi2, hi3⟩ := owns_slice hR.i
  rw [hil] at hi1 hi2 hi3
  have hl2 : l2 = u.dn := (Value.slice.inj hi1).2.1
  have ha2 : a2 = ia := (Value.slice.inj hi1).1
  subst ha2
  have HI : Hid (l2 = u.dn ∧ (u.dn = 0 ∨ ∃ g, a2 = some ⟨g, 0, none⟩ ∧ ∀ j, j < u.dn → Y.cell? ⟨g, j, none⟩ = (u.ids.map (Value.int .i64))[j]?)) := ⟨hl2, hi3⟩
  have HIL : Hid (u.ids.length = u.dn ∧ u.gs.length = u.gn) := ⟨hil, HU.out.1.g.length⟩
  clear hgd hb0 hwh hck hR P3 hi1 hi2 hi3 hl2 hil
  have k2 : Y.cell? ⟨B6, 2, none⟩ = some (.slice a2 l2 c2) := cellAtJ PY.out.2.2.2.1 2 _ rfl
  obtain ⟨bb, hbb⟩ : ∃ bb : Bool, bb = (decide (next < 0) || lastB u next) := ⟨_, rfl⟩
  have HBB : Hid (bb = (decide (next < 0) || lastB u next)) := hbb
  clear hbb
  go_cut [45] (fun v wx => v = .bool bb ∧ wx = Y)
  case first =>
   by_cases q0 : next < 0
   ·have d0 : decide (next < 0) = true := decide_eq_true q0
    have HB : Hid (bb = true) := by unfold Hid; rw [HBB.out, d0]; rfl
    clear q0
    go_wp2_with fail
    go_meet
    exact ⟨by rw [HB.out], rfl⟩
   have d0 : decide (next < 0) = false := decide_eq_false q0
   obtain ⟨hl2, hi3⟩ := HI.out
   by_cases h3 : u.dn = 0
   ·have HB : Hid (bb = false) := by unfold Hid; rw [HBB.out, d0]; unfold lastB; rw [h3]; rfl
    rw [h3] at hl2
    subst hl2
    clear h3 hi3 q0
    go_wp2_with fail
    go_meet
    exact ⟨by rw [HB.out], rfl⟩
   obtain ⟨t, ht⟩ : ∃ t, u.dn = t + 1 := ⟨u.dn - 1, by omega⟩
   have htl : t < 1049000 := by have := HU.out.2.2; omega
   have HB : Hid (bb = decide (next ≤ u.ids[t]?.getD 0)) := by unfold Hid; rw [HBB.out, d0]; unfold lastB; rw [ht, Nat.add_sub_cancel, decide_eq_true (p := 0 < t + 1) (by omega)]; simp
   rw [ht] at hl2 hi3
   subst hl2
   rcases hi3 with h0 | ⟨g, rfl, hc⟩
   ·omega
   have gi := hc t (by omega)
   have hil := HIL.out.1
   rw [List.getElem?_map, List.getElem?_eq_getElem (show t < u.ids.length by omega)] at gi
   rw [List.getElem?_eq_getElem (show t < u.ids.length by omega)] at HB
   simp only [Option.map_some, Option.getD_some] at gi HB
   obtain ⟨x, hx⟩ : ∃ x, u.ids[t]'(by omega) = x := ⟨_, rfl⟩
   rw [hx] at gi HB
   have d2 : decide ((0 : Int) < ((t + 1 : Nat) : Int)) = true := decide_eq_true (by omega)
   clear hx hc hil ht h3 q0
   go_wp2_with fail
   go_meet
   exact ⟨by rw [HB.out], rfl⟩
  case rest =>
  obtain ⟨rfl, hwc⟩ := hcut
  replace hwc := hwc.symm
  subst hwc
  clear k2 HI
  cases bb with
  | true =>
   have HB : Hid (mayB u next = false) := by unfold Hid mayB; rw [← HBB.out]; rfl
   go_wp2_with (first
    | (refine wpList_load_row (by rfl) 31 _ (by rfl) B8 _ (by rfl) PY.out.2.2.2.2.2 _ Tryz.underlying31 rfl 6 Tryz.infoZu (by rfl) ?_)
    | (refine wpList_store_row (by rfl) 31 _ _ (by rfl) w w.heap.size (w.heap.size + 1) #[.int .i64 n0, .slice none 0 0, .slice none 0 0, .slice none 0 0, .slice none 0 0, .bool true] _ (by rfl) (by rfl) PY.out.2.2.1 PY.out.1 (by omega) 6 Tryz.infoZu (by rfl) (by rfl) (oneZ _ _ _ _ _ rfl rfl rfl rfl _) ?_; intro W9 e9 b9 s9 o9))
   refine bodyPost_ret (res_ctJ _ 4 5 31 (by kernel_rfl) _ _ (w.heap.size + 1) _ _ (by rfl) (by rfl) _ Tryz.underlying31 rfl 6 Tryz.infoZu rfl e9) rfl ?_
   refine ⟨(⟨n0, none, 0, 0, none, 0, 0, none, 0, 0, none, 0, 0, true, [], [], fun _ => (none, 0, 0), [], []⟩ : ZD), next, ?_, ?_, ?_, ?_⟩
   ·rfl
   ·exact badU _ _
   ·exact ⟨.inr ⟨.inr HB.out, HN0.out, rfl, rfl, rfl, rfl, rfl, rfl⟩⟩
   ·exact b9
  | false =>
   have hq0 : 0 ≤ next := by
    have h := HBB.out
    have h2 := (Bool.or_eq_false_iff.1 h.symm).1
    have := of_decide_eq_false h2
    omega
   have HMB : Hid (mayB u next = (decide (madeN u.rs = 0) || decide (next ≤ 1073741824 - (madeN u.rs : Int) + 1))) := by unfold Hid mayB; rw [← HBB.out]; rfl
   have HZR : Hid (∀ W', _) := fun W' => zeros_any u.rn (by have := HF.out.n2; omega) W'
   have HPG : Hid (∀ k, k < u.gn → ∀ W', Below Y.heap.size Y W' → _) := fun k hk W' hb => plainAll_any _ _ _ _ W' ((HU.out.1.later (to_call PY.out.1 hb)).g.each k hk) (HU.out.2.1.ll k hk)
   have HGR : Hid (∀ W', Below Y.heap.size Y W' → RdGu W' u.go u.gn u.gc u.gv u.gs) := fun W' hb => (HU.out.1.later (to_call PY.out.1 hb)).g
   have HIR : Hid (∀ W', Below Y.heap.size Y W' → RdIs W' u.io u.dn u.dc u.ids) := fun W' hb => (HU.out.1.later (to_call PY.out.1 hb)).i
   have HDG : Hid (u.dn = u.gn) := HF.out.dg
   have hgm : u.gn ≤ 1049000 := by have := HU.out.2.2; have := HDG.out; omega
   clear HBB
   go_upto_region 5 with fail
   go_cut [9] (fun v wx => ∃ D vc vr, v = .pointer (some ⟨D, 0, none⟩) ∧ Hid (wx.heap[D]? = some (.cells #[.int .i64 (u.rn : Int), vc, .slice none 0 0, .slice none 0 0, vr, .bool false] 31)) ∧ Hid (OfL wx Y.heap.size (u.cs.map plainW) (List.replicate u.rn 0) [] [] vc vr (.slice none 0 0) (.slice none 0 0) []) ∧ Hid (Below Y.heap.size Y wx) ∧ Y.heap.size ≤ D)
   case first =>
    have bX : Below Y.heap.size Y Y.drew := (Below.refl _ _).drew
    refine wp_region_noPanic ?_
    refine wp_region_held_drew (S := (fun W' => Below Y.heap.size Y W')) (by kernel_rfl) bX (fun _ => ?_)
    refine takeH 48 (i := 0) (v := ?_) rfl rfl (by kernel_rfl) (by kernel_rfl) (by kernel_rfl) (fun _ _ _ h => h) (Or.inl ⟨by kernel_rfl, ?_⟩) bX ?_
    rotate_left
    ·intro w' hSw; obtain ⟨c0, c1, c2, c3, c4, c5⟩ := cells6 ((hSw.block _ (blk_lt PY.out.2.1)).trans PY.out.2.1); go_simp; try with_reducible rfl
    try simp only [Act.put, List.setIfInBounds_toArray, List.set_cons_zero, List.set_cons_succ]
    refine takeH 49 (i := 1) (v := ?_) rfl rfl (by kernel_rfl) (by kernel_rfl) (by kernel_rfl) (fun _ _ _ h => h) (Or.inl ⟨by kernel_rfl, ?_⟩) bX ?_
    rotate_left
    ·intro w' hSw; obtain ⟨c0, c1, c2, c3, c4, c5⟩ := cells6 ((hSw.block _ (blk_lt PY.out.2.1)).trans PY.out.2.1); go_simp; try with_reducible rfl
    try simp only [Act.put, List.setIfInBounds_toArray, List.set_cons_zero, List.set_cons_succ]
    refine takeH 50 (i := 2) (v := ?_) rfl rfl (by kernel_rfl) (by kernel_rfl) (by kernel_rfl) (fun _ _ _ h => h) (Or.inl ⟨by kernel_rfl, ?_⟩) bX ?_
    rotate_left
    ·intro w' hSw; obtain ⟨c0, c1, c2, c3, c4, c5⟩ := cells6 ((hSw.block _ (blk_lt PY.out.2.1)).trans PY.out.2.1); go_simp; try with_reducible rfl
    try simp only [Act.put, List.setIfInBounds_toArray, List.set_cons_zero, List.set_cons_succ]
    refine takeH 51 (i := 3) (v := ?_) rfl rfl (by kernel_rfl) (by kernel_rfl) (by kernel_rfl) (fun _ _ _ h => h) (Or.inl ⟨by kernel_rfl, ?_⟩) bX ?_
    rotate_left
    ·intro w' hSw; obtain ⟨c0, c1, c2, c3, c4, c5⟩ := cells6 ((hSw.block _ (blk_lt PY.out.2.1)).trans PY.out.2.1); go_simp; try with_reducible rfl
    try simp only [Act.put, List.setIfInBounds_toArray, List.set_cons_zero, List.set_cons_succ]
    refine takeH 53 (i := 5) (v := ?_) rfl rfl (by kernel_rfl) (by kernel_rfl) (by kernel_rfl) (fun _ _ _ h => h) (Or.inl ⟨by kernel_rfl, ?_⟩) bX ?_
    rotate_left
    ·intro w' hSw; obtain ⟨c0, c1, c2, c3, c4, c5⟩ := cells6 ((hSw.block _ (blk_lt PY.out.2.1)).trans PY.out.2.1); go_simp; try with_reducible rfl
    try simp only [Act.put, List.setIfInBounds_toArray, List.set_cons_zero, List.set_cons_succ]
    refine takeH 54 (i := 6) (v := ?_) rfl rfl (by kernel_rfl) (by kernel_rfl) (by kernel_rfl) (fun _ _ _ h => h) (Or.inl ⟨by kernel_rfl, ?_⟩) bX ?_
    rotate_left
    ·intro w' hSw; obtain ⟨c0, c1, c2, c3, c4, c5⟩ := cells6 ((hSw.block _ (blk_lt PY.out.2.1)).trans PY.out.2.1); go_simp; try with_reducible rfl
    try simp only [Act.put, List.setIfInBounds_toArray, List.set_cons_zero, List.set_cons_succ]
    obtain ⟨V, hV⟩ : ∃ V, Y.drew = V := ⟨_, rfl⟩
    have bV : Below Y.heap.size Y V := hV ▸ bX
    rw [hV]
    clear hV bX
    refine wpAnyH_ready (rs := [4, 9]) (by kernel_rfl) (by simp) ?_
    refine consH _ rfl ?_ (consH _ rfl ?_ AllReadyH.nil)
    ·refine hopCd 52 rfl (by kernel_rfl) rfl (by kernel_rfl) (Calls.mono (HPA.out _ (to_call PY.out.1 bV)) ?_)
     rintro e Vc ⟨vc, rfl, o1, hb⟩
     obtain ⟨avc, pvc, hvc, -⟩ := owns_slice o1
     subst hvc
     have bVc : Below Y.heap.size Y Vc := bV.trans (hb.mono bV.size)
     have ocVc := owns_monoJ o1 bV.size
     clear o1 hb
     refine ⟨_, rfl, bVc, ?_⟩
     try simp only [Act.put, List.setIfInBounds_toArray, List.set_cons_zero, List.set_cons_succ]
     refine wpAnyH_ready (rs := [7, 9]) (by kernel_rfl) (by simp) ?_
     refine consH _ rfl ?_ (consH _ rfl ?_ AllReadyH.nil)
     ·refine hopCd 55 rfl (by kernel_rfl) rfl (by kernel_rfl) (Calls.mono (HZR.out _) ?_)
      rintro e Vcr ⟨vr, rfl, o1, hb⟩
      obtain ⟨avr, pvr, hvr, -⟩ := owns_slice o1
      subst hvr
      have bVcr : Below Y.heap.size Y Vcr := bVc.trans (hb.mono bVc.size)
      have ocVcr := owns_keepT ocVc fun k cur hc => hb.block k (blk_lt hc)
      have orVcr := owns_monoJ o1 bVc.size
      clear o1 hb
      refine ⟨_, rfl, bVcr, ?_⟩
      try simp only [Act.put, List.setIfInBounds_toArray, List.set_cons_zero, List.set_cons_succ]
      refine takeH 56 (i := 8) (v := .agg #[.int .i64 (u.rn : Int), (.slice avc u.cs.length pvc), .slice none 0 0, .slice none 0 0, (.slice avr u.rn pvr), .bool false]) rfl rfl (by kernel_rfl) (by kernel_rfl) (by kernel_rfl) (fun _ _ _ h => h) (Or.inl ⟨by kernel_rfl, fun w' _ => by kernel_rfl⟩) bVcr ?_
      try simp only [Act.put, List.setIfInBounds_toArray, List.set_cons_zero, List.set_cons_succ]
      refine wpAnyH_ready (rs := [9]) (by kernel_rfl) (by simp) ?_
      refine consH _ rfl ?_ AllReadyH.nil
      ·refine hopAJ 9 rfl rfl rfl 31 rfl #[.int .i64 0, .slice none 0 0, .slice none 0 0, .slice none 0 0, .slice none 0 0, .bool false] allocUJ fun D Vcra hDVcra hDl hb => ?_
       have bVcra : Below Y.heap.size Y Vcra := bVcr.trans (hb.mono bVcr.size)
       have hDX : Y.heap.size ≤ D := Nat.le_trans bVcr.size hDl
       have ocVcra := owns_keepT ocVcr fun k cur hc => hb.block k (blk_lt hc)
       have orVcra := owns_keepT orVcr fun k cur hc => hb.block k (blk_lt hc)
       refine ⟨bVcra, ?_⟩
       try simp only [Act.put, List.setIfInBounds_toArray, List.set_cons_zero, List.set_cons_succ]
       refine wpAnyH_ready (rs := [10]) (by kernel_rfl) (by simp) ?_
       refine consH _ rfl (hopL rfl (wpList_store_row (by rfl) 31 _ _ (by rfl) Y Y.heap.size D #[.int .i64 (u.rn : Int), (.slice avc u.cs.length pvc), .slice none 0 0, .slice none 0 0, (.slice avr u.rn pvr), .bool false] _ (by kernel_rfl) (by kernel_rfl) hDVcra bVcra hDX 6 Tryz.infoZu (by rfl) (by rfl) (oneZ _ _ _ _ _ (own_valJ ocVcra).1 rfl rfl (own_valJ orVcra).1 _) fun W9 e9 b9 hs9 ho9 => ?_)) AllReadyH.nil
       refine (And.intro b9 ?_ : _ ∧ _)
       try simp only [Act.put, List.setIfInBounds_toArray, List.set_cons_zero, List.set_cons_succ]
       refine wpAnyH_done (by kernel_rfl) ?_ _
       refine NoPanic.normal ?_
       try simp only [Act.put, List.setIfInBounds_toArray, List.set_cons_zero, List.set_cons_succ]
       go_wp2_with fail
       go_meet
       have hk9 : ∀ (k : Nat) (cur : Array Value), Vcra.heap[k]? = some (.cells cur 40) → W9.heap[k]? = Vcra.heap[k]? := fun k cur hc => ho9 k (by rintro rfl; rw [hDVcra] at hc; cases hc)
       exact ⟨D, (.slice avc u.cs.length pvc), (.slice avr u.rn pvr), rfl, e9, ⟨by rw [List.length_map]; exact owns_keepT ocVcra hk9, by rw [List.length_replicate]; exact owns_keepT orVcra hk9, World.ownsRow_nil _ _ _ _, World.ownsRow_nil _ _ _ _, rfl, fun j u hj => (by simp at hj)⟩, b9, hDX⟩
     ·refine hopAJ 9 rfl rfl rfl 31 rfl #[.int .i64 0, .slice none 0 0, .slice none 0 0, .slice none 0 0, .slice none 0 0, .bool false] allocUJ fun D Vca hDVca hDl hb => ?_
      have bVca : Below Y.heap.size Y Vca := bVc.trans (hb.mono bVc.size)
      have hDX : Y.heap.size ≤ D := Nat.le_trans bVc.size hDl
      have ocVca := owns_keepT ocVc fun k cur hc => hb.block k (blk_lt hc)
      refine ⟨bVca, ?_⟩
      try simp only [Act.put, List.setIfInBounds_toArray, List.set_cons_zero, List.set_cons_succ]
      refine wpAnyH_ready (rs := [7]) (by kernel_rfl) (by simp) ?_
      refine consH _ rfl ?_ AllReadyH.nil
      ·refine hopCd 55 rfl (by kernel_rfl) rfl (by kernel_rfl) (Calls.mono (HZR.out _) ?_)
       rintro e Vcar ⟨vr, rfl, o1, hb⟩
       obtain ⟨avr, pvr, hvr, -⟩ := owns_slice o1
       subst hvr
       have bVcar : Below Y.heap.size Y Vcar := bVca.trans (hb.mono bVca.size)
       have ocVcar := owns_keepT ocVca fun k cur hc => hb.block k (blk_lt hc)
       have hDVcar := kept hb hDVca
       have orVcar := owns_monoJ o1 bVca.size
       clear o1 hb
       refine ⟨_, rfl, bVcar, ?_⟩
       try simp only [Act.put, List.setIfInBounds_toArray, List.set_cons_zero, List.set_cons_succ]
       refine takeH 56 (i := 8) (v := .agg #[.int .i64 (u.rn : Int), (.slice avc u.cs.length pvc), .slice none 0 0, .slice none 0 0, (.slice avr u.rn pvr), .bool false]) rfl rfl (by kernel_rfl) (by kernel_rfl) (by kernel_rfl) (fun _ _ _ h => h) (Or.inl ⟨by kernel_rfl, fun w' _ => by kernel_rfl⟩) bVcar ?_
       try simp only [Act.put, List.setIfInBounds_toArray, List.set_cons_zero, List.set_cons_succ]
       refine wpAnyH_ready (rs := [10]) (by kernel_rfl) (by simp) ?_
       refine consH _ rfl (hopL rfl (wpList_store_row (by rfl) 31 _ _ (by rfl) Y Y.heap.size D #[.int .i64 (u.rn : Int), (.slice avc u.cs.length pvc), .slice none 0 0, .slice none 0 0, (.slice avr u.rn pvr), .bool false] _ (by kernel_rfl) (by kernel_rfl) hDVcar bVcar hDX 6 Tryz.infoZu (by rfl) (by rfl) (oneZ _ _ _ _ _ (own_valJ ocVcar).1 rfl rfl (own_valJ orVcar).1 _) fun W9 e9 b9 hs9 ho9 => ?_)) AllReadyH.nil
       refine (And.intro b9 ?_ : _ ∧ _)
       try simp only [Act.put, List.setIfInBounds_toArray, List.set_cons_zero, List.set_cons_succ]
       refine wpAnyH_done (by kernel_rfl) ?_ _
       refine NoPanic.normal ?_
       try simp only [Act.put, List.setIfInBounds_toArray, List.set_cons_zero, List.set_cons_succ]
       go_wp2_with fail
       go_meet
       have hk9 : ∀ (k : Nat) (cur : Array Value), Vcar.heap[k]? = some (.cells cur 40) → W9.heap[k]? = Vcar.heap[k]? := fun k cur hc => ho9 k (by rintro rfl; rw [hDVcar] at hc; cases hc)
       exact ⟨D, (.slice avc u.cs.length pvc), (.slice avr u.rn pvr), rfl, e9, ⟨by rw [List.length_map]; exact owns_keepT ocVcar hk9, by rw [List.length_replicate]; exact owns_keepT orVcar hk9, World.ownsRow_nil _ _ _ _, World.ownsRow_nil _ _ _ _, rfl, fun j u hj => (by simp at hj)⟩, b9, hDX⟩
    ·refine hopAJ 9 rfl rfl rfl 31 rfl #[.int .i64 0, .slice none 0 0, .slice none 0 0, .slice none 0 0, .slice none 0 0, .bool false] allocUJ fun D Va hDVa hDl hb => ?_
     have bVa : Below Y.heap.size Y Va := bV.trans (hb.mono bV.size)
     have hDX : Y.heap.size ≤ D := Nat.le_trans bV.size hDl
     refine ⟨bVa, ?_⟩
     try simp only [Act.put, List.setIfInBounds_toArray, List.set_cons_zero, List.set_cons_succ]
     refine wpAnyH_ready (rs := [4]) (by kernel_rfl) (by simp) ?_
     refine consH _ rfl ?_ AllReadyH.nil
     ·refine hopCd 52 rfl (by kernel_rfl) rfl (by kernel_rfl) (Calls.mono (HPA.out _ (to_call PY.out.1 bVa)) ?_)
      rintro e Vac ⟨vc, rfl, o1, hb⟩
      obtain ⟨avc, pvc, hvc, -⟩ := owns_slice o1
      subst hvc
      have bVac : Below Y.heap.size Y Vac := bVa.trans (hb.mono bVa.size)
      have hDVac := kept hb hDVa
      have ocVac := owns_monoJ o1 bVa.size
      clear o1 hb
      refine ⟨_, rfl, bVac, ?_⟩
      try simp only [Act.put, List.setIfInBounds_toArray, List.set_cons_zero, List.set_cons_succ]
      refine wpAnyH_ready (rs := [7]) (by kernel_rfl) (by simp) ?_
      refine consH _ rfl ?_ AllReadyH.nil
      ·refine hopCd 55 rfl (by kernel_rfl) rfl (by kernel_rfl) (Calls.mono (HZR.out _) ?_)
       rintro e Vacr ⟨vr, rfl, o1, hb⟩
       obtain ⟨avr, pvr, hvr, -⟩ := owns_slice o1
       subst hvr
       have bVacr : Below Y.heap.size Y Vacr := bVac.trans (hb.mono bVac.size)
       have ocVacr := owns_keepT ocVac fun k cur hc => hb.block k (blk_lt hc)
       have hDVacr := kept hb hDVac
       have orVacr := owns_monoJ o1 bVac.size
       clear o1 hb
       refine ⟨_, rfl, bVacr, ?_⟩
       try simp only [Act.put, List.setIfInBounds_toArray, List.set_cons_zero, List.set_cons_succ]
       refine takeH 56 (i := 8) (v := .agg #[.int .i64 (u.rn : Int), (.slice avc u.cs.length pvc), .slice none 0 0, .slice none 0 0, (.slice avr u.rn pvr), .bool false]) rfl rfl (by kernel_rfl) (by kernel_rfl) (by kernel_rfl) (fun _ _ _ h => h) (Or.inl ⟨by kernel_rfl, fun w' _ => by kernel_rfl⟩) bVacr ?_
       try simp only [Act.put, List.setIfInBounds_toArray, List.set_cons_zero, List.set_cons_succ]
       refine wpAnyH_ready (rs := [10]) (by kernel_rfl) (by simp) ?_
       refine consH _ rfl (hopL rfl (wpList_store_row (by rfl) 31 _ _ (by rfl) Y Y.heap.size D #[.int .i64 (u.rn : Int), (.slice avc u.cs.length pvc), .slice none 0 0, .slice none 0 0, (.slice avr u.rn pvr), .bool false] _ (by kernel_rfl) (by kernel_rfl) hDVacr bVacr hDX 6 Tryz.infoZu (by rfl) (by rfl) (oneZ _ _ _ _ _ (own_valJ ocVacr).1 rfl rfl (own_valJ orVacr).1 _) fun W9 e9 b9 hs9 ho9 => ?_)) AllReadyH.nil
       refine (And.intro b9 ?_ : _ ∧ _)
       try simp only [Act.put, List.setIfInBounds_toArray, List.set_cons_zero, List.set_cons_succ]
       refine wpAnyH_done (by kernel_rfl) ?_ _
       refine NoPanic.normal ?_
       try simp only [Act.put, List.setIfInBounds_toArray, List.set_cons_zero, List.set_cons_succ]
       go_wp2_with fail
       go_meet
       have hk9 : ∀ (k : Nat) (cur : Array Value), Vacr.heap[k]? = some (.cells cur 40) → W9.heap[k]? = Vacr.heap[k]? := fun k cur hc => ho9 k (by rintro rfl; rw [hDVacr] at hc; cases hc)
       exact ⟨D, (.slice avc u.cs.length pvc), (.slice avr u.rn pvr), rfl, e9, ⟨by rw [List.length_map]; exact owns_keepT ocVacr hk9, by rw [List.length_replicate]; exact owns_keepT orVacr hk9, World.ownsRow_nil _ _ _ _, World.ownsRow_nil _ _ _ _, rfl, fun j u hj => (by simp at hj)⟩, b9, hDX⟩
   case rest =>
   obtain ⟨D, vc, vr, rfl, ED, EL, EB, hDX⟩ := hcut
   clear HPA
   go_wp2_with fail
   go_loopg [10] u.gn (fun q v10 wx => ∃ (k : Nat) (vi vg : Value) (gl : List Value), v10 = .int .i64 k ∧ k + q = u.gn ∧ Hid (wx.heap[D]? = some (.cells #[.int .i64 (u.rn : Int), vc, vi, vg, vr, .bool false] 31) ∧ OfL wx Y.heap.size (u.cs.map plainW) (List.replicate u.rn 0) (u.ids.take k) ((u.gs.map (·.map plainW)).take k) vc vr vi vg gl ∧ Below Y.heap.size Y wx))
   case atStart => exact ⟨0, _, _, [], rfl, by omega, ⟨ED.out, by rw [List.take_zero, List.take_zero]; exact EL.out, EB.out⟩⟩
   case round =>
    clear ED EL EB
    obtain ⟨k, vi, vg, gl, rfl, hk, HP⟩ := hrel
    obtain ⟨-, -, -, z3, -, -⟩ := cells6 (kept HP.out.2.2 PY.out.2.1)
    by_cases hlt : k < u.gn
    ·have hd1 : decide ((k : Int) < (u.gn : Int)) = true := decide_eq_true (by omega)
     obtain ⟨q, rfl⟩ : ∃ q, gk = q + 1 := ⟨gk - 1, by omega⟩
     have HIG : Hid _ := hk
     have hkd : (k : Int) < (u.dn : Int) := by have := HDG.out; omega
     have hkg : (k : Int) < (u.gn : Int) := by omega
     clear hk
     go_upto_region 9 with fail
     obtain ⟨ib, ioff, hio, hcell⟩ : ∃ ib ioff, u.io = some ⟨ib, ioff, none⟩ ∧ Y.cell? ⟨ib, ioff + k, none⟩ = some (.int .i64 (u.ids[k]?.getD 0)) := by
      rcases (HIR.out Y (Below.refl _ _)).cells with h0 | ⟨b, off, e, hc⟩
      ·omega
      ·exact ⟨b, off, e, hc k (by omega)⟩
     obtain ⟨gb, goff, hgo⟩ : ∃ gb goff, u.go = some ⟨gb, goff, none⟩ := by
      rcases (HGR.out Y (Below.refl _ _)).cells with h0 | ⟨b, off, e, _⟩
      ·omega
      ·exact ⟨b, off, e⟩
     obtain ⟨xi, hxi⟩ : ∃ xi, u.ids[k]?.getD 0 = xi := ⟨_, rfl⟩
     have HXI : Hid (u.ids[k]?.getD 0 = xi) := hxi
     rw [hxi] at hcell
     have HIC : Hid (Y.cell? ⟨ib, ioff + k, none⟩ = some (.int .i64 xi)) := hcell
     have PY0 : Hid _ := PY.out
     have PYs := PY.out
     rw [hio, hgo] at PYs
     replace PY : Hid _ := PYs
     have HGR0 := HGR.out
     rw [hgo] at HGR0
     have HLI : Hid ((u.ids.take k).length + 1 ≤ 4000000) := by unfold Hid; rw [List.length_take]; omega
     have HLG : Hid (gl.length + 1 ≤ 4000000) := by unfold Hid; have := HP.out.2.1.len; rw [List.length_take, List.length_map] at this; omega
     replace HGR : Hid (∀ W', Below Y.heap.size Y W' → RdGu W' (some ⟨gb, goff, none⟩) u.gn u.gc u.gv u.gs) := HGR0
     have sV : (fun V => V.heap[D]? = some (.cells #[.int .i64 (u.rn : Int), vc, vi, vg, vr, .bool false] 31) ∧ Below Y.heap.size Y V) wr.drew := ⟨HP.out.1, HP.out.2.2.drew⟩
     have LV := HP.out.2.1.later (w' := wr.drew) (Below.refl _ _).drew
     clear hcell hxi hio hgo PYs HGR0 z3 hd1 HP
     refine wp_region_noPanic ?_
     refine wp_region_P (fun V => V.heap[D]? = some (.cells #[.int .i64 (u.rn : Int), vc, vi, vg, vr, .bool false] 31) ∧ Below Y.heap.size Y V) 10 (by kernel_rfl) ?_
     refine takeP 64 (i := 0) (v := ?_) rfl rfl (by kernel_rfl) (by kernel_rfl) (by kernel_rfl) (by kernel_rfl) rfl (by kernel_rfl) (fun _ _ _ h => h) (Or.inl ⟨by kernel_rfl, ?_⟩) sV ?_
     rotate_left
     ·intro w' hSw; obtain ⟨c0, c1, c2, c3, c4, c5⟩ := cells6 hSw.1; obtain ⟨z0, z1, z2, z3, z4, z5⟩ := cells6 (kept hSw.2 PY.out.2.1); have q0 := (hSw.2.cell (World.block_lt_of_cell? _ _ HIC.out)).trans HIC.out; go_simp; try with_reducible rfl
     try simp only [Act.put, List.setIfInBounds_toArray, List.set_cons_zero, List.set_cons_succ]
     refine takeP 65 (i := 1) (v := ?_) rfl rfl (by kernel_rfl) (by kernel_rfl) (by kernel_rfl) (by kernel_rfl) rfl (by kernel_rfl) (fun _ _ _ h => h) (Or.inl ⟨by kernel_rfl, ?_⟩) sV ?_
     rotate_left
     ·intro w' hSw; obtain ⟨c0, c1, c2, c3, c4, c5⟩ := cells6 hSw.1; obtain ⟨z0, z1, z2, z3, z4, z5⟩ := cells6 (kept hSw.2 PY.out.2.1); have q0 := (hSw.2.cell (World.block_lt_of_cell? _ _ HIC.out)).trans HIC.out; go_simp; try with_reducible rfl
     try simp only [Act.put, List.setIfInBounds_toArray, List.set_cons_zero, List.set_cons_succ]
     refine takeP 66 (i := 2) (v := ?_) rfl rfl (by kernel_rfl) (by kernel_rfl) (by kernel_rfl) (by kernel_rfl) rfl (by kernel_rfl) (fun _ _ _ h => h) (Or.inl ⟨by kernel_rfl, ?_⟩) sV ?_
     rotate_left
     ·intro w' hSw; obtain ⟨c0, c1, c2, c3, c4, c5⟩ := cells6 hSw.1; obtain ⟨z0, z1, z2, z3, z4, z5⟩ := cells6 (kept hSw.2 PY.out.2.1); have q0 := (hSw.2.cell (World.block_lt_of_cell? _ _ HIC.out)).trans HIC.out; go_simp; try with_reducible rfl
     try simp only [Act.put, List.setIfInBounds_toArray, List.set_cons_zero, List.set_cons_succ]
     refine takeP 67 (i := 3) (v := ?_) rfl rfl (by kernel_rfl) (by kernel_rfl) (by kernel_rfl) (by kernel_rfl) rfl (by kernel_rfl) (fun _ _ _ h => h) (Or.inl ⟨by kernel_rfl, ?_⟩) sV ?_
     rotate_left
     ·intro w' hSw; obtain ⟨c0, c1, c2, c3, c4, c5⟩ := cells6 hSw.1; obtain ⟨z0, z1, z2, z3, z4, z5⟩ := cells6 (kept hSw.2 PY.out.2.1); have q0 := (hSw.2.cell (World.block_lt_of_cell? _ _ HIC.out)).trans HIC.out; go_simp; try with_reducible rfl
     try simp only [Act.put, List.setIfInBounds_toArray, List.set_cons_zero, List.set_cons_succ]
     refine takeP 68 (i := 4) (v := ?_) rfl rfl (by kernel_rfl) (by kernel_rfl) (by kernel_rfl) (by kernel_rfl) rfl (by kernel_rfl) (fun _ _ _ h => h) (Or.inl ⟨by kernel_rfl, ?_⟩) sV ?_
     rotate_left
     ·intro w' hSw; obtain ⟨c0, c1, c2, c3, c4, c5⟩ := cells6 hSw.1; obtain ⟨z0, z1, z2, z3, z4, z5⟩ := cells6 (kept hSw.2 PY.out.2.1); have q0 := (hSw.2.cell (World.block_lt_of_cell? _ _ HIC.out)).trans HIC.out; go_simp; try with_reducible rfl
     try simp only [Act.put, List.setIfInBounds_toArray, List.set_cons_zero, List.set_cons_succ]
     refine takeP 69 (i := 5) (v := ?_) rfl rfl (by kernel_rfl) (by kernel_rfl) (by kernel_rfl) (by kernel_rfl) rfl (by kernel_rfl) (fun _ _ _ h => h) (Or.inl ⟨by kernel_rfl, ?_⟩) sV ?_
     rotate_left
     ·intro w' hSw; obtain ⟨c0, c1, c2, c3, c4, c5⟩ := cells6 hSw.1; obtain ⟨z0, z1, z2, z3, z4, z5⟩ := cells6 (kept hSw.2 PY.out.2.1); have q0 := (hSw.2.cell (World.block_lt_of_cell? _ _ HIC.out)).trans HIC.out; go_simp; try with_reducible rfl
     try simp only [Act.put, List.setIfInBounds_toArray, List.set_cons_zero, List.set_cons_succ]
     refine takeP 70 (i := 6) (v := ?_) rfl rfl (by kernel_rfl) (by kernel_rfl) (by kernel_rfl) (by kernel_rfl) rfl (by kernel_rfl) (fun _ _ _ h => h) (Or.inl ⟨by kernel_rfl, ?_⟩) sV ?_
     rotate_left
     ·intro w' hSw; obtain ⟨c0, c1, c2, c3, c4, c5⟩ := cells6 hSw.1; obtain ⟨z0, z1, z2, z3, z4, z5⟩ := cells6 (kept hSw.2 PY.out.2.1); have q0 := (hSw.2.cell (World.block_lt_of_cell? _ _ HIC.out)).trans HIC.out; go_simp; try with_reducible rfl
     try simp only [Act.put, List.setIfInBounds_toArray, List.set_cons_zero, List.set_cons_succ]
     refine wpAnyP_ready (rs := [7]) (by kernel_rfl) (by simp) ?_
     refine consP _ rfl (hopBJ 71 (.int .i64 xi) 3 rfl rfl rfl (by kernel_rfl) fun I V1 hI b1 => ?_) AllReadyP.nil
     have s1 := And.intro (kept b1 sV.1) (to_call sV.2 b1)
     have L1 := LV.later b1
     refine ⟨s1, ?_⟩
     try simp only [Act.put, List.setIfInBounds_toArray, List.set_cons_zero, List.set_cons_succ]
     refine wpAnyP_ready (rs := [8]) (by kernel_rfl) (by simp) ?_
     refine consP _ rfl (hopL rfl (append_gsJ Tryz.underlying23 Tryz.infoIJ rfl (by decide) (by decide) V1 (by rfl) _ _ (by rfl) Y.heap.size vi _ _ (by kernel_rfl) L1.i ⟨I, 0, none⟩ 1 1 [.int .i64 xi] (by kernel_rfl) rfl (news_oneJ hI) (oneI _ rfl) HLI.out s1.2.size fun v5 w5 o5 g5 => ?_)) AllReadyP.nil
     change QK _ _ Exit.normal (Act.put _ (some 72) v5) w5
     have q5 : Below Y.heap.size Y w5 := s1.2.trans (g5.below (fun k hk => (World.ownsRow.lt L1.i k hk).1) s1.2.size)
     have s5D := (grw_types L1.i g5 D _ _ (by decide) s1.1).trans s1.1
     have L5 := L1.pushI (vi' := v5) (is := u.ids.take k ++ [xi]) g5 (by rw [List.map_append, List.length_append]; exact o5)
     refine (And.intro (And.intro s5D q5) ?_ : _ ∧ _)
     try simp only [Act.put, List.setIfInBounds_toArray, List.set_cons_zero, List.set_cons_succ]
     refine takeP0 73 (i := 9) (v := ?_) rfl rfl (by kernel_rfl) (by kernel_rfl) (by kernel_rfl) rfl (fun _ _ _ h => h) (Or.inl ⟨by kernel_rfl, ?_⟩) (fun _ => And.intro s5D q5) ?_
     rotate_left
     ·intro w' hSw; go_simp; try with_reducible rfl
     try simp only [Act.put, List.setIfInBounds_toArray, List.set_cons_zero, List.set_cons_succ]
     refine wpAnyP_ready (rs := [10]) (by kernel_rfl) (by simp) ?_
     refine consPs _ rfl (by kernel_rfl) (hopL rfl (wpList_store_at (by rfl) 23 _ _ (by rfl) Y Y.heap.size D 2 v5 _ #[.int .i64 (u.rn : Int), vc, v5, vg, vr, .bool false] 31 (by kernel_rfl) (by kernel_rfl) s5D q5 hDX 1 Tryz.szIs (by rw [(own_valJ L5.i).2]; rfl) (Nat.le_of_ble_eq_true rfl) (by intro u hu; rw [(own_valJ L5.i).2] at hu; simp only [List.mem_cons, List.not_mem_nil, or_false] at hu; subst hu; exact (own_valJ L5.i).1) (by rw [(own_valJ L5.i).2]; rfl) fun w6 e6 b6 s6 k6 => ?_)) AllReadyP.nil
     refine (And.intro trivial ?_ : _ ∧ _)
     try simp only [Act.put, List.setIfInBounds_toArray, List.set_cons_zero, List.set_cons_succ]
     refine wpAnyP_done (by kernel_rfl) ?_ _
     refine NoPanic.normal ?_
     try simp only [Act.put, List.setIfInBounds_toArray, List.set_cons_zero, List.set_cons_succ]
     have L6 := L5.keep (w' := w6) fun k cur t ht hc => k6 k (by rintro rfl; rw [s5D] at hc; cases hc; exact ht rfl)
     have E6 : Hid _ := And.intro e6 (And.intro L6 b6)
     clear s5D q5 L5 L6 e6 b6 s6 k6 o5 g5 L1 s1 hI b1 sV LV
     have sV : (fun V => V.heap[D]? = some (.cells #[.int .i64 (u.rn : Int), vc, v5, vg, vr, .bool false] 31) ∧ Below Y.heap.size Y V) w6.drew := ⟨E6.out.1, E6.out.2.2.drew⟩
     have LV := E6.out.2.1.later (w' := w6.drew) (Below.refl _ _).drew
     clear E6
     go_upto_region 10 with fail
     refine wp_region_noPanic ?_
     refine wp_region_P (fun V => V.heap[D]? = some (.cells #[.int .i64 (u.rn : Int), vc, v5, vg, vr, .bool false] 31) ∧ Below Y.heap.size Y V) 11 (by kernel_rfl) ?_
     refine takeP 74 (i := 0) (v := ?_) rfl rfl (by kernel_rfl) (by kernel_rfl) (by kernel_rfl) (by kernel_rfl) rfl (by kernel_rfl) (fun _ _ _ h => h) (Or.inl ⟨by kernel_rfl, ?_⟩) sV ?_
     rotate_left
     ·intro w' hSw; obtain ⟨c0, c1, c2, c3, c4, c5⟩ := cells6 hSw.1; obtain ⟨z0, z1, z2, z3, z4, z5⟩ := cells6 (kept hSw.2 PY.out.2.1); have q0 := rdGu_at (HGR.out _ hSw.2) hlt; go_simp; try with_reducible rfl
     try simp only [Act.put, List.setIfInBounds_toArray, List.set_cons_zero, List.set_cons_succ]
     refine takeP 75 (i := 1) (v := ?_) rfl rfl (by kernel_rfl) (by kernel_rfl) (by kernel_rfl) (by kernel_rfl) rfl (by kernel_rfl) (fun _ _ _ h => h) (Or.inl ⟨by kernel_rfl, ?_⟩) sV ?_
     rotate_left
     ·intro w' hSw; obtain ⟨c0, c1, c2, c3, c4, c5⟩ := cells6 hSw.1; obtain ⟨z0, z1, z2, z3, z4, z5⟩ := cells6 (kept hSw.2 PY.out.2.1); have q0 := rdGu_at (HGR.out _ hSw.2) hlt; go_simp; try with_reducible rfl
     try simp only [Act.put, List.setIfInBounds_toArray, List.set_cons_zero, List.set_cons_succ]
     refine takeP 76 (i := 2) (v := ?_) rfl rfl (by kernel_rfl) (by kernel_rfl) (by kernel_rfl) (by kernel_rfl) rfl (by kernel_rfl) (fun _ _ _ h => h) (Or.inl ⟨by kernel_rfl, ?_⟩) sV ?_
     rotate_left
     ·intro w' hSw; obtain ⟨c0, c1, c2, c3, c4, c5⟩ := cells6 hSw.1; obtain ⟨z0, z1, z2, z3, z4, z5⟩ := cells6 (kept hSw.2 PY.out.2.1); have q0 := rdGu_at (HGR.out _ hSw.2) hlt; go_simp; try with_reducible rfl
     try simp only [Act.put, List.setIfInBounds_toArray, List.set_cons_zero, List.set_cons_succ]
     refine takeP 77 (i := 3) (v := ?_) rfl rfl (by kernel_rfl) (by kernel_rfl) (by kernel_rfl) (by kernel_rfl) rfl (by kernel_rfl) (fun _ _ _ h => h) (Or.inl ⟨by kernel_rfl, ?_⟩) sV ?_
     rotate_left
     ·intro w' hSw; obtain ⟨c0, c1, c2, c3, c4, c5⟩ := cells6 hSw.1; obtain ⟨z0, z1, z2, z3, z4, z5⟩ := cells6 (kept hSw.2 PY.out.2.1); have q0 := rdGu_at (HGR.out _ hSw.2) hlt; go_simp; try with_reducible rfl
     try simp only [Act.put, List.setIfInBounds_toArray, List.set_cons_zero, List.set_cons_succ]
     refine takeP 78 (i := 4) (v := ?_) rfl rfl (by kernel_rfl) (by kernel_rfl) (by kernel_rfl) (by kernel_rfl) rfl (by kernel_rfl) (fun _ _ _ h => h) (Or.inl ⟨by kernel_rfl, ?_⟩) sV ?_
     rotate_left
     ·intro w' hSw; obtain ⟨c0, c1, c2, c3, c4, c5⟩ := cells6 hSw.1; obtain ⟨z0, z1, z2, z3, z4, z5⟩ := cells6 (kept hSw.2 PY.out.2.1); have q0 := rdGu_at (HGR.out _ hSw.2) hlt; go_simp; try with_reducible rfl
     try simp only [Act.put, List.setIfInBounds_toArray, List.set_cons_zero, List.set_cons_succ]
     refine takeP 79 (i := 5) (v := ?_) rfl rfl (by kernel_rfl) (by kernel_rfl) (by kernel_rfl) (by kernel_rfl) rfl (by kernel_rfl) (fun _ _ _ h => h) (Or.inl ⟨by kernel_rfl, ?_⟩) sV ?_
     rotate_left
     ·intro w' hSw; obtain ⟨c0, c1, c2, c3, c4, c5⟩ := cells6 hSw.1; obtain ⟨z0, z1, z2, z3, z4, z5⟩ := cells6 (kept hSw.2 PY.out.2.1); have q0 := rdGu_at (HGR.out _ hSw.2) hlt; go_simp; try with_reducible rfl
     try simp only [Act.put, List.setIfInBounds_toArray, List.set_cons_zero, List.set_cons_succ]
     refine takeP 80 (i := 6) (v := ?_) rfl rfl (by kernel_rfl) (by kernel_rfl) (by kernel_rfl) (by kernel_rfl) rfl (by kernel_rfl) (fun _ _ _ h => h) (Or.inl ⟨by kernel_rfl, ?_⟩) sV ?_
     rotate_left
     ·intro w' hSw; obtain ⟨c0, c1, c2, c3, c4, c5⟩ := cells6 hSw.1; obtain ⟨z0, z1, z2, z3, z4, z5⟩ := cells6 (kept hSw.2 PY.out.2.1); have q0 := rdGu_at (HGR.out _ hSw.2) hlt; go_simp; try with_reducible rfl
     try simp only [Act.put, List.setIfInBounds_toArray, List.set_cons_zero, List.set_cons_succ]
     refine wpAnyP_ready (rs := [7]) (by kernel_rfl) (by simp) ?_
     refine consP _ rfl (hopCd 81 rfl (by kernel_rfl) rfl (by kernel_rfl) (Calls.mono (HPG.out k hlt _ sV.2) ?_)) AllReadyP.nil
     rintro e V1 ⟨v1, rfl, o1, b1⟩
     obtain ⟨a1', cp1, hv1, -⟩ := owns_slice o1
     subst hv1
     have s1 := And.intro (kept b1 sV.1) (to_call sV.2 b1)
     have L1 := LV.later b1
     have o1' := owns_monoJ o1 sV.2.size
     refine ⟨_, rfl, s1, ?_⟩
     try simp only [Act.put, List.setIfInBounds_toArray, List.set_cons_zero, List.set_cons_succ]
     refine wpAnyP_ready (rs := [8]) (by kernel_rfl) (by simp) ?_
     refine consP _ rfl (hopBJ 82 (Value.slice a1' (u.gs[k]?.getD []).length cp1) 28 rfl rfl rfl (by kernel_rfl) fun I V2 hI b2 => ?_) AllReadyP.nil
     have s2 := And.intro (kept b2 s1.1) (to_call s1.2 b2)
     have L2 := L1.later b2
     have o2 := owns_keepT o1' fun k cur hc => b2.block k (blk_lt hc)
     refine ⟨s2, ?_⟩
     try simp only [Act.put, List.setIfInBounds_toArray, List.set_cons_zero, List.set_cons_succ]
     refine wpAnyP_ready (rs := [9]) (by kernel_rfl) (by simp) ?_
     refine consP _ rfl (hopL rfl (append_gsJ Tryz.underlying29 Tryz.infoUsJ rfl (by decide) (by decide) V2 (by rfl) _ _ (by rfl) Y.heap.size vg _ _ (by kernel_rfl) L2.g ⟨I, 0, none⟩ 1 1 [(Value.slice a1' (u.gs[k]?.getD []).length cp1)] (by kernel_rfl) rfl (news_oneJ hI) (oneI _ (own_valJ o2).1) HLG.out s2.2.size fun v6 w7 o6 g6 => ?_)) AllReadyP.nil
     change QK _ _ Exit.normal (Act.put _ (some 83) v6) w7
     have q6 : Below Y.heap.size Y w7 := s2.2.trans (g6.below (fun k hk => (World.ownsRow.lt L2.g k hk).1) s2.2.size)
     have s6D := (grw_types L2.g g6 D _ _ (by decide) s2.1).trans s2.1
     have L7 := L2.pushG (us := (u.gs[k]?.getD []).map plainW) g6 o6 (by rw [List.length_map]; exact o2)
     refine (And.intro (And.intro s6D q6) ?_ : _ ∧ _)
     try simp only [Act.put, List.setIfInBounds_toArray, List.set_cons_zero, List.set_cons_succ]
     refine takeP0 84 (i := 10) (v := ?_) rfl rfl (by kernel_rfl) (by kernel_rfl) (by kernel_rfl) rfl (fun _ _ _ h => h) (Or.inl ⟨by kernel_rfl, ?_⟩) (fun _ => And.intro s6D q6) ?_
     rotate_left
     ·intro w' hSw; go_simp; try with_reducible rfl
     try simp only [Act.put, List.setIfInBounds_toArray, List.set_cons_zero, List.set_cons_succ]
     refine wpAnyP_ready (rs := [11]) (by kernel_rfl) (by simp) ?_
     refine consPs _ rfl (by kernel_rfl) (hopL rfl (wpList_store_at (by rfl) 29 _ _ (by rfl) Y Y.heap.size D 3 v6 _ #[.int .i64 (u.rn : Int), vc, v5, v6, vr, .bool false] 31 (by kernel_rfl) (by kernel_rfl) s6D q6 hDX 1 Tryz.szUss (by rw [(own_valJ L7.g).2]; rfl) (Nat.le_of_ble_eq_true rfl) (by intro u hu; rw [(own_valJ L7.g).2] at hu; simp only [List.mem_cons, List.not_mem_nil, or_false] at hu; subst hu; exact (own_valJ L7.g).1) (by rw [(own_valJ L7.g).2]; rfl) fun w8 e8 b8 s8 k8 => ?_)) AllReadyP.nil
     refine (And.intro trivial ?_ : _ ∧ _)
     try simp only [Act.put, List.setIfInBounds_toArray, List.set_cons_zero, List.set_cons_succ]
     refine wpAnyP_done (by kernel_rfl) ?_ _
     refine NoPanic.normal ?_
     try simp only [Act.put, List.setIfInBounds_toArray, List.set_cons_zero, List.set_cons_succ]
     have L8 := L7.keep (w' := w8) fun k cur t ht hc => k8 k (by rintro rfl; rw [s6D] at hc; cases hc; exact ht rfl)
     have E8 : Hid _ := And.intro e8 (And.intro L8 b8)
     clear s6D q6 L7 e8 b8 s8 k8 L8 o6 o2 o1 o1' L1 L2 b1 b2 hI s1 s2 sV LV g6
     replace PY := PY0
     go_wp2_with fail
     go_roundg q
     case measure => omega
     case rel =>
      refine ⟨k + 1, v5, v6, gl ++ [(Value.slice a1' (u.gs[k]?.getD []).length cp1)], by go_num, by have := HIG.out; omega, E8.out.1, ?_, E8.out.2.2⟩
      rw [take_snocI (by have := HIL.out; omega), take_snocG (by rw [List.length_map]; have := HIL.out; omega), map_getW, HXI.out]
      exact E8.out.2.1
    ·have hd1 : decide ((k : Int) < (u.gn : Int)) = false := decide_eq_false (by omega)
     have hd2 : decide (k < u.gn) = false := decide_eq_false hlt
     have HP2 : Hid (wr.heap[D]? = some (.cells #[.int .i64 (u.rn : Int), vc, vi, vg, vr, .bool false] 31) ∧ OfL wr Y.heap.size (u.cs.map plainW) (List.replicate u.rn 0) (u.ids ++ (lfS u.rn u.rs next 0).1) ((u.gs.map (·.map plainW)) ++ (lfS u.rn u.rs next 0).2.1) vc vr vi vg gl ∧ Below Y.heap.size Y wr) := by
      have h := HP.out
      rw [List.take_of_length_le (by have := HIL.out; have := HDG.out; omega), List.take_of_length_le (by rw [List.length_map]; have := HIL.out; omega)] at h
      refine ⟨h.1, ?_, h.2.2⟩
      show OfL _ _ _ _ (u.ids ++ []) (_ ++ []) _ _ _ _ _
      rw [List.append_nil, List.append_nil]
      exact h.2.1
     clear HP hk HGR HPG HIR
     go_wp2_with fail
     clear z3 hd1 hd2
     go_loopg [11, 12] u.rn (fun q v11 v12 wx => ∃ (i : Nat) (vi vg : Value) (gl : List Value), v12 = .int .i64 i ∧ v11 = .int .i64 (lfS u.rn u.rs next i).2.2 ∧ i + q = u.rn ∧ Hid ((wx.heap[D]? = some (.cells #[.int .i64 (u.rn : Int), vc, vi, vg, vr, .bool false] 31) ∧ OfL wx Y.heap.size (u.cs.map plainW) (List.replicate u.rn 0) (u.ids ++ (lfS u.rn u.rs next i).1) ((u.gs.map (·.map plainW)) ++ (lfS u.rn u.rs next i).2.1) vc vr vi vg gl ∧ Below Y.heap.size Y wx) ∧ (madeN (u.rs.take i) = 0 ∨ next + (madeN (u.rs.take i) : Nat) ≤ 1073741825)))
     case atStart => exact ⟨0, vi, vg, gl, rfl, rfl, by omega, ⟨HP2.out, .inl (by rw [List.take_zero]; rfl)⟩⟩
     case round =>
      clear HP2
      obtain ⟨i, vi, vg, gl, rfl, rfl, hk, HP⟩ := hrel
      obtain ⟨z0, z1, z2, z3, z4, z5⟩ := cells6 (kept HP.out.1.2.2 PY.out.2.1)
      have hnr : u.rn ≤ 256 := HF.out.n2
      have hrl : u.rs.length = u.rn := HF.out.rl
      have hnx := lfS_next u.rn u.rs next i
      by_cases h1 : i < u.rn
      ·have hd1 : decide ((i : Int) < (u.rn : Int)) = true := decide_eq_true (by omega)
       obtain ⟨q, rfl⟩ : ∃ q, gk = q + 1 := ⟨gk - 1, by omega⟩
       have HIG : Hid _ := hk
       have hi0 : (i : Int) < (u.rn : Int) := by omega
       replace hnx := hnx (by omega)
       have HST : Hid (_ = _) := madeN_take (rs := u.rs) (k := i) (by omega)
       have HLS : Hid (lfS u.rn u.rs next (i + 1) = if 0 < srung (u.rs[i]?.getD 0) then ((lfS u.rn u.rs next i).1 ++ [(lfS u.rn u.rs next i).2.2], (lfS u.rn u.rs next i).2.1 ++ [unitL u.rn i (u.rs[i]?.getD 0)], (lfS u.rn u.rs next i).2.2 + 1) else lfS u.rn u.rs next i) := rfl
       obtain ⟨rb, rcap, rn', ro', rl', rc', re', hrv, hrr, hrz⟩ := RowN.range (RowN.later PY.out.2.2.2.2.1.r HP.out.1.2.2) (k := i) (by rw [hrl]; exact h1)
       rw [hrl] at hrv
       have k4 : wr.cell? ⟨B6, 4, none⟩ = some (.slice a4 l4 c4) := cellAtJ (kept HP.out.1.2.2 PY.out.2.2.2.1) 4 _ rfl
       rw [hrv] at k4
       have hpos := HF.out.pos i
       have h64 : u.rs[i]?.getD 0 < 18446744073709551616 := by rw [List.getElem?_eq_getElem (show i < u.rs.length by omega)]; exact HU.out.2.1.r _ (List.getElem_mem _)
       have hrc : ∃ xb xoff, u.ro = some ⟨xb, xoff, none⟩ ∧ Y.cell? ⟨xb, xoff + i, none⟩ = some (.int .u64 ((u.rs[i]?.getD 0 : Nat) : Int)) := by
        rcases (HU.out.1.later PY.out.1).r.cells with h0 | ⟨b, off, e, hc⟩
        ·omega
        ·exact ⟨b, off, e, hc i h1⟩
       obtain ⟨r, hr⟩ : ∃ r, u.rs[i]?.getD 0 = r := ⟨_, rfl⟩
       obtain ⟨am, ham⟩ : ∃ am, (lfS u.rn u.rs next i).2.2 = am := ⟨_, rfl⟩
       have HR : Hid (u.rs[i]?.getD 0 = r) := hr
       have HAM : Hid ((lfS u.rn u.rs next i).2.2 = am ∧ am = next + (madeN (u.rs.take i) : Nat)) := ⟨ham, ham.symm.trans hnx⟩
       rw [hr] at hrz hpos h64 hrc HST HLS
       rw [ham] at HLS
       rw [ham]
       have HSG := signF_any _ E r wr hrz
       have HS : Hid _ := HSG
       have HRC : Hid _ := hrc
       have HPO : Hid (0 ≤ fval r ∧ r < 18446744073709551616) := ⟨hpos, h64⟩
       clear hk hrz hr ham hnx hpos h64 hrc hrv HSG
       go_upto_region 16 with (first
        | (refine wpList_load_mid (by rfl) 72 _ (by rfl) rb (i * 3) (by rfl) #[.bool rn', .slice ro' rl' rc', .int .i64 re'].toList _ hrr Tryz.underlying72 rfl (by kernel_rfl) ?_)
        | (go_at_call 30; refine Calls.mono HS.out ?_; rintro e w4 ⟨⟨s, rfl, hs1, hs2, hs3, hs4⟩, b4⟩; have HSS : Hid _ := And.intro hs3 hs4; have HSB : Hid (-1 ≤ s ∧ s ≤ 1) := ⟨hs1, hs2⟩; clear hs1 hs2 hs3 hs4)) <;> skip
       all_goals try (clear k4 hrr)
       ·rename_i hsb
        have hs0 : s = 0 := by simpa using hsb
        have hz : srung r = 0 := HSS.out.2.1 hs0
        clear hsb
        subst hs0
        have HN : Hid ((w4.heap[D]? = some (.cells #[.int .i64 (u.rn : Int), vc, vi, vg, vr, .bool false] 31) ∧ OfL w4 Y.heap.size (u.cs.map plainW) (List.replicate u.rn 0) (u.ids ++ (lfS u.rn u.rs next (i + 1)).1) ((u.gs.map (·.map plainW)) ++ (lfS u.rn u.rs next (i + 1)).2.1) vc vr vi vg gl ∧ Below Y.heap.size Y w4) ∧ (madeN (u.rs.take (i + 1)) = 0 ∨ next + (madeN (u.rs.take (i + 1)) : Nat) ≤ 1073741825) ∧ (lfS u.rn u.rs next (i + 1)).2.2 = am) := by
         rw [HLS.out, if_neg (by omega), HST.out, if_neg (by omega), Nat.add_zero]
         exact ⟨⟨kept b4 HP.out.1.1, HP.out.1.2.1.later b4, to_call HP.out.1.2.2 b4⟩, HP.out.2, HAM.out.1⟩
        clear hz b4 HP HSS HSB HS z0 z1 z2 z3 z4 z5
        go_roundg q
        case measure => omega
        case rel => exact ⟨i + 1, vi, vg, gl, by go_num, by rw [HN.out.2.2], by have := HIG.out; omega, ⟨HN.out.1, HN.out.2.1⟩⟩
       ·have hsb : (s == 0) = false := by assumption
        have hs0 : s ≠ 0 := by simpa using hsb
        have hz : ¬ srung r = 0 := fun h => hs0 (HSS.out.2.2 h)
        clear hsb
        have hps : 0 < srung r := by
         have h2 := HPO.out.1
         have h3 := (fval_zero_iff r).1
         have h4 := (fval_pos_iff r).1
         by_cases h5 : fval r = 0
         ·exact absurd (h3 h5) hz
         ·exact h4 (by omega)
        have HPS : Hid (0 < srung r) := hps
        have P4 : Hid ((w4.heap[D]? = some (.cells #[.int .i64 (u.rn : Int), vc, vi, vg, vr, .bool false] 31) ∧ OfL w4 Y.heap.size (u.cs.map plainW) (List.replicate u.rn 0) (u.ids ++ (lfS u.rn u.rs next i).1) ((u.gs.map (·.map plainW)) ++ (lfS u.rn u.rs next i).2.1) vc vr vi vg gl ∧ Below Y.heap.size Y w4) ∧ (madeN (u.rs.take i) = 0 ∨ next + (madeN (u.rs.take i) : Nat) ≤ 1073741825)) := ⟨⟨kept b4 HP.out.1.1, HP.out.1.2.1.later b4, to_call HP.out.1.2.2 b4⟩, HP.out.2⟩
        clear hz hps hs0 b4 HP HSS HSB HS z0 z1 z2 z3 z4 z5
        by_cases hmx : 1073741824 < am
        ·have d1 : decide (1073741824 < am) = true := decide_eq_true hmx
         have HB : Hid (mayB u next = false) := by
          have h2 : madeN (u.rs.take (i + 1)) ≤ madeN u.rs := List.Sublist.countP_le (List.take_sublist _ _)
          rw [HST.out, if_pos HPS.out] at h2
          have h3 := HAM.out.2
          unfold Hid
          rw [HMB.out, decide_eq_false (p := madeN u.rs = 0) (by omega), decide_eq_false (p := next ≤ 1073741824 - (madeN u.rs : Int) + 1) (by omega)]
          rfl
         clear hmx
         go_wp2_with (first
          | (refine wpList_load_row (by rfl) 31 _ (by rfl) B8 _ (by rfl) (kept P4.out.1.2.2 PY.out.2.2.2.2.2) _ Tryz.underlying31 rfl 6 Tryz.infoZu (by rfl) ?_)
          | (refine wpList_store_row (by rfl) 31 _ _ (by rfl) w w.heap.size (w.heap.size + 1) #[.int .i64 n0, .slice none 0 0, .slice none 0 0, .slice none 0 0, .slice none 0 0, .bool true] _ (by rfl) (by rfl) (kept P4.out.1.2.2 PY.out.2.2.1) (to_call PY.out.1 P4.out.1.2.2) (by omega) 6 Tryz.infoZu (by rfl) (by rfl) (oneZ _ _ _ _ _ rfl rfl rfl rfl _) ?_; intro W9 e9 b9 s9 o9))
         refine bodyPost_ret (res_ctJ _ 4 5 31 (by kernel_rfl) _ _ (w.heap.size + 1) _ _ (by rfl) (by rfl) _ Tryz.underlying31 rfl 6 Tryz.infoZu rfl e9) rfl ?_
         refine ⟨(⟨n0, none, 0, 0, none, 0, 0, none, 0, 0, none, 0, 0, true, [], [], fun _ => (none, 0, 0), [], []⟩ : ZD), next, ?_, ?_, ?_, ?_⟩
         ·rfl
         ·exact badU _ _
         ·exact ⟨.inr ⟨.inr HB.out, HN0.out, rfl, rfl, rfl, rfl, rfl, rfl⟩⟩
         ·exact b9
        ·have d1 : decide (1073741824 < am) = false := decide_eq_false hmx
         have ham0 : 0 ≤ am ∧ am ≤ 1073741824 := by have h2 := HAM.out.2; omega
         obtain ⟨z0, z1, z2, z3, z4, z5⟩ := cells6 (kept P4.out.1.2.2 PY.out.2.1)
         go_upto_region 19 with (go_at_call 29; refine Calls.mono (HZR.out _) ?_; rintro e w5 ⟨vz, rfl, o5, b5⟩; obtain ⟨za, zc, hvz, -⟩ := owns_slice o5; subst hvz)
         obtain ⟨gz, curz, hza, hgz, hzb, hzs, hzn⟩ := owns_setU (x := r) o5 h1 List.length_replicate
         subst hza
         obtain ⟨xb, xoff, hro, hxc⟩ := HRC.out
         have P5 : Hid ((w5.heap[D]? = some (.cells #[.int .i64 (u.rn : Int), vc, vi, vg, vr, .bool false] 31) ∧ OfL w5 Y.heap.size (u.cs.map plainW) (List.replicate u.rn 0) (u.ids ++ (lfS u.rn u.rs next i).1) ((u.gs.map (·.map plainW)) ++ (lfS u.rn u.rs next i).2.1) vc vr vi vg gl ∧ Below Y.heap.size Y w5)) := ⟨kept b5 P4.out.1.1, P4.out.1.2.1.later b5, to_call P4.out.1.2.2 b5⟩
         have zr4 : w5.cell? ⟨w.heap.size, 4, none⟩ = some (.slice u.ro u.rn u.rc) := cellAtJ (kept P5.out.2.2 PY.out.2.1) 4 _ rfl
         rw [hro] at zr4
         have zx := (P5.out.2.2.cell (World.block_lt_of_cell? _ _ hxc)).trans hxc
         have HZN : Hid _ := hzn
         have HB5 : Hid (Below w4.heap.size w4 w5) := b5
         clear z0 z1 z2 z3 z4 z5 b5 hro hxc hzn P5
         go_upto_region 20 with (refine wpList_store_at (by rfl) 40 _ _ (by rfl) w4 w4.heap.size gz i (.int .u64 (r : Int)) curz _ 40 (by rfl) (by rfl) hzb HB5.out hgz 1 Tryz.szU1 rfl hzs (oneI _ rfl) rfl ?_; intro w6 e6 b6 s6 k6)
         have P6 : Hid ((w6.heap[D]? = some (.cells #[.int .i64 (u.rn : Int), vc, vi, vg, vr, .bool false] 31) ∧ OfL w6 Y.heap.size (u.cs.map plainW) (List.replicate u.rn 0) (u.ids ++ (lfS u.rn u.rs next i).1) ((u.gs.map (·.map plainW)) ++ (lfS u.rn u.rs next i).2.1) vc vr vi vg gl ∧ Below Y.heap.size Y w6) ∧ w6.ownsRow Y.heap.size 40 1 (.slice (some ⟨gz, 0, none⟩) u.rn zc) u.rn (uJ (unitL u.rn i r))) := ⟨⟨kept b6 P4.out.1.1, P4.out.1.2.1.later b6, to_call P4.out.1.2.2 b6⟩, owns_monoJ (HZN.out w6 e6) P4.out.1.2.2.size⟩
         clear e6 b6 s6 k6 hzb hzs HZN HB5 hgz zr4 zx
         have HLI : Hid ((u.ids ++ (lfS u.rn u.rs next i).1).length + 1 ≤ 4000000) := by unfold Hid; have h2 := (lfS_len u.rn u.rs next i).1; have h3 := HIL.out.1; have h4 := HDG.out; rw [List.length_append]; omega
         have HLG : Hid (gl.length + 1 ≤ 4000000) := by unfold Hid; have h2 := (lfS_len u.rn u.rs next i); have h3 := HIL.out.2; have h5 := HDG.out; have h4 := P6.out.1.2.1.len; rw [List.length_append, List.length_map] at h4; omega
         obtain ⟨d0, d1', d2, d3, d4, d5⟩ := cells6 P6.out.1.1
         go_upto_region 21 with (first
          | (at_builtin; refine append_gsJ Tryz.underlying23 Tryz.infoIJ rfl (by decide) (by decide) _ (by rfl) _ _ (by rfl) Y.heap.size vi _ _ (by rfl) (World.ownsRow.alloc P6.out.1.2.1.i _) ⟨w6.heap.size, 0, none⟩ 1 1 [.int .i64 am] (by rfl) rfl (news_oneJ (heap_alloc_new w6 _)) (oneI _ rfl) HLI.out (by simp only [alloc_size]; have := P6.out.1.2.2.size; omega) ?_; intro v7 w7 o7 g7; have s7D := (grw_types (World.ownsRow.alloc P6.out.1.2.1.i _) g7 D _ _ (by decide) (alloc_kept P6.out.1.1 _)).trans (alloc_kept P6.out.1.1 _); have q7 : Below Y.heap.size Y w7 := (P6.out.1.2.2.alloc P6.out.1.2.2.size _).trans (g7.below (fun k hk => (World.ownsRow.lt P6.out.1.2.1.i k hk).1) (by simp only [alloc_size]; have := P6.out.1.2.2.size; omega)))
          | (refine wpList_store_at (by rfl) 23 _ _ (by rfl) Y Y.heap.size D 2 v7 _ #[.int .i64 (u.rn : Int), vc, v7, vg, vr, .bool false] 31 (by rfl) (by rfl) s7D q7 hDX 1 Tryz.szIs (by rw [(own_valJ o7).2]; rfl) (Nat.le_of_ble_eq_true rfl) (by intro u hu; rw [(own_valJ o7).2] at hu; simp only [List.mem_cons, List.not_mem_nil, or_false] at hu; subst hu; exact (own_valJ o7).1) (by rw [(own_valJ o7).2]; rfl) ?_; intro w8 e8 b8 s8 k8))
         have A7 : Below w6.heap.size w6 (w6.alloc (.cells #[.int .i64 am] 3)) := (Below.refl _ w6).alloc (Nat.le_refl _) _
         have L7 : OfL w7 Y.heap.size (u.cs.map plainW) (List.replicate u.rn 0) ((u.ids ++ (lfS u.rn u.rs next i).1) ++ [am]) ((u.gs.map (·.map plainW)) ++ (lfS u.rn u.rs next i).2.1) vc vr v7 vg gl := (P6.out.1.2.1.later A7).pushI g7 (by rw [List.map_append, List.length_append]; exact o7)
         have P8 : Hid ((w8.heap[D]? = some (.cells #[.int .i64 (u.rn : Int), vc, v7, vg, vr, .bool false] 31) ∧ OfL w8 Y.heap.size (u.cs.map plainW) (List.replicate u.rn 0) ((u.ids ++ (lfS u.rn u.rs next i).1) ++ [am]) ((u.gs.map (·.map plainW)) ++ (lfS u.rn u.rs next i).2.1) vc vr v7 vg gl ∧ Below Y.heap.size Y w8) ∧ w8.ownsRow Y.heap.size 40 1 (.slice (some ⟨gz, 0, none⟩) u.rn zc) u.rn (uJ (unitL u.rn i r))) := by
          refine ⟨⟨e8, L7.keep (w' := w8) fun k cur t ht hc => k8 k (by rintro rfl; rw [s7D] at hc; cases hc; exact ht rfl), b8⟩, ?_⟩
          have h7 : w7.ownsRow Y.heap.size 40 1 (.slice (some ⟨gz, 0, none⟩) u.rn zc) u.rn (uJ (unitL u.rn i r)) := owns_keepT (owns_keepT P6.out.2 fun k cur hc => A7.block k (blk_lt hc)) fun k cur hc => grw_types (World.ownsRow.alloc P6.out.1.2.1.i _) g7 k cur _ (by decide) hc
          exact owns_keepT h7 fun k cur hc => k8 k (by rintro rfl; rw [s7D] at hc; cases hc)
         clear e8 b8 s8 k8 o7 g7 s7D q7 A7 L7 P6 d0 d1' d2 d3 d4 d5
         obtain ⟨d0, d1', d2, d3, d4, d5⟩ := cells6 P8.out.1.1
         go_upto_region 22 with (first
          | (at_builtin; refine append_gsJ Tryz.underlying29 Tryz.infoUsJ rfl (by decide) (by decide) _ (by rfl) _ _ (by rfl) Y.heap.size vg _ _ (by rfl) (World.ownsRow.alloc P8.out.1.2.1.g _) ⟨w8.heap.size, 0, none⟩ 1 1 [.slice (some ⟨gz, 0, none⟩) u.rn zc] (by rfl) rfl (news_oneJ (heap_alloc_new w8 _)) (oneI _ rfl) HLG.out (by simp only [alloc_size]; have := P8.out.1.2.2.size; omega) ?_; intro v9 w9 o9 g9; have s9D := (grw_types (World.ownsRow.alloc P8.out.1.2.1.g _) g9 D _ _ (by decide) (alloc_kept P8.out.1.1 _)).trans (alloc_kept P8.out.1.1 _); have q9 : Below Y.heap.size Y w9 := (P8.out.1.2.2.alloc P8.out.1.2.2.size _).trans (g9.below (fun k hk => (World.ownsRow.lt P8.out.1.2.1.g k hk).1) (by simp only [alloc_size]; have := P8.out.1.2.2.size; omega)))
          | (refine wpList_store_at (by rfl) 29 _ _ (by rfl) Y Y.heap.size D 3 v9 _ #[.int .i64 (u.rn : Int), vc, v7, v9, vr, .bool false] 31 (by rfl) (by rfl) s9D q9 hDX 1 Tryz.szUss (by rw [(own_valJ o9).2]; rfl) (Nat.le_of_ble_eq_true rfl) (by intro u hu; rw [(own_valJ o9).2] at hu; simp only [List.mem_cons, List.not_mem_nil, or_false] at hu; subst hu; exact (own_valJ o9).1) (by rw [(own_valJ o9).2]; rfl) ?_; intro wa ea ba sa ka))
         have A9 : Below w8.heap.size w8 (w8.alloc (.cells #[.slice (some ⟨gz, 0, none⟩) u.rn zc] 28)) := (Below.refl _ w8).alloc (Nat.le_refl _) _
         have L9 := (P8.out.1.2.1.later A9).pushG (us := unitL u.rn i r) g9 o9 (by have e : (unitL u.rn i r).length = u.rn := axL_len _ _ _; rw [e]; exact owns_keepT P8.out.2 fun k cur hc => A9.block k (blk_lt hc))
         have HN : Hid ((wa.heap[D]? = some (.cells #[.int .i64 (u.rn : Int), vc, v7, v9, vr, .bool false] 31) ∧ OfL wa Y.heap.size (u.cs.map plainW) (List.replicate u.rn 0) (u.ids ++ (lfS u.rn u.rs next (i + 1)).1) ((u.gs.map (·.map plainW)) ++ (lfS u.rn u.rs next (i + 1)).2.1) vc vr v7 v9 (gl ++ [.slice (some ⟨gz, 0, none⟩) u.rn zc]) ∧ Below Y.heap.size Y wa) ∧ (madeN (u.rs.take (i + 1)) = 0 ∨ next + (madeN (u.rs.take (i + 1)) : Nat) ≤ 1073741825) ∧ (lfS u.rn u.rs next (i + 1)).2.2 = am + 1) := by
          have h3 := HAM.out.2
          rw [HLS.out, if_pos HPS.out, HST.out, if_pos HPS.out]
          dsimp only
          rw [← List.append_assoc, ← List.append_assoc]
          refine ⟨⟨ea, L9.keep (w' := wa) fun k cur t ht hc => ka k (by rintro rfl; rw [s9D] at hc; cases hc; exact ht rfl), ba⟩, .inr (by omega), rfl⟩
         clear ea ba sa ka o9 g9 s9D q9 A9 L9 P8 d0 d1' d2 d3 d4 d5 P4
         go_wp2_with fail
         go_roundg q
         case measure => omega
         case rel => exact ⟨i + 1, v7, v9, _, by go_num, by rw [HN.out.2.2], by have := HIG.out; omega, ⟨HN.out.1, HN.out.2.1⟩⟩
      ·have hd1 : decide ((i : Int) < (u.rn : Int)) = false := decide_eq_false (by omega)
       have ei : i = u.rn := by omega
       replace hnx := hnx (by omega)
       have HP3 : Hid (wr.heap[D]? = some (.cells #[.int .i64 (u.rn : Int), vc, vi, vg, vr, .bool false] 31) ∧ OfL wr Y.heap.size (u.cs.map plainW) (List.replicate u.rn 0) (u.ids ++ (lfS u.rn u.rs next u.rn).1) ((u.gs.map (·.map plainW)) ++ (lfS u.rn u.rs next u.rn).2.1) vc vr vi vg gl ∧ Below Y.heap.size Y wr) := by have h := HP.out.1; rw [ei] at h; exact h
       have HFN : Hid ((lfS u.rn u.rs next i).2.2 = next + (madeN u.rs : Nat) ∧ mayB u next = true) := by
        have h2 := HP.out.2
        rw [ei, List.take_of_length_le (by omega)] at h2
        rw [ei, List.take_of_length_le (by omega)] at hnx
        refine ⟨by rw [ei]; exact hnx, ?_⟩
        rw [HMB.out]
        rcases h2 with h2 | h2
        ·rw [decide_eq_true h2]; rfl
        ·rw [decide_eq_true (p := next ≤ 1073741824 - (madeN u.rs : Int) + 1) (by omega)]; simp
       rw [HFN.out.1]
       clear ei hnx HP hk
       go_wp2_with (first
        | (refine wpList_load_row (by rfl) 31 _ (by rfl) D _ (by rfl) HP3.out.1 _ Tryz.underlying31 rfl 6 Tryz.infoZu (by rfl) ?_)
        | (refine wpList_store_row (by rfl) 31 _ _ (by rfl) w w.heap.size (w.heap.size + 1) #[.int .i64 (u.rn : Int), vc, vi, vg, vr, .bool false] _ (by rfl) (by rfl) (kept HP3.out.2.2 PY.out.2.2.1) (to_call PY.out.1 HP3.out.2.2) (by omega) 6 Tryz.infoZu (by rfl) (by rfl) (oneZ _ _ _ _ _ (own_valJ HP3.out.2.1.c).1 (own_valJ HP3.out.2.1.i).1 (own_valJ HP3.out.2.1.g).1 (own_valJ HP3.out.2.1.r).1 _) ?_; intro W9 e9 b9 s9 o9))
       have L9 := HP3.out.2.1.keep (w' := W9) fun k cur t ht hc => o9 k (by rintro rfl; rw [kept HP3.out.2.2 PY.out.2.2.1] at hc; cases hc; exact ht rfl)
       obtain ⟨v, hv, hzu, v1, v2, v3, v4, v5, v6, -⟩ := L9.zu (u.rn : Int) false
       refine bodyPost_ret (res_ctJ _ 4 5 31 (by kernel_rfl) _ _ (w.heap.size + 1) _ _ (by rfl) (by rfl) _ Tryz.underlying31 rfl 6 Tryz.infoZu rfl e9) rfl ?_
       refine ⟨v, _, congrArg (fun r => Ending.returned (.tuple #[r, .int .i64 _])) hv, hzu, ?_, b9⟩
       exact ⟨.inl ⟨HG.out.1, HFN.out.2, by rw [v1, HF.out.N], v2, v3, v4, v5, v6, rfl⟩⟩
end Go.Proofs.YtjeghdmclmelfaaGreat
