import Derived.Test.YtjeghdmclmelfaaGreatJXp
import Derived.Test.YtjeghdmclmelfaaGreatGJh
namespace Go.Proofs.YtjeghdmclmelfaaGreat
open Go.RowKit Go.Shelf
set_option linter.unusedVariables false
set_option linter.unusedSimpArgs false
theorem LdR.zw {W : World} {base : Nat} {z x : ZD} (h : LdR W base z x) (hz : ZR W z) (hw : ZW z) : ZW x := by
 have e := h.sm hz
 obtain ⟨g1, c1, _, c3⟩ := h.c
 obtain ⟨g2, r1, _, r3⟩ := h.r
 obtain ⟨g3, i1, _, i3⟩ := h.i
 refine ⟨fun h0 => ?_, fun h0 => ?_, fun h0 => ?_, fun k hk h0 => ?_, ?_, ?_, ?_, ?_, fun k hk => ?_⟩
 ·rw [c1] at h0; cases h0
 ·rw [i1] at h0; cases h0
 ·rw [r1] at h0; cases h0
 ·obtain ⟨b, hb, _⟩ := h.col k hk
  have e1 : (x.gv k).1 = some ⟨b, 0, none⟩ := congrArg Prod.fst hb
  rw [e1] at h0; cases h0
 ·rw [e.cn]; exact hw.cl
 ·rw [e.dn]; exact hw.il
 ·rw [e.gn]; exact hw.gl
 ·rw [e.rn]; exact hw.rl
 ·obtain ⟨b, hb, _⟩ := h.col k hk
  have e2 : (x.gv k).2.1 = (x.gs[k]?.getD []).length := congrArg (fun p => p.2.1) hb
  rw [e.gn] at hk
  rw [e2, e.gs, (hz.g.each k hk).length]
  exact hw.coll k hk
theorem wrapJ (x : Int) (h0 : -1 ≤ x) (h1 : x ≤ 9223372036854775807) : IntKind.i64.wrap x = x := by
 rw [IntKind.wrap_i64]; omega
theorem ZR.drewJ {W : World} {x : ZD} (h : ZR W x) : ZR W.drew x := h.later ((Below.refl _ W).drew)
theorem Tryz.szFlo : (Tryz.prog.info? 37).map (·.size) = some 1 := by kernel_rfl
theorem lsV_short {x : ZD} (h : ZW x) : ∀ v ∈ lsV x, ∀ a n c, v = .slice a n c → n ≤ 1050000 := by
 intro v hv a n c hn
 unfold lsV gvL at hv
 rcases List.mem_append.1 hv with hv | hv
 ·simp only [List.mem_cons, List.not_mem_nil, or_false] at hv
  rcases hv with rfl | rfl
  ·have := (Value.slice.inj hn).2.1; have := h.cl; omega
  ·have := (Value.slice.inj hn).2.1; have := h.rl; omega
 ·obtain ⟨j, hj, rfl⟩ := List.mem_map.1 hv
  have := (Value.slice.inj hn).2.1
  have := h.coll j (List.mem_range.1 hj)
  omega
set_option maxRecDepth 100000 in
set_option maxHeartbeats 8000000 in
theorem zonoAgain_walk (z : ZD) (dO : Option Addr) (dl dcap : Nat) (ds : List Nat) (next : Int) (aO : Option Addr) (al ac : Nat) (ats : List Int) (tO : Option Addr) (tl tc : Nat) (tos : List Nat) (w : World) (hz : ZR w z) (hw : ZW z) (hdn : z.dn ≤ 1048576) (hds : RdF w dO dl dcap ds) (hdl : dl ≤ 1050000) (hnx : -9223372036854775808 ≤ next ∧ next < 9223372036854775808) (hat : RdIs w aO al ac ats) (hto : RdF w tO tl tc tos) (hal : al ≤ 1050000) (htl : tl ≤ 1050000) :
  Calls Tryz.prog 3 #[.agg (zRow z), .slice dO dl dcap, .int .i64 next, .slice aO al ac, .slice tO tl tc] w fun e w' => e = .returned (.bool true) ∧ Below w.heap.size w w' := by
 have HLA : Hid (∀ W', Below w.heap.size w W' → _) := fun W' hb => laid_any z W' (hz.later hb) hw
 have HDS : Hid (∀ W', Below w.heap.size w W' → RdF W' dO dl dcap ds) := fun W' hb => hds.later hb
 have HAT : Hid (∀ W', Below w.heap.size w W' → RdIs W' aO al ac ats) := fun W' hb => hat.later hb
 have HTO : Hid (∀ W', Below w.heap.size w W' → RdF W' tO tl tc tos) := fun W' hb => hto.later hb
 have HZ : Hid (ZR w z ∧ ZW z ∧ z.dn ≤ 1048576) := ⟨hz, hw, hdn⟩
 have HDL : Hid (dl ≤ 1050000 ∧ ds.length = dl) := ⟨hdl, hds.length⟩
 have H64 : Hid (∀ x ∈ ds, x < 18446744073709551616) := hds.lt
 have HNX : Hid (-9223372036854775808 ≤ next ∧ next < 9223372036854775808) := hnx
 unfold zRow at HLA ⊢
 clear hz hw hdn hds hdl hnx hat hto
 have X0 : Below w.heap.size w (w.alloc (.cells #[.int .i64 z.N, .slice z.co z.cn z.cc, .slice z.io z.dn z.dc, .slice z.go z.gn z.gc, .slice z.ro z.rn z.rc, .bool z.bad] 26)) := (Below.refl _ w).alloc (Nat.le_refl _) _
 have Y0 : (w.alloc (.cells #[.int .i64 z.N, .slice z.co z.cn z.cc, .slice z.io z.dn z.dc, .slice z.go z.gn z.gc, .slice z.ro z.rn z.rc, .bool z.bad] 26)).heap[w.heap.size]? = some (.cells #[.int .i64 z.N, .slice z.co z.cn z.cc, .slice z.io z.dn z.dc, .slice z.go z.gn z.gc, .slice z.ro z.rn z.rc, .bool z.bad] 26) := heap_alloc_new w _
 have HX : Hid _ := And.intro X0 Y0
 clear X0 Y0
 go_enter Tryz.func3, Tryz.ntmps3
 go_upto_region 2 with (first
  | (refine wpList_load_row (by rfl) 26 _ (by rfl) w.heap.size _ (by rfl) HX.out.2 _ Tryz.underlying26 rfl 6 Tryz.infoZ (by rfl) ?_)
  | (go_at_call 4; refine Calls.mono (HLA.out _ HX.out.1) ?_; rintro e w2 ⟨x0, rfl, hx, b2⟩))
 have A2 : Below w2.heap.size w2 (w2.alloc (.cells #[.int .i64 x0.N, .slice x0.co x0.cn x0.cc, .slice x0.io x0.dn x0.dc, .slice x0.go x0.gn x0.gc, .slice x0.ro x0.rn x0.rc, .bool x0.bad] 26)) := (Below.refl _ w2).alloc (Nat.le_refl _) _
 have P2 : Hid ((w2.alloc (.cells #[.int .i64 x0.N, .slice x0.co x0.cn x0.cc, .slice x0.io x0.dn x0.dc, .slice x0.go x0.gn x0.gc, .slice x0.ro x0.rn x0.rc, .bool x0.bad] 26)).heap[w2.heap.size]? = some (.cells #[.int .i64 x0.N, .slice x0.co x0.cn x0.cc, .slice x0.io x0.dn x0.dc, .slice x0.go x0.gn x0.gc, .slice x0.ro x0.rn x0.rc, .bool x0.bad] 26) ∧ ZR (w2.alloc (.cells #[.int .i64 x0.N, .slice x0.co x0.cn x0.cc, .slice x0.io x0.dn x0.dc, .slice x0.go x0.gn x0.gc, .slice x0.ro x0.rn x0.rc, .bool x0.bad] 26)) x0 ∧ InZ (w2.alloc (.cells #[.int .i64 x0.N, .slice x0.co x0.cn x0.cc, .slice x0.io x0.dn x0.dc, .slice x0.go x0.gn x0.gc, .slice x0.ro x0.rn x0.rc, .bool x0.bad] 26)) w.heap.size x0 ∧ ZW x0 ∧ x0.dn ≤ 1048576 ∧ x0.go ≠ none ∧ Below w.heap.size w (w2.alloc (.cells #[.int .i64 x0.N, .slice x0.co x0.cn x0.cc, .slice x0.io x0.dn x0.dc, .slice x0.go x0.gn x0.gc, .slice x0.ro x0.rn x0.rc, .bool x0.bad] 26))) := ⟨heap_alloc_new w2 _, hx.zr.later A2, (hx.inZ.later A2).mono (by simp only [alloc_size]; omega), hx.zw ((HZ.out.1.later HX.out.1).later b2) HZ.out.2.1, by rw [(hx.sm (HZ.out.1)).dn]; exact HZ.out.2.2, hx.noG, to_call (to_call HX.out.1 b2) A2⟩
 obtain ⟨X2, hX2⟩ : ∃ X2, w2.alloc (.cells #[.int .i64 x0.N, .slice x0.co x0.cn x0.cc, .slice x0.io x0.dn x0.dc, .slice x0.go x0.gn x0.gc, .slice x0.ro x0.rn x0.rc, .bool x0.bad] 26) = X2 := ⟨_, rfl⟩
 obtain ⟨B11, hB11⟩ : ∃ B11, w2.heap.size = B11 := ⟨_, rfl⟩
 rw [hX2, hB11] at P2
 rw [hX2, hB11]
 clear hX2 hB11 A2 b2 hx HX HLA
 go_wp2_with fail
 go_loopg [12] (al + 1) (fun q v12 wx => ∃ (i : Nat) (x : ZD), v12 = .int .i64 i ∧ i + q = al + 1 ∧ Hid (wx.heap[B11]? = some (.cells #[.int .i64 x.N, .slice x.co x.cn x.cc, .slice x.io x.dn x.dc, .slice x.go x.gn x.gc, .slice x.ro x.rn x.rc, .bool x.bad] 26) ∧ ZR wx x ∧ InZ wx w.heap.size x ∧ ZW x ∧ x.dn ≤ 1048576 ∧ x.go ≠ none ∧ Below w.heap.size w wx))
 case atStart => exact ⟨0, x0, rfl, by omega, P2⟩
 case round =>
  obtain ⟨i, x, rfl, hk, HP⟩ := hrel
  clear P2
  by_cases h1 : i ≤ al
  ·have d1 : decide ((i : Int) ≤ (al : Int)) = true := decide_eq_true (by omega)
   by_cases h2 : i < 6
   ·have d2 : decide ((i : Int) < 6) = true := decide_eq_true (by omega)
    obtain ⟨q, rfl⟩ : ∃ q, gk = q + 1 := ⟨gk - 1, by omega⟩
    have HIG : Hid _ := hk
    have HOF : Hid (∀ W', Below wr.heap.size wr W' → _) := fun W' hb => ofU x W' (HP.out.2.1.later hb) HP.out.2.2.2.1
    unfold zRow at HOF
    clear hk
    go_upto_region 6 with (first
     | (refine wpList_load_row (by rfl) 26 _ (by rfl) B11 _ (by rfl) HP.out.1 _ Tryz.underlying26 rfl 6 Tryz.infoZ (by rfl) ?_)
     | (go_at_call 5; refine Calls.mono (HOF.out _ (Below.refl _ _)) ?_; rintro e w1 ⟨u, rfl, hu, hsm, b1⟩))
    have A1 : Below w1.heap.size w1 (w1.alloc (.cells #[.int .i64 u.N, .slice u.co u.cn u.cc, .slice u.io u.dn u.dc, .slice u.go u.gn u.gc, .slice u.ro u.rn u.rc, .bool u.bad] 31)) := (Below.refl _ w1).alloc (Nat.le_refl _) _
    have bb1 := to_call b1 A1
    have P3 : Hid (((w1.alloc (.cells #[.int .i64 u.N, .slice u.co u.cn u.cc, .slice u.io u.dn u.dc, .slice u.go u.gn u.gc, .slice u.ro u.rn u.rc, .bool u.bad] 31)).heap[B11]? = some (.cells #[.int .i64 x.N, .slice x.co x.cn x.cc, .slice x.io x.dn x.dc, .slice x.go x.gn x.gc, .slice x.ro x.rn x.rc, .bool x.bad] 26) ∧ ZR (w1.alloc (.cells #[.int .i64 u.N, .slice u.co u.cn u.cc, .slice u.io u.dn u.dc, .slice u.go u.gn u.gc, .slice u.ro u.rn u.rc, .bool u.bad] 31)) x ∧ InZ (w1.alloc (.cells #[.int .i64 u.N, .slice u.co u.cn u.cc, .slice u.io u.dn u.dc, .slice u.go u.gn u.gc, .slice u.ro u.rn u.rc, .bool u.bad] 31)) w.heap.size x ∧ ZW x ∧ x.dn ≤ 1048576 ∧ x.go ≠ none ∧ Below w.heap.size w (w1.alloc (.cells #[.int .i64 u.N, .slice u.co u.cn u.cc, .slice u.io u.dn u.dc, .slice u.go u.gn u.gc, .slice u.ro u.rn u.rc, .bool u.bad] 31))) ∧ (w1.alloc (.cells #[.int .i64 u.N, .slice u.co u.cn u.cc, .slice u.io u.dn u.dc, .slice u.go u.gn u.gc, .slice u.ro u.rn u.rc, .bool u.bad] 31)).heap[w1.heap.size]? = some (.cells #[.int .i64 u.N, .slice u.co u.cn u.cc, .slice u.io u.dn u.dc, .slice u.go u.gn u.gc, .slice u.ro u.rn u.rc, .bool u.bad] 31) ∧ ZU (w1.alloc (.cells #[.int .i64 u.N, .slice u.co u.cn u.cc, .slice u.io u.dn u.dc, .slice u.go u.gn u.gc, .slice u.ro u.rn u.rc, .bool u.bad] 31)) u) := ⟨⟨kept bb1 HP.out.1, HP.out.2.1.later bb1, HP.out.2.2.1.later bb1, HP.out.2.2.2.1, HP.out.2.2.2.2.1, HP.out.2.2.2.2.2.1, to_call HP.out.2.2.2.2.2.2 bb1⟩, heap_alloc_new w1 _, hu.later A1⟩
    have HSXU : Hid (SmZ u x) := hsm
    obtain ⟨X3, hX3⟩ : ∃ X3, w1.alloc (.cells #[.int .i64 u.N, .slice u.co u.cn u.cc, .slice u.io u.dn u.dc, .slice u.go u.gn u.gc, .slice u.ro u.rn u.rc, .bool u.bad] 31) = X3 := ⟨_, rfl⟩
    obtain ⟨B13, hB13⟩ : ∃ B13, w1.heap.size = B13 := ⟨_, rfl⟩
    rw [hX3, hB13] at P3
    rw [hX3, hB13]
    clear hX3 hB13 A1 b1 bb1 hu hsm HOF HP
    have hxd : x.dn ≤ 1049000 := by have := P3.out.1.2.2.2.2.1; omega
    have huw : UW u := SmZ.uw HSXU.out P3.out.1.2.1 P3.out.1.2.2.2.1 P3.out.2.2
    have HLX : Hid (∀ W', Below X3.heap.size X3 W' → _) := fun W' hb => liftA_any x next W' (P3.out.1.2.1.later hb) hxd HNX.out
    have HLD : Hid (∀ W', Below X3.heap.size X3 W' → _) := fun W' hb => refLift_any u next W' (P3.out.2.2.later hb) huw (by rw [HSXU.out.dn]; exact hxd) HNX.out
    have HS : Hid (∀ W', Below X3.heap.size X3 W' → _) := fun W' hb => supportA_any x dO dl dcap ds W' (P3.out.1.2.1.later hb) (by omega) (HDS.out W' (to_call P3.out.1.2.2.2.2.2.2 hb))
    have HBT : Hid (∀ W', Below X3.heap.size X3 W' → _) := fun W' hb => bits10_any dO dl dcap ds W' (HDS.out W' (to_call P3.out.1.2.2.2.2.2.2 hb)) HDL.out.1
    have HSD : Hid (∀ (ao : Option Addr) (len cap : Nat) W', Below X3.heap.size X3 W' → RdUs W' ao len cap ds → _) := fun ao len cap W' hb hr => refSupport_any u ao len cap ds W' (P3.out.2.2.later hb) huw hr H64.out (by rw [← hr.length, HDL.out.2]; exact HDL.out.1)
    have HB : Hid (∀ W', Below X3.heap.size X3 W' → _) := fun W' hb => boundsR_any x W' (P3.out.1.2.1.later hb) (by omega)
    have HBD : Hid (∀ W', Below X3.heap.size X3 W' → _) := fun W' hb => boundsD_any u W' (P3.out.2.2.later hb) huw
    have HSB : Hid (∀ W' (v1 v2 : Value), BdR W' x v1 → BdD W' u v2 → _) := fun W' v1 v2 h k => sameB_any x u v1 v2 W' X3 h k P3.out.1.2.1 (by omega) HSXU.out
    have HBP : Hid (∀ W', Below X3.heap.size X3 W' → _) := fun W' hb => boxZ_any x W' (P3.out.1.2.1.later hb) (by omega)
    have HBU : Hid (∀ W', Below X3.heap.size X3 W' → _) := fun W' hb => refBox_any u W' (P3.out.2.2.later hb) huw
    have HDO : Hid (ZR X3 x ∧ x.dn ≤ 1050000) := ⟨P3.out.1.2.1, by omega⟩
    have HSC : Hid (∀ (b c : ZD) W', ZR W' b → BxR x b → ZU W' c → BxD u c → Calls Tryz.prog 11 #[.agg (zRow b), .agg (zRow c)] W' fun e w' => e = .returned (.bool true) ∧ Below W'.heap.size W' w') := fun b c W' hb hr hc hd => by
     have h := refSameZ_any b c W' hb hc
     rw [BxR.doc hr hd HDO.out.1 HDO.out.2 HSXU.out] at h
     exact h
    unfold zRow at HLX HLD HS HSD HB HBD HBP HBU HSC
    clear hxd huw
    go_wp2_with fail
    go_loopg [14] 2 (fun r v14 wy => ∃ k : Nat, v14 = .int .i64 k ∧ k + r = 2 ∧ Hid (Below X3.heap.size X3 wy))
    case atStart => exact ⟨0, rfl, by omega, Below.refl _ _⟩
    case round =>
     obtain ⟨k, rfl, hk2, HY⟩ := hrel
     by_cases hlt : k < 2
     ·have d3 : decide ((k : Int) < 2) = true := decide_eq_true (by omega)
      obtain ⟨r, rfl⟩ : ∃ r, gk = r + 1 := ⟨gk - 1, by omega⟩
      have HIK : Hid _ := hk2
      clear hk2
      go_upto_region 10 with (first
       | (refine wpList_load_row (by rfl) 26 _ (by rfl) B11 _ (by rfl) (kept HY.out P3.out.1.1) _ Tryz.underlying26 rfl 6 Tryz.infoZ (by rfl) ?_)
       | (go_at_call 6; refine Calls.mono (HLX.out _ HY.out) ?_; rintro e w3 ⟨y, n, rfl, hzy, hly, b3⟩))
      have A3 : Below w3.heap.size w3 (w3.alloc (.cells #[.int .i64 y.N, .slice y.co y.cn y.cc, .slice y.io y.dn y.dc, .slice y.go y.gn y.gc, .slice y.ro y.rn y.rc, .bool y.bad] 26)) := (Below.refl _ w3).alloc (Nat.le_refl _) _
      have P4 : Hid (Below X3.heap.size X3 (w3.alloc (.cells #[.int .i64 y.N, .slice y.co y.cn y.cc, .slice y.io y.dn y.dc, .slice y.go y.gn y.gc, .slice y.ro y.rn y.rc, .bool y.bad] 26)) ∧ (w3.alloc (.cells #[.int .i64 y.N, .slice y.co y.cn y.cc, .slice y.io y.dn y.dc, .slice y.go y.gn y.gc, .slice y.ro y.rn y.rc, .bool y.bad] 26)).heap[w3.heap.size]? = some (.cells #[.int .i64 y.N, .slice y.co y.cn y.cc, .slice y.io y.dn y.dc, .slice y.go y.gn y.gc, .slice y.ro y.rn y.rc, .bool y.bad] 26) ∧ ZR (w3.alloc (.cells #[.int .i64 y.N, .slice y.co y.cn y.cc, .slice y.io y.dn y.dc, .slice y.go y.gn y.gc, .slice y.ro y.rn y.rc, .bool y.bad] 26)) y ∧ LfA x next y n) := ⟨to_call (to_call HY.out b3) A3, heap_alloc_new w3 _, hzy.later A3, hly⟩
      obtain ⟨X4, hX4⟩ : ∃ X4, w3.alloc (.cells #[.int .i64 y.N, .slice y.co y.cn y.cc, .slice y.io y.dn y.dc, .slice y.go y.gn y.gc, .slice y.ro y.rn y.rc, .bool y.bad] 26) = X4 := ⟨_, rfl⟩
      obtain ⟨B15, hB15⟩ : ∃ B15, w3.heap.size = B15 := ⟨_, rfl⟩
      rw [hX4, hB15] at P4
      rw [hX4, hB15]
      clear hX4 hB15 A3 b3 hzy hly HLX HY
      go_upto_region 11 with (first
       | (refine wpList_load_row (by rfl) 31 _ (by rfl) B13 _ (by rfl) (kept P4.out.1 P3.out.2.1) _ Tryz.underlying31 rfl 6 Tryz.infoZu (by rfl) ?_)
       | (go_at_call 7; refine Calls.mono (HLD.out _ P4.out.1) ?_; rintro e w4 ⟨v, m, rfl, hzv, hlv, b4⟩))
      obtain ⟨hmn, hbit⟩ := LfA.doc P4.out.2.2.2 hlv HDO.out.1 HDO.out.2 HSXU.out
      subst hmn
      have A4 : Below w4.heap.size w4 (w4.alloc (.cells #[.int .i64 v.N, .slice v.co v.cn v.cc, .slice v.io v.dn v.dc, .slice v.go v.gn v.gc, .slice v.ro v.rn v.rc, .bool v.bad] 31)) := (Below.refl _ w4).alloc (Nat.le_refl _) _
      have b34 := to_call b4 A4
      have P5 : Hid (Below X3.heap.size X3 (w4.alloc (.cells #[.int .i64 v.N, .slice v.co v.cn v.cc, .slice v.io v.dn v.dc, .slice v.go v.gn v.gc, .slice v.ro v.rn v.rc, .bool v.bad] 31)) ∧ (w4.alloc (.cells #[.int .i64 v.N, .slice v.co v.cn v.cc, .slice v.io v.dn v.dc, .slice v.go v.gn v.gc, .slice v.ro v.rn v.rc, .bool v.bad] 31)).heap[w4.heap.size]? = some (.cells #[.int .i64 v.N, .slice v.co v.cn v.cc, .slice v.io v.dn v.dc, .slice v.go v.gn v.gc, .slice v.ro v.rn v.rc, .bool v.bad] 31) ∧ (w4.alloc (.cells #[.int .i64 v.N, .slice v.co v.cn v.cc, .slice v.io v.dn v.dc, .slice v.go v.gn v.gc, .slice v.ro v.rn v.rc, .bool v.bad] 31)).heap[B15]? = some (.cells #[.int .i64 y.N, .slice y.co y.cn y.cc, .slice y.io y.dn y.dc, .slice y.go y.gn y.gc, .slice y.ro y.rn y.rc, .bool y.bad] 26) ∧ ZR (w4.alloc (.cells #[.int .i64 v.N, .slice v.co v.cn v.cc, .slice v.io v.dn v.dc, .slice v.go v.gn v.gc, .slice v.ro v.rn v.rc, .bool v.bad] 31)) y ∧ ZU (w4.alloc (.cells #[.int .i64 v.N, .slice v.co v.cn v.cc, .slice v.io v.dn v.dc, .slice v.go v.gn v.gc, .slice v.ro v.rn v.rc, .bool v.bad] 31)) v ∧ bitsB y v = true) := ⟨to_call P4.out.1 b34, heap_alloc_new w4 _, kept b34 P4.out.2.1, P4.out.2.2.1.later b34, hzv.later A4, hbit⟩
      obtain ⟨X5, hX5⟩ : ∃ X5, w4.alloc (.cells #[.int .i64 v.N, .slice v.co v.cn v.cc, .slice v.io v.dn v.dc, .slice v.go v.gn v.gc, .slice v.ro v.rn v.rc, .bool v.bad] 31) = X5 := ⟨_, rfl⟩
      obtain ⟨B17, hB17⟩ : ∃ B17, w4.heap.size = B17 := ⟨_, rfl⟩
      rw [hX5, hB17] at P5
      rw [hX5, hB17]
      clear hX5 hB17 A4 b34 b4 hzv hlv hbit HLD P4
      go_upto_region 12 with (first
       | (refine wpList_load_row (by rfl) 26 _ (by rfl) B11 _ (by rfl) (kept P5.out.1 P3.out.1.1) _ Tryz.underlying26 rfl 6 Tryz.infoZ (by rfl) ?_)
       | (go_at_call 8; refine Calls.mono (HS.out _ P5.out.1) ?_; rintro e W5 ⟨s, ok, rfl, hs1, b5⟩; have sup1 : Hid (SupA x ds s ok) := hs1; clear hs1))
      have Q5 : Hid (Below X5.heap.size X5 W5) := b5
      clear b5 HS
      have SX : (fun V => V.heap[B11]? = some (.cells #[.int .i64 x.N, .slice x.co x.cn x.cc, .slice x.io x.dn x.dc, .slice x.go x.gn x.gc, .slice x.ro x.rn x.rc, .bool x.bad] 26) ∧ V.heap[B13]? = some (.cells #[.int .i64 u.N, .slice u.co u.cn u.cc, .slice u.io u.dn u.dc, .slice u.go u.gn u.gc, .slice u.ro u.rn u.rc, .bool u.bad] 31)) W5.drew := ⟨kept (to_call P5.out.1 Q5.out).drew P3.out.1.1, kept (to_call P5.out.1 Q5.out).drew P3.out.2.1⟩
      have qV : Below X3.heap.size X3 W5.drew := (to_call P5.out.1 Q5.out).drew
      have BV : Below X5.heap.size X5 W5.drew := Q5.out.drew
      refine wp_region_noPanic ?_
      refine wp_region_held_drew (S := (fun V => V.heap[B11]? = some (.cells #[.int .i64 x.N, .slice x.co x.cn x.cc, .slice x.io x.dn x.dc, .slice x.go x.gn x.gc, .slice x.ro x.rn x.rc, .bool x.bad] 26) ∧ V.heap[B13]? = some (.cells #[.int .i64 u.N, .slice u.co u.cn u.cc, .slice u.io u.dn u.dc, .slice u.go u.gn u.gc, .slice u.ro u.rn u.rc, .bool u.bad] 31))) (by kernel_rfl) SX (fun _ => ?_)
      refine takeH 63 (i := 0) (v := .agg #[.int .i64 u.N, .slice u.co u.cn u.cc, .slice u.io u.dn u.dc, .slice u.go u.gn u.gc, .slice u.ro u.rn u.rc, .bool u.bad]) rfl rfl (by kernel_rfl) (by kernel_rfl) (by kernel_rfl) (fun _ _ _ h => h) (Or.inl ⟨by kernel_rfl, fun w' hSw => ex_loadRN _ 31 _ rfl B13 (by kernel_rfl) w' _ hSw.2 _ Tryz.underlying31 rfl 6 Tryz.infoZu rfl⟩) SX ?_
      try simp only [Act.put, List.setIfInBounds_toArray, List.set_cons_zero, List.set_cons_succ]
      refine takeH 64 (i := 1) (v := ?_) rfl rfl (by kernel_rfl) (by kernel_rfl) (by kernel_rfl) (fun _ _ _ h => h) (Or.inl ⟨by kernel_rfl, ?_⟩) SX ?_
      rotate_left
      ·intro w' hSw; go_simp; try with_reducible rfl
      try simp only [Act.put, List.setIfInBounds_toArray, List.set_cons_zero, List.set_cons_succ]
      refine wpAnyH_ready (rs := [2]) (by kernel_rfl) (by simp) ?_
      refine consH _ rfl (hopCd 65 rfl (by kernel_rfl) rfl (by kernel_rfl) (Calls.mono (HBT.out _ qV) ?_)) AllReadyH.nil
      rintro e V1 ⟨vb, rfl, ob, hb⟩
      obtain ⟨ba, bc, hvb, hrb⟩ := rdU_of ob
      subst hvb
      have qV1 : Below X3.heap.size X3 V1 := to_call qV hb
      have BV1 : Below X5.heap.size X5 V1 := to_call BV hb
      have SX : (fun V => V.heap[B11]? = some (.cells #[.int .i64 x.N, .slice x.co x.cn x.cc, .slice x.io x.dn x.dc, .slice x.go x.gn x.gc, .slice x.ro x.rn x.rc, .bool x.bad] 26) ∧ V.heap[B13]? = some (.cells #[.int .i64 u.N, .slice u.co u.cn u.cc, .slice u.io u.dn u.dc, .slice u.go u.gn u.gc, .slice u.ro u.rn u.rc, .bool u.bad] 31)) V1 := ⟨kept hb SX.1, kept hb SX.2⟩
      clear hb ob
      refine ⟨_, rfl, SX, ?_⟩
      try simp only [Act.put, List.setIfInBounds_toArray, List.set_cons_zero, List.set_cons_succ]
      refine wpAnyH_ready (rs := [3]) (by kernel_rfl) (by simp) ?_
      refine consH _ rfl (hopCd 66 rfl (by kernel_rfl) rfl (by kernel_rfl) (Calls.mono (HSD.out _ _ _ _ qV1 hrb) ?_)) AllReadyH.nil
      rintro e V2 ⟨rs2, ok2, rfl, hs2, hb⟩
      have qV2 : Below X3.heap.size X3 V2 := to_call qV1 hb
      have BV2 : Below X5.heap.size X5 V2 := to_call BV1 hb
      have SX : (fun V => V.heap[B11]? = some (.cells #[.int .i64 x.N, .slice x.co x.cn x.cc, .slice x.io x.dn x.dc, .slice x.go x.gn x.gc, .slice x.ro x.rn x.rc, .bool x.bad] 26) ∧ V.heap[B13]? = some (.cells #[.int .i64 u.N, .slice u.co u.cn u.cc, .slice u.io u.dn u.dc, .slice u.go u.gn u.gc, .slice u.ro u.rn u.rc, .bool u.bad] 31)) V2 := ⟨kept hb SX.1, kept hb SX.2⟩
      have sup2 : Hid (SupD u ds rs2 ok2) := hs2
      clear hb hs2 hrb
      refine ⟨_, rfl, SX, ?_⟩
      try simp only [Act.put, List.setIfInBounds_toArray, List.set_cons_zero, List.set_cons_succ]
      refine takeH 62 (i := 4) (v := ?_) rfl rfl (by kernel_rfl) (by kernel_rfl) (by kernel_rfl) (fun _ _ _ h => h) (Or.inl ⟨by kernel_rfl, ?_⟩) SX ?_
      rotate_left
      ·intro w' hSw; go_simp; try with_reducible rfl
      try simp only [Act.put, List.setIfInBounds_toArray, List.set_cons_zero, List.set_cons_succ]
      refine takeH 67 (i := 5) (v := ?_) rfl rfl (by kernel_rfl) (by kernel_rfl) (by kernel_rfl) (fun _ _ _ h => h) (Or.inl ⟨by kernel_rfl, ?_⟩) SX ?_
      rotate_left
      ·intro w' hSw; go_simp; try with_reducible rfl
      try simp only [Act.put, List.setIfInBounds_toArray, List.set_cons_zero, List.set_cons_succ]
      refine takeH 68 (i := 6) (v := ?_) rfl rfl (by kernel_rfl) (by kernel_rfl) (by kernel_rfl) (fun _ _ _ h => h) (Or.inl ⟨by kernel_rfl, ?_⟩) SX ?_
      rotate_left
      ·intro w' hSw; go_simp; try with_reducible rfl
      try simp only [Act.put, List.setIfInBounds_toArray, List.set_cons_zero, List.set_cons_succ]
      refine takeH 21 (i := 7) (v := ?_) rfl rfl (by kernel_rfl) (by kernel_rfl) (by kernel_rfl) (fun _ _ _ h => h) (Or.inl ⟨by kernel_rfl, ?_⟩) SX ?_
      rotate_left
      ·intro w' hSw; go_simp; try with_reducible rfl
      try simp only [Act.put, List.setIfInBounds_toArray, List.set_cons_zero, List.set_cons_succ]
      refine takeH 22 (i := 8) (v := ?_) rfl rfl (by kernel_rfl) (by kernel_rfl) (by kernel_rfl) (fun _ _ _ h => h) (Or.inl ⟨by kernel_rfl, ?_⟩) SX ?_
      rotate_left
      ·intro w' hSw; go_simp; try with_reducible rfl
      try simp only [Act.put, List.setIfInBounds_toArray, List.set_cons_zero, List.set_cons_succ]
      refine wpAnyH_done (by kernel_rfl) ?_ _
      refine NoPanic.normal ?_
      try simp only [Act.put, List.setIfInBounds_toArray, List.set_cons_zero, List.set_cons_succ]
      have Q6 : Hid (Below X3.heap.size X3 V2 ∧ Below X5.heap.size X5 V2) := ⟨qV2, BV2⟩
      have hag := SupA.doc sup1.out sup2.out HDO.out.1 HDO.out.2 HSXU.out
      obtain ⟨rfl, rfl⟩ := hag
      clear SX qV qV1 qV2 BV BV1 BV2 sup1 sup2 HBT HSD Q5
      have HSL : Hid (∀ W', Below X5.heap.size X5 W' → Calls Tryz.prog 11 #[.agg (zRow y), .agg (zRow v)] W' fun e w' => e = .returned (.bool true) ∧ Below W'.heap.size W' w') := fun W' hb => by
       have h := refSameZ_any y v W' (P5.out.2.2.2.1.later hb) (P5.out.2.2.2.2.1.later hb)
       rw [P5.out.2.2.2.2.2] at h
       exact h
      unfold zRow at HSL
      have n0 : (m != m) = false := by simp
      have n1 : (ok2 != ok2) = false := by simp
      have n2 : ((rs2 : Int) != (rs2 : Int)) = false := by simp
      go_upto_region 13 with fail
      have SX : (fun V => V.heap[B11]? = some (.cells #[.int .i64 x.N, .slice x.co x.cn x.cc, .slice x.io x.dn x.dc, .slice x.go x.gn x.gc, .slice x.ro x.rn x.rc, .bool x.bad] 26) ∧ V.heap[B13]? = some (.cells #[.int .i64 u.N, .slice u.co u.cn u.cc, .slice u.io u.dn u.dc, .slice u.go u.gn u.gc, .slice u.ro u.rn u.rc, .bool u.bad] 31) ∧ V.heap[B15]? = some (.cells #[.int .i64 y.N, .slice y.co y.cn y.cc, .slice y.io y.dn y.dc, .slice y.go y.gn y.gc, .slice y.ro y.rn y.rc, .bool y.bad] 26) ∧ V.heap[B17]? = some (.cells #[.int .i64 v.N, .slice v.co v.cn v.cc, .slice v.io v.dn v.dc, .slice v.go v.gn v.gc, .slice v.ro v.rn v.rc, .bool v.bad] 31)) V2.drew := ⟨kept Q6.out.1.drew P3.out.1.1, kept Q6.out.1.drew P3.out.2.1, kept Q6.out.2.drew P5.out.2.2.1, kept Q6.out.2.drew P5.out.2.1⟩
      have qV : Below X3.heap.size X3 V2.drew := Q6.out.1.drew
      have BV : Below X5.heap.size X5 V2.drew := Q6.out.2.drew
      clear Q6
      refine wp_region_noPanic ?_
      refine wp_region_held_drew (S := (fun V => V.heap[B11]? = some (.cells #[.int .i64 x.N, .slice x.co x.cn x.cc, .slice x.io x.dn x.dc, .slice x.go x.gn x.gc, .slice x.ro x.rn x.rc, .bool x.bad] 26) ∧ V.heap[B13]? = some (.cells #[.int .i64 u.N, .slice u.co u.cn u.cc, .slice u.io u.dn u.dc, .slice u.go u.gn u.gc, .slice u.ro u.rn u.rc, .bool u.bad] 31) ∧ V.heap[B15]? = some (.cells #[.int .i64 y.N, .slice y.co y.cn y.cc, .slice y.io y.dn y.dc, .slice y.go y.gn y.gc, .slice y.ro y.rn y.rc, .bool y.bad] 26) ∧ V.heap[B17]? = some (.cells #[.int .i64 v.N, .slice v.co v.cn v.cc, .slice v.io v.dn v.dc, .slice v.go v.gn v.gc, .slice v.ro v.rn v.rc, .bool v.bad] 31))) (by kernel_rfl) SX (fun _ => ?_)
      refine takeH 69 (i := 0) (v := ?_) rfl rfl (by kernel_rfl) (by kernel_rfl) (by kernel_rfl) (fun _ _ _ h => h) (Or.inl ⟨by kernel_rfl, ?_⟩) SX ?_
      rotate_left
      ·intro w' hSw; go_simp; try with_reducible rfl
      try simp only [Act.put, List.setIfInBounds_toArray, List.set_cons_zero, List.set_cons_succ]
      refine takeH 70 (i := 1) (v := ?_) rfl rfl (by kernel_rfl) (by kernel_rfl) (by kernel_rfl) (fun _ _ _ h => h) (Or.inl ⟨by kernel_rfl, ?_⟩) SX ?_
      rotate_left
      ·intro w' hSw; go_simp; try with_reducible rfl
      try simp only [Act.put, List.setIfInBounds_toArray, List.set_cons_zero, List.set_cons_succ]
      refine takeH 71 (i := 2) (v := ?_) rfl rfl (by kernel_rfl) (by kernel_rfl) (by kernel_rfl) (fun _ _ _ h => h) (Or.inl ⟨by kernel_rfl, ?_⟩) SX ?_
      rotate_left
      ·intro w' hSw; go_simp; try with_reducible rfl
      try simp only [Act.put, List.setIfInBounds_toArray, List.set_cons_zero, List.set_cons_succ]
      refine takeH 72 (i := 3) (v := ?_) rfl rfl (by kernel_rfl) (by kernel_rfl) (by kernel_rfl) (fun _ _ _ h => h) (Or.inl ⟨by kernel_rfl, ?_⟩) SX ?_
      rotate_left
      ·intro w' hSw; go_simp; try with_reducible rfl
      try simp only [Act.put, List.setIfInBounds_toArray, List.set_cons_zero, List.set_cons_succ]
      refine takeH 73 (i := 4) (v := .agg #[.int .i64 y.N, .slice y.co y.cn y.cc, .slice y.io y.dn y.dc, .slice y.go y.gn y.gc, .slice y.ro y.rn y.rc, .bool y.bad]) rfl rfl (by kernel_rfl) (by kernel_rfl) (by kernel_rfl) (fun _ _ _ h => h) (Or.inl ⟨by kernel_rfl, fun w' hSw => ex_loadRN _ 26 _ rfl B15 (by kernel_rfl) w' _ hSw.2.2.1 _ Tryz.underlying26 rfl 6 Tryz.infoZ rfl⟩) SX ?_
      try simp only [Act.put, List.setIfInBounds_toArray, List.set_cons_zero, List.set_cons_succ]
      refine takeH 74 (i := 5) (v := .agg #[.int .i64 v.N, .slice v.co v.cn v.cc, .slice v.io v.dn v.dc, .slice v.go v.gn v.gc, .slice v.ro v.rn v.rc, .bool v.bad]) rfl rfl (by kernel_rfl) (by kernel_rfl) (by kernel_rfl) (fun _ _ _ h => h) (Or.inl ⟨by kernel_rfl, fun w' hSw => ex_loadRN _ 31 _ rfl B17 (by kernel_rfl) w' _ hSw.2.2.2 _ Tryz.underlying31 rfl 6 Tryz.infoZu rfl⟩) SX ?_
      try simp only [Act.put, List.setIfInBounds_toArray, List.set_cons_zero, List.set_cons_succ]
      refine wpAnyH_ready (rs := [6]) (by kernel_rfl) (by simp) ?_
      refine consH _ rfl (hopCd 75 rfl (by kernel_rfl) rfl (by kernel_rfl) (Calls.mono (HSL.out _ BV) ?_)) AllReadyH.nil
      rintro e V1 ⟨rfl, hb⟩
      have qV1 : Below X3.heap.size X3 V1 := to_call qV hb
      have BV1 : Below X5.heap.size X5 V1 := to_call BV hb
      have SX : (fun V => V.heap[B11]? = some (.cells #[.int .i64 x.N, .slice x.co x.cn x.cc, .slice x.io x.dn x.dc, .slice x.go x.gn x.gc, .slice x.ro x.rn x.rc, .bool x.bad] 26) ∧ V.heap[B13]? = some (.cells #[.int .i64 u.N, .slice u.co u.cn u.cc, .slice u.io u.dn u.dc, .slice u.go u.gn u.gc, .slice u.ro u.rn u.rc, .bool u.bad] 31) ∧ V.heap[B15]? = some (.cells #[.int .i64 y.N, .slice y.co y.cn y.cc, .slice y.io y.dn y.dc, .slice y.go y.gn y.gc, .slice y.ro y.rn y.rc, .bool y.bad] 26) ∧ V.heap[B17]? = some (.cells #[.int .i64 v.N, .slice v.co v.cn v.cc, .slice v.io v.dn v.dc, .slice v.go v.gn v.gc, .slice v.ro v.rn v.rc, .bool v.bad] 31)) V1 := ⟨kept hb SX.1, kept hb SX.2.1, kept hb SX.2.2.1, kept hb SX.2.2.2⟩
      clear hb
      refine ⟨_, rfl, SX, ?_⟩
      try simp only [Act.put, List.setIfInBounds_toArray, List.set_cons_zero, List.set_cons_succ]
      refine takeH 76 (i := 7) (v := ?_) rfl rfl (by kernel_rfl) (by kernel_rfl) (by kernel_rfl) (fun _ _ _ h => h) (Or.inl ⟨by kernel_rfl, ?_⟩) SX ?_
      rotate_left
      ·intro w' hSw; go_simp; try with_reducible rfl
      try simp only [Act.put, List.setIfInBounds_toArray, List.set_cons_zero, List.set_cons_succ]
      refine takeH 77 (i := 8) (v := ?_) rfl rfl (by kernel_rfl) (by kernel_rfl) (by kernel_rfl) (fun _ _ _ h => h) (Or.inl ⟨by kernel_rfl, ?_⟩) SX ?_
      rotate_left
      ·intro w' hSw; go_simp; try with_reducible rfl
      try simp only [Act.put, List.setIfInBounds_toArray, List.set_cons_zero, List.set_cons_succ]
      refine takeH 78 (i := 9) (v := ?_) rfl rfl (by kernel_rfl) (by kernel_rfl) (by kernel_rfl) (fun _ _ _ h => h) (Or.inl ⟨by kernel_rfl, ?_⟩) SX ?_
      rotate_left
      ·intro w' hSw; go_simp; try with_reducible rfl
      try simp only [Act.put, List.setIfInBounds_toArray, List.set_cons_zero, List.set_cons_succ]
      refine takeH 79 (i := 10) (v := ?_) rfl rfl (by kernel_rfl) (by kernel_rfl) (by kernel_rfl) (fun _ _ _ h => h) (Or.inl ⟨by kernel_rfl, ?_⟩) SX ?_
      rotate_left
      ·intro w' hSw; go_simp; try with_reducible rfl
      try simp only [Act.put, List.setIfInBounds_toArray, List.set_cons_zero, List.set_cons_succ]
      refine takeH 80 (i := 11) (v := ?_) rfl rfl (by kernel_rfl) (by kernel_rfl) (by kernel_rfl) (fun _ _ _ h => h) (Or.inl ⟨by kernel_rfl, ?_⟩) SX ?_
      rotate_left
      ·intro w' hSw; go_simp; try with_reducible rfl
      try simp only [Act.put, List.setIfInBounds_toArray, List.set_cons_zero, List.set_cons_succ]
      refine takeH 81 (i := 12) (v := ?_) rfl rfl (by kernel_rfl) (by kernel_rfl) (by kernel_rfl) (fun _ _ _ h => h) (Or.inl ⟨by kernel_rfl, ?_⟩) SX ?_
      rotate_left
      ·intro w' hSw; go_simp; try with_reducible rfl
      try simp only [Act.put, List.setIfInBounds_toArray, List.set_cons_zero, List.set_cons_succ]
      refine takeH 82 (i := 13) (v := ?_) rfl rfl (by kernel_rfl) (by kernel_rfl) (by kernel_rfl) (fun _ _ _ h => h) (Or.inl ⟨by kernel_rfl, ?_⟩) SX ?_
      rotate_left
      ·intro w' hSw; go_simp; try with_reducible rfl
      try simp only [Act.put, List.setIfInBounds_toArray, List.set_cons_zero, List.set_cons_succ]
      refine takeH 83 (i := 14) (v := ?_) rfl rfl (by kernel_rfl) (by kernel_rfl) (by kernel_rfl) (fun _ _ _ h => h) (Or.inl ⟨by kernel_rfl, ?_⟩) SX ?_
      rotate_left
      ·intro w' hSw; go_simp; try with_reducible rfl
      try simp only [Act.put, List.setIfInBounds_toArray, List.set_cons_zero, List.set_cons_succ]
      refine takeH 84 (i := 15) (v := ?_) rfl rfl (by kernel_rfl) (by kernel_rfl) (by kernel_rfl) (fun _ _ _ h => h) (Or.inl ⟨by kernel_rfl, ?_⟩) SX ?_
      rotate_left
      ·intro w' hSw; go_simp; try with_reducible rfl
      try simp only [Act.put, List.setIfInBounds_toArray, List.set_cons_zero, List.set_cons_succ]
      refine takeH 86 (i := 17) (v := ?_) rfl rfl (by kernel_rfl) (by kernel_rfl) (by kernel_rfl) (fun _ _ _ h => h) (Or.inl ⟨by kernel_rfl, ?_⟩) SX ?_
      rotate_left
      ·intro w' hSw; go_simp; try with_reducible rfl
      try simp only [Act.put, List.setIfInBounds_toArray, List.set_cons_zero, List.set_cons_succ]
      refine wpAnyH_ready (rs := [16]) (by kernel_rfl) (by simp) ?_
      refine consH _ rfl (hopCd 85 rfl (by kernel_rfl) rfl (by kernel_rfl) (Calls.mono (apiBits_any rs2 _) ?_)) AllReadyH.nil
      rintro e V1' ⟨rfl, hw⟩
      rw [hw]
      clear hw
      refine ⟨_, rfl, SX, ?_⟩
      try simp only [Act.put, List.setIfInBounds_toArray, List.set_cons_zero, List.set_cons_succ]
      refine takeH 87 (i := 18) (v := ?_) rfl rfl (by kernel_rfl) (by kernel_rfl) (by kernel_rfl) (fun _ _ _ h => h) (Or.inl ⟨by kernel_rfl, ?_⟩) SX ?_
      rotate_left
      ·intro w' hSw; go_simp; try with_reducible rfl
      try simp only [Act.put, List.setIfInBounds_toArray, List.set_cons_zero, List.set_cons_succ]
      refine takeH 88 (i := 19) (v := ?_) rfl rfl (by kernel_rfl) (by kernel_rfl) (by kernel_rfl) (fun _ _ _ h => h) (Or.inl ⟨by kernel_rfl, ?_⟩) SX ?_
      rotate_left
      ·intro w' hSw; go_simp; try with_reducible rfl
      try simp only [Act.put, List.setIfInBounds_toArray, List.set_cons_zero, List.set_cons_succ]
      refine takeH 89 (i := 20) (v := ?_) rfl rfl (by kernel_rfl) (by kernel_rfl) (by kernel_rfl) (fun _ _ _ h => h) (Or.inl ⟨by kernel_rfl, ?_⟩) SX ?_
      rotate_left
      ·intro w' hSw; go_simp; try with_reducible rfl
      try simp only [Act.put, List.setIfInBounds_toArray, List.set_cons_zero, List.set_cons_succ]
      refine takeH 90 (i := 21) (v := .agg #[.int .i64 x.N, .slice x.co x.cn x.cc, .slice x.io x.dn x.dc, .slice x.go x.gn x.gc, .slice x.ro x.rn x.rc, .bool x.bad]) rfl rfl (by kernel_rfl) (by kernel_rfl) (by kernel_rfl) (fun _ _ _ h => h) (Or.inl ⟨by kernel_rfl, fun w' hSw => ex_loadRN _ 26 _ rfl B11 (by kernel_rfl) w' _ hSw.1 _ Tryz.underlying26 rfl 6 Tryz.infoZ rfl⟩) SX ?_
      try simp only [Act.put, List.setIfInBounds_toArray, List.set_cons_zero, List.set_cons_succ]
      refine takeH 92 (i := 23) (v := .agg #[.int .i64 u.N, .slice u.co u.cn u.cc, .slice u.io u.dn u.dc, .slice u.go u.gn u.gc, .slice u.ro u.rn u.rc, .bool u.bad]) rfl rfl (by kernel_rfl) (by kernel_rfl) (by kernel_rfl) (fun _ _ _ h => h) (Or.inl ⟨by kernel_rfl, fun w' hSw => ex_loadRN _ 31 _ rfl B13 (by kernel_rfl) w' _ hSw.2.1 _ Tryz.underlying31 rfl 6 Tryz.infoZu rfl⟩) SX ?_
      try simp only [Act.put, List.setIfInBounds_toArray, List.set_cons_zero, List.set_cons_succ]
      refine wpAnyH_ready (rs := [22]) (by kernel_rfl) (by simp) ?_
      refine consH _ rfl (hopCd 91 rfl (by kernel_rfl) rfl (by kernel_rfl) (Calls.mono (HB.out _ qV1) ?_)) AllReadyH.nil
      rintro e V2 ⟨vl, rfl, hbl, hb⟩
      have qV2 : Below X3.heap.size X3 V2 := to_call qV1 hb
      have BV2 : Below X5.heap.size X5 V2 := to_call BV1 hb
      have SX : (fun V => V.heap[B11]? = some (.cells #[.int .i64 x.N, .slice x.co x.cn x.cc, .slice x.io x.dn x.dc, .slice x.go x.gn x.gc, .slice x.ro x.rn x.rc, .bool x.bad] 26) ∧ V.heap[B13]? = some (.cells #[.int .i64 u.N, .slice u.co u.cn u.cc, .slice u.io u.dn u.dc, .slice u.go u.gn u.gc, .slice u.ro u.rn u.rc, .bool u.bad] 31) ∧ V.heap[B15]? = some (.cells #[.int .i64 y.N, .slice y.co y.cn y.cc, .slice y.io y.dn y.dc, .slice y.go y.gn y.gc, .slice y.ro y.rn y.rc, .bool y.bad] 26) ∧ V.heap[B17]? = some (.cells #[.int .i64 v.N, .slice v.co v.cn v.cc, .slice v.io v.dn v.dc, .slice v.go v.gn v.gc, .slice v.ro v.rn v.rc, .bool v.bad] 31)) V2 := ⟨kept hb SX.1, kept hb SX.2.1, kept hb SX.2.2.1, kept hb SX.2.2.2⟩
      have BL : Hid (BdR V2 x vl) := hbl
      clear hb hbl
      refine ⟨_, rfl, SX, ?_⟩
      try simp only [Act.put, List.setIfInBounds_toArray, List.set_cons_zero, List.set_cons_succ]
      refine wpAnyH_ready (rs := [24]) (by kernel_rfl) (by simp) ?_
      refine consH _ rfl (hopCd 93 rfl (by kernel_rfl) rfl (by kernel_rfl) (Calls.mono (HBD.out _ qV2) ?_)) AllReadyH.nil
      rintro e V3 ⟨vd, rfl, hbd, hb⟩
      have qV3 : Below X3.heap.size X3 V3 := to_call qV2 hb
      have BV3 : Below X5.heap.size X5 V3 := to_call BV2 hb
      have SX : (fun V => V.heap[B11]? = some (.cells #[.int .i64 x.N, .slice x.co x.cn x.cc, .slice x.io x.dn x.dc, .slice x.go x.gn x.gc, .slice x.ro x.rn x.rc, .bool x.bad] 26) ∧ V.heap[B13]? = some (.cells #[.int .i64 u.N, .slice u.co u.cn u.cc, .slice u.io u.dn u.dc, .slice u.go u.gn u.gc, .slice u.ro u.rn u.rc, .bool u.bad] 31) ∧ V.heap[B15]? = some (.cells #[.int .i64 y.N, .slice y.co y.cn y.cc, .slice y.io y.dn y.dc, .slice y.go y.gn y.gc, .slice y.ro y.rn y.rc, .bool y.bad] 26) ∧ V.heap[B17]? = some (.cells #[.int .i64 v.N, .slice v.co v.cn v.cc, .slice v.io v.dn v.dc, .slice v.go v.gn v.gc, .slice v.ro v.rn v.rc, .bool v.bad] 31)) V3 := ⟨kept hb SX.1, kept hb SX.2.1, kept hb SX.2.2.1, kept hb SX.2.2.2⟩
      have BL3 : Hid (BdR V3 x vl ∧ BdD V3 u vd) := ⟨BL.out.later hb, hbd⟩
      clear hb hbd BL
      refine ⟨_, rfl, SX, ?_⟩
      try simp only [Act.put, List.setIfInBounds_toArray, List.set_cons_zero, List.set_cons_succ]
      refine wpAnyH_ready (rs := [25]) (by kernel_rfl) (by simp) ?_
      refine consH _ rfl (hopCd 94 rfl (by kernel_rfl) rfl (by kernel_rfl) (Calls.mono (HSB.out _ _ _ BL3.out.1 BL3.out.2) ?_)) AllReadyH.nil
      rintro e V4 ⟨rfl, hb⟩
      have qV4 : Below X3.heap.size X3 V4 := to_call qV3 hb
      have BV4 : Below X5.heap.size X5 V4 := to_call BV3 hb
      have SX : (fun V => V.heap[B11]? = some (.cells #[.int .i64 x.N, .slice x.co x.cn x.cc, .slice x.io x.dn x.dc, .slice x.go x.gn x.gc, .slice x.ro x.rn x.rc, .bool x.bad] 26) ∧ V.heap[B13]? = some (.cells #[.int .i64 u.N, .slice u.co u.cn u.cc, .slice u.io u.dn u.dc, .slice u.go u.gn u.gc, .slice u.ro u.rn u.rc, .bool u.bad] 31) ∧ V.heap[B15]? = some (.cells #[.int .i64 y.N, .slice y.co y.cn y.cc, .slice y.io y.dn y.dc, .slice y.go y.gn y.gc, .slice y.ro y.rn y.rc, .bool y.bad] 26) ∧ V.heap[B17]? = some (.cells #[.int .i64 v.N, .slice v.co v.cn v.cc, .slice v.io v.dn v.dc, .slice v.go v.gn v.gc, .slice v.ro v.rn v.rc, .bool v.bad] 31)) V4 := ⟨kept hb SX.1, kept hb SX.2.1, kept hb SX.2.2.1, kept hb SX.2.2.2⟩
      clear hb BL3
      refine ⟨_, rfl, SX, ?_⟩
      try simp only [Act.put, List.setIfInBounds_toArray, List.set_cons_zero, List.set_cons_succ]
      refine takeH 95 (i := 26) (v := ?_) rfl rfl (by kernel_rfl) (by kernel_rfl) (by kernel_rfl) (fun _ _ _ h => h) (Or.inl ⟨by kernel_rfl, ?_⟩) SX ?_
      rotate_left
      ·intro w' hSw; go_simp; try with_reducible rfl
      try simp only [Act.put, List.setIfInBounds_toArray, List.set_cons_zero, List.set_cons_succ]
      refine takeH 96 (i := 27) (v := ?_) rfl rfl (by kernel_rfl) (by kernel_rfl) (by kernel_rfl) (fun _ _ _ h => h) (Or.inl ⟨by kernel_rfl, ?_⟩) SX ?_
      rotate_left
      ·intro w' hSw; go_simp; try with_reducible rfl
      try simp only [Act.put, List.setIfInBounds_toArray, List.set_cons_zero, List.set_cons_succ]
      refine takeH 97 (i := 28) (v := ?_) rfl rfl (by kernel_rfl) (by kernel_rfl) (by kernel_rfl) (fun _ _ _ h => h) (Or.inl ⟨by kernel_rfl, ?_⟩) SX ?_
      rotate_left
      ·intro w' hSw; go_simp; try with_reducible rfl
      try simp only [Act.put, List.setIfInBounds_toArray, List.set_cons_zero, List.set_cons_succ]
      refine takeH 98 (i := 29) (v := .agg #[.int .i64 x.N, .slice x.co x.cn x.cc, .slice x.io x.dn x.dc, .slice x.go x.gn x.gc, .slice x.ro x.rn x.rc, .bool x.bad]) rfl rfl (by kernel_rfl) (by kernel_rfl) (by kernel_rfl) (fun _ _ _ h => h) (Or.inl ⟨by kernel_rfl, fun w' hSw => ex_loadRN _ 26 _ rfl B11 (by kernel_rfl) w' _ hSw.1 _ Tryz.underlying26 rfl 6 Tryz.infoZ rfl⟩) SX ?_
      try simp only [Act.put, List.setIfInBounds_toArray, List.set_cons_zero, List.set_cons_succ]
      refine takeH 100 (i := 31) (v := .agg #[.int .i64 u.N, .slice u.co u.cn u.cc, .slice u.io u.dn u.dc, .slice u.go u.gn u.gc, .slice u.ro u.rn u.rc, .bool u.bad]) rfl rfl (by kernel_rfl) (by kernel_rfl) (by kernel_rfl) (fun _ _ _ h => h) (Or.inl ⟨by kernel_rfl, fun w' hSw => ex_loadRN _ 31 _ rfl B13 (by kernel_rfl) w' _ hSw.2.1 _ Tryz.underlying31 rfl 6 Tryz.infoZu rfl⟩) SX ?_
      try simp only [Act.put, List.setIfInBounds_toArray, List.set_cons_zero, List.set_cons_succ]
      refine wpAnyH_ready (rs := [30]) (by kernel_rfl) (by simp) ?_
      refine consH _ rfl (hopCd 99 rfl (by kernel_rfl) rfl (by kernel_rfl) (Calls.mono (HBP.out _ qV4) ?_)) AllReadyH.nil
      rintro e V5 ⟨b, rfl, hzb, hzwb, hbr, hb⟩
      have qV5 : Below X3.heap.size X3 V5 := to_call qV4 hb
      have BV5 : Below X5.heap.size X5 V5 := to_call BV4 hb
      have SX : (fun V => V.heap[B11]? = some (.cells #[.int .i64 x.N, .slice x.co x.cn x.cc, .slice x.io x.dn x.dc, .slice x.go x.gn x.gc, .slice x.ro x.rn x.rc, .bool x.bad] 26) ∧ V.heap[B13]? = some (.cells #[.int .i64 u.N, .slice u.co u.cn u.cc, .slice u.io u.dn u.dc, .slice u.go u.gn u.gc, .slice u.ro u.rn u.rc, .bool u.bad] 31) ∧ V.heap[B15]? = some (.cells #[.int .i64 y.N, .slice y.co y.cn y.cc, .slice y.io y.dn y.dc, .slice y.go y.gn y.gc, .slice y.ro y.rn y.rc, .bool y.bad] 26) ∧ V.heap[B17]? = some (.cells #[.int .i64 v.N, .slice v.co v.cn v.cc, .slice v.io v.dn v.dc, .slice v.go v.gn v.gc, .slice v.ro v.rn v.rc, .bool v.bad] 31)) V5 := ⟨kept hb SX.1, kept hb SX.2.1, kept hb SX.2.2.1, kept hb SX.2.2.2⟩
      have HBB : Hid (ZR V5 b ∧ BxR x b) := ⟨hzb, hbr⟩
      clear hb hzb hzwb hbr
      refine ⟨_, rfl, SX, ?_⟩
      try simp only [Act.put, List.setIfInBounds_toArray, List.set_cons_zero, List.set_cons_succ]
      refine wpAnyH_ready (rs := [32]) (by kernel_rfl) (by simp) ?_
      refine consH _ rfl (hopCd 101 rfl (by kernel_rfl) rfl (by kernel_rfl) (Calls.mono (HBU.out _ qV5) ?_)) AllReadyH.nil
      rintro e V6 ⟨c, rfl, hzc, hbd, hb⟩
      have qV6 : Below X3.heap.size X3 V6 := to_call qV5 hb
      have BV6 : Below X5.heap.size X5 V6 := to_call BV5 hb
      have SX : (fun V => V.heap[B11]? = some (.cells #[.int .i64 x.N, .slice x.co x.cn x.cc, .slice x.io x.dn x.dc, .slice x.go x.gn x.gc, .slice x.ro x.rn x.rc, .bool x.bad] 26) ∧ V.heap[B13]? = some (.cells #[.int .i64 u.N, .slice u.co u.cn u.cc, .slice u.io u.dn u.dc, .slice u.go u.gn u.gc, .slice u.ro u.rn u.rc, .bool u.bad] 31) ∧ V.heap[B15]? = some (.cells #[.int .i64 y.N, .slice y.co y.cn y.cc, .slice y.io y.dn y.dc, .slice y.go y.gn y.gc, .slice y.ro y.rn y.rc, .bool y.bad] 26) ∧ V.heap[B17]? = some (.cells #[.int .i64 v.N, .slice v.co v.cn v.cc, .slice v.io v.dn v.dc, .slice v.go v.gn v.gc, .slice v.ro v.rn v.rc, .bool v.bad] 31)) V6 := ⟨kept hb SX.1, kept hb SX.2.1, kept hb SX.2.2.1, kept hb SX.2.2.2⟩
      have HCC : Hid (ZR V6 b ∧ BxR x b ∧ ZU V6 c ∧ BxD u c) := ⟨HBB.out.1.later hb, HBB.out.2, hzc, hbd⟩
      clear hb hzc hbd HBB
      refine ⟨_, rfl, SX, ?_⟩
      try simp only [Act.put, List.setIfInBounds_toArray, List.set_cons_zero, List.set_cons_succ]
      refine wpAnyH_ready (rs := [33]) (by kernel_rfl) (by simp) ?_
      refine consH _ rfl (hopCd 102 rfl (by kernel_rfl) rfl (by kernel_rfl) (Calls.mono (HSC.out b c _ HCC.out.1 HCC.out.2.1 HCC.out.2.2.1 HCC.out.2.2.2) ?_)) AllReadyH.nil
      rintro e V7 ⟨rfl, hb⟩
      have qV7 : Below X3.heap.size X3 V7 := to_call qV6 hb
      have BV7 : Below X5.heap.size X5 V7 := to_call BV6 hb
      have SX : (fun V => V.heap[B11]? = some (.cells #[.int .i64 x.N, .slice x.co x.cn x.cc, .slice x.io x.dn x.dc, .slice x.go x.gn x.gc, .slice x.ro x.rn x.rc, .bool x.bad] 26) ∧ V.heap[B13]? = some (.cells #[.int .i64 u.N, .slice u.co u.cn u.cc, .slice u.io u.dn u.dc, .slice u.go u.gn u.gc, .slice u.ro u.rn u.rc, .bool u.bad] 31) ∧ V.heap[B15]? = some (.cells #[.int .i64 y.N, .slice y.co y.cn y.cc, .slice y.io y.dn y.dc, .slice y.go y.gn y.gc, .slice y.ro y.rn y.rc, .bool y.bad] 26) ∧ V.heap[B17]? = some (.cells #[.int .i64 v.N, .slice v.co v.cn v.cc, .slice v.io v.dn v.dc, .slice v.go v.gn v.gc, .slice v.ro v.rn v.rc, .bool v.bad] 31)) V7 := ⟨kept hb SX.1, kept hb SX.2.1, kept hb SX.2.2.1, kept hb SX.2.2.2⟩
      clear hb HCC
      refine ⟨_, rfl, SX, ?_⟩
      try simp only [Act.put, List.setIfInBounds_toArray, List.set_cons_zero, List.set_cons_succ]
      refine takeH 103 (i := 34) (v := ?_) rfl rfl (by kernel_rfl) (by kernel_rfl) (by kernel_rfl) (fun _ _ _ h => h) (Or.inl ⟨by kernel_rfl, ?_⟩) SX ?_
      rotate_left
      ·intro w' hSw; go_simp; try with_reducible rfl
      try simp only [Act.put, List.setIfInBounds_toArray, List.set_cons_zero, List.set_cons_succ]
      refine takeH 104 (i := 35) (v := ?_) rfl rfl (by kernel_rfl) (by kernel_rfl) (by kernel_rfl) (fun _ _ _ h => h) (Or.inl ⟨by kernel_rfl, ?_⟩) SX ?_
      rotate_left
      ·intro w' hSw; go_simp; try with_reducible rfl
      try simp only [Act.put, List.setIfInBounds_toArray, List.set_cons_zero, List.set_cons_succ]
      refine wpAnyH_done (by kernel_rfl) ?_ _
      refine NoPanic.normal ?_
      try simp only [Act.put, List.setIfInBounds_toArray, List.set_cons_zero, List.set_cons_succ]
      have QE : Hid (Below X3.heap.size X3 V7) := qV7
      clear SX qV qV1 qV2 qV3 qV4 qV5 qV6 qV7 BV BV1 BV2 BV3 BV4 BV5 BV6 BV7
      go_wp2_with fail
      go_roundg r
      case measure => omega
      case rel => exact ⟨k + 1, by go_num, by have := HIK.out; omega, QE⟩
     ·have d3 : decide ((k : Int) < 2) = false := decide_eq_false (by omega)
      have HR : Hid (wr.heap[B11]? = some (.cells #[.int .i64 x.N, .slice x.co x.cn x.cc, .slice x.io x.dn x.dc, .slice x.go x.gn x.gc, .slice x.ro x.rn x.rc, .bool x.bad] 26) ∧ ZR wr x ∧ InZ wr w.heap.size x ∧ ZW x ∧ x.dn ≤ 1048576 ∧ x.go ≠ none ∧ Below w.heap.size w wr) := ⟨kept HY.out P3.out.1.1, P3.out.1.2.1.later HY.out, P3.out.1.2.2.1.later HY.out, P3.out.1.2.2.2.1, P3.out.1.2.2.2.2.1, P3.out.1.2.2.2.2.2.1, to_call P3.out.1.2.2.2.2.2.2 HY.out⟩
      clear hk2 HY P3 HLX HLD HS HBT HSD HB HBD HSB HBP HBU HSC HDO HSXU
      by_cases h3 : i < al
      ·have d4 : decide ((i : Int) < (al : Int)) = true := decide_eq_true (by omega)
       by_cases h4 : i < tl
       ·have d5 : decide ((i : Int) < (tl : Int)) = true := decide_eq_true (by omega)
        obtain ⟨ln, hln⟩ : ∃ ln, 2 + x.gn = ln := ⟨_, rfl⟩
        have HLN : Hid (2 + x.gn = ln) := hln
        have AX : Below wr.heap.size wr (wr.alloc (.cells #[.int .i64 x.N, .slice x.co x.cn x.cc, .slice x.io x.dn x.dc, .slice x.go x.gn x.gc, .slice x.ro x.rn x.rc, .bool x.bad] 26)) := (Below.refl _ wr).alloc (Nat.le_refl _) _
        have HLS : Hid _ := lists1_any x wr.heap.size (wr.alloc (.cells #[.int .i64 x.N, .slice x.co x.cn x.cc, .slice x.io x.dn x.dc, .slice x.go x.gn x.gc, .slice x.ro x.rn x.rc, .bool x.bad] 26)) (heap_alloc_new wr _) (HR.out.2.1.later AX) (fun h => absurd h HR.out.2.2.2.2.2.1) HR.out.2.2.2.1.gl
        rw [hln] at HLS
        clear hln
        go_upto_region 17 with (first
         | (refine wpList_load_row (by rfl) 26 _ (by rfl) B11 _ (by rfl) HR.out.1 _ Tryz.underlying26 rfl 6 Tryz.infoZ (by rfl) ?_)
         | (go_at_call 18; refine Calls.mono (HLS.out) ?_; rintro e w6 ⟨vl, rfl, ol, b6⟩))
        have b06 := to_call AX b6
        have P6 : Hid (w6.heap[B11]? = some (.cells #[.int .i64 x.N, .slice x.co x.cn x.cc, .slice x.io x.dn x.dc, .slice x.go x.gn x.gc, .slice x.ro x.rn x.rc, .bool x.bad] 26) ∧ ZR w6 x ∧ InZ w6 w.heap.size x ∧ ZW x ∧ x.dn ≤ 1048576 ∧ x.go ≠ none ∧ Below w.heap.size w w6) := ⟨kept b06 HR.out.1, HR.out.2.1.later b06, HR.out.2.2.1.later b06, HR.out.2.2.2.1, HR.out.2.2.2.2.1, HR.out.2.2.2.2.2.1, to_call HR.out.2.2.2.2.2.2 b06⟩
        obtain ⟨la, lc, hvl, hle, hl3⟩ := owns_slice ol
        subst hvl
        obtain ⟨lg, hla, hlc⟩ := hl3.resolve_left (by have := HLN.out; omega)
        subst hla
        obtain ⟨ab, aoff, hao, hac⟩ : ∃ ab aoff, aO = some ⟨ab, aoff, none⟩ ∧ w6.cell? ⟨ab, aoff + i, none⟩ = some (.int .i64 (ats[i]?.getD 0)) := by
         rcases (HAT.out w6 P6.out.2.2.2.2.2.2).cells with h0 | ⟨b, off, e, hc⟩
         ·omega
         ·exact ⟨b, off, e, hc i h3⟩
        subst hao
        obtain ⟨ai, hai⟩ : ∃ ai, ats[i]?.getD 0 = ai := ⟨_, rfl⟩
        rw [hai] at hac
        have hi0 : (i : Int) < (al : Int) := by omega
        have HLC : Hid _ := And.intro hle hlc
        clear HLS AX b6 b06 ol hle hlc hai HR hl3
        have hz1 : ln ≠ 0 := by have := HLN.out; omega
        have hz2 : (ln : Int) ≠ 0 := by omega
        have hz3 : ((ln : Int) == 0) = false := by simpa using hz1
        go_upto_region 18 with fail
        clear hz1 hz2 hz3
        have hgl := P6.out.2.2.2.1.gl
        obtain ⟨K, hK, hKl⟩ : ∃ K : Nat, (wrap64 (ai.tmod (ln : Int) + (ln : Int))).tmod (ln : Int) = (K : Int) ∧ K < ln := by
         have h := HLN.out
         have h0 : (0 : Int) < (ln : Int) := by omega
         have h5 := tmod_turn ai ln (by omega)
         have h6 := Int.lt_tmod_of_pos ai h0
         have h7 := Int.tmod_lt_of_pos ai h0
         rw [IntWalk.wrap64_in _ ⟨by omega, by omega⟩]
         exact ⟨_, (Int.toNat_of_nonneg h5.1).symm, by omega⟩
        rw [hK]
        have hlen : K < (lsV x).length := by have h := HLN.out; unfold lsV; rw [List.length_append, gvL_len]; show K < 2 + x.gn; omega
        obtain ⟨g2, n2, c2, cur2, hv2, hg2, hh2, hf2⟩ := P6.out.2.2.1 _ (List.getElem_mem hlen)
        have hn2m : n2 ≤ 1050000 := lsV_short P6.out.2.2.2.1 _ (List.getElem_mem hlen) _ _ _ hv2
        have ck : w6.cell? ⟨lg, K, none⟩ = some (.slice (some ⟨g2, 0, none⟩) n2 c2) := by
         rw [HLC.out.2 K hKl, List.getElem?_eq_getElem hlen, hv2]
        have hKi : (K : Int) < (ln : Int) := by omega
        have HF2 : Hid _ := And.intro hg2 (And.intro hh2 hf2)
        clear hK hlen hv2 hg2 hh2 hf2 hgl
        go_upto_region 19 with fail
        by_cases hn2 : 0 < n2
        ·have d6 : decide ((0 : Int) < (n2 : Int)) = true := decide_eq_true (by omega)
         go_upto_region 20 with fail
         obtain ⟨tb, toff, htO, htc⟩ : ∃ tb toff, tO = some ⟨tb, toff, none⟩ ∧ w6.cell? ⟨tb, toff + i, none⟩ = some (.float .f64 (tos[i]?.getD 0)) := by
          rcases (HTO.out w6 P6.out.2.2.2.2.2.2).cells with h0 | ⟨b, off, e, hc⟩
          ·omega
          ·exact ⟨b, off, e, hc i h4⟩
         have HT6 : Hid (tos[i]?.getD 0 < 18446744073709551616) := by
          have hl := (HTO.out w6 P6.out.2.2.2.2.2.2).length
          have hil : i < tos.length := by omega
          unfold Hid
          rw [List.getElem?_eq_getElem hil, Option.getD_some]
          exact (HTO.out w6 P6.out.2.2.2.2.2.2).lt _ (List.getElem_mem hil)
         subst htO
         obtain ⟨tv, htv⟩ : ∃ tv, tos[i]?.getD 0 = tv := ⟨_, rfl⟩
         rw [htv] at htc HT6
         have hti : (i : Int) < (tl : Int) := by omega
         have hz1 : n2 ≠ 0 := by omega
         have hz2 : (n2 : Int) ≠ 0 := by omega
         have hz3 : ((n2 : Int) == 0) = false := by simpa using hz1
         obtain ⟨J, hJ, hJl⟩ : ∃ J : Nat, (IntKind.i64.wrap ((IntKind.i64.wrap (ai.tdiv 7)).tmod (n2 : Int) + (n2 : Int))).tmod (n2 : Int) = (J : Int) ∧ J < n2 := by
          have h0 : (0 : Int) < (n2 : Int) := by omega
          have h5 := tmod_turn (IntKind.i64.wrap (ai.tdiv 7)) n2 hn2
          have h6 := Int.lt_tmod_of_pos (IntKind.i64.wrap (ai.tdiv 7)) h0
          have h7 := Int.tmod_lt_of_pos (IntKind.i64.wrap (ai.tdiv 7)) h0
          rw [wrapJ _ (by omega) (by omega)]
          exact ⟨_, (Int.toNat_of_nonneg h5.1).symm, by omega⟩
         have hJi : (J : Int) < (n2 : Int) := by omega
         have hJc : J + 1 ≤ cur2.size := by
          obtain ⟨u8, h8⟩ := HF2.out.2.2 J hJl
          rcases Nat.lt_or_ge J cur2.size with h9 | h9
          ·exact h9
          ·rw [Array.getElem?_eq_none h9] at h8; cases h8
         have sV : (fun V => V.cell? ⟨lg, K, none⟩ = some (.slice (some ⟨g2, 0, none⟩) n2 c2) ∧ V.cell? ⟨ab, aoff + i, none⟩ = some (.int .i64 ai) ∧ V.cell? ⟨tb, toff + i, none⟩ = some (.float .f64 tv)) w6.drew := ⟨ck, hac, htc⟩
         clear ck hac htc htv
         refine wp_region_noPanic ?_
         refine wp_region_P (fun V => V.cell? ⟨lg, K, none⟩ = some (.slice (some ⟨g2, 0, none⟩) n2 c2) ∧ V.cell? ⟨ab, aoff + i, none⟩ = some (.int .i64 ai) ∧ V.cell? ⟨tb, toff + i, none⟩ = some (.float .f64 tv)) 20 (by kernel_rfl) ?_
         refine takeP 138 (i := 0) (v := ?_) rfl rfl (by kernel_rfl) (by kernel_rfl) (by kernel_rfl) (by kernel_rfl) rfl (by kernel_rfl) (fun _ _ _ h => h) (Or.inl ⟨by kernel_rfl, ?_⟩) sV ?_
         rotate_left
         ·intro w' hSw; obtain ⟨c1', c2', c3'⟩ := hSw; go_simp; try with_reducible rfl
         try simp only [Act.put, List.setIfInBounds_toArray, List.set_cons_zero, List.set_cons_succ]
         refine takeP 139 (i := 1) (v := ?_) rfl rfl (by kernel_rfl) (by kernel_rfl) (by kernel_rfl) (by kernel_rfl) rfl (by kernel_rfl) (fun _ _ _ h => h) (Or.inl ⟨by kernel_rfl, ?_⟩) sV ?_
         rotate_left
         ·intro w' hSw; obtain ⟨c1', c2', c3'⟩ := hSw; go_simp; try with_reducible rfl
         try simp only [Act.put, List.setIfInBounds_toArray, List.set_cons_zero, List.set_cons_succ]
         refine takeP 140 (i := 2) (v := ?_) rfl rfl (by kernel_rfl) (by kernel_rfl) (by kernel_rfl) (by kernel_rfl) rfl (by kernel_rfl) (fun _ _ _ h => h) (Or.inl ⟨by kernel_rfl, ?_⟩) sV ?_
         rotate_left
         ·intro w' hSw; obtain ⟨c1', c2', c3'⟩ := hSw; go_simp; try with_reducible rfl
         try simp only [Act.put, List.setIfInBounds_toArray, List.set_cons_zero, List.set_cons_succ]
         refine takeP 141 (i := 3) (v := ?_) rfl rfl (by kernel_rfl) (by kernel_rfl) (by kernel_rfl) (by kernel_rfl) rfl (by kernel_rfl) (fun _ _ _ h => h) (Or.inl ⟨by kernel_rfl, ?_⟩) sV ?_
         rotate_left
         ·intro w' hSw; obtain ⟨c1', c2', c3'⟩ := hSw; go_simp; try with_reducible rfl
         try simp only [Act.put, List.setIfInBounds_toArray, List.set_cons_zero, List.set_cons_succ]
         refine takeP 142 (i := 4) (v := ?_) rfl rfl (by kernel_rfl) (by kernel_rfl) (by kernel_rfl) (by kernel_rfl) rfl (by kernel_rfl) (fun _ _ _ h => h) (Or.inl ⟨by kernel_rfl, ?_⟩) sV ?_
         rotate_left
         ·intro w' hSw; obtain ⟨c1', c2', c3'⟩ := hSw; go_simp; try with_reducible rfl
         try simp only [Act.put, List.setIfInBounds_toArray, List.set_cons_zero, List.set_cons_succ]
         refine takeP 143 (i := 5) (v := ?_) rfl rfl (by kernel_rfl) (by kernel_rfl) (by kernel_rfl) (by kernel_rfl) rfl (by kernel_rfl) (fun _ _ _ h => h) (Or.inl ⟨by kernel_rfl, ?_⟩) sV ?_
         rotate_left
         ·intro w' hSw; obtain ⟨c1', c2', c3'⟩ := hSw; go_simp; try with_reducible rfl
         try simp only [Act.put, List.setIfInBounds_toArray, List.set_cons_zero, List.set_cons_succ]
         refine takeP 144 (i := 6) (v := ?_) rfl rfl (by kernel_rfl) (by kernel_rfl) (by kernel_rfl) (by kernel_rfl) rfl (by kernel_rfl) (fun _ _ _ h => h) (Or.inl ⟨by kernel_rfl, ?_⟩) sV ?_
         rotate_left
         ·intro w' hSw; obtain ⟨c1', c2', c3'⟩ := hSw; go_simp; try with_reducible rfl
         try simp only [Act.put, List.setIfInBounds_toArray, List.set_cons_zero, List.set_cons_succ]
         refine takeP 145 (i := 7) (v := ?_) rfl rfl (by kernel_rfl) (by kernel_rfl) (by kernel_rfl) (by kernel_rfl) rfl (by kernel_rfl) (fun _ _ _ h => h) (Or.inl ⟨by kernel_rfl, ?_⟩) sV ?_
         rotate_left
         ·intro w' hSw; obtain ⟨c1', c2', c3'⟩ := hSw; go_simp; try with_reducible rfl
         try simp only [Act.put, List.setIfInBounds_toArray, List.set_cons_zero, List.set_cons_succ]
         refine takeP 146 (i := 8) (v := ?_) rfl rfl (by kernel_rfl) (by kernel_rfl) (by kernel_rfl) (by kernel_rfl) rfl (by kernel_rfl) (fun _ _ _ h => h) (Or.inl ⟨by kernel_rfl, ?_⟩) sV ?_
         rotate_left
         ·intro w' hSw; obtain ⟨c1', c2', c3'⟩ := hSw; go_simp; try with_reducible rfl
         try simp only [Act.put, List.setIfInBounds_toArray, List.set_cons_zero, List.set_cons_succ]
         refine takeP 147 (i := 9) (v := ?_) rfl rfl (by kernel_rfl) (by kernel_rfl) (by kernel_rfl) (by kernel_rfl) rfl (by kernel_rfl) (fun _ _ _ h => h) (Or.inl ⟨by kernel_rfl, ?_⟩) sV ?_
         rotate_left
         ·intro w' hSw; obtain ⟨c1', c2', c3'⟩ := hSw; go_simp; try with_reducible rfl
         try simp only [Act.put, List.setIfInBounds_toArray, List.set_cons_zero, List.set_cons_succ]
         refine takeP 148 (i := 10) (v := ?_) rfl rfl (by kernel_rfl) (by kernel_rfl) (by kernel_rfl) (by kernel_rfl) rfl (by kernel_rfl) (fun _ _ _ h => h) (Or.inl ⟨by kernel_rfl, ?_⟩) sV ?_
         rotate_left
         ·intro w' hSw; obtain ⟨c1', c2', c3'⟩ := hSw; go_simp; try with_reducible rfl
         try simp only [Act.put, List.setIfInBounds_toArray, List.set_cons_zero, List.set_cons_succ]
         refine takeP 149 (i := 11) (v := ?_) rfl rfl (by kernel_rfl) (by kernel_rfl) (by kernel_rfl) (by kernel_rfl) rfl (by kernel_rfl) (fun _ _ _ h => h) (Or.inl ⟨by kernel_rfl, ?_⟩) sV ?_
         rotate_left
         ·intro w' hSw; obtain ⟨c1', c2', c3'⟩ := hSw; go_simp; try with_reducible rfl
         try simp only [Act.put, List.setIfInBounds_toArray, List.set_cons_zero, List.set_cons_succ]
         refine takeP 150 (i := 12) (v := ?_) rfl rfl (by kernel_rfl) (by kernel_rfl) (by kernel_rfl) (by kernel_rfl) rfl (by kernel_rfl) (fun _ _ _ h => h) (Or.inl ⟨by kernel_rfl, ?_⟩) sV ?_
         rotate_left
         ·intro w' hSw; obtain ⟨c1', c2', c3'⟩ := hSw; go_simp; try with_reducible rfl
         try simp only [Act.put, List.setIfInBounds_toArray, List.set_cons_zero, List.set_cons_succ]
         refine takeP 151 (i := 13) (v := ?_) rfl rfl (by kernel_rfl) (by kernel_rfl) (by kernel_rfl) (by kernel_rfl) rfl (by kernel_rfl) (fun _ _ _ h => h) (Or.inl ⟨by kernel_rfl, ?_⟩) sV ?_
         rotate_left
         ·intro w' hSw; obtain ⟨c1', c2', c3'⟩ := hSw; go_simp; try with_reducible rfl
         try simp only [Act.put, List.setIfInBounds_toArray, List.set_cons_zero, List.set_cons_succ]
         refine takeP 152 (i := 14) (v := ?_) rfl rfl (by kernel_rfl) (by kernel_rfl) (by kernel_rfl) (by kernel_rfl) rfl (by kernel_rfl) (fun _ _ _ h => h) (Or.inl ⟨by kernel_rfl, ?_⟩) sV ?_
         rotate_left
         ·intro w' hSw; obtain ⟨c1', c2', c3'⟩ := hSw; go_simp; try with_reducible rfl
         try simp only [Act.put, List.setIfInBounds_toArray, List.set_cons_zero, List.set_cons_succ]
         try rw [hJ]
         clear hJ
         refine takeP 153 (i := 15) (v := ?_) rfl rfl (by kernel_rfl) (by kernel_rfl) (by kernel_rfl) (by kernel_rfl) rfl (by kernel_rfl) (fun _ _ _ h => h) (Or.inl ⟨by kernel_rfl, ?_⟩) sV ?_
         rotate_left
         ·intro w' hSw; obtain ⟨c1', c2', c3'⟩ := hSw; go_simp; try with_reducible rfl
         try simp only [Act.put, List.setIfInBounds_toArray, List.set_cons_zero, List.set_cons_succ]
         refine takeP 154 (i := 16) (v := ?_) rfl rfl (by kernel_rfl) (by kernel_rfl) (by kernel_rfl) (by kernel_rfl) rfl (by kernel_rfl) (fun _ _ _ h => h) (Or.inl ⟨by kernel_rfl, ?_⟩) sV ?_
         rotate_left
         ·intro w' hSw; obtain ⟨c1', c2', c3'⟩ := hSw; go_simp; try with_reducible rfl
         try simp only [Act.put, List.setIfInBounds_toArray, List.set_cons_zero, List.set_cons_succ]
         refine takeP 155 (i := 17) (v := ?_) rfl rfl (by kernel_rfl) (by kernel_rfl) (by kernel_rfl) (by kernel_rfl) rfl (by kernel_rfl) (fun _ _ _ h => h) (Or.inl ⟨by kernel_rfl, ?_⟩) sV ?_
         rotate_left
         ·intro w' hSw; obtain ⟨c1', c2', c3'⟩ := hSw; go_simp; try with_reducible rfl
         try simp only [Act.put, List.setIfInBounds_toArray, List.set_cons_zero, List.set_cons_succ]
         refine takeP 156 (i := 18) (v := ?_) rfl rfl (by kernel_rfl) (by kernel_rfl) (by kernel_rfl) (by kernel_rfl) rfl (by kernel_rfl) (fun _ _ _ h => h) (Or.inl ⟨by kernel_rfl, ?_⟩) sV ?_
         rotate_left
         ·intro w' hSw; obtain ⟨c1', c2', c3'⟩ := hSw; go_simp; try with_reducible rfl
         try simp only [Act.put, List.setIfInBounds_toArray, List.set_cons_zero, List.set_cons_succ]
         refine takeP 157 (i := 19) (v := ?_) rfl rfl (by kernel_rfl) (by kernel_rfl) (by kernel_rfl) (by kernel_rfl) rfl (by kernel_rfl) (fun _ _ _ h => h) (Or.inl ⟨by kernel_rfl, ?_⟩) sV ?_
         rotate_left
         ·intro w' hSw; obtain ⟨c1', c2', c3'⟩ := hSw; go_simp; try with_reducible rfl
         try simp only [Act.put, List.setIfInBounds_toArray, List.set_cons_zero, List.set_cons_succ]
         refine wpAnyP_ready (rs := [20]) (by kernel_rfl) (by simp) ?_
         refine consPs _ rfl (by kernel_rfl) (hopL rfl (wpList_store_at (by rfl) 37 _ _ (by rfl) w w.heap.size g2 J (.float .f64 tv) cur2 _ 37 (by kernel_rfl) (by kernel_rfl) HF2.out.2.1 P6.out.2.2.2.2.2.2.drew HF2.out.1 1 Tryz.szFlo rfl hJc (oneI _ rfl) rfl fun w7 e7 b7 s7 k7 => ?_)) AllReadyP.nil
         refine (And.intro trivial ?_ : _ ∧ _)
         try simp only [Act.put, List.setIfInBounds_toArray, List.set_cons_zero, List.set_cons_succ]
         refine wpAnyP_done (by kernel_rfl) ?_ _
         refine NoPanic.normal ?_
         try simp only [Act.put, List.setIfInBounds_toArray, List.set_cons_zero, List.set_cons_succ]
         obtain ⟨cs', rs', gs', hz7, hi7⟩ := InZ.stored (W := w6.drew) (W' := w7) P6.out.2.1.drewJ P6.out.2.2.1 HF2.out.2.1 e7 (HF2.out.2.2 J hJl) HT6.out k7
         have h11 : w7.heap[B11]? = some (.cells #[.int .i64 x.N, .slice x.co x.cn x.cc, .slice x.io x.dn x.dc, .slice x.go x.gn x.gc, .slice x.ro x.rn x.rc, .bool x.bad] 26) := (k7 B11 (by rintro rfl; have h8 := HF2.out.2.1; rw [P6.out.1] at h8; cases h8)).trans P6.out.1
         have P7 : Hid _ := And.intro h11 (And.intro hz7 (And.intro hi7 b7))
         clear e7 b7 s7 k7 hz7 hi7 h11 sV
         go_wp2_with fail
         go_roundg q
         case measure => omega
         case rel => exact ⟨i + 1, { x with cs := cs', rs := rs', gs := gs' }, by go_num, by have := HIG.out; omega, ⟨P7.out.1, P7.out.2.1, P7.out.2.2.1, ⟨P6.out.2.2.2.1.c, P6.out.2.2.2.1.i, P6.out.2.2.2.1.r, P6.out.2.2.2.1.col, P6.out.2.2.2.1.cl, P6.out.2.2.2.1.il, P6.out.2.2.2.1.gl, P6.out.2.2.2.1.rl, P6.out.2.2.2.1.coll⟩, P6.out.2.2.2.2.1, P6.out.2.2.2.2.2.1, P7.out.2.2.2⟩⟩
        ·have d6 : decide ((0 : Int) < (n2 : Int)) = false := decide_eq_false (by omega)
         clear HF2 HLC ck hac
         go_wp2_with fail
         go_roundg q
         case measure => omega
         case rel => exact ⟨i + 1, x, by go_num, by have := HIG.out; omega, P6⟩
       ·have d5 : decide ((i : Int) < (tl : Int)) = false := decide_eq_false (by omega)
        go_wp2_with fail
        go_roundg q
        case measure => omega
        case rel => exact ⟨i + 1, x, by go_num, by have := HIG.out; omega, HR⟩
      ·have d4 : decide ((i : Int) < (al : Int)) = false := decide_eq_false (by omega)
       go_wp2_with fail
       go_roundg q
       case measure => omega
       case rel => exact ⟨i + 1, x, by go_num, by have := HIG.out; omega, HR⟩
   ·have d2 : decide ((i : Int) < 6) = false := decide_eq_false (by omega)
    have HE : Hid (Below w.heap.size w wr) := HP.out.2.2.2.2.2.2
    clear HP hk
    go_wp2_with (go_at_call 19; refine Calls.mono (started_any _) ?_; rintro e w9 ⟨rfl, b9⟩)
    go_ret
    exact ⟨rfl, to_call HE.out b9⟩
  ·have d1 : decide ((i : Int) ≤ (al : Int)) = false := decide_eq_false (by omega)
   have HE : Hid (Below w.heap.size w wr) := HP.out.2.2.2.2.2.2
   clear HP hk
   go_wp2_with (go_at_call 19; refine Calls.mono (started_any _) ?_; rintro e w9 ⟨rfl, b9⟩)
   go_ret
   exact ⟨rfl, to_call HE.out b9⟩
end Go.Proofs.YtjeghdmclmelfaaGreat
