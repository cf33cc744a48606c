import Derived.Test.YtkpplacilehngaaGreatJXm
import Derived.Test.YtkpplacilehngaaGreatGJh
namespace Go.Proofs.YtkpplacilehngaaGreat
open Go.RowKit Go.Shelf
set_option linter.unusedVariables false
set_option linter.unusedSimpArgs false

set_option maxRecDepth 100000 in
set_option maxHeartbeats 8000000 in
theorem zonoTurns_walk (z : ZD) (next : Int) (w : World) (hz : ZR w z) (hw : ZW z) (hdn : z.dn ≤ 1048576) (hnx : -9223372036854775808 ≤ next ∧ next < 9223372036854775808) :
    Calls Tryz.prog 3 #[.agg (zRow z), .int .i64 next] w fun e w' => e = .returned (.bool true) ∧ Below w.heap.size w w' := by
  have HOF : Hid (∀ W', Below w.heap.size w W' → _) := fun W' hb => ofU z W' (hz.later hb) hw
  have HLA : Hid (∀ W', Below w.heap.size w W' → _) := fun W' hb => laid_any z W' (hz.later hb) hw
  have HZ : Hid (ZR w z ∧ ZW z) := ⟨hz, hw⟩
  have HDN : Hid (z.dn ≤ 1048576 ∧ -9223372036854775808 ≤ next ∧ next < 9223372036854775808) := ⟨hdn, hnx⟩
  unfold zRow at HOF HLA ⊢
  clear hz hw hdn hnx
  have X0 : Below w.heap.size w (w.alloc (.cells #[.int .i64 z.N, .slice z.co z.cn z.cc, .slice z.io z.dn z.dc, .slice z.go z.gn z.gc, .slice z.ro z.rn z.rc, .bool z.bad] 26)) := (Below.refl _ w).alloc (Nat.le_refl _) _
  have Y0 : (w.alloc (.cells #[.int .i64 z.N, .slice z.co z.cn z.cc, .slice z.io z.dn z.dc, .slice z.go z.gn z.gc, .slice z.ro z.rn z.rc, .bool z.bad] 26)).heap[w.heap.size]? = some (.cells #[.int .i64 z.N, .slice z.co z.cn z.cc, .slice z.io z.dn z.dc, .slice z.go z.gn z.gc, .slice z.ro z.rn z.rc, .bool z.bad] 26) := heap_alloc_new w _
  have HX : Hid _ := And.intro X0 Y0
  clear X0 Y0
  go_enter Tryz.func3, Tryz.ntmps3
  go_upto_region 2 with (first
    | (refine wpList_load_row (by rfl) 26 _ (by rfl) w.heap.size _ (by rfl) HX.out.2 _ Tryz.underlying26 rfl 6 Tryz.infoZ (by rfl) ?_)
    | (go_at_call 4; refine Calls.mono (HOF.out _ HX.out.1) ?_; rintro e w1 ⟨u, rfl, hu, hsm, b1⟩))
  have A1 : Below w1.heap.size w1 (w1.alloc (.cells #[.int .i64 u.N, .slice u.co u.cn u.cc, .slice u.io u.dn u.dc, .slice u.go u.gn u.gc, .slice u.ro u.rn u.rc, .bool u.bad] 30)) := (Below.refl _ w1).alloc (Nat.le_refl _) _
  have P1 : Hid (Below w.heap.size w (w1.alloc (.cells #[.int .i64 u.N, .slice u.co u.cn u.cc, .slice u.io u.dn u.dc, .slice u.go u.gn u.gc, .slice u.ro u.rn u.rc, .bool u.bad] 30)) ∧ (w1.alloc (.cells #[.int .i64 u.N, .slice u.co u.cn u.cc, .slice u.io u.dn u.dc, .slice u.go u.gn u.gc, .slice u.ro u.rn u.rc, .bool u.bad] 30)).heap[w.heap.size]? = some (.cells #[.int .i64 z.N, .slice z.co z.cn z.cc, .slice z.io z.dn z.dc, .slice z.go z.gn z.gc, .slice z.ro z.rn z.rc, .bool z.bad] 26) ∧ (w1.alloc (.cells #[.int .i64 u.N, .slice u.co u.cn u.cc, .slice u.io u.dn u.dc, .slice u.go u.gn u.gc, .slice u.ro u.rn u.rc, .bool u.bad] 30)).heap[w1.heap.size]? = some (.cells #[.int .i64 u.N, .slice u.co u.cn u.cc, .slice u.io u.dn u.dc, .slice u.go u.gn u.gc, .slice u.ro u.rn u.rc, .bool u.bad] 30) ∧ ZU (w1.alloc (.cells #[.int .i64 u.N, .slice u.co u.cn u.cc, .slice u.io u.dn u.dc, .slice u.go u.gn u.gc, .slice u.ro u.rn u.rc, .bool u.bad] 30)) u) := ⟨to_call (to_call HX.out.1 b1) A1, kept A1 (kept b1 HX.out.2), heap_alloc_new w1 _, hu.later A1⟩
  have HSU : Hid (SmZ u z) := hsm
  obtain ⟨X1, hX1⟩ : ∃ X1, w1.alloc (.cells #[.int .i64 u.N, .slice u.co u.cn u.cc, .slice u.io u.dn u.dc, .slice u.go u.gn u.gc, .slice u.ro u.rn u.rc, .bool u.bad] 30) = X1 := ⟨_, rfl⟩
  obtain ⟨B5, hB5⟩ : ∃ B5, w1.heap.size = B5 := ⟨_, rfl⟩
  rw [hX1, hB5] at P1
  rw [hX1, hB5]
  clear hX1 hB5 A1 b1 hu hsm HX HOF
  go_upto_region 3 with (first
    | (refine wpList_load_row (by rfl) 26 _ (by rfl) w.heap.size _ (by rfl) P1.out.2.1 _ Tryz.underlying26 rfl 6 Tryz.infoZ (by rfl) ?_)
    | (go_at_call 5; refine Calls.mono (HLA.out _ P1.out.1) ?_; rintro e w2 ⟨x, rfl, hx, b2⟩))
  have A2 : Below w2.heap.size w2 (w2.alloc (.cells #[.int .i64 x.N, .slice x.co x.cn x.cc, .slice x.io x.dn x.dc, .slice x.go x.gn x.gc, .slice x.ro x.rn x.rc, .bool x.bad] 26)) := (Below.refl _ w2).alloc (Nat.le_refl _) _
  have P2 : Hid (Below w.heap.size w (w2.alloc (.cells #[.int .i64 x.N, .slice x.co x.cn x.cc, .slice x.io x.dn x.dc, .slice x.go x.gn x.gc, .slice x.ro x.rn x.rc, .bool x.bad] 26)) ∧ (w2.alloc (.cells #[.int .i64 x.N, .slice x.co x.cn x.cc, .slice x.io x.dn x.dc, .slice x.go x.gn x.gc, .slice x.ro x.rn x.rc, .bool x.bad] 26)).heap[w2.heap.size]? = some (.cells #[.int .i64 x.N, .slice x.co x.cn x.cc, .slice x.io x.dn x.dc, .slice x.go x.gn x.gc, .slice x.ro x.rn x.rc, .bool x.bad] 26) ∧ (w2.alloc (.cells #[.int .i64 x.N, .slice x.co x.cn x.cc, .slice x.io x.dn x.dc, .slice x.go x.gn x.gc, .slice x.ro x.rn x.rc, .bool x.bad] 26)).heap[B5]? = some (.cells #[.int .i64 u.N, .slice u.co u.cn u.cc, .slice u.io u.dn u.dc, .slice u.go u.gn u.gc, .slice u.ro u.rn u.rc, .bool u.bad] 30) ∧ ZU (w2.alloc (.cells #[.int .i64 x.N, .slice x.co x.cn x.cc, .slice x.io x.dn x.dc, .slice x.go x.gn x.gc, .slice x.ro x.rn x.rc, .bool x.bad] 26)) u ∧ LdR (w2.alloc (.cells #[.int .i64 x.N, .slice x.co x.cn x.cc, .slice x.io x.dn x.dc, .slice x.go x.gn x.gc, .slice x.ro x.rn x.rc, .bool x.bad] 26)) X1.heap.size z x) := ⟨to_call (to_call P1.out.1 b2) A2, heap_alloc_new w2 _, kept A2 (kept b2 P1.out.2.2.1), (P1.out.2.2.2.later b2).later A2, hx.later A2⟩
  have HSX : Hid (SmZ x z) := hx.sm HZ.out.1
  obtain ⟨X2, hX2⟩ : ∃ X2, w2.alloc (.cells #[.int .i64 x.N, .slice x.co x.cn x.cc, .slice x.io x.dn x.dc, .slice x.go x.gn x.gc, .slice x.ro x.rn x.rc, .bool x.bad] 26) = X2 := ⟨_, rfl⟩
  obtain ⟨B6, hB6⟩ : ∃ B6, w2.heap.size = B6 := ⟨_, rfl⟩
  rw [hX2, hB6] at P2
  rw [hX2, hB6]
  clear hX2 hB6 A2 b2 hx P1 HLA
  have hxd : x.dn ≤ 1049000 := by rw [HSX.out.dn]; have := HDN.out.1; omega
  have HLX : Hid (∀ W', Below X2.heap.size X2 W' → _) := fun W' hb => liftA_any x next W' (P2.out.2.2.2.2.zr.later hb) hxd HDN.out.2
  have huw : UW u := SmZ.uw HSU.out HZ.out.1 HZ.out.2 P2.out.2.2.2.1
  have HSXU : Hid (SmZ u x) := HSU.out.trans HSX.out.symm
  have HLD : Hid (∀ W', Below X2.heap.size X2 W' → _) := fun W' hb => refLift_any u next W' (P2.out.2.2.2.1.later hb) huw (by rw [HSXU.out.dn]; exact hxd) HDN.out.2
  have HBP : Hid (∀ W', Below X2.heap.size X2 W' → _) := fun W' hb => boxZ_any x W' (P2.out.2.2.2.2.zr.later hb) (by omega)
  have HHX : Hid (∀ W', Below X2.heap.size X2 W' → Calls Tryz.prog 11 #[.agg (zRow x), .agg (zRow u)] W' fun e w' => e = .returned (.bool true) ∧ Below W'.heap.size W' w') := fun W' hb => heldJ_any z x u _ W' (P2.out.2.2.2.2.later hb) (P2.out.2.2.2.1.later hb) (SmZ.bits HSX.out HSU.out) (by rw [HSX.out.cs, HZ.out.1.c.length]; exact HZ.out.2.cl) (by rw [HSX.out.rs, HZ.out.1.r.length]; exact HZ.out.2.rl) (by rw [HSX.out.ids, HZ.out.1.i.length]; exact HZ.out.2.il) (by rw [HSX.out.gs, HZ.out.1.g.length]; exact HZ.out.2.gl) (fun j hj => by rw [HSX.out.gs] at hj ⊢; rw [HZ.out.1.g.length] at hj; rw [(HZ.out.1.g.each j hj).length]; exact HZ.out.2.coll j hj)
  have HBU : Hid (∀ W', Below X2.heap.size X2 W' → _) := fun W' hb => refBox_any u W' (P2.out.2.2.2.1.later hb) huw
  have HDO : Hid (ZR X2 x ∧ x.dn ≤ 1050000) := ⟨P2.out.2.2.2.2.zr, by omega⟩
  have HWW : Hid (Below w.heap.size w X2 ∧ X2.heap[B6]? = some (.cells #[.int .i64 x.N, .slice x.co x.cn x.cc, .slice x.io x.dn x.dc, .slice x.go x.gn x.gc, .slice x.ro x.rn x.rc, .bool x.bad] 26) ∧ X2.heap[B5]? = some (.cells #[.int .i64 u.N, .slice u.co u.cn u.cc, .slice u.io u.dn u.dc, .slice u.go u.gn u.gc, .slice u.ro u.rn u.rc, .bool u.bad] 30)) := ⟨P2.out.1, P2.out.2.1, P2.out.2.2.1⟩
  unfold zRow at HLX HLD HBP HHX HBU
  clear hxd huw P2
  go_upto_region 4 with (first
    | (refine wpList_load_row (by rfl) 26 _ (by rfl) B6 _ (by rfl) HWW.out.2.1 _ Tryz.underlying26 rfl 6 Tryz.infoZ (by rfl) ?_)
    | (go_at_call 6; refine Calls.mono (HLX.out _ (Below.refl _ _)) ?_; rintro e w3 ⟨y, n, rfl, hzy, hly, b3⟩))
  have A3 : Below w3.heap.size w3 (w3.alloc (.cells #[.int .i64 y.N, .slice y.co y.cn y.cc, .slice y.io y.dn y.dc, .slice y.go y.gn y.gc, .slice y.ro y.rn y.rc, .bool y.bad] 26)) := (Below.refl _ w3).alloc (Nat.le_refl _) _
  have P3 : Hid (Below X2.heap.size X2 (w3.alloc (.cells #[.int .i64 y.N, .slice y.co y.cn y.cc, .slice y.io y.dn y.dc, .slice y.go y.gn y.gc, .slice y.ro y.rn y.rc, .bool y.bad] 26)) ∧ (w3.alloc (.cells #[.int .i64 y.N, .slice y.co y.cn y.cc, .slice y.io y.dn y.dc, .slice y.go y.gn y.gc, .slice y.ro y.rn y.rc, .bool y.bad] 26)).heap[w3.heap.size]? = some (.cells #[.int .i64 y.N, .slice y.co y.cn y.cc, .slice y.io y.dn y.dc, .slice y.go y.gn y.gc, .slice y.ro y.rn y.rc, .bool y.bad] 26) ∧ ZR (w3.alloc (.cells #[.int .i64 y.N, .slice y.co y.cn y.cc, .slice y.io y.dn y.dc, .slice y.go y.gn y.gc, .slice y.ro y.rn y.rc, .bool y.bad] 26)) y ∧ LfA x next y n) := ⟨to_call b3 A3, heap_alloc_new w3 _, hzy.later A3, hly⟩
  obtain ⟨X3, hX3⟩ : ∃ X3, w3.alloc (.cells #[.int .i64 y.N, .slice y.co y.cn y.cc, .slice y.io y.dn y.dc, .slice y.go y.gn y.gc, .slice y.ro y.rn y.rc, .bool y.bad] 26) = X3 := ⟨_, rfl⟩
  obtain ⟨B7, hB7⟩ : ∃ B7, w3.heap.size = B7 := ⟨_, rfl⟩
  rw [hX3, hB7] at P3
  rw [hX3, hB7]
  clear hX3 hB7 A3 b3 hzy hly HLX
  go_upto_region 5 with (first
    | (refine wpList_load_row (by rfl) 30 _ (by rfl) B5 _ (by rfl) (kept P3.out.1 HWW.out.2.2) _ Tryz.underlying30 rfl 6 Tryz.infoZu (by rfl) ?_)
    | (go_at_call 7; refine Calls.mono (HLD.out _ P3.out.1) ?_; rintro e w4 ⟨v, m, rfl, hzv, hlv, b4⟩))
  obtain ⟨hmn, hbit⟩ := LfA.doc P3.out.2.2.2 hlv HDO.out.1 HDO.out.2 HSXU.out
  subst hmn
  have A4 : Below w4.heap.size w4 (w4.alloc (.cells #[.int .i64 v.N, .slice v.co v.cn v.cc, .slice v.io v.dn v.dc, .slice v.go v.gn v.gc, .slice v.ro v.rn v.rc, .bool v.bad] 30)) := (Below.refl _ w4).alloc (Nat.le_refl _) _
  have b34 := to_call b4 A4
  have P4 : Hid (Below X2.heap.size X2 (w4.alloc (.cells #[.int .i64 v.N, .slice v.co v.cn v.cc, .slice v.io v.dn v.dc, .slice v.go v.gn v.gc, .slice v.ro v.rn v.rc, .bool v.bad] 30)) ∧ (w4.alloc (.cells #[.int .i64 v.N, .slice v.co v.cn v.cc, .slice v.io v.dn v.dc, .slice v.go v.gn v.gc, .slice v.ro v.rn v.rc, .bool v.bad] 30)).heap[w4.heap.size]? = some (.cells #[.int .i64 v.N, .slice v.co v.cn v.cc, .slice v.io v.dn v.dc, .slice v.go v.gn v.gc, .slice v.ro v.rn v.rc, .bool v.bad] 30) ∧ (w4.alloc (.cells #[.int .i64 v.N, .slice v.co v.cn v.cc, .slice v.io v.dn v.dc, .slice v.go v.gn v.gc, .slice v.ro v.rn v.rc, .bool v.bad] 30)).heap[B7]? = some (.cells #[.int .i64 y.N, .slice y.co y.cn y.cc, .slice y.io y.dn y.dc, .slice y.go y.gn y.gc, .slice y.ro y.rn y.rc, .bool y.bad] 26) ∧ ZR (w4.alloc (.cells #[.int .i64 v.N, .slice v.co v.cn v.cc, .slice v.io v.dn v.dc, .slice v.go v.gn v.gc, .slice v.ro v.rn v.rc, .bool v.bad] 30)) y ∧ ZU (w4.alloc (.cells #[.int .i64 v.N, .slice v.co v.cn v.cc, .slice v.io v.dn v.dc, .slice v.go v.gn v.gc, .slice v.ro v.rn v.rc, .bool v.bad] 30)) v ∧ bitsB y v = true) := ⟨to_call P3.out.1 b34, heap_alloc_new w4 _, kept b34 P3.out.2.1, P3.out.2.2.1.later b34, hzv.later A4, hbit⟩
  obtain ⟨X4, hX4⟩ : ∃ X4, w4.alloc (.cells #[.int .i64 v.N, .slice v.co v.cn v.cc, .slice v.io v.dn v.dc, .slice v.go v.gn v.gc, .slice v.ro v.rn v.rc, .bool v.bad] 30) = X4 := ⟨_, rfl⟩
  obtain ⟨B9, hB9⟩ : ∃ B9, w4.heap.size = B9 := ⟨_, rfl⟩
  rw [hX4, hB9] at P4
  rw [hX4, hB9]
  clear hX4 hB9 A4 b34 b4 hzv hlv hbit HLD P3
  go_upto_region 6 with (first
    | (refine wpList_load_row (by rfl) 26 _ (by rfl) B6 _ (by rfl) (kept P4.out.1 HWW.out.2.1) _ Tryz.underlying26 rfl 6 Tryz.infoZ (by rfl) ?_)
    | (go_at_call 8; refine Calls.mono (HBP.out _ P4.out.1) ?_; rintro e w5 ⟨b, rfl, hzb, hzwb, hbr, b5⟩))
  have A5 : Below w5.heap.size w5 (w5.alloc (.cells #[.int .i64 b.N, .slice b.co b.cn b.cc, .slice b.io b.dn b.dc, .slice b.go b.gn b.gc, .slice b.ro b.rn b.rc, .bool b.bad] 26)) := (Below.refl _ w5).alloc (Nat.le_refl _) _
  have b45 := to_call b5 A5
  have P5 : Hid (Below X2.heap.size X2 (w5.alloc (.cells #[.int .i64 b.N, .slice b.co b.cn b.cc, .slice b.io b.dn b.dc, .slice b.go b.gn b.gc, .slice b.ro b.rn b.rc, .bool b.bad] 26)) ∧ (w5.alloc (.cells #[.int .i64 b.N, .slice b.co b.cn b.cc, .slice b.io b.dn b.dc, .slice b.go b.gn b.gc, .slice b.ro b.rn b.rc, .bool b.bad] 26)).heap[w5.heap.size]? = some (.cells #[.int .i64 b.N, .slice b.co b.cn b.cc, .slice b.io b.dn b.dc, .slice b.go b.gn b.gc, .slice b.ro b.rn b.rc, .bool b.bad] 26) ∧ (w5.alloc (.cells #[.int .i64 b.N, .slice b.co b.cn b.cc, .slice b.io b.dn b.dc, .slice b.go b.gn b.gc, .slice b.ro b.rn b.rc, .bool b.bad] 26)).heap[B7]? = some (.cells #[.int .i64 y.N, .slice y.co y.cn y.cc, .slice y.io y.dn y.dc, .slice y.go y.gn y.gc, .slice y.ro y.rn y.rc, .bool y.bad] 26) ∧ (w5.alloc (.cells #[.int .i64 b.N, .slice b.co b.cn b.cc, .slice b.io b.dn b.dc, .slice b.go b.gn b.gc, .slice b.ro b.rn b.rc, .bool b.bad] 26)).heap[B9]? = some (.cells #[.int .i64 v.N, .slice v.co v.cn v.cc, .slice v.io v.dn v.dc, .slice v.go v.gn v.gc, .slice v.ro v.rn v.rc, .bool v.bad] 30) ∧ ZR (w5.alloc (.cells #[.int .i64 b.N, .slice b.co b.cn b.cc, .slice b.io b.dn b.dc, .slice b.go b.gn b.gc, .slice b.ro b.rn b.rc, .bool b.bad] 26)) y ∧ ZU (w5.alloc (.cells #[.int .i64 b.N, .slice b.co b.cn b.cc, .slice b.io b.dn b.dc, .slice b.go b.gn b.gc, .slice b.ro b.rn b.rc, .bool b.bad] 26)) v ∧ bitsB y v = true ∧ ZR (w5.alloc (.cells #[.int .i64 b.N, .slice b.co b.cn b.cc, .slice b.io b.dn b.dc, .slice b.go b.gn b.gc, .slice b.ro b.rn b.rc, .bool b.bad] 26)) b ∧ BxR x b) := ⟨to_call P4.out.1 b45, heap_alloc_new w5 _, kept b45 P4.out.2.2.1, kept b45 P4.out.2.1, P4.out.2.2.2.1.later b45, P4.out.2.2.2.2.1.later b45, P4.out.2.2.2.2.2, hzb.later A5, hbr⟩
  obtain ⟨W5, hW5⟩ : ∃ W5, w5.alloc (.cells #[.int .i64 b.N, .slice b.co b.cn b.cc, .slice b.io b.dn b.dc, .slice b.go b.gn b.gc, .slice b.ro b.rn b.rc, .bool b.bad] 26) = W5 := ⟨_, rfl⟩
  obtain ⟨B11, hB11⟩ : ∃ B11, w5.heap.size = B11 := ⟨_, rfl⟩
  rw [hW5, hB11] at P5
  rw [hW5, hB11]
  clear hW5 hB11 A5 b45 b5 hzb hzwb hbr HBP P4
  have HSL : Hid (∀ W', Below W5.heap.size W5 W' → Calls Tryz.prog 9 #[.agg (zRow y), .agg (zRow v)] W' fun e w' => e = .returned (.bool true) ∧ Below W'.heap.size W' w') := fun W' hb => by
    have h := refSameZ_any y v W' (P5.out.2.2.2.2.1.later hb) (P5.out.2.2.2.2.2.1.later hb)
    rw [P5.out.2.2.2.2.2.2.1] at h
    exact h
  have HBX : Hid (∀ W', Below W5.heap.size W5 W' → _) := fun W' hb => HBU.out W' (to_call P5.out.1 hb)
  have HSB : Hid (∀ (c : ZD) W', Below W5.heap.size W5 W' → ZU W' c → BxD u c → Calls Tryz.prog 9 #[.agg (zRow b), .agg (zRow c)] W' fun e w' => e = .returned (.bool true) ∧ Below W'.heap.size W' w') := fun c W' hb hc hd => by
    have h := refSameZ_any b c W' (P5.out.2.2.2.2.2.2.2.1.later hb) hc
    rw [BxR.doc P5.out.2.2.2.2.2.2.2.2 hd HDO.out.1 HDO.out.2 HSXU.out] at h
    exact h
  have HHD : Hid (∀ W', Below W5.heap.size W5 W' → _) := fun W' hb => HHX.out W' (to_call P5.out.1 hb)
  unfold zRow at HSL HSB
  have dnn : (m == m) = true := by simp
  have SX : (fun V => V.heap[B6]? = some (.cells #[.int .i64 x.N, .slice x.co x.cn x.cc, .slice x.io x.dn x.dc, .slice x.go x.gn x.gc, .slice x.ro x.rn x.rc, .bool x.bad] 26) ∧ V.heap[B5]? = some (.cells #[.int .i64 u.N, .slice u.co u.cn u.cc, .slice u.io u.dn u.dc, .slice u.go u.gn u.gc, .slice u.ro u.rn u.rc, .bool u.bad] 30) ∧ V.heap[B7]? = some (.cells #[.int .i64 y.N, .slice y.co y.cn y.cc, .slice y.io y.dn y.dc, .slice y.go y.gn y.gc, .slice y.ro y.rn y.rc, .bool y.bad] 26) ∧ V.heap[B9]? = some (.cells #[.int .i64 v.N, .slice v.co v.cn v.cc, .slice v.io v.dn v.dc, .slice v.go v.gn v.gc, .slice v.ro v.rn v.rc, .bool v.bad] 30) ∧ V.heap[B11]? = some (.cells #[.int .i64 b.N, .slice b.co b.cn b.cc, .slice b.io b.dn b.dc, .slice b.go b.gn b.gc, .slice b.ro b.rn b.rc, .bool b.bad] 26)) W5.drew := ⟨kept P5.out.1.drew HWW.out.2.1, kept P5.out.1.drew HWW.out.2.2, P5.out.2.2.1, P5.out.2.2.2.1, P5.out.2.1⟩
  have qV : Below W5.heap.size W5 W5.drew := (Below.refl _ W5).drew
  clear HHX HBU
  refine wp_region_noPanic ?_
  refine wp_region_held_drew (S := (fun V => V.heap[B6]? = some (.cells #[.int .i64 x.N, .slice x.co x.cn x.cc, .slice x.io x.dn x.dc, .slice x.go x.gn x.gc, .slice x.ro x.rn x.rc, .bool x.bad] 26) ∧ V.heap[B5]? = some (.cells #[.int .i64 u.N, .slice u.co u.cn u.cc, .slice u.io u.dn u.dc, .slice u.go u.gn u.gc, .slice u.ro u.rn u.rc, .bool u.bad] 30) ∧ V.heap[B7]? = some (.cells #[.int .i64 y.N, .slice y.co y.cn y.cc, .slice y.io y.dn y.dc, .slice y.go y.gn y.gc, .slice y.ro y.rn y.rc, .bool y.bad] 26) ∧ V.heap[B9]? = some (.cells #[.int .i64 v.N, .slice v.co v.cn v.cc, .slice v.io v.dn v.dc, .slice v.go v.gn v.gc, .slice v.ro v.rn v.rc, .bool v.bad] 30) ∧ V.heap[B11]? = some (.cells #[.int .i64 b.N, .slice b.co b.cn b.cc, .slice b.io b.dn b.dc, .slice b.go b.gn b.gc, .slice b.ro b.rn b.rc, .bool b.bad] 26))) (by kernel_rfl) SX (fun _ => ?_)
  refine takeH 30 (i := 0) (v := ?_) rfl rfl (by kernel_rfl) (by kernel_rfl) (by kernel_rfl) (fun _ _ _ h => h) (Or.inl ⟨by kernel_rfl, ?_⟩) SX ?_
  rotate_left
  · intro w' hSw; go_simp; try with_reducible rfl
  try simp only [Act.put, List.setIfInBounds_toArray, List.set_cons_zero, List.set_cons_succ]
  refine takeH 31 (i := 1) (v := ?_) rfl rfl (by kernel_rfl) (by kernel_rfl) (by kernel_rfl) (fun _ _ _ h => h) (Or.inl ⟨by kernel_rfl, ?_⟩) SX ?_
  rotate_left
  · intro w' hSw; go_simp; try with_reducible rfl
  try simp only [Act.put, List.setIfInBounds_toArray, List.set_cons_zero, List.set_cons_succ]
  refine takeH 32 (i := 2) (v := ?_) rfl rfl (by kernel_rfl) (by kernel_rfl) (by kernel_rfl) (fun _ _ _ h => h) (Or.inl ⟨by kernel_rfl, ?_⟩) SX ?_
  rotate_left
  · intro w' hSw; go_simp; try with_reducible rfl
  try simp only [Act.put, List.setIfInBounds_toArray, List.set_cons_zero, List.set_cons_succ]
  refine takeH 33 (i := 3) (v := ?_) rfl rfl (by kernel_rfl) (by kernel_rfl) (by kernel_rfl) (fun _ _ _ h => h) (Or.inl ⟨by kernel_rfl, ?_⟩) SX ?_
  rotate_left
  · intro w' hSw; go_simp; try with_reducible rfl
  try simp only [Act.put, List.setIfInBounds_toArray, List.set_cons_zero, List.set_cons_succ]
  refine takeH 34 (i := 4) (v := .agg #[.int .i64 y.N, .slice y.co y.cn y.cc, .slice y.io y.dn y.dc, .slice y.go y.gn y.gc, .slice y.ro y.rn y.rc, .bool y.bad]) rfl rfl (by kernel_rfl) (by kernel_rfl) (by kernel_rfl) (fun _ _ _ h => h) (Or.inl ⟨by kernel_rfl, fun w' hSw => ex_loadRN _ 26 _ rfl B7 (by kernel_rfl) w' _ hSw.2.2.1 _ Tryz.underlying26 rfl 6 Tryz.infoZ rfl⟩) SX ?_
  try simp only [Act.put, List.setIfInBounds_toArray, List.set_cons_zero, List.set_cons_succ]
  refine takeH 35 (i := 5) (v := .agg #[.int .i64 v.N, .slice v.co v.cn v.cc, .slice v.io v.dn v.dc, .slice v.go v.gn v.gc, .slice v.ro v.rn v.rc, .bool v.bad]) rfl rfl (by kernel_rfl) (by kernel_rfl) (by kernel_rfl) (fun _ _ _ h => h) (Or.inl ⟨by kernel_rfl, fun w' hSw => ex_loadRN _ 30 _ rfl B9 (by kernel_rfl) w' _ hSw.2.2.2.1 _ Tryz.underlying30 rfl 6 Tryz.infoZu rfl⟩) SX ?_
  try simp only [Act.put, List.setIfInBounds_toArray, List.set_cons_zero, List.set_cons_succ]
  refine wpAnyH_ready (rs := [6]) (by kernel_rfl) (by simp) ?_
  refine consH _ rfl (hopCd 36 rfl (by kernel_rfl) rfl (by kernel_rfl) (Calls.mono (HSL.out _ qV) ?_)) AllReadyH.nil
  rintro e V1 ⟨rfl, hb⟩
  have qV1 : Below W5.heap.size W5 V1 := to_call qV hb
  have SX : (fun V => V.heap[B6]? = some (.cells #[.int .i64 x.N, .slice x.co x.cn x.cc, .slice x.io x.dn x.dc, .slice x.go x.gn x.gc, .slice x.ro x.rn x.rc, .bool x.bad] 26) ∧ V.heap[B5]? = some (.cells #[.int .i64 u.N, .slice u.co u.cn u.cc, .slice u.io u.dn u.dc, .slice u.go u.gn u.gc, .slice u.ro u.rn u.rc, .bool u.bad] 30) ∧ V.heap[B7]? = some (.cells #[.int .i64 y.N, .slice y.co y.cn y.cc, .slice y.io y.dn y.dc, .slice y.go y.gn y.gc, .slice y.ro y.rn y.rc, .bool y.bad] 26) ∧ V.heap[B9]? = some (.cells #[.int .i64 v.N, .slice v.co v.cn v.cc, .slice v.io v.dn v.dc, .slice v.go v.gn v.gc, .slice v.ro v.rn v.rc, .bool v.bad] 30) ∧ V.heap[B11]? = some (.cells #[.int .i64 b.N, .slice b.co b.cn b.cc, .slice b.io b.dn b.dc, .slice b.go b.gn b.gc, .slice b.ro b.rn b.rc, .bool b.bad] 26)) V1 := ⟨kept hb SX.1, kept hb SX.2.1, kept hb SX.2.2.1, kept hb SX.2.2.2.1, kept hb SX.2.2.2.2⟩
  clear hb
  refine ⟨_, rfl, SX, ?_⟩
  try simp only [Act.put, List.setIfInBounds_toArray, List.set_cons_zero, List.set_cons_succ]
  refine takeH 37 (i := 7) (v := ?_) rfl rfl (by kernel_rfl) (by kernel_rfl) (by kernel_rfl) (fun _ _ _ h => h) (Or.inl ⟨by kernel_rfl, ?_⟩) SX ?_
  rotate_left
  · intro w' hSw; go_simp; try with_reducible rfl
  try simp only [Act.put, List.setIfInBounds_toArray, List.set_cons_zero, List.set_cons_succ]
  refine takeH 38 (i := 8) (v := ?_) rfl rfl (by kernel_rfl) (by kernel_rfl) (by kernel_rfl) (fun _ _ _ h => h) (Or.inl ⟨by kernel_rfl, ?_⟩) SX ?_
  rotate_left
  · intro w' hSw; go_simp; try with_reducible rfl
  try simp only [Act.put, List.setIfInBounds_toArray, List.set_cons_zero, List.set_cons_succ]
  refine takeH 39 (i := 9) (v := .agg #[.int .i64 b.N, .slice b.co b.cn b.cc, .slice b.io b.dn b.dc, .slice b.go b.gn b.gc, .slice b.ro b.rn b.rc, .bool b.bad]) rfl rfl (by kernel_rfl) (by kernel_rfl) (by kernel_rfl) (fun _ _ _ h => h) (Or.inl ⟨by kernel_rfl, fun w' hSw => ex_loadRN _ 26 _ rfl B11 (by kernel_rfl) w' _ hSw.2.2.2.2 _ Tryz.underlying26 rfl 6 Tryz.infoZ rfl⟩) SX ?_
  try simp only [Act.put, List.setIfInBounds_toArray, List.set_cons_zero, List.set_cons_succ]
  refine takeH 40 (i := 10) (v := .agg #[.int .i64 u.N, .slice u.co u.cn u.cc, .slice u.io u.dn u.dc, .slice u.go u.gn u.gc, .slice u.ro u.rn u.rc, .bool u.bad]) rfl rfl (by kernel_rfl) (by kernel_rfl) (by kernel_rfl) (fun _ _ _ h => h) (Or.inl ⟨by kernel_rfl, fun w' hSw => ex_loadRN _ 30 _ rfl B5 (by kernel_rfl) w' _ hSw.2.1 _ Tryz.underlying30 rfl 6 Tryz.infoZu rfl⟩) SX ?_
  try simp only [Act.put, List.setIfInBounds_toArray, List.set_cons_zero, List.set_cons_succ]
  refine wpAnyH_ready (rs := [11]) (by kernel_rfl) (by simp) ?_
  refine consH _ rfl (hopCd 41 rfl (by kernel_rfl) rfl (by kernel_rfl) (Calls.mono (HBX.out _ qV1) ?_)) AllReadyH.nil
  rintro e V2 ⟨c, rfl, hzc, hbd, hb⟩
  have qV2 : Below W5.heap.size W5 V2 := to_call qV1 hb
  have SX : (fun V => V.heap[B6]? = some (.cells #[.int .i64 x.N, .slice x.co x.cn x.cc, .slice x.io x.dn x.dc, .slice x.go x.gn x.gc, .slice x.ro x.rn x.rc, .bool x.bad] 26) ∧ V.heap[B5]? = some (.cells #[.int .i64 u.N, .slice u.co u.cn u.cc, .slice u.io u.dn u.dc, .slice u.go u.gn u.gc, .slice u.ro u.rn u.rc, .bool u.bad] 30) ∧ V.heap[B7]? = some (.cells #[.int .i64 y.N, .slice y.co y.cn y.cc, .slice y.io y.dn y.dc, .slice y.go y.gn y.gc, .slice y.ro y.rn y.rc, .bool y.bad] 26) ∧ V.heap[B9]? = some (.cells #[.int .i64 v.N, .slice v.co v.cn v.cc, .slice v.io v.dn v.dc, .slice v.go v.gn v.gc, .slice v.ro v.rn v.rc, .bool v.bad] 30) ∧ V.heap[B11]? = some (.cells #[.int .i64 b.N, .slice b.co b.cn b.cc, .slice b.io b.dn b.dc, .slice b.go b.gn b.gc, .slice b.ro b.rn b.rc, .bool b.bad] 26)) V2 := ⟨kept hb SX.1, kept hb SX.2.1, kept hb SX.2.2.1, kept hb SX.2.2.2.1, kept hb SX.2.2.2.2⟩
  have HC : Hid (ZU V2 c ∧ BxD u c) := ⟨hzc, hbd⟩
  clear hb hzc hbd
  refine ⟨_, rfl, SX, ?_⟩
  try simp only [Act.put, List.setIfInBounds_toArray, List.set_cons_zero, List.set_cons_succ]
  refine wpAnyH_ready (rs := [12]) (by kernel_rfl) (by simp) ?_
  refine consH _ rfl (hopCd 42 rfl (by kernel_rfl) rfl (by kernel_rfl) (Calls.mono (HSB.out c _ qV2 HC.out.1 HC.out.2) ?_)) AllReadyH.nil
  rintro e V3 ⟨rfl, hb⟩
  have qV3 : Below W5.heap.size W5 V3 := to_call qV2 hb
  have SX : (fun V => V.heap[B6]? = some (.cells #[.int .i64 x.N, .slice x.co x.cn x.cc, .slice x.io x.dn x.dc, .slice x.go x.gn x.gc, .slice x.ro x.rn x.rc, .bool x.bad] 26) ∧ V.heap[B5]? = some (.cells #[.int .i64 u.N, .slice u.co u.cn u.cc, .slice u.io u.dn u.dc, .slice u.go u.gn u.gc, .slice u.ro u.rn u.rc, .bool u.bad] 30) ∧ V.heap[B7]? = some (.cells #[.int .i64 y.N, .slice y.co y.cn y.cc, .slice y.io y.dn y.dc, .slice y.go y.gn y.gc, .slice y.ro y.rn y.rc, .bool y.bad] 26) ∧ V.heap[B9]? = some (.cells #[.int .i64 v.N, .slice v.co v.cn v.cc, .slice v.io v.dn v.dc, .slice v.go v.gn v.gc, .slice v.ro v.rn v.rc, .bool v.bad] 30) ∧ V.heap[B11]? = some (.cells #[.int .i64 b.N, .slice b.co b.cn b.cc, .slice b.io b.dn b.dc, .slice b.go b.gn b.gc, .slice b.ro b.rn b.rc, .bool b.bad] 26)) V3 := ⟨kept hb SX.1, kept hb SX.2.1, kept hb SX.2.2.1, kept hb SX.2.2.2.1, kept hb SX.2.2.2.2⟩
  clear hb
  refine ⟨_, rfl, SX, ?_⟩
  try simp only [Act.put, List.setIfInBounds_toArray, List.set_cons_zero, List.set_cons_succ]
  refine takeH 43 (i := 13) (v := ?_) rfl rfl (by kernel_rfl) (by kernel_rfl) (by kernel_rfl) (fun _ _ _ h => h) (Or.inl ⟨by kernel_rfl, ?_⟩) SX ?_
  rotate_left
  · intro w' hSw; go_simp; try with_reducible rfl
  try simp only [Act.put, List.setIfInBounds_toArray, List.set_cons_zero, List.set_cons_succ]
  refine takeH 44 (i := 14) (v := ?_) rfl rfl (by kernel_rfl) (by kernel_rfl) (by kernel_rfl) (fun _ _ _ h => h) (Or.inl ⟨by kernel_rfl, ?_⟩) SX ?_
  rotate_left
  · intro w' hSw; go_simp; try with_reducible rfl
  try simp only [Act.put, List.setIfInBounds_toArray, List.set_cons_zero, List.set_cons_succ]
  refine takeH 45 (i := 15) (v := .agg #[.int .i64 x.N, .slice x.co x.cn x.cc, .slice x.io x.dn x.dc, .slice x.go x.gn x.gc, .slice x.ro x.rn x.rc, .bool x.bad]) rfl rfl (by kernel_rfl) (by kernel_rfl) (by kernel_rfl) (fun _ _ _ h => h) (Or.inl ⟨by kernel_rfl, fun w' hSw => ex_loadRN _ 26 _ rfl B6 (by kernel_rfl) w' _ hSw.1 _ Tryz.underlying26 rfl 6 Tryz.infoZ rfl⟩) SX ?_
  try simp only [Act.put, List.setIfInBounds_toArray, List.set_cons_zero, List.set_cons_succ]
  refine takeH 46 (i := 16) (v := .agg #[.int .i64 u.N, .slice u.co u.cn u.cc, .slice u.io u.dn u.dc, .slice u.go u.gn u.gc, .slice u.ro u.rn u.rc, .bool u.bad]) rfl rfl (by kernel_rfl) (by kernel_rfl) (by kernel_rfl) (fun _ _ _ h => h) (Or.inl ⟨by kernel_rfl, fun w' hSw => ex_loadRN _ 30 _ rfl B5 (by kernel_rfl) w' _ hSw.2.1 _ Tryz.underlying30 rfl 6 Tryz.infoZu rfl⟩) SX ?_
  try simp only [Act.put, List.setIfInBounds_toArray, List.set_cons_zero, List.set_cons_succ]
  refine wpAnyH_ready (rs := [17]) (by kernel_rfl) (by simp) ?_
  refine consH _ rfl (hopCd 47 rfl (by kernel_rfl) rfl (by kernel_rfl) (Calls.mono (HHD.out _ qV3) ?_)) AllReadyH.nil
  rintro e V4 ⟨rfl, hb⟩
  have qV4 : Below W5.heap.size W5 V4 := to_call qV3 hb
  have SX : (fun V => V.heap[B6]? = some (.cells #[.int .i64 x.N, .slice x.co x.cn x.cc, .slice x.io x.dn x.dc, .slice x.go x.gn x.gc, .slice x.ro x.rn x.rc, .bool x.bad] 26) ∧ V.heap[B5]? = some (.cells #[.int .i64 u.N, .slice u.co u.cn u.cc, .slice u.io u.dn u.dc, .slice u.go u.gn u.gc, .slice u.ro u.rn u.rc, .bool u.bad] 30) ∧ V.heap[B7]? = some (.cells #[.int .i64 y.N, .slice y.co y.cn y.cc, .slice y.io y.dn y.dc, .slice y.go y.gn y.gc, .slice y.ro y.rn y.rc, .bool y.bad] 26) ∧ V.heap[B9]? = some (.cells #[.int .i64 v.N, .slice v.co v.cn v.cc, .slice v.io v.dn v.dc, .slice v.go v.gn v.gc, .slice v.ro v.rn v.rc, .bool v.bad] 30) ∧ V.heap[B11]? = some (.cells #[.int .i64 b.N, .slice b.co b.cn b.cc, .slice b.io b.dn b.dc, .slice b.go b.gn b.gc, .slice b.ro b.rn b.rc, .bool b.bad] 26)) V4 := ⟨kept hb SX.1, kept hb SX.2.1, kept hb SX.2.2.1, kept hb SX.2.2.2.1, kept hb SX.2.2.2.2⟩
  clear hb
  refine ⟨_, rfl, SX, ?_⟩
  try simp only [Act.put, List.setIfInBounds_toArray, List.set_cons_zero, List.set_cons_succ]
  refine takeH 48 (i := 18) (v := ?_) rfl rfl (by kernel_rfl) (by kernel_rfl) (by kernel_rfl) (fun _ _ _ h => h) (Or.inl ⟨by kernel_rfl, ?_⟩) SX ?_
  rotate_left
  · intro w' hSw; go_simp; try with_reducible rfl
  try simp only [Act.put, List.setIfInBounds_toArray, List.set_cons_zero, List.set_cons_succ]
  refine takeH 49 (i := 19) (v := ?_) rfl rfl (by kernel_rfl) (by kernel_rfl) (by kernel_rfl) (fun _ _ _ h => h) (Or.inl ⟨by kernel_rfl, ?_⟩) SX ?_
  rotate_left
  · intro w' hSw; go_simp; try with_reducible rfl
  try simp only [Act.put, List.setIfInBounds_toArray, List.set_cons_zero, List.set_cons_succ]
  refine wpAnyH_ready (rs := [20]) (by kernel_rfl) (by simp) ?_
  refine consH _ rfl (hopCd 50 rfl (by kernel_rfl) rfl (by kernel_rfl) (Calls.mono (started_any _) ?_)) AllReadyH.nil
  rintro e V5 ⟨rfl, hb⟩
  have qV5 : Below W5.heap.size W5 V5 := to_call qV4 hb
  have SX : (fun V => V.heap[B6]? = some (.cells #[.int .i64 x.N, .slice x.co x.cn x.cc, .slice x.io x.dn x.dc, .slice x.go x.gn x.gc, .slice x.ro x.rn x.rc, .bool x.bad] 26) ∧ V.heap[B5]? = some (.cells #[.int .i64 u.N, .slice u.co u.cn u.cc, .slice u.io u.dn u.dc, .slice u.go u.gn u.gc, .slice u.ro u.rn u.rc, .bool u.bad] 30) ∧ V.heap[B7]? = some (.cells #[.int .i64 y.N, .slice y.co y.cn y.cc, .slice y.io y.dn y.dc, .slice y.go y.gn y.gc, .slice y.ro y.rn y.rc, .bool y.bad] 26) ∧ V.heap[B9]? = some (.cells #[.int .i64 v.N, .slice v.co v.cn v.cc, .slice v.io v.dn v.dc, .slice v.go v.gn v.gc, .slice v.ro v.rn v.rc, .bool v.bad] 30) ∧ V.heap[B11]? = some (.cells #[.int .i64 b.N, .slice b.co b.cn b.cc, .slice b.io b.dn b.dc, .slice b.go b.gn b.gc, .slice b.ro b.rn b.rc, .bool b.bad] 26)) V5 := ⟨kept hb SX.1, kept hb SX.2.1, kept hb SX.2.2.1, kept hb SX.2.2.2.1, kept hb SX.2.2.2.2⟩
  clear hb
  refine ⟨_, rfl, SX, ?_⟩
  try simp only [Act.put, List.setIfInBounds_toArray, List.set_cons_zero, List.set_cons_succ]
  refine takeH 51 (i := 21) (v := ?_) rfl rfl (by kernel_rfl) (by kernel_rfl) (by kernel_rfl) (fun _ _ _ h => h) (Or.inl ⟨by kernel_rfl, ?_⟩) SX ?_
  rotate_left
  · intro w' hSw; go_simp; try with_reducible rfl
  try simp only [Act.put, List.setIfInBounds_toArray, List.set_cons_zero, List.set_cons_succ]
  refine takeH 4 (i := 22) (v := ?_) rfl rfl (by kernel_rfl) (by kernel_rfl) (by kernel_rfl) (fun _ _ _ h => h) (Or.inl ⟨by kernel_rfl, ?_⟩) SX ?_
  rotate_left
  · intro w' hSw; go_simp; try with_reducible rfl
  try simp only [Act.put, List.setIfInBounds_toArray, List.set_cons_zero, List.set_cons_succ]
  refine wpAnyH_done (by kernel_rfl) ?_ _
  refine NoPanic.normal ?_
  try simp only [Act.put, List.setIfInBounds_toArray, List.set_cons_zero, List.set_cons_succ]
  have QE : Hid (Below W5.heap.size W5 V5) := qV5
  clear SX qV qV1 qV2 qV3 qV4 qV5 HC
  go_wp2_with fail
  go_ret
  exact ⟨rfl, to_call HWW.out.1 (to_call P5.out.1 QE.out)⟩
end Go.Proofs.YtkpplacilehngaaGreat
