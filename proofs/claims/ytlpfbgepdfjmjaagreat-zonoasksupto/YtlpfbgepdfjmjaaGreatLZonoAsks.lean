import Derived.Test.YtlpfbgepdfjmjaaGreatJXi
import Derived.Test.YtlpfbgepdfjmjaaGreatGJh
namespace Go.Proofs.YtlpfbgepdfjmjaaGreat
open Go.RowKit Go.Shelf
set_option linter.unusedVariables false
set_option linter.unusedSimpArgs false

set_option maxRecDepth 100000 in
set_option maxHeartbeats 8000000 in
theorem zonoAsks_walk (z : ZD) (dO : Option Addr) (dl dcap : Nat) (ds : List Nat) (w : World) (hz : ZR w z) (hw : ZW z) (hds : RdF w dO dl dcap ds) (hno : dO = none → dl = 0 ∧ dcap = 0) (hdl : dl ≤ 1050000) :
    Calls Tryz.prog 3 #[.agg (zRow z), .slice dO dl dcap] w fun e w' => e = .returned (.bool true) ∧ Below w.heap.size w w' := by
  have HOF : Hid (∀ W', Below w.heap.size w W' → _) := fun W' hb => ofU z W' (hz.later hb) hw
  have HLA : Hid (∀ W', Below w.heap.size w W' → _) := fun W' hb => laid_any z W' (hz.later hb) hw
  have HWD : Hid (∀ W', Below w.heap.size w W' → _) := fun W' hb => wide_any dO dl dcap ds W' (hds.later hb) hno hdl
  have HDS : Hid (∀ W', Below w.heap.size w W' → RdF W' dO dl dcap ds) := fun W' hb => hds.later hb
  have HZ : Hid (ZR w z ∧ ZW z) := ⟨hz, hw⟩
  have HDL : Hid (dl ≤ 1050000 ∧ ds.length = dl) := ⟨hdl, hds.length⟩
  have H64 : Hid (∀ x ∈ ds, x < 18446744073709551616) := hds.lt
  unfold zRow at HOF HLA ⊢
  clear hz hw hds hno hdl
  have X0 : Below w.heap.size w (w.alloc (.cells #[.int .i64 z.N, .slice z.co z.cn z.cc, .slice z.io z.dn z.dc, .slice z.go z.gn z.gc, .slice z.ro z.rn z.rc, .bool z.bad] 26)) := (Below.refl _ w).alloc (Nat.le_refl _) _
  have Y0 : (w.alloc (.cells #[.int .i64 z.N, .slice z.co z.cn z.cc, .slice z.io z.dn z.dc, .slice z.go z.gn z.gc, .slice z.ro z.rn z.rc, .bool z.bad] 26)).heap[w.heap.size]? = some (.cells #[.int .i64 z.N, .slice z.co z.cn z.cc, .slice z.io z.dn z.dc, .slice z.go z.gn z.gc, .slice z.ro z.rn z.rc, .bool z.bad] 26) := heap_alloc_new w _
  have HX : Hid _ := And.intro X0 Y0
  clear X0 Y0
  go_enter Tryz.func3, Tryz.ntmps3
  go_upto_region 2 with (first
    | (refine wpList_load_row (by rfl) 26 _ (by rfl) w.heap.size _ (by rfl) HX.out.2 _ Tryz.underlying26 rfl 6 Tryz.infoZ (by rfl) ?_)
    | (go_at_call 4; refine Calls.mono (HOF.out _ HX.out.1) ?_; rintro e w1 ⟨u, rfl, hu, hsm, b1⟩))
  have A1 : Below w1.heap.size w1 (w1.alloc (.cells #[.int .i64 u.N, .slice u.co u.cn u.cc, .slice u.io u.dn u.dc, .slice u.go u.gn u.gc, .slice u.ro u.rn u.rc, .bool u.bad] 30)) := (Below.refl _ w1).alloc (Nat.le_refl _) _
  have P1 : Hid (Below w.heap.size w (w1.alloc (.cells #[.int .i64 u.N, .slice u.co u.cn u.cc, .slice u.io u.dn u.dc, .slice u.go u.gn u.gc, .slice u.ro u.rn u.rc, .bool u.bad] 30)) ∧ (w1.alloc (.cells #[.int .i64 u.N, .slice u.co u.cn u.cc, .slice u.io u.dn u.dc, .slice u.go u.gn u.gc, .slice u.ro u.rn u.rc, .bool u.bad] 30)).heap[w.heap.size]? = some (.cells #[.int .i64 z.N, .slice z.co z.cn z.cc, .slice z.io z.dn z.dc, .slice z.go z.gn z.gc, .slice z.ro z.rn z.rc, .bool z.bad] 26) ∧ (w1.alloc (.cells #[.int .i64 u.N, .slice u.co u.cn u.cc, .slice u.io u.dn u.dc, .slice u.go u.gn u.gc, .slice u.ro u.rn u.rc, .bool u.bad] 30)).heap[w1.heap.size]? = some (.cells #[.int .i64 u.N, .slice u.co u.cn u.cc, .slice u.io u.dn u.dc, .slice u.go u.gn u.gc, .slice u.ro u.rn u.rc, .bool u.bad] 30) ∧ ZU (w1.alloc (.cells #[.int .i64 u.N, .slice u.co u.cn u.cc, .slice u.io u.dn u.dc, .slice u.go u.gn u.gc, .slice u.ro u.rn u.rc, .bool u.bad] 30)) u) := ⟨to_call (to_call HX.out.1 b1) A1, kept A1 (kept b1 HX.out.2), heap_alloc_new w1 _, hu.later A1⟩
  have HSU : Hid (SmZ u z) := hsm
  obtain ⟨X1, hX1⟩ : ∃ X1, w1.alloc (.cells #[.int .i64 u.N, .slice u.co u.cn u.cc, .slice u.io u.dn u.dc, .slice u.go u.gn u.gc, .slice u.ro u.rn u.rc, .bool u.bad] 30) = X1 := ⟨_, rfl⟩
  obtain ⟨B5, hB5⟩ : ∃ B5, w1.heap.size = B5 := ⟨_, rfl⟩
  rw [hX1, hB5] at P1
  rw [hX1, hB5]
  clear hX1 hB5 A1 b1 hu hsm HX HOF
  go_upto_region 3 with (first
    | (refine wpList_load_row (by rfl) 26 _ (by rfl) w.heap.size _ (by rfl) P1.out.2.1 _ Tryz.underlying26 rfl 6 Tryz.infoZ (by rfl) ?_)
    | (go_at_call 5; refine Calls.mono (HLA.out _ P1.out.1) ?_; rintro e w2 ⟨x, rfl, hx, b2⟩))
  have A2 : Below w2.heap.size w2 (w2.alloc (.cells #[.int .i64 x.N, .slice x.co x.cn x.cc, .slice x.io x.dn x.dc, .slice x.go x.gn x.gc, .slice x.ro x.rn x.rc, .bool x.bad] 26)) := (Below.refl _ w2).alloc (Nat.le_refl _) _
  have P2 : Hid (Below w.heap.size w (w2.alloc (.cells #[.int .i64 x.N, .slice x.co x.cn x.cc, .slice x.io x.dn x.dc, .slice x.go x.gn x.gc, .slice x.ro x.rn x.rc, .bool x.bad] 26)) ∧ (w2.alloc (.cells #[.int .i64 x.N, .slice x.co x.cn x.cc, .slice x.io x.dn x.dc, .slice x.go x.gn x.gc, .slice x.ro x.rn x.rc, .bool x.bad] 26)).heap[w2.heap.size]? = some (.cells #[.int .i64 x.N, .slice x.co x.cn x.cc, .slice x.io x.dn x.dc, .slice x.go x.gn x.gc, .slice x.ro x.rn x.rc, .bool x.bad] 26) ∧ (w2.alloc (.cells #[.int .i64 x.N, .slice x.co x.cn x.cc, .slice x.io x.dn x.dc, .slice x.go x.gn x.gc, .slice x.ro x.rn x.rc, .bool x.bad] 26)).heap[B5]? = some (.cells #[.int .i64 u.N, .slice u.co u.cn u.cc, .slice u.io u.dn u.dc, .slice u.go u.gn u.gc, .slice u.ro u.rn u.rc, .bool u.bad] 30) ∧ ZU (w2.alloc (.cells #[.int .i64 x.N, .slice x.co x.cn x.cc, .slice x.io x.dn x.dc, .slice x.go x.gn x.gc, .slice x.ro x.rn x.rc, .bool x.bad] 26)) u ∧ LdR (w2.alloc (.cells #[.int .i64 x.N, .slice x.co x.cn x.cc, .slice x.io x.dn x.dc, .slice x.go x.gn x.gc, .slice x.ro x.rn x.rc, .bool x.bad] 26)) X1.heap.size z x) := ⟨to_call (to_call P1.out.1 b2) A2, heap_alloc_new w2 _, kept A2 (kept b2 P1.out.2.2.1), (P1.out.2.2.2.later b2).later A2, hx.later A2⟩
  have HSX : Hid (SmZ x z) := hx.sm HZ.out.1
  obtain ⟨X2, hX2⟩ : ∃ X2, w2.alloc (.cells #[.int .i64 x.N, .slice x.co x.cn x.cc, .slice x.io x.dn x.dc, .slice x.go x.gn x.gc, .slice x.ro x.rn x.rc, .bool x.bad] 26) = X2 := ⟨_, rfl⟩
  obtain ⟨B6, hB6⟩ : ∃ B6, w2.heap.size = B6 := ⟨_, rfl⟩
  rw [hX2, hB6] at P2
  rw [hX2, hB6]
  clear hX2 hB6 A2 b2 hx P1 HLA
  go_upto_region 4 with (go_at_call 6; refine Calls.mono (HWD.out _ P2.out.1) ?_; rintro e W3 ⟨gy, cy, rfl, hwd, b3⟩)
  have P3 : Hid (Below w.heap.size w W3 ∧ W3.heap[B6]? = some (.cells #[.int .i64 x.N, .slice x.co x.cn x.cc, .slice x.io x.dn x.dc, .slice x.go x.gn x.gc, .slice x.ro x.rn x.rc, .bool x.bad] 26) ∧ W3.heap[B5]? = some (.cells #[.int .i64 u.N, .slice u.co u.cn u.cc, .slice u.io u.dn u.dc, .slice u.go u.gn u.gc, .slice u.ro u.rn u.rc, .bool u.bad] 30) ∧ ZU W3 u ∧ LdR W3 X1.heap.size z x ∧ WdB W3 X2.heap.size gy cy ds) := ⟨to_call P2.out.1 b3, kept b3 P2.out.2.1, kept b3 P2.out.2.2.1, P2.out.2.2.2.1.later b3, P2.out.2.2.2.2.later b3, hwd⟩
  clear b3 hwd P2 HWD
  have hdn : x.dn ≤ 1050000 := by rw [HSX.out.dn]; exact HZ.out.2.il
  have HB : Hid (∀ W', Below W3.heap.size W3 W' → _) := fun W' hb => boundsR_any x W' (P3.out.2.2.2.2.1.zr.later hb) hdn
  have HRY : Hid (∀ W', Below W3.heap.size W3 W' → RdF W' (some ⟨gy, 0, none⟩) dl cy ds) := fun W' hb => by have := P3.out.2.2.2.2.2.rd.later hb; rw [HDL.out.2] at this; exact this
  have HS : Hid (∀ W', Below W3.heap.size W3 W' → _) := fun W' hb => supportA_any x (some ⟨gy, 0, none⟩) dl cy ds W' (P3.out.2.2.2.2.1.zr.later hb) hdn (HRY.out W' hb)
  have HBT : Hid (∀ W', Below W3.heap.size W3 W' → _) := fun W' hb => bits10_any dO dl dcap ds W' (HDS.out W' (to_call P3.out.1 hb)) HDL.out.1
  have huw : UW u := SmZ.uw HSU.out HZ.out.1 HZ.out.2 P3.out.2.2.2.1
  have HSD : Hid (∀ (ao : Option Addr) (len cap : Nat) W', Below W3.heap.size W3 W' → RdUs W' ao len cap ds → _) := fun ao len cap W' hb hr => refSupport_any u ao len cap ds W' (P3.out.2.2.2.1.later hb) huw hr H64.out (by rw [← hr.length, HDL.out.2]; exact HDL.out.1)
  have HBD : Hid (∀ W', Below W3.heap.size W3 W' → _) := fun W' hb => boundsD_any u W' (P3.out.2.2.2.1.later hb) huw
  have HSXU : Hid (SmZ u x) := HSU.out.trans HSX.out.symm
  have HSB : Hid (∀ W' (v1 v2 : Value), BdR W' x v1 → BdD W' u v2 → _) := fun W' v1 v2 h k => sameB_any x u v1 v2 W' W3 h k P3.out.2.2.2.2.1.zr hdn HSXU.out
  have HHD : Hid (∀ W', Below W3.heap.size W3 W' → Calls Tryz.prog 14 #[.agg (zRow x), .agg (zRow u)] W' fun e w' => e = .returned (.bool true) ∧ Below W'.heap.size W' w') := fun W' hb => heldJ_any z x u _ W' (P3.out.2.2.2.2.1.later hb) (P3.out.2.2.2.1.later hb) (SmZ.bits HSX.out HSU.out) (by rw [HSX.out.cs, HZ.out.1.c.length]; exact HZ.out.2.cl) (by rw [HSX.out.rs, HZ.out.1.r.length]; exact HZ.out.2.rl) (by rw [HSX.out.ids, HZ.out.1.i.length]; exact HZ.out.2.il) (by rw [HSX.out.gs, HZ.out.1.g.length]; exact HZ.out.2.gl) (fun j hj => by rw [HSX.out.gs] at hj ⊢; rw [HZ.out.1.g.length] at hj; rw [(HZ.out.1.g.each j hj).length]; exact HZ.out.2.coll j hj)
  have HKP : Hid (∀ W', Below W3.heap.size W3 W' → Calls Tryz.prog 15 #[.slice (some ⟨gy, 0, none⟩) dl cy] W' fun e w' => e = .returned (.bool true) ∧ w' = W') := fun W' hb => by
    have h := kept_any gy cy ds X2.heap.size W' (P3.out.2.2.2.2.2.keep fun k cur hc => hb.block k (blk_lt hc)) (by rw [HDL.out.2]; exact HDL.out.1)
    rw [HDL.out.2] at h
    exact h
  have HTY : Hid (∀ W', Below W3.heap.size W3 W' → _) := fun W' hb => text_any (some ⟨gy, 0, none⟩) dl cy ds W' (HRY.out W' hb) HDL.out.1
  have HTD : Hid (∀ W', Below W3.heap.size W3 W' → _) := fun W' hb => text_any dO dl dcap ds W' (HDS.out W' (to_call P3.out.1 hb)) HDL.out.1
  have HDO : Hid (ZR W3 x ∧ x.dn ≤ 1050000) := ⟨P3.out.2.2.2.2.1.zr, hdn⟩
  have HWW : Hid (Below w.heap.size w W3 ∧ W3.heap[B6]? = some (.cells #[.int .i64 x.N, .slice x.co x.cn x.cc, .slice x.io x.dn x.dc, .slice x.go x.gn x.gc, .slice x.ro x.rn x.rc, .bool x.bad] 26) ∧ W3.heap[B5]? = some (.cells #[.int .i64 u.N, .slice u.co u.cn u.cc, .slice u.io u.dn u.dc, .slice u.go u.gn u.gc, .slice u.ro u.rn u.rc, .bool u.bad] 30)) := ⟨P3.out.1, P3.out.2.1, P3.out.2.2.1⟩
  unfold zRow at HB HS HSD HBD HHD
  clear hdn huw HRY HDS H64
  go_upto_region 5 with (first
    | (refine wpList_load_row (by rfl) 26 _ (by rfl) B6 _ (by rfl) HWW.out.2.1 _ Tryz.underlying26 rfl 6 Tryz.infoZ (by rfl) ?_)
    | (go_at_call 7; refine Calls.mono (HB.out _ (Below.refl _ _)) ?_; rintro e W4 ⟨vl, rfl, hbl, b4⟩; have BL : Hid (BdR W4 x vl) := hbl; clear hbl))
  have Q4 : Hid (Below W3.heap.size W3 W4) := b4
  clear b4
  go_upto_region 6 with (first
    | (refine wpList_load_row (by rfl) 26 _ (by rfl) B6 _ (by rfl) (kept Q4.out HWW.out.2.1) _ Tryz.underlying26 rfl 6 Tryz.infoZ (by rfl) ?_)
    | (go_at_call 8; refine Calls.mono (HS.out _ Q4.out) ?_; rintro e W5 ⟨s, ok, rfl, hs1, b5⟩; have sup1 : Hid (SupA x ds s ok) := hs1; clear hs1))
  have Q5 : Hid (Below W3.heap.size W3 W5 ∧ BdR W5 x vl) := ⟨to_call Q4.out b5, BL.out.later b5⟩
  clear b5 BL Q4 HB HS
  have SX : (fun V => V.heap[B6]? = some (.cells #[.int .i64 x.N, .slice x.co x.cn x.cc, .slice x.io x.dn x.dc, .slice x.go x.gn x.gc, .slice x.ro x.rn x.rc, .bool x.bad] 26) ∧ V.heap[B5]? = some (.cells #[.int .i64 u.N, .slice u.co u.cn u.cc, .slice u.io u.dn u.dc, .slice u.go u.gn u.gc, .slice u.ro u.rn u.rc, .bool u.bad] 30)) W5.drew := ⟨kept Q5.out.1.drew HWW.out.2.1, kept Q5.out.1.drew HWW.out.2.2⟩
  have qV : Below W3.heap.size W3 W5.drew := Q5.out.1.drew
  refine wp_region_noPanic ?_
  refine wp_region_held_drew (S := (fun V => V.heap[B6]? = some (.cells #[.int .i64 x.N, .slice x.co x.cn x.cc, .slice x.io x.dn x.dc, .slice x.go x.gn x.gc, .slice x.ro x.rn x.rc, .bool x.bad] 26) ∧ V.heap[B5]? = some (.cells #[.int .i64 u.N, .slice u.co u.cn u.cc, .slice u.io u.dn u.dc, .slice u.go u.gn u.gc, .slice u.ro u.rn u.rc, .bool u.bad] 30))) (by kernel_rfl) SX (fun _ => ?_)
  refine takeH 28 (i := 0) (v := .agg #[.int .i64 u.N, .slice u.co u.cn u.cc, .slice u.io u.dn u.dc, .slice u.go u.gn u.gc, .slice u.ro u.rn u.rc, .bool u.bad]) rfl rfl (by kernel_rfl) (by kernel_rfl) (by kernel_rfl) (fun _ _ _ h => h) (Or.inl ⟨by kernel_rfl, fun w' hSw => ex_loadRN _ 30 _ rfl B5 (by kernel_rfl) w' _ hSw.2 _ Tryz.underlying30 rfl 6 Tryz.infoZu rfl⟩) SX ?_
  try simp only [Act.put, List.setIfInBounds_toArray, List.set_cons_zero, List.set_cons_succ]
  refine takeH 29 (i := 1) (v := ?_) rfl rfl (by kernel_rfl) (by kernel_rfl) (by kernel_rfl) (fun _ _ _ h => h) (Or.inl ⟨by kernel_rfl, ?_⟩) SX ?_
  rotate_left
  · intro w' hSw; go_simp; try with_reducible rfl
  try simp only [Act.put, List.setIfInBounds_toArray, List.set_cons_zero, List.set_cons_succ]
  refine wpAnyH_ready (rs := [2]) (by kernel_rfl) (by simp) ?_
  refine consH _ rfl (hopCd 30 rfl (by kernel_rfl) rfl (by kernel_rfl) (Calls.mono (HBT.out _ qV) ?_)) AllReadyH.nil
  rintro e V1 ⟨vb, rfl, ob, hb⟩
  obtain ⟨ba, bc, hvb, hrb⟩ := rdU_of ob
  subst hvb
  have qV1 : Below W3.heap.size W3 V1 := to_call qV hb
  have BB1 : Below W5.heap.size W5 V1 := to_call ((Below.refl _ W5).drew) hb
  have SX : (fun V => V.heap[B6]? = some (.cells #[.int .i64 x.N, .slice x.co x.cn x.cc, .slice x.io x.dn x.dc, .slice x.go x.gn x.gc, .slice x.ro x.rn x.rc, .bool x.bad] 26) ∧ V.heap[B5]? = some (.cells #[.int .i64 u.N, .slice u.co u.cn u.cc, .slice u.io u.dn u.dc, .slice u.go u.gn u.gc, .slice u.ro u.rn u.rc, .bool u.bad] 30)) V1 := ⟨kept hb SX.1, kept hb SX.2⟩
  clear hb ob
  refine ⟨_, rfl, SX, ?_⟩
  try simp only [Act.put, List.setIfInBounds_toArray, List.set_cons_zero, List.set_cons_succ]
  refine wpAnyH_ready (rs := [3]) (by kernel_rfl) (by simp) ?_
  refine consH _ rfl (hopCd 31 rfl (by kernel_rfl) rfl (by kernel_rfl) (Calls.mono (HSD.out _ _ _ _ qV1 hrb) ?_)) AllReadyH.nil
  rintro e V2 ⟨rs2, ok2, rfl, hs2, hb⟩
  have qV2 : Below W3.heap.size W3 V2 := to_call qV1 hb
  have BB2 : Below W5.heap.size W5 V2 := to_call BB1 hb
  have SX : (fun V => V.heap[B6]? = some (.cells #[.int .i64 x.N, .slice x.co x.cn x.cc, .slice x.io x.dn x.dc, .slice x.go x.gn x.gc, .slice x.ro x.rn x.rc, .bool x.bad] 26) ∧ V.heap[B5]? = some (.cells #[.int .i64 u.N, .slice u.co u.cn u.cc, .slice u.io u.dn u.dc, .slice u.go u.gn u.gc, .slice u.ro u.rn u.rc, .bool u.bad] 30)) V2 := ⟨kept hb SX.1, kept hb SX.2⟩
  have sup2 : Hid (SupD u ds rs2 ok2) := hs2
  clear hb hs2 hrb
  refine ⟨_, rfl, SX, ?_⟩
  try simp only [Act.put, List.setIfInBounds_toArray, List.set_cons_zero, List.set_cons_succ]
  refine takeH 27 (i := 4) (v := ?_) rfl rfl (by kernel_rfl) (by kernel_rfl) (by kernel_rfl) (fun _ _ _ h => h) (Or.inl ⟨by kernel_rfl, ?_⟩) SX ?_
  rotate_left
  · intro w' hSw; go_simp; try with_reducible rfl
  try simp only [Act.put, List.setIfInBounds_toArray, List.set_cons_zero, List.set_cons_succ]
  refine takeH 32 (i := 5) (v := ?_) rfl rfl (by kernel_rfl) (by kernel_rfl) (by kernel_rfl) (fun _ _ _ h => h) (Or.inl ⟨by kernel_rfl, ?_⟩) SX ?_
  rotate_left
  · intro w' hSw; go_simp; try with_reducible rfl
  try simp only [Act.put, List.setIfInBounds_toArray, List.set_cons_zero, List.set_cons_succ]
  refine takeH 33 (i := 6) (v := ?_) rfl rfl (by kernel_rfl) (by kernel_rfl) (by kernel_rfl) (fun _ _ _ h => h) (Or.inl ⟨by kernel_rfl, ?_⟩) SX ?_
  rotate_left
  · intro w' hSw; go_simp; try with_reducible rfl
  try simp only [Act.put, List.setIfInBounds_toArray, List.set_cons_zero, List.set_cons_succ]
  refine takeH 11 (i := 7) (v := ?_) rfl rfl (by kernel_rfl) (by kernel_rfl) (by kernel_rfl) (fun _ _ _ h => h) (Or.inl ⟨by kernel_rfl, ?_⟩) SX ?_
  rotate_left
  · intro w' hSw; go_simp; try with_reducible rfl
  try simp only [Act.put, List.setIfInBounds_toArray, List.set_cons_zero, List.set_cons_succ]
  refine takeH 12 (i := 8) (v := ?_) rfl rfl (by kernel_rfl) (by kernel_rfl) (by kernel_rfl) (fun _ _ _ h => h) (Or.inl ⟨by kernel_rfl, ?_⟩) SX ?_
  rotate_left
  · intro w' hSw; go_simp; try with_reducible rfl
  try simp only [Act.put, List.setIfInBounds_toArray, List.set_cons_zero, List.set_cons_succ]
  refine wpAnyH_done (by kernel_rfl) ?_ _
  refine NoPanic.normal ?_
  try simp only [Act.put, List.setIfInBounds_toArray, List.set_cons_zero, List.set_cons_succ]
  have Q6 : Hid (Below W3.heap.size W3 V2 ∧ Below W5.heap.size W5 V2) := ⟨qV2, BB2⟩
  have hag := SupA.doc sup1.out sup2.out HDO.out.1 HDO.out.2 HSXU.out
  obtain ⟨rfl, rfl⟩ := hag
  clear SX qV qV1 qV2 BB1 BB2 sup1 sup2 HBT HSD
  have BL : Hid (BdR V2 x vl) := Q5.out.2.later Q6.out.2
  have n1 : (ok2 != ok2) = false := by simp
  have n2 : ((rs2 : Int) != (rs2 : Int)) = false := by simp
  have hab := apiBits_any rs2
  go_upto_region 9 with (first
    | (refine wpList_load_row (by rfl) 30 _ (by rfl) B5 _ (by rfl) (kept Q6.out.1 HWW.out.2.2) _ Tryz.underlying30 rfl 6 Tryz.infoZu (by rfl) ?_)
    | (go_at_call 12; refine Calls.mono (HBD.out _ Q6.out.1) ?_; rintro e W7 ⟨vd, rfl, hbd, b7⟩; have BD : Hid (BdD W7 u vd) := hbd; clear hbd)
    | (go_at_call 11; refine Calls.mono (HSB.out _ _ _ (BL.out.later b7) BD.out) ?_; rintro e W8 ⟨rfl, b8⟩)
    | (go_at_call 13; refine Calls.mono (apiBits_any rs2 _) ?_; rintro e W9 ⟨rfl, hw9⟩; rw [hw9]; clear hw9))
  have Q8 : Hid (Below W3.heap.size W3 W8) := to_call (to_call Q6.out.1 b7) b8
  clear b7 b8 BD BL Q5 Q6 n1 n2 hab HBD HSB
  have SX : (fun V => V.heap[B6]? = some (.cells #[.int .i64 x.N, .slice x.co x.cn x.cc, .slice x.io x.dn x.dc, .slice x.go x.gn x.gc, .slice x.ro x.rn x.rc, .bool x.bad] 26) ∧ V.heap[B5]? = some (.cells #[.int .i64 u.N, .slice u.co u.cn u.cc, .slice u.io u.dn u.dc, .slice u.go u.gn u.gc, .slice u.ro u.rn u.rc, .bool u.bad] 30)) W8.drew := ⟨kept Q8.out.drew HWW.out.2.1, kept Q8.out.drew HWW.out.2.2⟩
  have qV : Below W3.heap.size W3 W8.drew := Q8.out.drew
  refine wp_region_noPanic ?_
  refine wp_region_held_drew (S := (fun V => V.heap[B6]? = some (.cells #[.int .i64 x.N, .slice x.co x.cn x.cc, .slice x.io x.dn x.dc, .slice x.go x.gn x.gc, .slice x.ro x.rn x.rc, .bool x.bad] 26) ∧ V.heap[B5]? = some (.cells #[.int .i64 u.N, .slice u.co u.cn u.cc, .slice u.io u.dn u.dc, .slice u.go u.gn u.gc, .slice u.ro u.rn u.rc, .bool u.bad] 30))) (by kernel_rfl) SX (fun _ => ?_)
  refine takeH 50 (i := 0) (v := .agg #[.int .i64 x.N, .slice x.co x.cn x.cc, .slice x.io x.dn x.dc, .slice x.go x.gn x.gc, .slice x.ro x.rn x.rc, .bool x.bad]) rfl rfl (by kernel_rfl) (by kernel_rfl) (by kernel_rfl) (fun _ _ _ h => h) (Or.inl ⟨by kernel_rfl, fun w' hSw => ex_loadRN _ 26 _ rfl B6 (by kernel_rfl) w' _ hSw.1 _ Tryz.underlying26 rfl 6 Tryz.infoZ rfl⟩) SX ?_
  try simp only [Act.put, List.setIfInBounds_toArray, List.set_cons_zero, List.set_cons_succ]
  refine takeH 51 (i := 1) (v := .agg #[.int .i64 u.N, .slice u.co u.cn u.cc, .slice u.io u.dn u.dc, .slice u.go u.gn u.gc, .slice u.ro u.rn u.rc, .bool u.bad]) rfl rfl (by kernel_rfl) (by kernel_rfl) (by kernel_rfl) (fun _ _ _ h => h) (Or.inl ⟨by kernel_rfl, fun w' hSw => ex_loadRN _ 30 _ rfl B5 (by kernel_rfl) w' _ hSw.2 _ Tryz.underlying30 rfl 6 Tryz.infoZu rfl⟩) SX ?_
  try simp only [Act.put, List.setIfInBounds_toArray, List.set_cons_zero, List.set_cons_succ]
  refine wpAnyH_ready (rs := [2]) (by kernel_rfl) (by simp) ?_
  refine consH _ rfl (hopCd 52 rfl (by kernel_rfl) rfl (by kernel_rfl) (Calls.mono (HHD.out _ qV) ?_)) AllReadyH.nil
  rintro e V1 ⟨rfl, hb⟩
  have qV1 : Below W3.heap.size W3 V1 := to_call qV hb
  have SX : (fun V => V.heap[B6]? = some (.cells #[.int .i64 x.N, .slice x.co x.cn x.cc, .slice x.io x.dn x.dc, .slice x.go x.gn x.gc, .slice x.ro x.rn x.rc, .bool x.bad] 26) ∧ V.heap[B5]? = some (.cells #[.int .i64 u.N, .slice u.co u.cn u.cc, .slice u.io u.dn u.dc, .slice u.go u.gn u.gc, .slice u.ro u.rn u.rc, .bool u.bad] 30)) V1 := ⟨kept hb SX.1, kept hb SX.2⟩
  clear hb
  refine ⟨_, rfl, SX, ?_⟩
  try simp only [Act.put, List.setIfInBounds_toArray, List.set_cons_zero, List.set_cons_succ]
  refine takeH 53 (i := 3) (v := ?_) rfl rfl (by kernel_rfl) (by kernel_rfl) (by kernel_rfl) (fun _ _ _ h => h) (Or.inl ⟨by kernel_rfl, ?_⟩) SX ?_
  rotate_left
  · intro w' hSw; go_simp; try with_reducible rfl
  try simp only [Act.put, List.setIfInBounds_toArray, List.set_cons_zero, List.set_cons_succ]
  refine takeH 54 (i := 4) (v := ?_) rfl rfl (by kernel_rfl) (by kernel_rfl) (by kernel_rfl) (fun _ _ _ h => h) (Or.inl ⟨by kernel_rfl, ?_⟩) SX ?_
  rotate_left
  · intro w' hSw; go_simp; try with_reducible rfl
  try simp only [Act.put, List.setIfInBounds_toArray, List.set_cons_zero, List.set_cons_succ]
  refine wpAnyH_ready (rs := [5]) (by kernel_rfl) (by simp) ?_
  refine consH _ rfl (hopCd 55 rfl (by kernel_rfl) rfl (by kernel_rfl) (Calls.mono (HKP.out _ qV1) ?_)) AllReadyH.nil
  rintro e V1' ⟨rfl, hw⟩
  rw [hw]
  clear hw
  refine ⟨_, rfl, SX, ?_⟩
  try simp only [Act.put, List.setIfInBounds_toArray, List.set_cons_zero, List.set_cons_succ]
  refine takeH 56 (i := 6) (v := ?_) rfl rfl (by kernel_rfl) (by kernel_rfl) (by kernel_rfl) (fun _ _ _ h => h) (Or.inl ⟨by kernel_rfl, ?_⟩) SX ?_
  rotate_left
  · intro w' hSw; go_simp; try with_reducible rfl
  try simp only [Act.put, List.setIfInBounds_toArray, List.set_cons_zero, List.set_cons_succ]
  refine takeH 57 (i := 7) (v := ?_) rfl rfl (by kernel_rfl) (by kernel_rfl) (by kernel_rfl) (fun _ _ _ h => h) (Or.inl ⟨by kernel_rfl, ?_⟩) SX ?_
  rotate_left
  · intro w' hSw; go_simp; try with_reducible rfl
  try simp only [Act.put, List.setIfInBounds_toArray, List.set_cons_zero, List.set_cons_succ]
  refine takeH 58 (i := 8) (v := ?_) rfl rfl (by kernel_rfl) (by kernel_rfl) (by kernel_rfl) (fun _ _ _ h => h) (Or.inl ⟨by kernel_rfl, ?_⟩) SX ?_
  rotate_left
  · intro w' hSw; go_simp; try with_reducible rfl
  try simp only [Act.put, List.setIfInBounds_toArray, List.set_cons_zero, List.set_cons_succ]
  refine takeH 61 (i := 11) (v := ?_) rfl rfl (by kernel_rfl) (by kernel_rfl) (by kernel_rfl) (fun _ _ _ h => h) (Or.inl ⟨by kernel_rfl, ?_⟩) SX ?_
  rotate_left
  · intro w' hSw; go_simp; try with_reducible rfl
  try simp only [Act.put, List.setIfInBounds_toArray, List.set_cons_zero, List.set_cons_succ]
  refine wpAnyH_ready (rs := [9]) (by kernel_rfl) (by simp) ?_
  refine consH _ rfl (hopCd 59 rfl (by kernel_rfl) rfl (by kernel_rfl) (Calls.mono (HTY.out _ qV1) ?_)) AllReadyH.nil
  rintro e V3 ⟨v3, rfl, o3, hb⟩
  obtain ⟨a3, p3, hv3, -⟩ := owns_slice o3
  subst hv3
  have qV3 : Below W3.heap.size W3 V3 := to_call qV1 hb
  have SX : (fun V => V.heap[B6]? = some (.cells #[.int .i64 x.N, .slice x.co x.cn x.cc, .slice x.io x.dn x.dc, .slice x.go x.gn x.gc, .slice x.ro x.rn x.rc, .bool x.bad] 26) ∧ V.heap[B5]? = some (.cells #[.int .i64 u.N, .slice u.co u.cn u.cc, .slice u.io u.dn u.dc, .slice u.go u.gn u.gc, .slice u.ro u.rn u.rc, .bool u.bad] 30)) V3 := ⟨kept hb SX.1, kept hb SX.2⟩
  clear hb
  refine ⟨_, rfl, SX, ?_⟩
  try simp only [Act.put, List.setIfInBounds_toArray, List.set_cons_zero, List.set_cons_succ]
  refine wpAnyH_to (fun V => V.heap[B6]? = some (.cells #[.int .i64 x.N, .slice x.co x.cn x.cc, .slice x.io x.dn x.dc, .slice x.go x.gn x.gc, .slice x.ro x.rn x.rc, .bool x.bad] 26) ∧ V.heap[B5]? = some (.cells #[.int .i64 u.N, .slice u.co u.cn u.cc, .slice u.io u.dn u.dc, .slice u.go u.gn u.gc, .slice u.ro u.rn u.rc, .bool u.bad] 30) ∧ V.ownsRow V1.heap.size 5 1 (.slice a3 (8 * ds.length) p3) (8 * ds.length) (bJ (byA ds))) (fun _ h => ⟨h.1, h.2.1⟩) ?_
  have SX := And.intro SX.1 (And.intro SX.2 o3)
  clear o3
  refine takeH 60 (i := 10) (v := .string (strJ (inJ (byA ds)))) rfl rfl (by kernel_rfl) (by kernel_rfl) (by kernel_rfl) (fun _ _ _ h => h) (Or.inl ⟨by kernel_rfl, fun w' hSw => ex_convJ _ 49 9 _ rfl (.slice a3 (8 * ds.length) p3) _ (by kernel_rfl) w' (convJ hSw.2.2)⟩) SX ?_
  try simp only [Act.put, List.setIfInBounds_toArray, List.set_cons_zero, List.set_cons_succ]
  refine wpAnyH_ready (rs := [12]) (by kernel_rfl) (by simp) ?_
  refine consH _ rfl (hopCd 62 rfl (by kernel_rfl) rfl (by kernel_rfl) (Calls.mono (HTD.out _ qV3) ?_)) AllReadyH.nil
  rintro e V4 ⟨v4, rfl, o4, hb⟩
  obtain ⟨a4, p4, hv4, -⟩ := owns_slice o4
  subst hv4
  have qV4 : Below W3.heap.size W3 V4 := to_call qV3 hb
  have SX : (fun V => V.heap[B6]? = some (.cells #[.int .i64 x.N, .slice x.co x.cn x.cc, .slice x.io x.dn x.dc, .slice x.go x.gn x.gc, .slice x.ro x.rn x.rc, .bool x.bad] 26) ∧ V.heap[B5]? = some (.cells #[.int .i64 u.N, .slice u.co u.cn u.cc, .slice u.io u.dn u.dc, .slice u.go u.gn u.gc, .slice u.ro u.rn u.rc, .bool u.bad] 30) ∧ V.ownsRow V1.heap.size 5 1 (.slice a3 (8 * ds.length) p3) (8 * ds.length) (bJ (byA ds))) V4 := ⟨kept hb SX.1, kept hb SX.2.1, owns_keepT SX.2.2 fun k cur hc => hb.block k (blk_lt hc)⟩
  clear hb
  refine ⟨_, rfl, SX, ?_⟩
  try simp only [Act.put, List.setIfInBounds_toArray, List.set_cons_zero, List.set_cons_succ]
  refine wpAnyH_to (fun V => V.heap[B6]? = some (.cells #[.int .i64 x.N, .slice x.co x.cn x.cc, .slice x.io x.dn x.dc, .slice x.go x.gn x.gc, .slice x.ro x.rn x.rc, .bool x.bad] 26) ∧ V.heap[B5]? = some (.cells #[.int .i64 u.N, .slice u.co u.cn u.cc, .slice u.io u.dn u.dc, .slice u.go u.gn u.gc, .slice u.ro u.rn u.rc, .bool u.bad] 30) ∧ V.ownsRow V1.heap.size 5 1 (.slice a3 (8 * ds.length) p3) (8 * ds.length) (bJ (byA ds)) ∧ V.ownsRow V3.heap.size 5 1 (.slice a4 (8 * ds.length) p4) (8 * ds.length) (bJ (byA ds))) (fun _ h => ⟨h.1, h.2.1, h.2.2.1⟩) ?_
  have SX := And.intro SX.1 (And.intro SX.2.1 (And.intro SX.2.2 o4))
  clear o4
  refine takeH 63 (i := 13) (v := .string (strJ (inJ (byA ds)))) rfl rfl (by kernel_rfl) (by kernel_rfl) (by kernel_rfl) (fun _ _ _ h => h) (Or.inl ⟨by kernel_rfl, fun w' hSw => ex_convJ _ 49 9 _ rfl (.slice a4 (8 * ds.length) p4) _ (by kernel_rfl) w' (convJ hSw.2.2.2)⟩) SX ?_
  try simp only [Act.put, List.setIfInBounds_toArray, List.set_cons_zero, List.set_cons_succ]
  refine takeH 64 (i := 14) (v := .bool true) rfl rfl (by kernel_rfl) (by kernel_rfl) (by kernel_rfl) (fun _ _ _ h => h) (Or.inl ⟨by kernel_rfl, fun w' hSw => ex_eqlS _ _ _ _ rfl (strJ (inJ (byA ds))) (by kernel_rfl) (by kernel_rfl) w'⟩) SX ?_
  try simp only [Act.put, List.setIfInBounds_toArray, List.set_cons_zero, List.set_cons_succ]
  refine takeH 65 (i := 15) (v := ?_) rfl rfl (by kernel_rfl) (by kernel_rfl) (by kernel_rfl) (fun _ _ _ h => h) (Or.inl ⟨by kernel_rfl, ?_⟩) SX ?_
  rotate_left
  · intro w' hSw; go_simp; try with_reducible rfl
  try simp only [Act.put, List.setIfInBounds_toArray, List.set_cons_zero, List.set_cons_succ]
  refine takeH 66 (i := 16) (v := ?_) rfl rfl (by kernel_rfl) (by kernel_rfl) (by kernel_rfl) (fun _ _ _ h => h) (Or.inl ⟨by kernel_rfl, ?_⟩) SX ?_
  rotate_left
  · intro w' hSw; go_simp; try with_reducible rfl
  try simp only [Act.put, List.setIfInBounds_toArray, List.set_cons_zero, List.set_cons_succ]
  refine wpAnyH_ready (rs := [17]) (by kernel_rfl) (by simp) ?_
  refine consH _ rfl (hopCd 67 rfl (by kernel_rfl) rfl (by kernel_rfl) (Calls.mono (started_any _) ?_)) AllReadyH.nil
  rintro e V5 ⟨rfl, hb⟩
  have qV5 : Below W3.heap.size W3 V5 := to_call qV4 hb
  have SX : (fun V => V.heap[B6]? = some (.cells #[.int .i64 x.N, .slice x.co x.cn x.cc, .slice x.io x.dn x.dc, .slice x.go x.gn x.gc, .slice x.ro x.rn x.rc, .bool x.bad] 26) ∧ V.heap[B5]? = some (.cells #[.int .i64 u.N, .slice u.co u.cn u.cc, .slice u.io u.dn u.dc, .slice u.go u.gn u.gc, .slice u.ro u.rn u.rc, .bool u.bad] 30) ∧ V.ownsRow V1.heap.size 5 1 (.slice a3 (8 * ds.length) p3) (8 * ds.length) (bJ (byA ds)) ∧ V.ownsRow V3.heap.size 5 1 (.slice a4 (8 * ds.length) p4) (8 * ds.length) (bJ (byA ds))) V5 := ⟨kept hb SX.1, kept hb SX.2.1, owns_keepT SX.2.2.1 fun k cur hc => hb.block k (blk_lt hc), owns_keepT SX.2.2.2 fun k cur hc => hb.block k (blk_lt hc)⟩
  clear hb
  refine ⟨_, rfl, SX, ?_⟩
  try simp only [Act.put, List.setIfInBounds_toArray, List.set_cons_zero, List.set_cons_succ]
  refine takeH 68 (i := 18) (v := ?_) rfl rfl (by kernel_rfl) (by kernel_rfl) (by kernel_rfl) (fun _ _ _ h => h) (Or.inl ⟨by kernel_rfl, ?_⟩) SX ?_
  rotate_left
  · intro w' hSw; go_simp; try with_reducible rfl
  try simp only [Act.put, List.setIfInBounds_toArray, List.set_cons_zero, List.set_cons_succ]
  refine takeH 4 (i := 19) (v := ?_) rfl rfl (by kernel_rfl) (by kernel_rfl) (by kernel_rfl) (fun _ _ _ h => h) (Or.inl ⟨by kernel_rfl, ?_⟩) SX ?_
  rotate_left
  · intro w' hSw; go_simp; try with_reducible rfl
  try simp only [Act.put, List.setIfInBounds_toArray, List.set_cons_zero, List.set_cons_succ]
  refine wpAnyH_done (by kernel_rfl) ?_ _
  refine NoPanic.normal ?_
  try simp only [Act.put, List.setIfInBounds_toArray, List.set_cons_zero, List.set_cons_succ]
  have QE : Hid (Below W3.heap.size W3 V5) := qV5
  clear SX qV qV1 qV3 qV4 qV5
  go_wp2_with fail
  go_ret
  exact ⟨rfl, to_call HWW.out.1 QE.out⟩
end Go.Proofs.YtlpfbgepdfjmjaaGreat
