import Derived.Test.YtigaggkipmcgeabZT
namespace Go.Proofs.Ytigaggkipmcgeab
open Go.RowKit
set_option linter.unusedVariables false

theorem setsp_other {w : World} {B C : Nat} (x y z : Value) (hB : C ≠ B) : (((w.setCell ⟨B, 0, none⟩ x).setCell ⟨B, 1, none⟩ y).setCell ⟨B, 2, none⟩ z).heap[C]? = w.heap[C]? := by
  rw [heap_setCell_other _ _ _ _ hB, heap_setCell_other _ _ _ _ hB, heap_setCell_other _ _ _ _ hB]
set_option maxRecDepth 100000 in
set_option maxHeartbeats 8000000 in
theorem spanInside_walk (al ah : Nat) (ab : Bool) (hal : al < 18446744073709551616) (hah : ah < 18446744073709551616) (bl bh : Nat) (bb : Bool) (hbl : bl < 18446744073709551616) (hbh : bh < 18446744073709551616) (c0l c0h : Nat) (c0b : Bool) (hc0l : c0l < 18446744073709551616) (hc0h : c0h < 18446744073709551616) (d0l d0h : Nat) (d0b : Bool) (hd0l : d0l < 18446744073709551616) (hd0h : d0h < 18446744073709551616) (n : Int) (hn0 : -9223372036854775808 ≤ n) (hn1 : n ≤ 9223372036854775807) (w : World) :
    Calls Try.prog 5 #[.agg #[Value.float .f64 al, .float .f64 ah, .bool ab], .agg #[Value.float .f64 bl, .float .f64 bh, .bool bb], .agg #[Value.float .f64 c0l, .float .f64 c0h, .bool c0b], .agg #[Value.float .f64 d0l, .float .f64 d0h, .bool d0b], .int .i64 n] w fun e w' => e = .returned (.bool true) ∧ Below w.heap.size w w' := by
  obtain ⟨rc, rch, rcc⟩ := spHull_any al ah c0l c0h ab c0b hal hah hc0l hc0h
  obtain ⟨rd, rdh, rdc⟩ := spHull_any bl bh d0l d0h bb d0b hbl hbh hd0l hd0h
  have HUC : Hid (rc.2.2 = false → Sub2 al ah ab rc.1 rc.2.1 rc.2.2 ∧ rc.1 < 18446744073709551616 ∧ rc.2.1 < 18446744073709551616) := hull_sub hal hah hc0l hc0h rch
  have HUD : Hid (rd.2.2 = false → Sub2 bl bh bb rd.1 rd.2.1 rd.2.2 ∧ rd.1 < 18446744073709551616 ∧ rd.2.1 < 18446744073709551616) := hull_sub hbl hbh hd0l hd0h rdh
  obtain ⟨cl, ch, cb⟩ := rc
  obtain ⟨dl, dh, db⟩ := rd
  have RCC : Hid _ := rcc
  have RDC : Hid _ := rdc
  clear rch rdh rcc rdc
  have hsf := run_store_f
  obtain ⟨g0, g1, g2, gz, gb⟩ := alloc3_facts w (Obj.cells #[Value.float .f64 al, .float .f64 ah, .bool ab] 24) (Obj.cells #[Value.float .f64 bl, .float .f64 bh, .bool bb] 24) (Obj.cells #[Value.float .f64 c0l, .float .f64 c0h, .bool c0b] 24)
  have Na : Hid _ := (alloc4 g0 gb (Obj.cells #[Value.float .f64 d0l, .float .f64 d0h, .bool d0b] 24)).1
  have Nb : Hid _ := (alloc4 g1 gb (Obj.cells #[Value.float .f64 d0l, .float .f64 d0h, .bool d0b] 24)).1
  have Nc : Hid _ := (alloc4 g2 gb (Obj.cells #[Value.float .f64 d0l, .float .f64 d0h, .bool d0b] 24)).1
  have Nd : Hid _ := heap_alloc_new (((w.alloc (Obj.cells #[Value.float .f64 al, .float .f64 ah, .bool ab] 24)).alloc (Obj.cells #[Value.float .f64 bl, .float .f64 bh, .bool bb] 24)).alloc (Obj.cells #[Value.float .f64 c0l, .float .f64 c0h, .bool c0b] 24)) (Obj.cells #[Value.float .f64 d0l, .float .f64 d0h, .bool d0b] 24)
  have NB : Hid (Below w.heap.size w ((((w.alloc (Obj.cells #[Value.float .f64 al, .float .f64 ah, .bool ab] 24)).alloc (Obj.cells #[Value.float .f64 bl, .float .f64 bh, .bool bb] 24)).alloc (Obj.cells #[Value.float .f64 c0l, .float .f64 c0h, .bool c0b] 24)).alloc (Obj.cells #[Value.float .f64 d0l, .float .f64 d0h, .bool d0b] 24))) := gb.alloc gb.size _
  have hz3 : (((w.alloc (Obj.cells #[Value.float .f64 al, .float .f64 ah, .bool ab] 24)).alloc (Obj.cells #[Value.float .f64 bl, .float .f64 bh, .bool bb] 24)).alloc (Obj.cells #[Value.float .f64 c0l, .float .f64 c0h, .bool c0b] 24)).heap.size = w.heap.size + 1 + 1 + 1 := gz
  rw [hz3] at Nd
  clear g0 g1 g2 gz gb hz3
  go_enter Try.func5, Try.ntmps5
  go_upto_region 1 with fail
  generalize ((((w.alloc (Obj.cells #[Value.float .f64 al, .float .f64 ah, .bool ab] 24)).alloc (Obj.cells #[Value.float .f64 bl, .float .f64 bh, .bool bb] 24)).alloc (Obj.cells #[Value.float .f64 c0l, .float .f64 c0h, .bool c0b] 24)).alloc (Obj.cells #[Value.float .f64 d0l, .float .f64 d0h, .bool d0b] 24)) = W0 at Na Nb Nc Nd NB ⊢
  obtain ⟨Pa, hPa⟩ : ∃ P, w.heap.size = P := ⟨_, rfl⟩
  obtain ⟨Pb, hPb⟩ : ∃ P, w.heap.size + 1 = P := ⟨_, rfl⟩
  obtain ⟨Pc, hPc⟩ : ∃ P, w.heap.size + 1 + 1 = P := ⟨_, rfl⟩
  obtain ⟨Pd, hPd⟩ : ∃ P, w.heap.size + 1 + 1 + 1 = P := ⟨_, rfl⟩
  have HPP : Hid (w.heap.size = Pa ∧ Pb = Pa + 1 ∧ Pc = Pb + 1 ∧ Pd = Pc + 1) := ⟨hPa, by omega, by omega, by omega⟩
  rw [hPd] at Nd ⊢
  rw [hPc] at Nc ⊢
  rw [hPb] at Nb ⊢
  rw [hPa] at Na ⊢
  clear hPa hPb hPc hPd
  obtain ⟨a0, a1, a2⟩ := cells3 Na.out
  obtain ⟨c0, c1, c2⟩ := cells3 Nc.out
  go_wp2_with fail
  refine Calls.mono (RCC.out _) ?_
  rintro e w1 ⟨rfl, bw⟩
  have Ma : Hid _ := (bw.block _ (blk_lt Na.out)).trans Na.out
  have Mb : Hid _ := (bw.block _ (blk_lt Nb.out)).trans Nb.out
  have Mc : Hid _ := (bw.block _ (blk_lt Nc.out)).trans Nc.out
  have Md : Hid _ := (bw.block _ (blk_lt Nd.out)).trans Nd.out
  have MB : Hid (Below w.heap.size w w1) := NB.out.trans (bw.mono NB.out.size)
  clear bw Na Nb Nc Nd NB a0 a1 a2 c0 c1 c2
  obtain ⟨c0, c1, c2⟩ := cells3 Mc.out
  have fz := fun j => frozen_of_row _ _ j _ _ Mc.out
  go_upto_region 2 with fail
  have Oa : Hid _ := (setsp_other (w := w1) (.float .f64 cl) (.float .f64 ch) (.bool cb) (show Pa ≠ Pc by have := HPP.out; omega)).trans Ma.out
  have Ob : Hid _ := (setsp_other (w := w1) (.float .f64 cl) (.float .f64 ch) (.bool cb) (show Pb ≠ Pc by have := HPP.out; omega)).trans Mb.out
  have Oc : Hid _ := setsp_heap (.float .f64 cl) (.float .f64 ch) (.bool cb) Mc.out
  have Od : Hid _ := (setsp_other (w := w1) (.float .f64 cl) (.float .f64 ch) (.bool cb) (show Pd ≠ Pc by have := HPP.out; omega)).trans Md.out
  have OB : Hid (Below w.heap.size w (((w1.setCell ⟨Pc, 0, none⟩ (.float .f64 cl)).setCell ⟨Pc, 1, none⟩ (.float .f64 ch)).setCell ⟨Pc, 2, none⟩ (.bool cb))) := below_setsp _ _ _ MB.out (by have := HPP.out; omega)
  generalize (((w1.setCell ⟨Pc, 0, none⟩ (.float .f64 cl)).setCell ⟨Pc, 1, none⟩ (.float .f64 ch)).setCell ⟨Pc, 2, none⟩ (.bool cb)) = W2 at Oa Ob Oc Od OB ⊢
  clear Ma Mb Mc Md MB c0 c1 c2 fz
  obtain ⟨b0, b1, b2⟩ := cells3 Ob.out
  obtain ⟨d0, d1, d2⟩ := cells3 Od.out
  go_wp2_with fail
  refine Calls.mono (RDC.out _) ?_
  rintro e w3 ⟨rfl, bw⟩
  have Ma : Hid _ := (bw.block _ (blk_lt Oa.out)).trans Oa.out
  have Mb : Hid _ := (bw.block _ (blk_lt Ob.out)).trans Ob.out
  have Mc : Hid _ := (bw.block _ (blk_lt Oc.out)).trans Oc.out
  have Md : Hid _ := (bw.block _ (blk_lt Od.out)).trans Od.out
  have MB : Hid (Below w.heap.size w w3) := OB.out.trans (bw.mono OB.out.size)
  clear bw Oa Ob Oc Od OB b0 b1 b2 d0 d1 d2
  obtain ⟨d0, d1, d2⟩ := cells3 Md.out
  have fz := fun j => frozen_of_row _ _ j _ _ Md.out
  go_upto_region 3 with fail
  have Oa : Hid _ := (setsp_other (w := w3) (.float .f64 dl) (.float .f64 dh) (.bool db) (show Pa ≠ Pd by have := HPP.out; omega)).trans Ma.out
  have Ob : Hid _ := (setsp_other (w := w3) (.float .f64 dl) (.float .f64 dh) (.bool db) (show Pb ≠ Pd by have := HPP.out; omega)).trans Mb.out
  have Oc : Hid _ := (setsp_other (w := w3) (.float .f64 dl) (.float .f64 dh) (.bool db) (show Pc ≠ Pd by have := HPP.out; omega)).trans Mc.out
  have Od : Hid _ := setsp_heap (.float .f64 dl) (.float .f64 dh) (.bool db) Md.out
  have OB : Hid (Below w.heap.size w (((w3.setCell ⟨Pd, 0, none⟩ (.float .f64 dl)).setCell ⟨Pd, 1, none⟩ (.float .f64 dh)).setCell ⟨Pd, 2, none⟩ (.bool db))) := below_setsp _ _ _ MB.out (by have := HPP.out; omega)
  generalize (((w3.setCell ⟨Pd, 0, none⟩ (.float .f64 dl)).setCell ⟨Pd, 1, none⟩ (.float .f64 dh)).setCell ⟨Pd, 2, none⟩ (.bool db)) = W4 at Oa Ob Oc Od OB ⊢
  clear Ma Mb Mc Md MB d0 d1 d2 fz
  obtain ⟨c0, c1, c2⟩ := cells3 Oc.out
  obtain ⟨d0, d1, d2⟩ := cells3 Od.out
  by_cases hbad : cb = true ∨ db = true
  · have hcase : cb = true ∨ (cb = false ∧ db = true) := by cases cb <;> cases db <;> simp_all
    rcases hcase with rfl | ⟨rfl, rfl⟩
    all_goals
      go_wp2_with fail
      refine Calls.mono (spStarted_any _) ?_
      rintro e w5 ⟨rfl, bw⟩
      have QB : Hid (Below w.heap.size w w5) := OB.out.trans (bw.mono OB.out.size)
      clear bw
      go_wp2_with fail
      go_ret
      exact ⟨rfl, QB.out⟩
  obtain ⟨rfl, rfl⟩ : cb = false ∧ db = false := by cases cb <;> cases db <;> simp_all
  clear hbad
  obtain ⟨hs, hcl, hch⟩ := HUC.out rfl
  obtain ⟨gs, hdl, hdh⟩ := HUD.out rfl
  have hs : Sub2 al ah ab cl ch false := hs
  have gs : Sub2 bl bh bb dl dh false := gs
  have hcl : cl < 18446744073709551616 := hcl
  have hch : ch < 18446744073709551616 := hch
  have hdl : dl < 18446744073709551616 := hdl
  have hdh : dh < 18446744073709551616 := hdh
  have I1 : Hid (∀ w, Calls Try.prog 31 #[.agg #[Value.float .f64 al, .float .f64 ah, .bool ab], .agg #[Value.float .f64 cl, .float .f64 ch, .bool false]] w fun e w' => e = .returned (.bool true) ∧ Below w.heap.size w w') := fun w => by
    have := inside_any al ah cl ch ab false hal hah hcl hch w
    rw [inB_true (Sub2.inB (r := (cl, ch, false)) hs hal hah hcl hch)] at this; exact this
  have I2 : Hid (∀ w, Calls Try.prog 31 #[.agg #[Value.float .f64 bl, .float .f64 bh, .bool bb], .agg #[Value.float .f64 dl, .float .f64 dh, .bool false]] w fun e w' => e = .returned (.bool true) ∧ Below w.heap.size w w') := fun w => by
    have := inside_any bl bh dl dh bb false hbl hbh hdl hdh w
    rw [inB_true (Sub2.inB (r := (dl, dh, false)) gs hbl hbh hdl hdh)] at this; exact this
  obtain ⟨a0, a1, a2⟩ := cells3 Oa.out
  obtain ⟨b0, b1, b2⟩ := cells3 Ob.out
  go_wp2_with fail
  refine Calls.mono (I1.out _) ?_
  rintro e w5 ⟨rfl, bw⟩
  have Ma : Hid _ := (bw.block _ (blk_lt Oa.out)).trans Oa.out
  have Mb : Hid _ := (bw.block _ (blk_lt Ob.out)).trans Ob.out
  have Mc : Hid _ := (bw.block _ (blk_lt Oc.out)).trans Oc.out
  have Md : Hid _ := (bw.block _ (blk_lt Od.out)).trans Od.out
  have MB : Hid (Below w.heap.size w w5) := OB.out.trans (bw.mono OB.out.size)
  clear bw Oa Ob Oc Od OB a0 a1 a2 b0 b1 b2 c0 c1 c2 d0 d1 d2
  obtain ⟨b0, b1, b2⟩ := cells3 Mb.out
  obtain ⟨d0, d1, d2⟩ := cells3 Md.out
  go_wp2_with fail
  refine Calls.mono (I2.out _) ?_
  rintro e w6 ⟨rfl, bw⟩
  have Oa : Hid _ := (bw.block _ (blk_lt Ma.out)).trans Ma.out
  have Ob : Hid _ := (bw.block _ (blk_lt Mb.out)).trans Mb.out
  have Oc : Hid _ := (bw.block _ (blk_lt Mc.out)).trans Mc.out
  have Od : Hid _ := (bw.block _ (blk_lt Md.out)).trans Md.out
  have OB : Hid (Below w.heap.size w w6) := MB.out.trans (bw.mono MB.out.size)
  clear bw Ma Mb Mc Md MB b0 b1 b2 d0 d1 d2 I1 I2
  obtain ⟨u0, ur0, uc0⟩ := spNeg_any cl ch false hcl hch
  obtain ⟨u1, ur1, uc1⟩ := spAdd_any cl ch dl dh false false hcl hch hdl hdh
  obtain ⟨u2, ur2, uc2⟩ := spSub_any cl ch dl dh false false hcl hch hdl hdh
  obtain ⟨u3, ur3, uc3⟩ := spMul_any cl ch dl dh false false hcl hch hdl hdh 1074 rfl
  obtain ⟨u4, ur4, uc4⟩ := spDiv_any cl ch dl dh false false hcl hch hdl hdh 1074 rfl
  obtain ⟨u5, ur5, uc5⟩ := spScale_any cl ch false n hcl hch
  obtain ⟨u6, ur6, uc6⟩ := spSquare_any cl ch false hcl hch 1074 rfl
  obtain ⟨u7, ur7, uc7⟩ := spMax_any cl ch dl dh false false hcl hch hdl hdh
  obtain ⟨u8, ur8, uc8⟩ := spHull_any cl ch dl dh false false hcl hch hdl hdh
  obtain ⟨v0, vr0, vc0⟩ := spNeg_any al ah ab hal hah
  obtain ⟨v1, vr1, vc1⟩ := spAdd_any al ah bl bh ab bb hal hah hbl hbh
  obtain ⟨v2, vr2, vc2⟩ := spSub_any al ah bl bh ab bb hal hah hbl hbh
  obtain ⟨v3, vr3, vc3⟩ := spMul_any al ah bl bh ab bb hal hah hbl hbh 1074 rfl
  obtain ⟨v4, vr4, vc4⟩ := spDiv_any al ah bl bh ab bb hal hah hbl hbh 1074 rfl
  obtain ⟨v5, vr5, vc5⟩ := spScale_any al ah ab n hal hah
  obtain ⟨v6, vr6, vc6⟩ := spSquare_any al ah ab hal hah 1074 rfl
  obtain ⟨v7, vr7, vc7⟩ := spMax_any al ah bl bh ab bb hal hah hbl hbh
  obtain ⟨v8, vr8, vc8⟩ := spHull_any al ah bl bh ab bb hal hah hbl hbh
  obtain ⟨m, mr, mc⟩ := spMeet_any al ah bl bh ab bb hal hah hbl hbh
  obtain ⟨M, Mr, Mcc⟩ := spMeet_any cl ch dl dh false false hcl hch hdl hdh
  have HMM : Hid (m.2.2 = false → InB m M) := fun hb => in_meet hs gs hcl hch hdl hdh mr Mr hb
  have MC1 : Hid _ := mc
  have MC2 : Hid _ := Mcc
  have HALL : Hid (∀ j, j < 9 → (nine u0 u1 u2 u3 u4 u5 u6 u7 u8 j).2.2 = false → InB (nine v0 v1 v2 v3 v4 v5 v6 v7 v8 j) (nine u0 u1 u2 u3 u4 u5 u6 u7 u8 j)) := by
    intro j hj
    rcases (show j = 0 ∨ j = 1 ∨ j = 2 ∨ j = 3 ∨ j = 4 ∨ j = 5 ∨ j = 6 ∨ j = 7 ∨ j = 8 by omega) with rfl | rfl | rfl | rfl | rfl | rfl | rfl | rfl | rfl
    · exact fun hb => in_neg hs vr0 ur0 hb
    · exact fun hb => in_add hs gs vr1 ur1 hb
    · exact fun hb => in_sub hs gs vr2 ur2 hb
    · exact fun hb => in_mul hs gs vr3 ur3 hb
    · exact fun hb => in_div hs gs vr4 ur4 hb
    · exact fun hb => in_scale hs vr5 ur5 hb
    · exact fun hb => in_square hs vr6 ur6 hb
    · exact fun hb => in_max hs gs vr7 ur7 hb
    · exact fun hb => in_hull hs gs vr8 ur8 hb
  have UC0 : Hid _ := uc0
  have VC0 : Hid _ := vc0
  have UC1 : Hid _ := uc1
  have VC1 : Hid _ := vc1
  have UC2 : Hid _ := uc2
  have VC2 : Hid _ := vc2
  have UC3 : Hid _ := uc3
  have VC3 : Hid _ := vc3
  have UC4 : Hid _ := uc4
  have VC4 : Hid _ := vc4
  have UC5 : Hid _ := uc5
  have VC5 : Hid _ := vc5
  have UC6 : Hid _ := uc6
  have VC6 : Hid _ := vc6
  have UC7 : Hid _ := uc7
  have VC7 : Hid _ := vc7
  have UC8 : Hid _ := uc8
  have VC8 : Hid _ := vc8
  clear mr Mr mc Mcc ur0 vr0 uc0 vc0 ur1 vr1 uc1 vc1 ur2 vr2 uc2 vc2 ur3 vr3 uc3 vc3 ur4 vr4 uc4 vc4 ur5 vr5 uc5 vc5 ur6 vr6 uc6 vc6 ur7 vr7 uc7 vc7 ur8 vr8 uc8 vc8 RCC RDC HUC HUD hs gs
  go_upto_region 7 with fail
  have HC7 : Hid (∀ wx wy, Below w6.heap.size w6 wx → Below wx.heap.size wx wy → Below w6.heap.size w6 wy ∧ (wy.cell? ⟨Pc, 0, none⟩ = some (.float .f64 cl) ∧ wy.cell? ⟨Pc, 1, none⟩ = some (.float .f64 ch) ∧ wy.cell? ⟨Pc, 2, none⟩ = some (.bool false)) ∧ (wy.cell? ⟨Pd, 0, none⟩ = some (.float .f64 dl) ∧ wy.cell? ⟨Pd, 1, none⟩ = some (.float .f64 dh) ∧ wy.cell? ⟨Pd, 2, none⟩ = some (.bool false))) := by
    intro wx wy q1 q2
    have h := q1.trans (q2.mono q1.size)
    exact ⟨h, cells3 ((h.block _ (blk_lt Oc.out)).trans Oc.out), cells3 ((h.block _ (blk_lt Od.out)).trans Od.out)⟩
  obtain ⟨c0, c1, c2⟩ := cells3 Oc.out
  obtain ⟨d0, d1, d2⟩ := cells3 Od.out
  go_region_held3 (fun w' => (w'.cell? ⟨Pc, 0, none⟩ = some (.float .f64 cl) ∧ w'.cell? ⟨Pc, 1, none⟩ = some (.float .f64 ch) ∧ w'.cell? ⟨Pc, 2, none⟩ = some (.bool false)) ∧ (w'.cell? ⟨Pd, 0, none⟩ = some (.float .f64 dl) ∧ w'.cell? ⟨Pd, 1, none⟩ = some (.float .f64 dh) ∧ w'.cell? ⟨Pd, 2, none⟩ = some (.bool false))) (go_keep) ((first
    | (go_at_call 15; refine Calls.mono (UC0.out _) ?_; rintro e wx0 ⟨rfl, bx0⟩; obtain ⟨bb0, ⟨us000, us001, us002⟩, ⟨us010, us011, us012⟩⟩ := HC7.out _ wx0 (by first | assumption | exact (Below.refl _ _).drew) bx0)
    | (go_at_call 8; refine Calls.mono (UC1.out _) ?_; rintro e wx1 ⟨rfl, bx1⟩; obtain ⟨bb1, ⟨us100, us101, us102⟩, ⟨us110, us111, us112⟩⟩ := HC7.out _ wx1 (by first | assumption | exact (Below.refl _ _).drew) bx1)
    | (go_at_call 18; refine Calls.mono (UC2.out _) ?_; rintro e wx2 ⟨rfl, bx2⟩; obtain ⟨bb2, ⟨us200, us201, us202⟩, ⟨us210, us211, us212⟩⟩ := HC7.out _ wx2 (by first | assumption | exact (Below.refl _ _).drew) bx2)
    | (go_at_call 9; refine Calls.mono (UC3.out _) ?_; rintro e wx3 ⟨rfl, bx3⟩; obtain ⟨bb3, ⟨us300, us301, us302⟩, ⟨us310, us311, us312⟩⟩ := HC7.out _ wx3 (by first | assumption | exact (Below.refl _ _).drew) bx3)
    | (go_at_call 26; refine Calls.mono (UC4.out _) ?_; rintro e wx4 ⟨rfl, bx4⟩; obtain ⟨bb4, ⟨us400, us401, us402⟩, ⟨us410, us411, us412⟩⟩ := HC7.out _ wx4 (by first | assumption | exact (Below.refl _ _).drew) bx4)
    | (go_at_call 21; refine Calls.mono (UC5.out _) ?_; rintro e wx5 ⟨rfl, bx5⟩; obtain ⟨bb5, ⟨us500, us501, us502⟩, ⟨us510, us511, us512⟩⟩ := HC7.out _ wx5 (by first | assumption | exact (Below.refl _ _).drew) bx5)
    | (go_at_call 23; refine Calls.mono (UC6.out _) ?_; rintro e wx6 ⟨rfl, bx6⟩; obtain ⟨bb6, ⟨us600, us601, us602⟩, ⟨us610, us611, us612⟩⟩ := HC7.out _ wx6 (by first | assumption | exact (Below.refl _ _).drew) bx6)
    | (go_at_call 11; refine Calls.mono (UC7.out _) ?_; rintro e wx7 ⟨rfl, bx7⟩; obtain ⟨bb7, ⟨us700, us701, us702⟩, ⟨us710, us711, us712⟩⟩ := HC7.out _ wx7 (by first | assumption | exact (Below.refl _ _).drew) bx7)
    | (go_at_call 10; refine Calls.mono (UC8.out _) ?_; rintro e wx8 ⟨rfl, bx8⟩; obtain ⟨bb8, ⟨us800, us801, us802⟩, ⟨us810, us811, us812⟩⟩ := HC7.out _ wx8 (by first | assumption | exact (Below.refl _ _).drew) bx8)))
  go_upto_region 8 with fail
  have WB : Hid (Below w.heap.size w wx8) := OB.out.trans (bb8.mono OB.out.size)
  have Na : Hid _ := (alloc4 ((bb8.block _ (blk_lt Oa.out)).trans Oa.out) WB.out (Obj.cells #[Value.float .f64 u0.1, .float .f64 u0.2.1, .bool u0.2.2, Value.float .f64 u1.1, .float .f64 u1.2.1, .bool u1.2.2, Value.float .f64 u2.1, .float .f64 u2.2.1, .bool u2.2.2, Value.float .f64 u3.1, .float .f64 u3.2.1, .bool u3.2.2, Value.float .f64 u4.1, .float .f64 u4.2.1, .bool u4.2.2, Value.float .f64 u5.1, .float .f64 u5.2.1, .bool u5.2.2, Value.float .f64 u6.1, .float .f64 u6.2.1, .bool u6.2.2, Value.float .f64 u7.1, .float .f64 u7.2.1, .bool u7.2.2, Value.float .f64 u8.1, .float .f64 u8.2.1, .bool u8.2.2] 24)).1
  have Nb : Hid _ := (alloc4 ((bb8.block _ (blk_lt Ob.out)).trans Ob.out) WB.out (Obj.cells #[Value.float .f64 u0.1, .float .f64 u0.2.1, .bool u0.2.2, Value.float .f64 u1.1, .float .f64 u1.2.1, .bool u1.2.2, Value.float .f64 u2.1, .float .f64 u2.2.1, .bool u2.2.2, Value.float .f64 u3.1, .float .f64 u3.2.1, .bool u3.2.2, Value.float .f64 u4.1, .float .f64 u4.2.1, .bool u4.2.2, Value.float .f64 u5.1, .float .f64 u5.2.1, .bool u5.2.2, Value.float .f64 u6.1, .float .f64 u6.2.1, .bool u6.2.2, Value.float .f64 u7.1, .float .f64 u7.2.1, .bool u7.2.2, Value.float .f64 u8.1, .float .f64 u8.2.1, .bool u8.2.2] 24)).1
  have Nc : Hid _ := (alloc4 ((bb8.block _ (blk_lt Oc.out)).trans Oc.out) WB.out (Obj.cells #[Value.float .f64 u0.1, .float .f64 u0.2.1, .bool u0.2.2, Value.float .f64 u1.1, .float .f64 u1.2.1, .bool u1.2.2, Value.float .f64 u2.1, .float .f64 u2.2.1, .bool u2.2.2, Value.float .f64 u3.1, .float .f64 u3.2.1, .bool u3.2.2, Value.float .f64 u4.1, .float .f64 u4.2.1, .bool u4.2.2, Value.float .f64 u5.1, .float .f64 u5.2.1, .bool u5.2.2, Value.float .f64 u6.1, .float .f64 u6.2.1, .bool u6.2.2, Value.float .f64 u7.1, .float .f64 u7.2.1, .bool u7.2.2, Value.float .f64 u8.1, .float .f64 u8.2.1, .bool u8.2.2] 24)).1
  have Nd : Hid _ := (alloc4 ((bb8.block _ (blk_lt Od.out)).trans Od.out) WB.out (Obj.cells #[Value.float .f64 u0.1, .float .f64 u0.2.1, .bool u0.2.2, Value.float .f64 u1.1, .float .f64 u1.2.1, .bool u1.2.2, Value.float .f64 u2.1, .float .f64 u2.2.1, .bool u2.2.2, Value.float .f64 u3.1, .float .f64 u3.2.1, .bool u3.2.2, Value.float .f64 u4.1, .float .f64 u4.2.1, .bool u4.2.2, Value.float .f64 u5.1, .float .f64 u5.2.1, .bool u5.2.2, Value.float .f64 u6.1, .float .f64 u6.2.1, .bool u6.2.2, Value.float .f64 u7.1, .float .f64 u7.2.1, .bool u7.2.2, Value.float .f64 u8.1, .float .f64 u8.2.1, .bool u8.2.2] 24)).1
  have NU : Hid _ := heap_alloc_new wx8 (Obj.cells #[Value.float .f64 u0.1, .float .f64 u0.2.1, .bool u0.2.2, Value.float .f64 u1.1, .float .f64 u1.2.1, .bool u1.2.2, Value.float .f64 u2.1, .float .f64 u2.2.1, .bool u2.2.2, Value.float .f64 u3.1, .float .f64 u3.2.1, .bool u3.2.2, Value.float .f64 u4.1, .float .f64 u4.2.1, .bool u4.2.2, Value.float .f64 u5.1, .float .f64 u5.2.1, .bool u5.2.2, Value.float .f64 u6.1, .float .f64 u6.2.1, .bool u6.2.2, Value.float .f64 u7.1, .float .f64 u7.2.1, .bool u7.2.2, Value.float .f64 u8.1, .float .f64 u8.2.1, .bool u8.2.2] 24)
  have NB : Hid (Below w.heap.size w (wx8.alloc (Obj.cells #[Value.float .f64 u0.1, .float .f64 u0.2.1, .bool u0.2.2, Value.float .f64 u1.1, .float .f64 u1.2.1, .bool u1.2.2, Value.float .f64 u2.1, .float .f64 u2.2.1, .bool u2.2.2, Value.float .f64 u3.1, .float .f64 u3.2.1, .bool u3.2.2, Value.float .f64 u4.1, .float .f64 u4.2.1, .bool u4.2.2, Value.float .f64 u5.1, .float .f64 u5.2.1, .bool u5.2.2, Value.float .f64 u6.1, .float .f64 u6.2.1, .bool u6.2.2, Value.float .f64 u7.1, .float .f64 u7.2.1, .bool u7.2.2, Value.float .f64 u8.1, .float .f64 u8.2.1, .bool u8.2.2] 24))) := WB.out.alloc WB.out.size _
  obtain ⟨PU, hPU⟩ : ∃ P, wx8.heap.size = P := ⟨_, rfl⟩
  rw [hPU] at NU ⊢
  generalize wx8.alloc (Obj.cells #[Value.float .f64 u0.1, .float .f64 u0.2.1, .bool u0.2.2, Value.float .f64 u1.1, .float .f64 u1.2.1, .bool u1.2.2, Value.float .f64 u2.1, .float .f64 u2.2.1, .bool u2.2.2, Value.float .f64 u3.1, .float .f64 u3.2.1, .bool u3.2.2, Value.float .f64 u4.1, .float .f64 u4.2.1, .bool u4.2.2, Value.float .f64 u5.1, .float .f64 u5.2.1, .bool u5.2.2, Value.float .f64 u6.1, .float .f64 u6.2.1, .bool u6.2.2, Value.float .f64 u7.1, .float .f64 u7.2.1, .bool u7.2.2, Value.float .f64 u8.1, .float .f64 u8.2.1, .bool u8.2.2] 24) = W8 at Na Nb Nc Nd NU NB ⊢
  clear hPU Oa Ob Oc Od OB WB c0 c1 c2 d0 d1 d2 HC7
  clear bb0 bx0 us000 us001 us002 us010 us011 us012 bb1 bx1 us100 us101 us102 us110 us111 us112 bb2 bx2 us200 us201 us202 us210 us211 us212 bb3 bx3 us300 us301 us302 us310 us311 us312 bb4 bx4 us400 us401 us402 us410 us411 us412 bb5 bx5 us500 us501 us502 us510 us511 us512 bb6 bx6 us600 us601 us602 us610 us611 us612 bb7 bx7 us700 us701 us702 us710 us711 us712
  clear bb8 bx8 us800 us801 us802 us810 us811 us812
  clear UC0 UC1 UC2 UC3 UC4 UC5 UC6 UC7 UC8
  have HC8 : Hid (∀ wx wy, Below W8.heap.size W8 wx → Below wx.heap.size wx wy → Below W8.heap.size W8 wy ∧ (wy.cell? ⟨Pa, 0, none⟩ = some (.float .f64 al) ∧ wy.cell? ⟨Pa, 1, none⟩ = some (.float .f64 ah) ∧ wy.cell? ⟨Pa, 2, none⟩ = some (.bool ab)) ∧ (wy.cell? ⟨Pb, 0, none⟩ = some (.float .f64 bl) ∧ wy.cell? ⟨Pb, 1, none⟩ = some (.float .f64 bh) ∧ wy.cell? ⟨Pb, 2, none⟩ = some (.bool bb))) := by
    intro wx wy q1 q2
    have h := q1.trans (q2.mono q1.size)
    exact ⟨h, cells3 ((h.block _ (blk_lt Na.out)).trans Na.out), cells3 ((h.block _ (blk_lt Nb.out)).trans Nb.out)⟩
  obtain ⟨a0, a1, a2⟩ := cells3 Na.out
  obtain ⟨b0, b1, b2⟩ := cells3 Nb.out
  go_region_held3 (fun w' => (w'.cell? ⟨Pa, 0, none⟩ = some (.float .f64 al) ∧ w'.cell? ⟨Pa, 1, none⟩ = some (.float .f64 ah) ∧ w'.cell? ⟨Pa, 2, none⟩ = some (.bool ab)) ∧ (w'.cell? ⟨Pb, 0, none⟩ = some (.float .f64 bl) ∧ w'.cell? ⟨Pb, 1, none⟩ = some (.float .f64 bh) ∧ w'.cell? ⟨Pb, 2, none⟩ = some (.bool bb))) (go_keep) ((first
    | (go_at_call 15; refine Calls.mono (VC0.out _) ?_; rintro e wx0 ⟨rfl, bx0⟩; obtain ⟨bb0, ⟨vs000, vs001, vs002⟩, ⟨vs010, vs011, vs012⟩⟩ := HC8.out _ wx0 (by first | assumption | exact (Below.refl _ _).drew) bx0)
    | (go_at_call 8; refine Calls.mono (VC1.out _) ?_; rintro e wx1 ⟨rfl, bx1⟩; obtain ⟨bb1, ⟨vs100, vs101, vs102⟩, ⟨vs110, vs111, vs112⟩⟩ := HC8.out _ wx1 (by first | assumption | exact (Below.refl _ _).drew) bx1)
    | (go_at_call 18; refine Calls.mono (VC2.out _) ?_; rintro e wx2 ⟨rfl, bx2⟩; obtain ⟨bb2, ⟨vs200, vs201, vs202⟩, ⟨vs210, vs211, vs212⟩⟩ := HC8.out _ wx2 (by first | assumption | exact (Below.refl _ _).drew) bx2)
    | (go_at_call 9; refine Calls.mono (VC3.out _) ?_; rintro e wx3 ⟨rfl, bx3⟩; obtain ⟨bb3, ⟨vs300, vs301, vs302⟩, ⟨vs310, vs311, vs312⟩⟩ := HC8.out _ wx3 (by first | assumption | exact (Below.refl _ _).drew) bx3)
    | (go_at_call 26; refine Calls.mono (VC4.out _) ?_; rintro e wx4 ⟨rfl, bx4⟩; obtain ⟨bb4, ⟨vs400, vs401, vs402⟩, ⟨vs410, vs411, vs412⟩⟩ := HC8.out _ wx4 (by first | assumption | exact (Below.refl _ _).drew) bx4)
    | (go_at_call 21; refine Calls.mono (VC5.out _) ?_; rintro e wx5 ⟨rfl, bx5⟩; obtain ⟨bb5, ⟨vs500, vs501, vs502⟩, ⟨vs510, vs511, vs512⟩⟩ := HC8.out _ wx5 (by first | assumption | exact (Below.refl _ _).drew) bx5)
    | (go_at_call 23; refine Calls.mono (VC6.out _) ?_; rintro e wx6 ⟨rfl, bx6⟩; obtain ⟨bb6, ⟨vs600, vs601, vs602⟩, ⟨vs610, vs611, vs612⟩⟩ := HC8.out _ wx6 (by first | assumption | exact (Below.refl _ _).drew) bx6)
    | (go_at_call 11; refine Calls.mono (VC7.out _) ?_; rintro e wx7 ⟨rfl, bx7⟩; obtain ⟨bb7, ⟨vs700, vs701, vs702⟩, ⟨vs710, vs711, vs712⟩⟩ := HC8.out _ wx7 (by first | assumption | exact (Below.refl _ _).drew) bx7)
    | (go_at_call 10; refine Calls.mono (VC8.out _) ?_; rintro e wx8 ⟨rfl, bx8⟩; obtain ⟨bb8, ⟨vs800, vs801, vs802⟩, ⟨vs810, vs811, vs812⟩⟩ := HC8.out _ wx8 (by first | assumption | exact (Below.refl _ _).drew) bx8)))
  go_upto_region 9 with fail
  have WB : Hid (Below w.heap.size w wx8) := NB.out.trans (bb8.mono NB.out.size)
  have Oa : Hid _ := (alloc4 ((bb8.block _ (blk_lt Na.out)).trans Na.out) WB.out (Obj.cells #[Value.float .f64 v0.1, .float .f64 v0.2.1, .bool v0.2.2, Value.float .f64 v1.1, .float .f64 v1.2.1, .bool v1.2.2, Value.float .f64 v2.1, .float .f64 v2.2.1, .bool v2.2.2, Value.float .f64 v3.1, .float .f64 v3.2.1, .bool v3.2.2, Value.float .f64 v4.1, .float .f64 v4.2.1, .bool v4.2.2, Value.float .f64 v5.1, .float .f64 v5.2.1, .bool v5.2.2, Value.float .f64 v6.1, .float .f64 v6.2.1, .bool v6.2.2, Value.float .f64 v7.1, .float .f64 v7.2.1, .bool v7.2.2, Value.float .f64 v8.1, .float .f64 v8.2.1, .bool v8.2.2] 24)).1
  have Ob : Hid _ := (alloc4 ((bb8.block _ (blk_lt Nb.out)).trans Nb.out) WB.out (Obj.cells #[Value.float .f64 v0.1, .float .f64 v0.2.1, .bool v0.2.2, Value.float .f64 v1.1, .float .f64 v1.2.1, .bool v1.2.2, Value.float .f64 v2.1, .float .f64 v2.2.1, .bool v2.2.2, Value.float .f64 v3.1, .float .f64 v3.2.1, .bool v3.2.2, Value.float .f64 v4.1, .float .f64 v4.2.1, .bool v4.2.2, Value.float .f64 v5.1, .float .f64 v5.2.1, .bool v5.2.2, Value.float .f64 v6.1, .float .f64 v6.2.1, .bool v6.2.2, Value.float .f64 v7.1, .float .f64 v7.2.1, .bool v7.2.2, Value.float .f64 v8.1, .float .f64 v8.2.1, .bool v8.2.2] 24)).1
  have Oc : Hid _ := (alloc4 ((bb8.block _ (blk_lt Nc.out)).trans Nc.out) WB.out (Obj.cells #[Value.float .f64 v0.1, .float .f64 v0.2.1, .bool v0.2.2, Value.float .f64 v1.1, .float .f64 v1.2.1, .bool v1.2.2, Value.float .f64 v2.1, .float .f64 v2.2.1, .bool v2.2.2, Value.float .f64 v3.1, .float .f64 v3.2.1, .bool v3.2.2, Value.float .f64 v4.1, .float .f64 v4.2.1, .bool v4.2.2, Value.float .f64 v5.1, .float .f64 v5.2.1, .bool v5.2.2, Value.float .f64 v6.1, .float .f64 v6.2.1, .bool v6.2.2, Value.float .f64 v7.1, .float .f64 v7.2.1, .bool v7.2.2, Value.float .f64 v8.1, .float .f64 v8.2.1, .bool v8.2.2] 24)).1
  have Od : Hid _ := (alloc4 ((bb8.block _ (blk_lt Nd.out)).trans Nd.out) WB.out (Obj.cells #[Value.float .f64 v0.1, .float .f64 v0.2.1, .bool v0.2.2, Value.float .f64 v1.1, .float .f64 v1.2.1, .bool v1.2.2, Value.float .f64 v2.1, .float .f64 v2.2.1, .bool v2.2.2, Value.float .f64 v3.1, .float .f64 v3.2.1, .bool v3.2.2, Value.float .f64 v4.1, .float .f64 v4.2.1, .bool v4.2.2, Value.float .f64 v5.1, .float .f64 v5.2.1, .bool v5.2.2, Value.float .f64 v6.1, .float .f64 v6.2.1, .bool v6.2.2, Value.float .f64 v7.1, .float .f64 v7.2.1, .bool v7.2.2, Value.float .f64 v8.1, .float .f64 v8.2.1, .bool v8.2.2] 24)).1
  have OU : Hid _ := (alloc4 ((bb8.block _ (blk_lt NU.out)).trans NU.out) WB.out (Obj.cells #[Value.float .f64 v0.1, .float .f64 v0.2.1, .bool v0.2.2, Value.float .f64 v1.1, .float .f64 v1.2.1, .bool v1.2.2, Value.float .f64 v2.1, .float .f64 v2.2.1, .bool v2.2.2, Value.float .f64 v3.1, .float .f64 v3.2.1, .bool v3.2.2, Value.float .f64 v4.1, .float .f64 v4.2.1, .bool v4.2.2, Value.float .f64 v5.1, .float .f64 v5.2.1, .bool v5.2.2, Value.float .f64 v6.1, .float .f64 v6.2.1, .bool v6.2.2, Value.float .f64 v7.1, .float .f64 v7.2.1, .bool v7.2.2, Value.float .f64 v8.1, .float .f64 v8.2.1, .bool v8.2.2] 24)).1
  have OV : Hid _ := heap_alloc_new wx8 (Obj.cells #[Value.float .f64 v0.1, .float .f64 v0.2.1, .bool v0.2.2, Value.float .f64 v1.1, .float .f64 v1.2.1, .bool v1.2.2, Value.float .f64 v2.1, .float .f64 v2.2.1, .bool v2.2.2, Value.float .f64 v3.1, .float .f64 v3.2.1, .bool v3.2.2, Value.float .f64 v4.1, .float .f64 v4.2.1, .bool v4.2.2, Value.float .f64 v5.1, .float .f64 v5.2.1, .bool v5.2.2, Value.float .f64 v6.1, .float .f64 v6.2.1, .bool v6.2.2, Value.float .f64 v7.1, .float .f64 v7.2.1, .bool v7.2.2, Value.float .f64 v8.1, .float .f64 v8.2.1, .bool v8.2.2] 24)
  have OB : Hid (Below w.heap.size w (wx8.alloc (Obj.cells #[Value.float .f64 v0.1, .float .f64 v0.2.1, .bool v0.2.2, Value.float .f64 v1.1, .float .f64 v1.2.1, .bool v1.2.2, Value.float .f64 v2.1, .float .f64 v2.2.1, .bool v2.2.2, Value.float .f64 v3.1, .float .f64 v3.2.1, .bool v3.2.2, Value.float .f64 v4.1, .float .f64 v4.2.1, .bool v4.2.2, Value.float .f64 v5.1, .float .f64 v5.2.1, .bool v5.2.2, Value.float .f64 v6.1, .float .f64 v6.2.1, .bool v6.2.2, Value.float .f64 v7.1, .float .f64 v7.2.1, .bool v7.2.2, Value.float .f64 v8.1, .float .f64 v8.2.1, .bool v8.2.2] 24))) := WB.out.alloc WB.out.size _
  obtain ⟨PV, hPV⟩ : ∃ P, wx8.heap.size = P := ⟨_, rfl⟩
  rw [hPV] at OV ⊢
  generalize wx8.alloc (Obj.cells #[Value.float .f64 v0.1, .float .f64 v0.2.1, .bool v0.2.2, Value.float .f64 v1.1, .float .f64 v1.2.1, .bool v1.2.2, Value.float .f64 v2.1, .float .f64 v2.2.1, .bool v2.2.2, Value.float .f64 v3.1, .float .f64 v3.2.1, .bool v3.2.2, Value.float .f64 v4.1, .float .f64 v4.2.1, .bool v4.2.2, Value.float .f64 v5.1, .float .f64 v5.2.1, .bool v5.2.2, Value.float .f64 v6.1, .float .f64 v6.2.1, .bool v6.2.2, Value.float .f64 v7.1, .float .f64 v7.2.1, .bool v7.2.2, Value.float .f64 v8.1, .float .f64 v8.2.1, .bool v8.2.2] 24) = W9 at Oa Ob Oc Od OU OV OB ⊢
  clear hPV Na Nb Nc Nd NU NB WB a0 a1 a2 b0 b1 b2 HC8
  clear bb0 bx0 vs000 vs001 vs002 vs010 vs011 vs012 bb1 bx1 vs100 vs101 vs102 vs110 vs111 vs112 bb2 bx2 vs200 vs201 vs202 vs210 vs211 vs212 bb3 bx3 vs300 vs301 vs302 vs310 vs311 vs312 bb4 bx4 vs400 vs401 vs402 vs410 vs411 vs412 bb5 bx5 vs500 vs501 vs502 vs510 vs511 vs512 bb6 bx6 vs600 vs601 vs602 vs610 vs611 vs612 bb7 bx7 vs700 vs701 vs702 vs710 vs711 vs712
  clear bb8 bx8 vs800 vs801 vs802 vs810 vs811 vs812
  clear VC0 VC1 VC2 VC3 VC4 VC5 VC6 VC7 VC8
  have HU : Hid (∀ wr, Below W9.heap.size W9 wr → ∀ j, j < 9 → (wr.cell? ⟨PU, j * 3, none⟩ = some (.float .f64 (nine u0 u1 u2 u3 u4 u5 u6 u7 u8 j).1) ∧ wr.cell? ⟨PU, j * 3 + 1, none⟩ = some (.float .f64 (nine u0 u1 u2 u3 u4 u5 u6 u7 u8 j).2.1) ∧ wr.cell? ⟨PU, j * 3 + 2, none⟩ = some (.bool (nine u0 u1 u2 u3 u4 u5 u6 u7 u8 j).2.2)) ∧ (wr.cell? ⟨PV, j * 3, none⟩ = some (.float .f64 (nine v0 v1 v2 v3 v4 v5 v6 v7 v8 j).1) ∧ wr.cell? ⟨PV, j * 3 + 1, none⟩ = some (.float .f64 (nine v0 v1 v2 v3 v4 v5 v6 v7 v8 j).2.1) ∧ wr.cell? ⟨PV, j * 3 + 2, none⟩ = some (.bool (nine v0 v1 v2 v3 v4 v5 v6 v7 v8 j).2.2))) := by
    intro wr hb j hj
    exact ⟨rds_nine ((hb.block _ (blk_lt OU.out)).trans OU.out) j hj, rds_nine ((hb.block _ (blk_lt OV.out)).trans OV.out) j hj⟩
  generalize nine u0 u1 u2 u3 u4 u5 u6 u7 u8 = FU at HU HALL
  generalize nine v0 v1 v2 v3 v4 v5 v6 v7 v8 = FV at HU HALL
  clear OU OV
  go_wp2_with fail
  go_loopw [13] (fun iv wr => ∃ k : Nat, k ≤ 9 ∧ iv = .int .i64 k ∧ Hid (Below W9.heap.size W9 wr)) (fun iv _ => 9 - (intOf iv).toNat)
  case atStart => exact ⟨0, by omega, rfl, Below.refl _ _⟩
  case round =>
    obtain ⟨k, hk, rfl, K1⟩ := hrel
    by_cases hlt : k < 9
    · have hd : decide ((k : Int) < 9) = true := decide_eq_true (by omega)
      have i0 : (0 : Int) ≤ (k : Int) := by omega
      have i1 : (k : Int) < 9 := by omega
      obtain ⟨⟨x0, x1, x2⟩, ⟨y0, y1, y2⟩⟩ := HU.out wr K1.out k hlt
      have HAK : Hid _ := HALL.out k hlt
      generalize FU k = uu at x0 x1 x2 HAK
      generalize FV k = vv at y0 y1 y2 HAK
      obtain ⟨ul, uh, ub⟩ := uu
      obtain ⟨vl, vh, vb⟩ := vv
      have K2 : Hid (Below W9.heap.size W9 wr.drew) := K1.out.drew
      cases ub
      · have hIn := HAK.out rfl
        have II : Hid (∀ w, Calls Try.prog 31 #[.agg #[Value.float .f64 vl, .float .f64 vh, .bool vb], .agg #[Value.float .f64 ul, .float .f64 uh, .bool false]] w fun e w' => e = .returned (.bool true) ∧ Below w.heap.size w w') := fun w => by
          have := inside_any vl vh ul uh vb false hIn.2.2.2.2.1.1 hIn.2.2.2.2.1.2 hIn.2.2.2.2.2.1 hIn.2.2.2.2.2.2 w
          rw [inB_true hIn] at this; exact this
        have HK : Hid (∀ wx wy, Below wr.heap.size wr wx → Below wx.heap.size wx wy → Below W9.heap.size W9 wy ∧ (wy.cell? ⟨PU, k * 3, none⟩ = some (.float .f64 ul) ∧ wy.cell? ⟨PU, k * 3 + 1, none⟩ = some (.float .f64 uh) ∧ wy.cell? ⟨PU, k * 3 + 2, none⟩ = some (.bool false)) ∧ (wy.cell? ⟨PV, k * 3, none⟩ = some (.float .f64 vl) ∧ wy.cell? ⟨PV, k * 3 + 1, none⟩ = some (.float .f64 vh) ∧ wy.cell? ⟨PV, k * 3 + 2, none⟩ = some (.bool vb))) := by
          intro wx wy q1 q2
          have h := q1.trans (q2.mono q1.size)
          have hl1 := World.block_lt_of_cell? wr _ x0
          have hl2 := World.block_lt_of_cell? wr _ y0
          exact ⟨K1.out.trans (h.mono K1.out.size), ⟨by rw [h.cell (p := ⟨PU, k * 3, none⟩) hl1]; exact x0, by rw [h.cell (p := ⟨PU, k * 3 + 1, none⟩) hl1]; exact x1, by rw [h.cell (p := ⟨PU, k * 3 + 2, none⟩) hl1]; exact x2⟩, by rw [h.cell (p := ⟨PV, k * 3, none⟩) hl2]; exact y0, by rw [h.cell (p := ⟨PV, k * 3 + 1, none⟩) hl2]; exact y1, by rw [h.cell (p := ⟨PV, k * 3 + 2, none⟩) hl2]; exact y2⟩
        clear hIn HAK
        go_upto_region 12 with fail
        go_region_held3 (fun w' => (w'.cell? ⟨PU, k * 3, none⟩ = some (.float .f64 ul) ∧ w'.cell? ⟨PU, k * 3 + 1, none⟩ = some (.float .f64 uh) ∧ w'.cell? ⟨PU, k * 3 + 2, none⟩ = some (.bool false)) ∧ (w'.cell? ⟨PV, k * 3, none⟩ = some (.float .f64 vl) ∧ w'.cell? ⟨PV, k * 3 + 1, none⟩ = some (.float .f64 vh) ∧ w'.cell? ⟨PV, k * 3 + 2, none⟩ = some (.bool vb))) (go_keep) ((go_at_call 31; refine Calls.mono (II.out _) ?_; rintro e wx ⟨rfl, bx⟩; obtain ⟨bbx, ⟨s0, s1, s2⟩, ⟨s3, s4, s5⟩⟩ := HK.out _ wx (by first | assumption | exact (Below.refl _ _).drew) bx))
        all_goals
          have KX : Hid (Below W9.heap.size W9 wx) := bbx
          clear bbx bx s0 s1 s2 s3 s4 s5 x0 x1 x2 y0 y1 y2 HK II
          go_wp2_with fail
          go_roundw
          case rel => exact ⟨k + 1, by omega, by go_num, KX⟩
          case measure => simp [intOf]; omega
      · clear HAK
        go_upto_region 12 with fail
        go_region
        all_goals
          go_wp2_with fail
          go_roundw
          case rel => exact ⟨k + 1, by omega, by go_num, K2⟩
          case measure => simp [intOf]; omega
    · have hd : decide ((k : Int) < 9) = false := decide_eq_false (by omega)
      have Na : Hid _ := (K1.out.block _ (blk_lt Oa.out)).trans Oa.out
      have Nb : Hid _ := (K1.out.block _ (blk_lt Ob.out)).trans Ob.out
      have Nc : Hid _ := (K1.out.block _ (blk_lt Oc.out)).trans Oc.out
      have Nd : Hid _ := (K1.out.block _ (blk_lt Od.out)).trans Od.out
      have NB : Hid (Below w.heap.size w wr) := OB.out.trans (K1.out.mono OB.out.size)
      clear K1 Oa Ob Oc Od OB HU HALL
      obtain ⟨a0, a1, a2⟩ := cells3 Na.out
      obtain ⟨b0, b1, b2⟩ := cells3 Nb.out
      obtain ⟨ml, mh, mb⟩ := m
      go_wp2_with fail
      refine Calls.mono (MC1.out _) ?_
      rintro e w10 ⟨rfl, bw⟩
      have Oc : Hid _ := (bw.block _ (blk_lt Nc.out)).trans Nc.out
      have Od : Hid _ := (bw.block _ (blk_lt Nd.out)).trans Nd.out
      have OB : Hid (Below w.heap.size w w10) := NB.out.trans (bw.mono NB.out.size)
      clear bw Na Nb Nc Nd NB a0 a1 a2 b0 b1 b2
      go_upto_region 15 with fail
      have Kc : Hid _ := (alloc4 Oc.out OB.out (Obj.cells #[Value.float .f64 ml, .float .f64 mh, .bool mb] 24)).1
      have Kd : Hid _ := (alloc4 Od.out OB.out (Obj.cells #[Value.float .f64 ml, .float .f64 mh, .bool mb] 24)).1
      have Km : Hid _ := heap_alloc_new w10 (Obj.cells #[Value.float .f64 ml, .float .f64 mh, .bool mb] 24)
      have KB : Hid (Below w.heap.size w (w10.alloc (Obj.cells #[Value.float .f64 ml, .float .f64 mh, .bool mb] 24))) := OB.out.alloc OB.out.size _
      obtain ⟨Pm, hPm⟩ : ∃ P, w10.heap.size = P := ⟨_, rfl⟩
      rw [hPm] at Km ⊢
      generalize w10.alloc (Obj.cells #[Value.float .f64 ml, .float .f64 mh, .bool mb] 24) = W11 at Kc Kd Km KB ⊢
      clear hPm Oc Od OB
      have HC : Hid (∀ wx wy, Below W11.heap.size W11 wx → Below wx.heap.size wx wy → Below W11.heap.size W11 wy ∧ (wy.cell? ⟨Pm, 0, none⟩ = some (.float .f64 ml) ∧ wy.cell? ⟨Pm, 1, none⟩ = some (.float .f64 mh) ∧ wy.cell? ⟨Pm, 2, none⟩ = some (.bool mb)) ∧ (wy.cell? ⟨Pc, 0, none⟩ = some (.float .f64 cl) ∧ wy.cell? ⟨Pc, 1, none⟩ = some (.float .f64 ch) ∧ wy.cell? ⟨Pc, 2, none⟩ = some (.bool false)) ∧ (wy.cell? ⟨Pd, 0, none⟩ = some (.float .f64 dl) ∧ wy.cell? ⟨Pd, 1, none⟩ = some (.float .f64 dh) ∧ wy.cell? ⟨Pd, 2, none⟩ = some (.bool false))) := by
        intro wx wy q1 q2
        have h := q1.trans (q2.mono q1.size)
        exact ⟨h, cells3 ((h.block _ (blk_lt Km.out)).trans Km.out), cells3 ((h.block _ (blk_lt Kc.out)).trans Kc.out), cells3 ((h.block _ (blk_lt Kd.out)).trans Kd.out)⟩
      obtain ⟨m0, m1, m2⟩ := cells3 Km.out
      obtain ⟨c0, c1, c2⟩ := cells3 Kc.out
      obtain ⟨d0, d1, d2⟩ := cells3 Kd.out
      have ST : Hid _ := spStarted_any
      cases mb
      · have hIn := HMM.out rfl
        have II : Hid (∀ w, Calls Try.prog 31 #[.agg #[Value.float .f64 ml, .float .f64 mh, .bool false], .agg #[.float .f64 M.1, .float .f64 M.2.1, .bool M.2.2]] w fun e w' => e = .returned (.bool true) ∧ Below w.heap.size w w') := fun w => by
          have := inside_any ml mh M.1 M.2.1 false M.2.2 hIn.2.2.2.2.1.1 hIn.2.2.2.2.1.2 hIn.2.2.2.2.2.1 hIn.2.2.2.2.2.2 w
          rw [inB_true hIn] at this; exact this
        clear hIn
        go_region_held3 (fun w' => (w'.cell? ⟨Pm, 0, none⟩ = some (.float .f64 ml) ∧ w'.cell? ⟨Pm, 1, none⟩ = some (.float .f64 mh) ∧ w'.cell? ⟨Pm, 2, none⟩ = some (.bool false)) ∧ (w'.cell? ⟨Pc, 0, none⟩ = some (.float .f64 cl) ∧ w'.cell? ⟨Pc, 1, none⟩ = some (.float .f64 ch) ∧ w'.cell? ⟨Pc, 2, none⟩ = some (.bool false)) ∧ (w'.cell? ⟨Pd, 0, none⟩ = some (.float .f64 dl) ∧ w'.cell? ⟨Pd, 1, none⟩ = some (.float .f64 dh) ∧ w'.cell? ⟨Pd, 2, none⟩ = some (.bool false))) (go_keep) ((first
          | (go_at_call 24; refine Calls.mono (MC2.out _) ?_; rintro e wx1 ⟨rfl, bx1⟩; obtain ⟨bb1, ⟨s0, s1, s2⟩, ⟨s3, s4, s5⟩, ⟨s6, s7, s8⟩⟩ := HC.out _ wx1 (by first | assumption | exact (Below.refl _ _).drew) bx1)
          | (go_at_call 31; refine Calls.mono (II.out _) ?_; rintro e wx2 ⟨rfl, bx2⟩; obtain ⟨bb2, ⟨t0, t1, t2⟩, ⟨t3, t4, t5⟩, ⟨t6, t7, t8⟩⟩ := HC.out _ wx2 (by first | assumption | exact (Below.refl _ _).drew) bx2)
          | (go_at_call 12; refine Calls.mono (ST.out _) ?_; rintro e wx3 ⟨rfl, bx3⟩; obtain ⟨bb3, ⟨r0, r1, r2⟩, ⟨r3, r4, r5⟩, ⟨r6, r7, r8⟩⟩ := HC.out _ wx3 (by first | assumption | exact (Below.refl _ _).drew) bx3)))
        all_goals
          go_wp2_with fail
          go_ret
          exact ⟨rfl, KB.out.trans (bb3.mono KB.out.size)⟩
      · go_region_with (go_at_call 12; refine Calls.mono (ST.out _) ?_; rintro e wx3 ⟨rfl, bx3⟩; obtain ⟨bb3, ⟨r0, r1, r2⟩, ⟨r3, r4, r5⟩, ⟨r6, r7, r8⟩⟩ := HC.out _ wx3 (by first | assumption | exact (Below.refl _ _).drew) bx3)
        all_goals
          go_wp2_with fail
          go_ret
          exact ⟨rfl, KB.out.trans (bb3.mono KB.out.size)⟩
end Go.Proofs.Ytigaggkipmcgeab
