import Derived.Test.YtfldgjkpkmnkbaaDoorLFramesW
namespace Go.Proofs.YtfldgjkpkmnkbaaDoor
open Go.RowKit
set_option linter.unusedVariables false

set_option maxRecDepth 100000 in
set_option maxHeartbeats 4000000 in
theorem wireFrames_great (ao0 : Option Addr) (n0 cap0 : Nat) (hn0 : 20 < n0) (hm0 : n0 ≤ 9223372036854775807) (ao : Option Addr) (n cap : Nat) (hcutP : ∀ w, (Instr.slice 61 (.slice ao0 n0 cap0) none (some (.int .i64 20)) none).run Tryd.prog w = .ok (.slice ao n cap) w) (pss : List (List Int)) (a1 : Option Addr) (l1 c1 : Nat) (xs : List Int) (a2 : Option Addr) (l2 c2 : Nat) (ys : List Int) (p : Int) (w : World)
    (hr : RdL w ao n pss) (hn : n ≤ 20) (hr1 : Rd w a1 l1 c1 xs) (hr2 : Rd w a2 l2 c2 ys) :
    Calls Tryd.prog 7 #[.slice ao0 n0 cap0, .slice a1 l1 c1, .slice a2 l2 c2, .int .i64 p] w fun e w' => e = .returned (.bool true) ∧ Below w.heap.size w w' := by
  have HL : Hid _ := hr.length
  have HR : Hid _ := hr
  have HR1 : Hid _ := hr1
  have HR2 : Hid _ := hr2
  clear hr hr1 hr2
  have hd20 : decide ((20 : Int) < (n0 : Int)) = true := by simp; omega
  go_enter Tryd.func7, Tryd.ntmps7
  go_wp2_with fail
  refine (told_any _).mono ?_
  rintro e w0 ⟨rfl, hB0⟩
  have HB0 : Hid (Below w.heap.size w w0) := hB0
  clear hB0
  go_wp2
  clear hcutP
  go_loopw [9, 10, 11] (fun vi vd i wr => ∃ (k : Nat) (vs us : List Value), k ≤ n ∧ i = .int .i64 k ∧ OwnV wr w.heap.size vi vs ∧ OwnV wr w.heap.size vd us ∧ Hid (∀ g, vi.ownBlock = some g → vd.ownBlock ≠ some g) ∧
      Hid (AllLaid wr w.heap.size vs (cappedL (pss.take k))) ∧ Hid (AllLaid wr w.heap.size us (cappedL (pss.take k))) ∧ Hid (vs.length = k) ∧ Hid (us.length = k) ∧ Hid (Below w.heap.size w wr)) (fun _ _ i _ => n - (intOf i).toNat)
  case atStart => exact ⟨0, [], [], by omega, rfl, OwnV.nil _ _, OwnV.nil _ _, (fun g h => by cases h), AllLaid.nil _ _, AllLaid.nil _ _, rfl, rfl, HB0⟩
  case round =>
    obtain ⟨k, vs, us, hk, rfl, hV, hU, hdis, hAv, hAu, hvl, hul, hbel⟩ := hrel
    by_cases hlt : k < n
    · rcases RdL.cells HR.out with h0 | ⟨b, off, rfl, hc⟩
      · omega
      obtain ⟨a, l, c, g0, hrd⟩ := hc k hlt
      have g := (hbel.out.cell (World.block_lt_of_cell? w _ g0)).trans g0
      have Hg0 : Hid (w.cell? ⟨b, off + k, none⟩ = some (.slice a l c)) := g0
      have Hrd : Hid (Rd w a l c (pss[k]?.getD [])) := hrd
      clear g0
      have Hsn : Hid _ := cappedL_snoc pss k (by rw [HL.out]; exact hlt)
      have hvs : vs.length ≤ 20 := by rw [hvl.out]; omega
      have hus : us.length ≤ 20 := by rw [hul.out]; omega
      have HV : Hid _ := hV
      have HU : Hid _ := hU
      have hsz := hbel.out.size
      clear hc hrd hV hU
      generalize cappedL (pss.take k) = qss at *
      go_wp2_with fail
      refine (laid_any _ _ _ _ _ (Rd.later Hrd.out hbel.out)).mono ?_
      rintro e w4 ⟨v4, rfl, hL4, hB4⟩
      obtain ⟨g4, c4, hv4, _⟩ := hL4.it
      subst hv4
      generalize ((pss[k]?.getD []).take 1048676).length = n4 at *
      have HV4 : Hid (OwnV w4 w.heap.size u9 vs) := OwnV.later HV.out hB4
      have HU4 : Hid (OwnV w4 w.heap.size u10 us) := OwnV.later HU.out hB4
      have HL4 : Hid _ := hL4.mono hsz
      have hone := hL4.one
      have HAv4 : Hid (AllLaid w4 w.heap.size vs qss) := AllLaid.kept hAv.out (fun u ys hu => Own.later hu hB4)
      have HAu4 : Hid (AllLaid w4 w.heap.size us qss) := AllLaid.kept hAu.out (fun u ys hu => Own.later hu hB4)
      have HB4 : Hid (Below w.heap.size w w4) := hbel.out.trans (hB4.mono hsz)
      have hsz4 := HB4.out.size
      clear hL4 hB4
      go_wp2_with (at_builtin; refine appendW w4 rfl (.tmp 40) (.tmp 46) rfl w.heap.size u9 vs (by rfl) HV4.out (.slice (some ⟨g4, 0, none⟩) n4 c4) hone (by rfl) (by omega) hsz4 ?_; intro g5 c5 w5 hV5 hg5 hkV5 hkO5 hb5; have gg6 := (Below.cell (Below.trans HB4.out hb5) (World.block_lt_of_cell? w _ Hg0.out)).trans Hg0.out)
      have hne5 : ∀ k, u10.ownBlock = some k → u9.ownBlock ≠ some k := fun k h1 h2 => hdis.out k h2 h1
      have HU5 : Hid (OwnV w5 w.heap.size u10 us) := hkV5 u10 us HU4.out hne5
      have HV5 : Hid (OwnV w5 w.heap.size (.slice (some ⟨g5, 0, none⟩) (vs.length + 1) c5) (vs ++ [.slice (some ⟨g4, 0, none⟩) n4 c4])) := hV5
      have HL5 : Hid (LaidAt w5 w.heap.size (.slice (some ⟨g4, 0, none⟩) n4 c4) ((pss[k]?.getD []).take 1048676)) := by
        obtain ⟨⟨g, cap, hv, hg, ho⟩, hy, hs⟩ := HL4.out
        exact ⟨⟨g, cap, hv, hg, hkO5 _ _ ho⟩, hy, hs⟩
      have HAv5 : Hid (AllLaid w5 w.heap.size vs qss) := AllLaid.kept HAv4.out hkO5
      have HAu5 : Hid (AllLaid w5 w.heap.size us qss) := AllLaid.kept HAu4.out hkO5
      have HB5 : Hid (Below w.heap.size w w5) := Below.trans HB4.out hb5
      have Hdis5 : Hid (∀ k, u10.ownBlock = some k → k ≠ g5) := by
        intro k hk e
        subst e
        rcases hg5 with h | h
        · exact hne5 _ hk h
        · have h2 := (World.ownsRow.lt HU4.out _ hk).2
          omega
      have hsz5 := HB5.out.size
      clear hV5 hg5 hkV5 hkO5 hb5 hne5
      refine (laid_any _ _ _ _ _ (Rd.later Hrd.out HB5.out)).mono ?_
      rintro e w7 ⟨v7, rfl, hL7, hB7⟩
      obtain ⟨g7, c7, hv7, _⟩ := hL7.it
      subst hv7
      have HL7 : Hid _ := hL7.mono hsz5
      have hone7 := hL7.one
      generalize ((pss[k]?.getD []).take 1048676).length = n7 at *
      have HU7 : Hid (OwnV w7 w.heap.size u10 us) := OwnV.later HU5.out hB7
      have HV7 : Hid (OwnV w7 w.heap.size (.slice (some ⟨g5, 0, none⟩) (vs.length + 1) c5) (vs ++ [.slice (some ⟨g4, 0, none⟩) n4 c4])) := OwnV.later HV5.out hB7
      have HL57 : Hid (LaidAt w7 w.heap.size (.slice (some ⟨g4, 0, none⟩) n4 c4) ((pss[k]?.getD []).take 1048676)) := LaidAt.later HL5.out hB7
      have HAv7 : Hid (AllLaid w7 w.heap.size vs qss) := AllLaid.kept HAv5.out (fun u ys hu => Own.later hu hB7)
      have HAu7 : Hid (AllLaid w7 w.heap.size us qss) := AllLaid.kept HAu5.out (fun u ys hu => Own.later hu hB7)
      have HB7 : Hid (Below w.heap.size w w7) := Below.trans HB5.out (hB7.mono hsz5)
      have hsz7 := HB7.out.size
      clear hL7 hB7 gg6 g
      go_wp2_with (at_builtin; refine appendW w7 rfl (.tmp 48) (.tmp 54) rfl w.heap.size u10 us (by rfl) HU7.out (.slice (some ⟨g7, 0, none⟩) n7 c7) hone7 (by rfl) (by omega) hsz7 ?_; intro g8 c8 w8 hV8 hg8 hkV8 hkO8 hb8)
      have hne8 : ∀ k, (Value.slice (some ⟨g5, 0, none⟩) (vs.length + 1) c5).ownBlock = some k → u10.ownBlock ≠ some k := by
        intro k h1 h2
        simp only [Value.ownBlock, Option.some.injEq] at h1
        exact Hdis5.out k h2 h1.symm
      go_roundw
      case rel =>
        refine ⟨k + 1, vs ++ [.slice (some ⟨g4, 0, none⟩) n4 c4], us ++ [.slice (some ⟨g7, 0, none⟩) n7 c7], by omega, by go_num, hkV8 _ _ HV7.out hne8, hV8, ?_, ?_, ?_, by unfold Hid; simp [hvl.out], by unfold Hid; simp [hul.out], Below.trans HB7.out hb8⟩
        · intro g h1 h2
          simp only [Value.ownBlock, Option.some.injEq] at h1 h2
          have h3 : g5 < w7.heap.size := (World.ownsRow.lt HV7.out g5 rfl).2
          rcases hg8 with h | h
          · exact Hdis5.out _ h (by omega)
          · omega
        · unfold Hid
          rw [Hsn.out]
          exact (AllLaid.kept HAv7.out hkO8).snoc (by obtain ⟨⟨g, cap, hv, hg, ho⟩, hy, hs⟩ := HL57.out; exact ⟨⟨g, cap, hv, hg, hkO8 _ _ ho⟩, hy, hs⟩)
        · unfold Hid
          rw [Hsn.out]
          exact (AllLaid.kept HAu7.out hkO8).snoc (by obtain ⟨⟨g, cap, hv, hg, ho⟩, hy, hs⟩ := HL7.out; exact ⟨⟨g, cap, hv, hg, hkO8 _ _ ho⟩, hy, hs⟩)
      case measure => simp [intOf]; omega
    · have hkn : k = n := by omega
      have hpss : pss.take k = pss := List.take_of_length_le (by rw [HL.out]; omega)
      rw [hpss] at hAv hAu
      obtain ⟨aV, cV, hvV, hLV⟩ := AllLaid.rdL hAv.out hV (by rw [hvl.out]; omega)
      obtain ⟨aU, cU, hvU, hLU⟩ := AllLaid.rdL hAu.out hU (by rw [hul.out]; omega)
      subst hvV
      subst hvU
      rw [hvl.out, hkn] at hV hLV ⊢
      rw [hul.out, hkn] at hU hLU ⊢
      have HV : Hid (OwnV wr w.heap.size (.slice aV n cV) vs) := hV
      have HU : Hid (OwnV wr w.heap.size (.slice aU n cU) us) := hU
      have HLV : Hid (RdL wr aV n (cappedL pss)) := hLV
      have HLU : Hid (RdL wr aU n (cappedL pss)) := hLU
      have Hvl : Hid (vs.length = n) := by unfold Hid; rw [hvl.out, hkn]
      have Hul : Hid (us.length = n) := by unfold Hid; rw [hul.out, hkn]
      have hkn' : n ≤ k := by omega
      clear hV hU hLV hLU hpss hdis hvl hul hkn
      generalize cappedL pss = qss at *
      go_wp2_with fail
      refine (sum_any _ _ _ _ _ HLV.out).mono ?_
      rintro e w4 ⟨rfl, hB4⟩
      go_wp2_with fail
      refine (refSum_any _ _ _ _ _ (RdL.later HLU.out hB4)).mono ?_
      rintro e w5 ⟨rfl, hB5⟩
      have HBr5 : Hid (Below wr.heap.size wr w5) := below_trans hB4 hB5
      clear hB4 hB5
      generalize sum qss.flatten = S at *
      have hSS : ((S : Int) != (S : Int)) = false := by simp
      have HAv5 : Hid (AllLaid w5 w.heap.size vs qss) := AllLaid.kept hAv.out (fun u ys hu => Own.later hu HBr5.out)
      have HAu5 : Hid (AllLaid w5 w.heap.size us qss) := AllLaid.kept hAu.out (fun u ys hu => Own.later hu HBr5.out)
      have HV5 : Hid (OwnV w5 w.heap.size (.slice aV n cV) vs) := OwnV.later HV.out HBr5.out
      have HU5 : Hid (OwnV w5 w.heap.size (.slice aU n cU) us) := OwnV.later HU.out HBr5.out
      have HB5 : Hid (Below w.heap.size w w5) := Below.trans hbel.out (HBr5.out.mono hbel.out.size)
      clear hAv hAu HV HU HLV HLU hbel HBr5
      go_wp2
      clear hSS
      go_loopw [12] (fun i wq => ∃ j : Nat, j ≤ n ∧ i = .int .i64 j ∧ Hid (AllLaid wq w.heap.size vs qss) ∧ Hid (AllLaid wq w.heap.size us qss) ∧ Hid (OwnV wq w.heap.size (.slice aV n cV) vs) ∧ Hid (OwnV wq w.heap.size (.slice aU n cU) us) ∧ Hid (Below w.heap.size w wq)) (fun i _ => n - (intOf i).toNat)
      case atStart => exact ⟨0, by omega, rfl, HAv5, HAu5, HV5, HU5, HB5⟩
      case round =>
        obtain ⟨j, hj, rfl, hAv, hAu, hV, hU, hbq⟩ := hrel
        by_cases hlt2 : j < n
        · obtain ⟨x, hx1, hx2⟩ := hAv.out.2 j (by rw [Hvl.out]; exact hlt2)
          obtain ⟨y, hy1, hy2⟩ := hAu.out.2 j (by rw [Hul.out]; exact hlt2)
          obtain ⟨gV, cV', eV, _, _⟩ := World.ownsRow.form hV.out (by rw [Hvl.out]; omega)
          obtain ⟨gU, cU', eU, _, _⟩ := World.ownsRow.form hU.out (by rw [Hul.out]; omega)
          simp only [Value.slice.injEq] at eV eU
          obtain ⟨rfl, -, rfl⟩ := eV
          obtain ⟨rfl, -, rfl⟩ := eU
          have gx := World.ownsRow.cells hV.out (g := gV) rfl j x hx1
          have gy := World.ownsRow.cells hU.out (g := gU) rfl j y hy1
          rw [Addr.add_lit, Nat.zero_add] at gx gy
          obtain ⟨ay, cy, hyy, hry⟩ := hy2.rd
          subst hyy
          obtain ⟨gx0, cx0, hxx, _⟩ := hx2.it
          subst hxx
          have Hx2 : Hid _ := hx2
          have Hry : Hid _ := hry
          clear hx1 hy1 hx2 hy2 hry
          generalize (qss[j]?.getD []).length = nj at *
          generalize qss[j]?.getD [] = zj at *
          go_wp2_with fail
          go_region_with (go_at_call 21; refine (intact_at _ zj w.heap.size _ _ _ _ ?_ ?_).mono ?_; exact LaidAt.later Hx2.out (Below.refl _ _).drew; exact Rd.later Hry.out (Below.refl _ _).drew; rintro e w6 ⟨rfl, hb6⟩)
          all_goals
            go_wp2
            go_roundw
            case rel =>
              have hbb := below_trans (Below.refl _ _).drew hb6
              first | exact ⟨j + 1, by omega, by go_num, AllLaid.kept hAv.out (fun u ys hu => Own.later hu hbb), AllLaid.kept hAu.out (fun u ys hu => Own.later hu hbb), OwnV.later hV.out hbb, OwnV.later hU.out hbb, Below.trans hbq.out (hbb.mono hbq.out.size)⟩ | ((repeat apply Exists.intro); exact ⟨⟨j + 1, by omega, by go_num, AllLaid.kept hAv.out (fun u ys hu => Own.later hu hbb), AllLaid.kept hAu.out (fun u ys hu => Own.later hu hbb), OwnV.later hV.out hbb, OwnV.later hU.out hbb, Below.trans hbq.out (hbb.mono hbq.out.size)⟩, rfl⟩)
            case measure => simp [intOf]; omega
        · clear hAv hAu hV hU HAv5 HAu5 HV5 HU5 HB5 Hvl Hul
          go_wp2_with fail
          refine (laid_any _ _ _ _ _ (Rd.later HR1.out hbq.out)).mono ?_
          rintro e w11 ⟨v11, rfl, hL11, hB11⟩
          have HB11 : Hid (Below w.heap.size w w11) := below_trans hbq.out hB11
          clear hB11
          go_wp2_with fail
          refine (laid_any _ _ _ _ _ (Rd.later HR1.out HB11.out)).mono ?_
          rintro e w12 ⟨v12, rfl, hL12, hB12⟩
          have HL11 : Hid (LaidAt w12 wr.heap.size v11 (xs.take 1048676)) := LaidAt.later hL11 hB12
          have HL12 : Hid (LaidAt w12 w11.heap.size v12 (xs.take 1048676)) := hL12
          have HB12 : Hid (Below w.heap.size w w12) := below_trans HB11.out hB12
          clear hL11 hL12 hB12 HB11 hbq
          generalize xs.take 1048676 = bs at *
          obtain ⟨a11, c11, rfl, hr11⟩ := LaidAt.rd HL11.out
          obtain ⟨a12, c12, rfl, hr12⟩ := LaidAt.rd HL12.out
          have HR11 : Hid (Rd w12 a11 bs.length c11 bs) := hr11
          have HR12 : Hid (Rd w12 a12 bs.length c12 bs) := hr12
          clear hr11 hr12
          generalize bs.length = Lb at *
          go_wp2_with fail
          refine (frame_any _ _ _ _ _ HR11.out).mono ?_
          rintro e w13 ⟨v13, rfl, hO13, hB13⟩
          obtain ⟨a13, l13, c13, rfl, hr13⟩ := Own.rd' hO13 (frB_byt (Rd.byt HR11.out))
          have HR13 : Hid (Rd w13 a13 l13 c13 (frB bs)) := hr13
          clear hO13 hr13
          go_wp2_with fail
          refine (refFrame_any _ _ _ _ _ (Rd.later HR12.out hB13)).mono ?_
          rintro e w14 ⟨v14, rfl, hO14, hB14⟩
          obtain ⟨a14, l14, c14, rfl, hr14⟩ := Own.rd' hO14 (frB_byt (Rd.byt HR11.out))
          have HR14 : Hid (Rd w14 a14 l14 c14 (frB bs)) := hr14
          have HR134 : Hid (Rd w14 a13 l13 c13 (frB bs)) := Rd.later HR13.out hB14
          have HB124 : Hid (Below w12.heap.size w12 w14) := below_trans hB13 hB14
          clear hO14 hr14 hB13 hB14 HR13
          have hne : (frE bs != frE bs) = false := by simp
          go_wp2_with fail
          refine (same_any _ _ _ _ _ _ _ _ _ HR134.out HR14.out).mono ?_
          rintro e w15 ⟨rfl, hB15⟩
          have hd : decide (frB bs = frB bs) = true := by simp
          rw [hd]
          clear hd hne
          have HB125 : Hid (Below w12.heap.size w12 w15) := below_trans HB124.out hB15
          clear hB15 HB124 HR134 HR14
          go_wp2_with fail
          refine (intact_at _ bs _ _ _ _ _ (LaidAt.later HL11.out HB125.out) (Rd.later HR12.out HB125.out)).mono ?_
          rintro e w16 ⟨rfl, hB16⟩
          have HB16 : Hid (Below w.heap.size w w16) := below_trans HB12.out (below_trans HB125.out hB16)
          clear hB16 HB125 HL11 HL12 HR11 HR12 HB12
          go_wp2_with fail
          refine (laid_any _ _ _ _ _ (Rd.later HR2.out HB16.out)).mono ?_
          rintro e w21 ⟨v21, rfl, hL21, hB21⟩
          have HB21 : Hid (Below w.heap.size w w21) := below_trans HB16.out hB21
          clear hB21
          go_wp2_with fail
          refine (laid_any _ _ _ _ _ (Rd.later HR2.out HB21.out)).mono ?_
          rintro e w22 ⟨v22, rfl, hL22, hB22⟩
          have HL21 : Hid (LaidAt w22 w16.heap.size v21 (ys.take 1048676)) := LaidAt.later hL21 hB22
          have HL22 : Hid (LaidAt w22 w21.heap.size v22 (ys.take 1048676)) := hL22
          have HB22 : Hid (Below w.heap.size w w22) := below_trans HB21.out hB22
          have hsmall := hL22.small
          clear hL21 hL22 hB22 HB21 HB16
          generalize ys.take 1048676 = cs at *
          obtain ⟨a21, c21, rfl, hr21⟩ := LaidAt.rd HL21.out
          obtain ⟨a22, c22, rfl, hr22⟩ := LaidAt.rd HL22.out
          have HR21 : Hid (Rd w22 a21 cs.length c21 cs) := hr21
          have HR22 : Hid (Rd w22 a22 cs.length c22 cs) := hr22
          clear hr21 hr22
          generalize cs.length = Lc at *
          go_wp2_with fail
          refine (readFrame_any _ _ _ _ _ _ HR21.out).mono ?_
          rintro e w23 ⟨v23, rfl, hO23, hB23⟩
          obtain ⟨a23, l23, c23, rfl, hr23⟩ := Own.rd' hO23 (rdR_byt _ _ (Rd.byt HR21.out))
          have HR23 : Hid (Rd w23 a23 l23 c23 (rdR cs p).1) := hr23
          clear hO23 hr23
          go_wp2_with fail
          refine (refReadFrame_any _ _ _ _ _ _ (Rd.later HR22.out hB23) (by omega)).mono ?_
          rintro e w24 ⟨v24, rfl, hO24, hB24⟩
          obtain ⟨a24, l24, c24, rfl, hr24⟩ := Own.rd' hO24 (rdR_byt _ _ (Rd.byt HR21.out))
          have HR24 : Hid (Rd w24 a24 l24 c24 (rdR cs p).1) := hr24
          have HR234 : Hid (Rd w24 a23 l23 c23 (rdR cs p).1) := Rd.later HR23.out hB24
          have HB224 : Hid (Below w22.heap.size w22 w24) := below_trans hB23 hB24
          clear hO24 hr24 hB23 hB24 HR23
          generalize rdR cs p = r at *
          obtain ⟨r1, r2, r3⟩ := r
          have t2 : (r2 == r2) = true := by simp
          have t3 : (r3 == r3) = true := by simp
          go_wp2_with fail
          refine (same_any _ _ _ _ _ _ _ _ _ HR234.out HR24.out).mono ?_
          rintro e w25 ⟨rfl, hB25⟩
          have hd : decide (r1 = r1) = true := by simp
          rw [hd]
          clear hd
          have HB225 : Hid (Below w22.heap.size w22 w25) := below_trans HB224.out hB25
          clear hB25 HB224 HR234 HR24
          go_wp2_with fail
          refine (intact_at _ cs _ _ _ _ _ (LaidAt.later HL21.out HB225.out) (Rd.later HR22.out HB225.out)).mono ?_
          rintro e w26 ⟨rfl, hB26⟩
          go_wp2
          go_ret
          exact ⟨rfl, below_trans HB22.out (below_trans HB225.out hB26)⟩

theorem wireFrames_walk (ao : Option Addr) (n cap : Nat) (pss : List (List Int)) (a1 : Option Addr) (l1 c1 : Nat) (xs : List Int) (a2 : Option Addr) (l2 c2 : Nat) (ys : List Int) (p : Int) (w : World)
    (hr : RdL w ao n pss) (hc : n ≤ cap) (hr1 : Rd w a1 l1 c1 xs) (hr2 : Rd w a2 l2 c2 ys) :
    Calls Tryd.prog 7 #[.slice ao n cap, .slice a1 l1 c1, .slice a2 l2 c2, .int .i64 p] w fun e w' => e = .returned (.bool true) ∧ Below w.heap.size w w' := by
  by_cases hn : n ≤ 20
  · exact wireFrames_small ao n cap pss a1 l1 c1 xs a2 l2 c2 ys p w hr hn hr1 hr2
  · obtain ⟨ao', n', cap', hcut, hr', hc'⟩ := cutL_to hr hc 20 (by omega)
    have hn' : n' ≤ 20 := by have := hr'.length; rw [List.length_take] at this; omega
    exact wireFrames_great ao n cap (by omega) hr.max ao' n' cap' hcut _ a1 l1 c1 xs a2 l2 c2 ys p w hr' hn' hr1 hr2
end Go.Proofs.YtfldgjkpkmnkbaaDoor
