import Derived.Test.YtnhaapnmgjlbjaaDoorVJ
import Derived.Test.YtnhaapnmgjlbjaaDoorKE
namespace Go.Proofs.YtnhaapnmgjlbjaaDoor
open Go.RowKit
set_option linter.unusedVariables false

theorem wgA (i : Nat) (h1 : i ≤ 1000) : wrap64 (1 + (i : Int)) = 1 + (i : Int) := w64 _ (by omega)
theorem wgB (i gn : Nat) (h1 : i ≤ 1000) (h2 : gn ≤ 1000) : wrap64 (1 + (i : Int) + (gn : Int)) = 1 + (i : Int) + (gn : Int) := w64 _ (by omega)
theorem eachF_end (n : Int) (uss : List (List Nat)) (k : Nat) (h : uss.length ≤ k) : eachF (uss.drop k) n k = (0, 0) := by
  rw [List.drop_eq_nil_of_le h]; rfl
set_option maxRecDepth 100000 in
set_option maxHeartbeats 4000000 in
theorem refCheckProp_any (co go lo : Option Addr) (cn cc gn gc ln lc : Nat) (cs : List Nat) (gs cl : List (List Nat)) (t K D L inn out : Int) (w : World)
    (hc : RdU w co cn cc cs) (hg : RdUU w go gn gc gs) (hl : RdUU w lo ln lc cl) (u1 : ∀ u ∈ cs, u < 18446744073709551616) (u2 : ∀ us ∈ gs, ∀ u ∈ us, u < 18446744073709551616) (u3 : ∀ us ∈ cl, ∀ u ∈ us, u < 18446744073709551616)
    (hgn : gn ≤ 1000) (hln : ln ≤ 1000) :
    Calls Tryd.prog 12 #[.agg #[.slice co cn cc, .slice go gn gc, .int .i64 t, .slice lo ln lc, .int .i64 K, .int .i64 D, .int .i64 L], .int .i64 inn, .int .i64 out] w fun e w' => e = .returned (szV (propE cs gs t cl K D L inn out)) ∧ Below w.heap.size w w' := by
  have HP0 : Hid _ := propE_0 cs gs t cl K D L inn out
  have HGL : Hid _ := hg.length
  have HLL : Hid _ := hl.length
  have HI1 : Hid (inB 1 inn 256 = true ↔ 1 ≤ inn ∧ inn ≤ 256) := inB_iff
  have HI2 : Hid (inB 1 out 256 = true ↔ 1 ≤ out ∧ out ≤ 256) := inB_iff
  have HW1 : Hid _ := within_any inn 1 256
  have HW2 : Hid _ := within_any out 1 256
  generalize inB 1 inn 256 = b1 at *
  generalize inB 1 out 256 = b2 at *
  have HRD : Hid (∀ w', Below w.heap.size w w' → RdU w' co cn cc cs ∧ RdUU w' go gn gc gs ∧ RdUU w' lo ln lc cl) := fun w' hb => ⟨hc.later hb, hg.later hb, hl.later hb⟩
  have U1 : Hid _ := u1
  have U2 : Hid _ := u2
  have U3 : Hid _ := u3
  clear hc hg hl u1 u2 u3
  go_enter Tryd.func12, Tryd.ntmps12
  go_upto_region 1 with fail
  have k0 := heap_alloc_new w (Obj.cells #[.slice co cn cc, .slice go gn gc, .int .i64 t, .slice lo ln lc, .int .i64 K, .int .i64 D, .int .i64 L] 32)
  have hb0 := (Below.refl _ w).alloc (Nat.le_refl _) (Obj.cells #[.slice co cn cc, .slice go gn gc, .int .i64 t, .slice lo ln lc, .int .i64 K, .int .i64 D, .int .i64 L] 32)
  obtain ⟨W0, hW0⟩ : ∃ W0, w.alloc (Obj.cells #[.slice co cn cc, .slice go gn gc, .int .i64 t, .slice lo ln lc, .int .i64 K, .int .i64 D, .int .i64 L] 32) = W0 := ⟨_, rfl⟩
  rw [hW0] at k0 hb0 ⊢
  clear hW0
  have HB0 : Hid (Below w.heap.size w W0) := hb0
  obtain ⟨a0, a1, a2, a3, a4, a5, a6⟩ := cells7 k0
  obtain ⟨r1, r2, r3⟩ := HRD.out W0 hb0
  have HL : Hid _ := refList_any co cn cc cs inn W0 r1 U1.out
  have R2 : Hid _ := r2
  have R3 : Hid _ := r3
  clear k0 hb0 HRD r1 r2 r3
  cases b1 with
  | false =>
    have H3 : Hid (propE cs gs t cl K D L inn out = (1, 0)) := HP0.out.trans (if_pos rfl)
    clear HP0 HW2 HI1 HI2 HL
    go_wp2_with (go_at_call 29; refine Calls.mono (HW1.out _) ?_; rintro e w' ⟨rfl, hw⟩; rw [hw]; clear hw)
    go_ret2
    exact ⟨by rw [H3.out]; rfl, HB0.out⟩
  | true =>
  cases b2 with
  | false =>
    have H3 : Hid (propE cs gs t cl K D L inn out = (1, 0)) := HP0.out.trans (if_pos rfl)
    clear HP0 HI1 HI2 HL
    go_wp2_with (first | (go_at_call_of 29 (Value.int IntKind.i64 inn); refine Calls.mono (HW1.out _) ?_; rintro e w' ⟨rfl, hw⟩; rw [hw]; clear hw HW1) | (go_at_call_of 29 (Value.int IntKind.i64 out); refine Calls.mono (HW2.out _) ?_; rintro e w' ⟨rfl, hw⟩; rw [hw]; clear hw))
    go_ret2
    exact ⟨by rw [H3.out]; rfl, HB0.out⟩
  | true =>
  have HP1 : Hid (propE cs gs t cl K D L inn out = _) := HP0.out.trans (if_neg (by decide))
  clear HP0
  obtain ⟨hi1, hi2⟩ : 1 ≤ inn ∧ inn ≤ 256 := by simpa using HI1.out
  obtain ⟨ho1, ho2⟩ : 1 ≤ out ∧ out ≤ 256 := by simpa using HI2.out
  clear HI1 HI2
  go_upto_region 3 with (first | (go_at_call_of 29 (Value.int IntKind.i64 inn); refine Calls.mono (HW1.out _) ?_; rintro e w' ⟨rfl, hw⟩; rw [hw]; clear hw HW1) | (go_at_call_of 29 (Value.int IntKind.i64 out); refine Calls.mono (HW2.out _) ?_; rintro e w' ⟨rfl, hw⟩; rw [hw]; clear hw))
  clear HW2
  have HLI : Hid (∀ us, us ∈ gs → ∀ (aj : Option Addr) (cj : Nat), RdU W0 aj us.length cj us → Calls Tryd.prog 30 #[.slice aj us.length cj, .int .i64 inn] W0 fun e w' => e = .returned (.int .i64 (listE us inn)) ∧ w' = W0) := fun us hm aj cj h => refList_any aj _ cj us inn W0 h (U2.out us hm)
  have HLO : Hid (∀ us, us ∈ cl → ∀ (aj : Option Addr) (cj : Nat), RdU W0 aj us.length cj us → Calls Tryd.prog 30 #[.slice aj us.length cj, .int .i64 (out + 1)] W0 fun e w' => e = .returned (.int .i64 (listE us (out + 1))) ∧ w' = W0) := fun us hm aj cj h => refList_any aj _ cj us (out + 1) W0 h (U3.out us hm)
  generalize listE cs inn = x at *
  go_wp2_with fail
  refine Calls.mono HL.out ?_
  rintro e w3 ⟨rfl, hw⟩
  rw [hw]
  clear hw HL U1 U2 U3
  by_cases hx : x = 0
  · subst hx
    have HP2 : Hid (propE cs gs t cl K D L inn out = _) := HP1.out.trans (if_neg (by simp))
    clear HP1
    by_cases hG : 256 < gn
    · have hd : decide (256 < (gn : Int)) = true := decide_eq_true (by omega)
      have hd' : decide (256 < gn) = true := decide_eq_true hG
      have H3 : Hid (propE cs gs t cl K D L inn out = (65, 0)) := HP2.out.trans (if_pos (by rw [HGL.out]; omega))
      clear HP2
      go_wp2
      go_ret2
      exact ⟨by rw [H3.out]; rfl, HB0.out⟩
    · have hd : decide (256 < (gn : Int)) = false := decide_eq_false (by omega)
      have hd' : decide (256 < gn) = false := decide_eq_false hG
      have HP3 : Hid (propE cs gs t cl K D L inn out = _) := HP2.out.trans (if_neg (by rw [HGL.out]; omega))
      clear HP2
      go_upto_region 9 with fail
      go_loopg [8, 9] gn (fun g v u wx => ∃ k : Nat, v = .int .i64 0 ∧ u = .int .i64 k ∧ k + g = gn ∧ Hid (wx = W0) ∧ Hid (eachF (gs.drop k) inn k = eachF gs inn 0))
      case atStart => exact ⟨0, rfl, rfl, by omega, rfl, rfl⟩
      case round =>
        obtain ⟨k, rfl, rfl, hk, hw, HE⟩ := hrel
        obtain rfl : wr = W0 := hw.out
        clear hw
        by_cases hlt : k < gn
        · have hd1 : decide ((k : Int) < (gn : Int)) = true := decide_eq_true (by omega)
          obtain ⟨g, rfl⟩ : ∃ g, gk = g + 1 := ⟨gk - 1, by omega⟩
          rcases R2.out.cells with h0 | ⟨b, off, rfl, hcs⟩
          · omega
          obtain ⟨aj, cj, g0, hr⟩ := hcs k hlt
          have hE := HE.out
          rw [eachF_drop gs inn (by rw [HGL.out]; exact hlt)] at hE
          have hmem : gs[k]?.getD [] ∈ gs := by rw [List.getElem?_eq_getElem (by rw [HGL.out]; exact hlt)]; exact List.getElem_mem _
          obtain ⟨us, hus⟩ : ∃ us, gs[k]?.getD [] = us := ⟨_, rfl⟩
          rw [hus] at g0 hE hmem hr
          have hlk := HLI.out us hmem aj cj hr
          obtain ⟨y, hyd⟩ : ∃ y, listE us inn = y := ⟨_, rfl⟩
          obtain ⟨q, hqd⟩ : ∃ q, us.length = q := ⟨_, rfl⟩
          rw [hyd] at hlk hE
          rw [hqd] at hlk g0
          have HLK : Hid (Calls Tryd.prog 30 #[.slice aj q cj, .int .i64 inn] wr fun e w' => e = .returned (.int .i64 y) ∧ w' = wr) := hlk
          clear hlk hyd hqd
          clear hcs hr hmem hus HE
          by_cases hy : y = 0
          · subst hy
            rw [if_neg (by simp)] at hE
            have HE2 : Hid _ := hE
            clear hE
            go_wp2_with (go_at_call 30; refine Calls.mono HLK.out ?_; rintro e w' ⟨rfl, hw⟩; rw [hw]; clear hw)
            go_roundg g
            case measure => omega
            case rel => exact ⟨k + 1, rfl, by go_num, by omega, rfl, HE2⟩
          · rw [if_pos hy] at hE
            have H3 : Hid (propE cs gs t cl K D L inn out = (y, 1 + (k : Int))) := by
              have := HP3.out
              rw [← hE] at this
              exact this.trans (if_pos hy)
            have hne : (y == 0) = false := by simp; exact hy
            have hwg : wrap64 (1 + (k : Int)) = 1 + (k : Int) := w64 _ (by omega)
            clear hE HP3
            go_wp2_with (go_at_call 30; refine Calls.mono HLK.out ?_; rintro e w' ⟨rfl, hw⟩; rw [hw]; clear hw)
            go_ret2
            exact ⟨by rw [H3.out]; rfl, HB0.out⟩
        · have hd1 : decide ((k : Int) < (gn : Int)) = false := decide_eq_false (by omega)
          have hp4 := HP3.out
          rw [← HE.out, eachF_end inn gs k (by rw [HGL.out]; omega)] at hp4
          have HP4 : Hid (propE cs gs t cl K D L inn out = _) := hp4.trans (if_neg (by simp))
          clear hp4
          have HWT : Hid _ := within_any t (-1) (out - 1)
          have hwo : wrap64 (out - 1) = out - 1 := w64 _ (by omega)
          have HTI : Hid (inB (-1) t (out - 1) = true ↔ -1 ≤ t ∧ t ≤ out - 1) := inB_iff
          generalize inB (-1) t (out - 1) = bt at *
          clear HE HP3 HLI R2
          cases bt with
          | false =>
            have hti : ¬ (-1 ≤ t ∧ t ≤ out - 1) := fun hc => by have := HTI.out.2 hc; cases this
            have H3 : Hid (propE cs gs t cl K D L inn out = (68, 0)) := HP4.out.trans (if_pos (by omega))
            clear HP4 HTI
            go_wp2_with (go_at_call 29; refine Calls.mono (HWT.out _) ?_; rintro e w' ⟨rfl, hw⟩; rw [hw]; clear hw)
            go_ret2
            exact ⟨by rw [H3.out]; rfl, HB0.out⟩
          | true =>
            have hti : -1 ≤ t ∧ t ≤ out - 1 := HTI.out.1 rfl
            have HP5 : Hid (propE cs gs t cl K D L inn out = _) := HP4.out.trans (if_neg (by omega))
            clear HP4 HTI
            by_cases hLn : 64 < ln
            · have hd4 : decide (64 < (ln : Int)) = true := decide_eq_true (by omega)
              have hd4' : decide (64 < ln) = true := decide_eq_true hLn
              have H3 : Hid (propE cs gs t cl K D L inn out = (65, 0)) := HP5.out.trans (if_pos (by rw [HLL.out]; omega))
              clear HP5
              go_wp2_with (go_at_call 29; refine Calls.mono (HWT.out _) ?_; rintro e w' ⟨rfl, hw⟩; rw [hw]; clear hw)
              go_ret2
              exact ⟨by rw [H3.out]; rfl, HB0.out⟩
            · have hd4 : decide (64 < (ln : Int)) = false := decide_eq_false (by omega)
              have hd4' : decide (64 < ln) = false := decide_eq_false hLn
              have HP6 : Hid (propE cs gs t cl K D L inn out = _) := HP5.out.trans (if_neg (by rw [HLL.out]; omega))
              clear HP5
              go_upto_region 19 with (go_at_call 29; refine Calls.mono (HWT.out _) ?_; rintro e w' ⟨rfl, hw⟩; rw [hw]; clear hw)
              have hwo1 : wrap64 (out + 1) = out + 1 := w64 _ (by omega)
              clear HWT
              go_loopg [8, 10] ln (fun g v u wx => ∃ k : Nat, v = .int .i64 0 ∧ u = .int .i64 k ∧ k + g = ln ∧ Hid (wx = wr) ∧ Hid (eachF (cl.drop k) (out + 1) k = eachF cl (out + 1) 0))
              case atStart => exact ⟨0, rfl, rfl, by omega, rfl, rfl⟩
              case round =>
                rename_i wq _
                obtain ⟨i, rfl, rfl, hii, hw, HE⟩ := hrel
                have hw' := hw.out
                subst hw'
                clear hw
                by_cases hil : i < ln
                · have hd5 : decide ((i : Int) < (ln : Int)) = true := decide_eq_true (by omega)
                  obtain ⟨g, rfl⟩ : ∃ g, gk = g + 1 := ⟨gk - 1, by omega⟩
                  rcases R3.out.cells with h0 | ⟨b, off, rfl, hcs⟩
                  · omega
                  obtain ⟨aj, cj, g0, hr⟩ := hcs i hil
                  have hE := HE.out
                  rw [eachF_drop cl (out + 1) (by rw [HLL.out]; exact hil)] at hE
                  have hmem : cl[i]?.getD [] ∈ cl := by rw [List.getElem?_eq_getElem (by rw [HLL.out]; exact hil)]; exact List.getElem_mem _
                  obtain ⟨us, hus⟩ : ∃ us, cl[i]?.getD [] = us := ⟨_, rfl⟩
                  rw [hus] at g0 hE hmem hr
                  have hlk := HLO.out us hmem aj cj hr
                  obtain ⟨y, hyd⟩ : ∃ y, listE us (out + 1) = y := ⟨_, rfl⟩
                  obtain ⟨q, hqd⟩ : ∃ q, us.length = q := ⟨_, rfl⟩
                  rw [hyd] at hlk hE
                  rw [hqd] at hlk g0
                  have HLK : Hid (Calls Tryd.prog 30 #[.slice aj q cj, .int .i64 (out + 1)] wr fun e w' => e = .returned (.int .i64 y) ∧ w' = wr) := hlk
                  clear hlk hyd hqd
                  clear hcs hr hmem hus HE
                  by_cases hy : y = 0
                  · subst hy
                    rw [if_neg (by simp)] at hE
                    have HE2 : Hid _ := hE
                    clear hE
                    go_wp2_with (go_at_call 30; refine Calls.mono HLK.out ?_; rintro e w' ⟨rfl, hw⟩; rw [hw]; clear hw)
                    go_roundg g
                    case measure => omega
                    case rel => exact ⟨i + 1, rfl, by go_num, by omega, rfl, HE2⟩
                  · rw [if_pos hy] at hE
                    have H3 : Hid (propE cs gs t cl K D L inn out = (y, 1 + (i : Int) + (gn : Int))) := by
                      have := HP6.out
                      rw [← hE, HGL.out] at this
                      exact this.trans (if_pos hy)
                    have hne : (y == 0) = false := by simp; exact hy
                    have hib : i ≤ 1000 := Nat.le_trans (Nat.le_of_lt hil) hln
                    have hwg := wgA i hib
                    have hwg2 := wgB i gn hib hgn
                    clear hE HP6
                    go_upto_region 23 with (go_at_call 30; refine Calls.mono HLK.out ?_; rintro e w' ⟨rfl, hw⟩; rw [hw]; clear hw)
                    clear hwo hwo1 hd4 hd4' hd1 hd hd' hd5 hti hk hii hi1 hi2 ho1 ho2
                    go_quiet (fail)
                    go_wp2
                    go_ret2
                    refine ⟨?_, below_drewN HB0.out _⟩
                    rw [H3.out]
                    first | rfl | skip
                · have hd5 : decide ((i : Int) < (ln : Int)) = false := decide_eq_false (by omega)
                  have hp7 := HP6.out
                  rw [← HE.out, eachF_end (out + 1) cl i (by rw [HLL.out]; omega)] at hp7
                  have HP7 : Hid (propE cs gs t cl K D L inn out = _) := hp7.trans (if_neg (by simp))
                  have HK1 : Hid _ := within_any K 1 8
                  have HK2 : Hid _ := within_any D 0 8
                  have HK3 : Hid _ := within_any L 1 1024
                  have HBE : Hid (budE K D L = if inB 1 K 8 && inB 0 D 8 && inB 1 L 1024 then 0 else 69) := rfl
                  generalize inB 1 K 8 = e1 at *
                  generalize inB 0 D 8 = e2 at *
                  generalize inB 1 L 1024 = e3 at *
                  clear hp7 HP6 HE R3 HLO
                  by_cases h0 : ln = 0 ∧ (t = -1 ∨ out = 1)
                  · have H3 : Hid (propE cs gs t cl K D L inn out = (68, 0)) := HP7.out.trans (if_pos (by rw [HLL.out]; exact h0))
                    obtain ⟨h01, h02⟩ := h0
                    subst h01
                    clear HP7 HK1 HK2 HK3
                    by_cases h1 : t = -1
                    · have hd6 : (t == -1) = true := by simp; exact h1
                      go_wp2
                      go_ret2
                      exact ⟨by rw [H3.out]; rfl, HB0.out⟩
                    · have hd6 : (t == -1) = false := by simp; exact h1
                      have hd7 : (out == 1) = true := by simp; exact h02.resolve_left h1
                      go_wp2
                      go_ret2
                      exact ⟨by rw [H3.out]; rfl, HB0.out⟩
                  · have HP8 : Hid (propE cs gs t cl K D L inn out = (budE K D L, 0)) := HP7.out.trans (if_neg (by rw [HLL.out]; exact h0))
                    clear HP7
                    have HZ : Hid (∀ (P : Prop), (((ln : Int) == 0) = false → P) → (ln = 0 → (t == -1) = false → (out == 1) = false → P) → P) := by
                      intro P p1 p2
                      by_cases q : ln = 0
                      · exact p2 q (by simp; exact fun h => h0 ⟨q, .inl h⟩) (by simp; exact fun h => h0 ⟨q, .inr h⟩)
                      · exact p1 (by simp; exact q)
                    clear h0
                    refine HZ.out _ (fun hz => ?_) (fun hz hz1 hz2 => ?_)
                    · clear HZ
                      cases e1 with
                      | false =>
                        have H3 : Hid (propE cs gs t cl K D L inn out = (69, 0)) := by unfold Hid; rw [HP8.out, HBE.out]; rfl
                        clear HP8 HBE
                        go_wp2_with (go_at_call 29; refine Calls.mono (HK1.out _) ?_; rintro e w' ⟨rfl, hw⟩; rw [hw]; clear hw)
                        go_ret2
                        exact ⟨by rw [H3.out]; rfl, HB0.out⟩
                      | true =>
                        go_wp2_with fail
                        refine Calls.mono (HK1.out _) ?_
                        rintro e w' ⟨rfl, hw⟩
                        rw [hw]
                        clear hw HK1
                        go_wp2_with fail
                        refine Calls.mono (HK2.out _) ?_
                        rintro e w' ⟨rfl, hw⟩
                        rw [hw]
                        clear hw HK2
                        cases e2 with
                        | false =>
                          have H3 : Hid (propE cs gs t cl K D L inn out = (69, 0)) := by unfold Hid; rw [HP8.out, HBE.out]; rfl
                          clear HP8 HBE HK3
                          go_wp2
                          go_ret2
                          exact ⟨by rw [H3.out]; rfl, HB0.out⟩
                        | true =>
                          go_wp2_with fail
                          refine Calls.mono (HK3.out _) ?_
                          rintro e w' ⟨rfl, hw⟩
                          rw [hw]
                          clear hw HK3
                          cases e3 with
                          | false =>
                            have H3 : Hid (propE cs gs t cl K D L inn out = (69, 0)) := by unfold Hid; rw [HP8.out, HBE.out]; rfl
                            clear HP8 HBE
                            go_wp2
                            go_ret2
                            exact ⟨by rw [H3.out]; rfl, HB0.out⟩
                          | true =>
                            have H3 : Hid (propE cs gs t cl K D L inn out = (0, 0)) := by unfold Hid; rw [HP8.out, HBE.out]; rfl
                            clear HP8 HBE
                            go_wp2
                            go_ret2
                            exact ⟨by rw [H3.out]; rfl, HB0.out⟩
                    · clear HZ
                      subst hz
                      cases e1 with
                      | false =>
                        have H3 : Hid (propE cs gs t cl K D L inn out = (69, 0)) := by unfold Hid; rw [HP8.out, HBE.out]; rfl
                        clear HP8 HBE
                        go_wp2_with (go_at_call 29; refine Calls.mono (HK1.out _) ?_; rintro e w' ⟨rfl, hw⟩; rw [hw]; clear hw)
                        go_ret2
                        exact ⟨by rw [H3.out]; rfl, HB0.out⟩
                      | true =>
                        go_wp2_with fail
                        refine Calls.mono (HK1.out _) ?_
                        rintro e w' ⟨rfl, hw⟩
                        rw [hw]
                        clear hw HK1
                        go_wp2_with fail
                        refine Calls.mono (HK2.out _) ?_
                        rintro e w' ⟨rfl, hw⟩
                        rw [hw]
                        clear hw HK2
                        cases e2 with
                        | false =>
                          have H3 : Hid (propE cs gs t cl K D L inn out = (69, 0)) := by unfold Hid; rw [HP8.out, HBE.out]; rfl
                          clear HP8 HBE HK3
                          go_wp2
                          go_ret2
                          exact ⟨by rw [H3.out]; rfl, HB0.out⟩
                        | true =>
                          go_wp2_with fail
                          refine Calls.mono (HK3.out _) ?_
                          rintro e w' ⟨rfl, hw⟩
                          rw [hw]
                          clear hw HK3
                          cases e3 with
                          | false =>
                            have H3 : Hid (propE cs gs t cl K D L inn out = (69, 0)) := by unfold Hid; rw [HP8.out, HBE.out]; rfl
                            clear HP8 HBE
                            go_wp2
                            go_ret2
                            exact ⟨by rw [H3.out]; rfl, HB0.out⟩
                          | true =>
                            have H3 : Hid (propE cs gs t cl K D L inn out = (0, 0)) := by unfold Hid; rw [HP8.out, HBE.out]; rfl
                            clear HP8 HBE
                            go_wp2
                            go_ret2
                            exact ⟨by rw [H3.out]; rfl, HB0.out⟩
  · have H3 : Hid (propE cs gs t cl K D L inn out = (x, 0)) := HP1.out.trans (if_pos hx)
    have hne : (x == 0) = false := by simp; exact hx
    clear HP1
    go_wp2
    go_ret2
    exact ⟨by rw [H3.out]; rfl, HB0.out⟩
end Go.Proofs.YtnhaapnmgjlbjaaDoor
