import Derived.Test.YtogpkigpnflaoaaDoorKD
namespace Go.Proofs.YtogpkigpnflaoaaDoor
open Go.RowKit
set_option linter.unusedVariables false

theorem eachF_lt (n : Int) : ∀ (uss : List (List Nat)) (i : Nat), 0 ≤ (eachF uss n i).2 ∧ (eachF uss n i).2 ≤ i + uss.length := by
  intro uss
  induction uss with
  | nil => intro i; simp only [eachF]; omega
  | cons us r ih =>
    intro i
    simp only [eachF, List.length_cons]
    split
    · simp only []; omega
    · have := ih (i + 1); omega
def propE (cs : List Nat) (gs : List (List Nat)) (t : Int) (cl : List (List Nat)) (K D L inn out : Int) : Int × Int :=
  if (!(inB 1 inn 256) || !(inB 1 out 256)) = true then (1, 0) else
  if listE cs inn ≠ 0 then (listE cs inn, 0) else
  if 256 < gs.length then (65, 0) else
  if (eachF gs inn 0).1 ≠ 0 then ((eachF gs inn 0).1, 1 + (eachF gs inn 0).2) else
  if t < -1 ∨ out ≤ t then (68, 0) else
  if 64 < cl.length then (65, 0) else
  if (eachF cl (out + 1) 0).1 ≠ 0 then ((eachF cl (out + 1) 0).1, 1 + (eachF cl (out + 1) 0).2 + gs.length) else
  if cl.length = 0 ∧ (t = -1 ∨ out = 1) then (68, 0) else (budE K D L, 0)
theorem propE_0 (cs : List Nat) (gs : List (List Nat)) (t : Int) (cl : List (List Nat)) (K D L inn out : Int) : propE cs gs t cl K D L inn out =
  if (!(inB 1 inn 256) || !(inB 1 out 256)) = true then (1, 0) else
  if listE cs inn ≠ 0 then (listE cs inn, 0) else
  if 256 < gs.length then (65, 0) else
  if (eachF gs inn 0).1 ≠ 0 then ((eachF gs inn 0).1, 1 + (eachF gs inn 0).2) else
  if t < -1 ∨ out ≤ t then (68, 0) else
  if 64 < cl.length then (65, 0) else
  if (eachF cl (out + 1) 0).1 ≠ 0 then ((eachF cl (out + 1) 0).1, 1 + (eachF cl (out + 1) 0).2 + gs.length) else
  if cl.length = 0 ∧ (t = -1 ∨ out = 1) then (68, 0) else (budE K D L, 0) := rfl
theorem each_tup (ao : Option Addr) (len cap : Nat) (uss : List (List Nat)) (n : Int) (w : World) (h : RdLL w ao len cap uss) :
    Calls Tryd.prog 15 #[.slice ao len cap, .int .i64 n] w fun e w' => e = .returned (.tuple #[.int .i64 (eachF uss n 0).1, .int .i64 (eachF uss n 0).2]) ∧ w' = w := each_any ao len cap uss n w h
theorem inB_iff {a n b : Int} : inB a n b = true ↔ a ≤ n ∧ n ≤ b := by unfold inB; simp
set_option maxRecDepth 100000 in
set_option maxHeartbeats 2000000 in
theorem checkProp_any (co go lo : Option Addr) (cn cc gn gc ln lc : Nat) (cs : List Nat) (gs cl : List (List Nat)) (t K D L inn out : Int) (w : World)
    (hc : RdF w co cn cc cs) (hg : RdLL w go gn gc gs) (hl : RdLL w lo ln lc cl) :
    Calls Tryd.prog 8 #[.agg #[.slice co cn cc, .slice go gn gc, .int .i64 t, .slice lo ln lc, .int .i64 K, .int .i64 D, .int .i64 L], .int .i64 inn, .int .i64 out] w fun e w' => e = .returned (szV (propE cs gs t cl K D L inn out)) ∧ Below w.heap.size w w' := by
  have HP0 : Hid _ := propE_0 cs gs t cl K D L inn out
  have hgl := hg.length
  have hll := hl.length
  have hgm := Nat.le_trans hg.max maxLen_le
  have hlm := Nat.le_trans hl.max maxLen_le
  have HRD : Hid (∀ w', Below w.heap.size w w' → RdF w' co cn cc cs ∧ RdLL w' go gn gc gs ∧ RdLL w' lo ln lc cl) := fun w' hb => ⟨hc.later hb, hg.later hb, hl.later hb⟩
  clear hc hg hl
  have H1 : Hid _ := holds_in 1 256 inn
  have H2 : Hid _ := holds_in 1 256 out
  have HI1 : Hid (inB 1 inn 256 = true ↔ 1 ≤ inn ∧ inn ≤ 256) := inB_iff
  have HI2 : Hid (inB 1 out 256 = true ↔ 1 ≤ out ∧ out ≤ 256) := inB_iff
  generalize inB 1 inn 256 = b1 at *
  generalize inB 1 out 256 = b2 at *
  go_enter Tryd.func8, Tryd.ntmps8
  go_wp2_with fail
  refine Calls.mono (H1.out _) ?_
  rintro e w1 ⟨rfl, hb⟩
  have HB1 : Hid (Below w.heap.size w w1) := to_call (((Below.refl _ w).alloc (Nat.le_refl _) _).alloc (by simp only [alloc_size]; omega) _) hb
  have k0 := kept hb (alloc_kept (heap_alloc_new w _) _)
  have k1 := kept hb (heap_at _ _ (w.heap.size + 1) (by simp only [alloc_size]))
  have HK : Hid (w1.heap[w.heap.size]? = _) := k0
  obtain ⟨c0, c1⟩ := cells2 k1
  clear k0 k1 hb H1
  cases b1 with
  | false =>
    have H3 : Hid (propE cs gs t cl K D L inn out = (1, 0)) := HP0.out.trans (if_pos rfl)
    clear HP0 H2 HI1 HI2
    go_wp2
    go_ret2
    exact ⟨by rw [H3.out]; rfl, HB1.out⟩
  | true =>
    go_wp2_with fail
    refine Calls.mono (H2.out _) ?_
    rintro e w2 ⟨rfl, hb⟩
    have HB2 : Hid (Below w.heap.size w w2) := to_call HB1.out hb
    have k0 := kept hb HK.out
    obtain ⟨e0, e1, e2, e3, e4, e5, e6⟩ := cells7 k0
    clear k0 hb H2 HK c0 c1 HB1
    cases b2 with
    | false =>
      have H3 : Hid (propE cs gs t cl K D L inn out = (1, 0)) := HP0.out.trans (if_pos rfl)
      clear HP0 HI1 HI2
      go_wp2
      go_ret2
      exact ⟨by rw [H3.out]; rfl, HB2.out⟩
    | true =>
      have HP1 : Hid (propE cs gs t cl K D L inn out = _) := HP0.out.trans (if_neg (by decide))
      clear HP0
      obtain ⟨hi1, hi2⟩ : 1 ≤ inn ∧ inn ≤ 256 := by simpa using HI1.out
      obtain ⟨ho1, ho2⟩ : 1 ≤ out ∧ out ≤ 256 := by simpa using HI2.out
      clear HI1 HI2
      obtain ⟨r1, r2, r3⟩ := HRD.out w2 HB2.out
      clear HRD
      have HL : Hid _ := list_any co cn cc cs inn w2 r1
      have HG : Hid _ := each_tup go gn gc gs inn w2 r2
      have HC : Hid _ := each_tup lo ln lc cl (out + 1) w2 r3
      have hge := eachF_lt inn gs 0
      have hce := eachF_lt (out + 1) cl 0
      have HW : Hid (∀ w', w' = w2 → w' = w2) := fun _ h => h
      clear r1 r2 r3
      generalize listE cs inn = x at *
      generalize (eachF gs inn 0).1 = g1 at *
      generalize (eachF gs inn 0).2 = g2 at *
      generalize (eachF cl (out + 1) 0).1 = l1 at *
      generalize (eachF cl (out + 1) 0).2 = l2 at *
      have hwo : wrap64 (out + 1) = out + 1 := w64 _ (by omega)
      go_wp2_with fail
      refine Calls.mono HL.out ?_
      rintro e w3 ⟨rfl, hw⟩
      rw [hw]
      clear hw HL
      by_cases hx : x = 0
      · subst hx
        have HP2 : Hid (propE cs gs t cl K D L inn out = _) := HP1.out.trans (if_neg (by simp))
        clear HP1
        by_cases hG : 256 < gn
        · have hd : decide (256 < (gn : Int)) = true := decide_eq_true (by omega)
          have hd' : decide (256 < gn) = true := decide_eq_true hG
          have H3 : Hid (propE cs gs t cl K D L inn out = (65, 0)) := HP2.out.trans (if_pos (by omega))
          clear HP2
          go_wp2
          go_ret2
          exact ⟨by rw [H3.out]; rfl, HB2.out⟩
        · have hd : decide (256 < (gn : Int)) = false := decide_eq_false (by omega)
          have hd' : decide (256 < gn) = false := decide_eq_false hG
          have HP3 : Hid (propE cs gs t cl K D L inn out = _) := HP2.out.trans (if_neg (by omega))
          clear HP2
          go_wp2_with fail
          refine Calls.mono HG.out ?_
          rintro e w3 ⟨rfl, hw⟩
          rw [hw]
          clear hw HG
          by_cases hg1 : g1 = 0
          · subst hg1
            have HP4 : Hid (propE cs gs t cl K D L inn out = _) := HP3.out.trans (if_neg (by simp))
            clear HP3
            by_cases ht : t < -1
            · have H3 : Hid (propE cs gs t cl K D L inn out = (68, 0)) := HP4.out.trans (if_pos (.inl ht))
              have hd2 : decide (t < -1) = true := decide_eq_true ht
              clear HP4
              go_wp2
              go_ret2
              exact ⟨by rw [H3.out]; rfl, HB2.out⟩
            · have hd2 : decide (t < -1) = false := decide_eq_false ht
              by_cases ht2 : out ≤ t
              · have H3 : Hid (propE cs gs t cl K D L inn out = (68, 0)) := HP4.out.trans (if_pos (.inr ht2))
                have hd3 : decide (out ≤ t) = true := decide_eq_true ht2
                clear HP4
                go_wp2
                go_ret2
                exact ⟨by rw [H3.out]; rfl, HB2.out⟩
              · have hd3 : decide (out ≤ t) = false := decide_eq_false ht2
                have HP5 : Hid (propE cs gs t cl K D L inn out = _) := HP4.out.trans (if_neg (by omega))
                clear HP4
                by_cases hL : 64 < ln
                · have hd4 : decide (64 < (ln : Int)) = true := decide_eq_true (by omega)
                  have hd4' : decide (64 < ln) = true := decide_eq_true hL
                  have H3 : Hid (propE cs gs t cl K D L inn out = (65, 0)) := HP5.out.trans (if_pos (by omega))
                  clear HP5
                  go_wp2
                  go_ret2
                  exact ⟨by rw [H3.out]; rfl, HB2.out⟩
                · have hd4 : decide (64 < (ln : Int)) = false := decide_eq_false (by omega)
                  have hd4' : decide (64 < ln) = false := decide_eq_false hL
                  have HP6 : Hid (propE cs gs t cl K D L inn out = _) := HP5.out.trans (if_neg (by omega))
                  clear HP5
                  go_wp2_with fail
                  refine Calls.mono HC.out ?_
                  rintro e w3 ⟨rfl, hw⟩
                  rw [hw]
                  clear hw HC
                  by_cases hl1 : l1 = 0
                  · subst hl1
                    have HP7 : Hid (propE cs gs t cl K D L inn out = _) := HP6.out.trans (if_neg (by simp))
                    clear HP6
                    have HBU : Hid _ := budgets_any (.slice co cn cc) (.slice go gn gc) (.slice lo ln lc) t K D L w2
                    by_cases h0 : ln = 0
                    · subst h0
                      by_cases h1 : t = -1
                      · have H3 : Hid (propE cs gs t cl K D L inn out = (68, 0)) := HP7.out.trans (if_pos ⟨by omega, .inl h1⟩)
                        have hd6 : (t == -1) = true := by simp; exact h1
                        clear HP7 HBU
                        go_wp2
                        go_ret2
                        exact ⟨by rw [H3.out]; rfl, HB2.out⟩
                      · have hd6 : (t == -1) = false := by simp; exact h1
                        by_cases h2 : out = 1
                        · have H3 : Hid (propE cs gs t cl K D L inn out = (68, 0)) := HP7.out.trans (if_pos ⟨by omega, .inr h2⟩)
                          have hd7 : (out == 1) = true := by simp; exact h2
                          clear HP7 HBU
                          go_wp2
                          go_ret2
                          exact ⟨by rw [H3.out]; rfl, HB2.out⟩
                        · have H3 : Hid (propE cs gs t cl K D L inn out = (budE K D L, 0)) := HP7.out.trans (if_neg (by omega))
                          have hd7 : (out == 1) = false := by simp; exact h2
                          clear HP7
                          go_wp2_with fail
                          refine Calls.mono HBU.out ?_
                          rintro e w3 ⟨rfl, hb⟩
                          go_wp2
                          go_ret2
                          exact ⟨by rw [H3.out]; rfl, to_call HB2.out hb⟩
                    · have H3 : Hid (propE cs gs t cl K D L inn out = (budE K D L, 0)) := HP7.out.trans (if_neg (by omega))
                      have hd5 : ((ln : Int) == 0) = false := by simp; exact h0
                      clear HP7
                      go_wp2_with fail
                      refine Calls.mono HBU.out ?_
                      rintro e w3 ⟨rfl, hb⟩
                      go_wp2
                      go_ret2
                      exact ⟨by rw [H3.out]; rfl, to_call HB2.out hb⟩
                  · have H3 : Hid (propE cs gs t cl K D L inn out = (l1, 1 + l2 + gn)) := by
                      have := HP6.out.trans (if_pos hl1)
                      rw [hgl] at this
                      exact this
                    have hne : (l1 == 0) = false := by simp; exact hl1
                    have hwg : wrap64 (1 + l2) = 1 + l2 := w64 _ (by omega)
                    have hwg2 : wrap64 (1 + l2 + (gn : Int)) = 1 + l2 + (gn : Int) := w64 _ (by omega)
                    clear HP6
                    go_wp2_with fail
                    go_quiet (fail)
                    go_wp2
                    go_ret2
                    refine ⟨?_, below_drewN HB2.out _⟩
                    rw [H3.out]
                    have e1 : IntKind.i64.wrap (1 + l2) = 1 + l2 := by rw [IntKind.wrap_i64]; omega
                    have e2 : IntKind.i64.wrap (1 + l2 + (gn : Int)) = 1 + l2 + (gn : Int) := by rw [IntKind.wrap_i64]; omega
                    show Ending.returned (.tuple #[.int .i64 l1, .int .i64 (IntKind.i64.wrap (IntKind.i64.wrap (1 + l2) + (gn : Int)))]) = _
                    rw [e1, e2]
                    rfl
          · have H3 : Hid (propE cs gs t cl K D L inn out = (g1, 1 + g2)) := HP3.out.trans (if_pos hg1)
            have hne : (g1 == 0) = false := by simp; exact hg1
            have hwg : wrap64 (1 + g2) = 1 + g2 := w64 _ (by omega)
            clear HP3
            go_wp2
            go_ret2
            exact ⟨by rw [H3.out]; rfl, HB2.out⟩
      · have H3 : Hid (propE cs gs t cl K D L inn out = (x, 0)) := HP1.out.trans (if_pos hx)
        have hne : (x == 0) = false := by simp; exact hx
        clear HP1
        go_wp2
        go_ret2
        exact ⟨by rw [H3.out]; rfl, HB2.out⟩
end Go.Proofs.YtogpkigpnflaoaaDoor
