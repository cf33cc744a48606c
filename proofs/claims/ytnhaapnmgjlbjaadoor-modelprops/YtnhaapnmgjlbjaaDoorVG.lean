import Derived.Test.YtnhaapnmgjlbjaaDoorVE
namespace Go.Proofs.YtnhaapnmgjlbjaaDoor
open Go.RowKit
set_option linter.unusedVariables false

theorem within_any (n lo hi : Int) (w : World) : Calls Tryd.prog 29 #[.int .i64 n, .int .i64 lo, .int .i64 hi] w fun e w' => e = .returned (.bool (inB lo n hi)) ∧ w' = w := by
  unfold inB
  by_cases h : lo ≤ n
  · have hd : decide (lo ≤ n) = true := decide_eq_true h
    rw [hd, Bool.true_and]
    clear h
    go_enter Tryd.func29, Tryd.ntmps29
    go_wp2
    go_ret
    exact ⟨rfl, rfl⟩
  · have hd : decide (lo ≤ n) = false := decide_eq_false h
    rw [hd, Bool.false_and]
    clear h
    go_enter Tryd.func29, Tryd.ntmps29
    go_wp2
    go_ret
    exact ⟨rfl, rfl⟩
set_option maxRecDepth 100000 in
theorem numberRef_any (u : Nat) (hu : u < 18446744073709551616) (w : World) : Calls Tryd.prog 53 #[.int .u64 (u : Int)] w fun e w' => e = .returned (.bool (decide (Fin u))) ∧ w' = w := by
  obtain ⟨E, hE⟩ : ∃ E : Nat, u / 4503599627370496 % 2048 = E := ⟨_, rfl⟩
  have fE : bits .and .u64 ((u : Int) / 4503599627370496) 2047 = (E : Int) := by
    have k := u64_and_nat (u / 4503599627370496) 2047 (by omega) (by decide)
    rw [show ((2047 : Nat) : Int) = 2047 from rfl] at k
    rw [show (u : Int) / 4503599627370496 = ((u / 4503599627370496 : Nat) : Int) by omega, k, show (2047 : Nat) = 2 ^ 11 - 1 by decide, Nat.and_two_pow_sub_one_eq_mod, ← hE]
  have hFin : Fin u ↔ E < 2047 := by unfold Fin infK frung; omega
  have HX : Hid (((E : Int) != 2047) = decide (Fin u)) := by
    unfold Hid
    by_cases h : E < 2047
    · rw [decide_eq_true (hFin.2 h)]; simp; omega
    · rw [decide_eq_false (fun c => h (hFin.1 c))]; simp; omega
  clear hE hFin
  go_enter Tryd.func53, Tryd.ntmps53
  go_wp2_with fail
  go_ret
  exact ⟨congrArg (fun b => Ending.returned (.bool b)) HX.out, rfl⟩
set_option maxRecDepth 100000 in
set_option maxHeartbeats 1000000 in
theorem refNumbers_any (ao : Option Addr) (len cap : Nat) (us : List Nat) (w : World) (h : RdU w ao len cap us) (hu : ∀ u ∈ us, u < 18446744073709551616) :
    Calls Tryd.prog 42 #[.slice ao len cap] w fun e w' => e = .returned (.bool (numsB us)) ∧ w' = w := by
  have HR : Hid _ := h
  have hmx := Nat.le_trans h.max maxLen_le
  have HLN : Hid _ := h.length
  have HU : Hid _ := hu
  clear h hu
  go_enter Tryd.func42, Tryd.ntmps42
  go_wp2_with fail
  go_loopg [3] len (fun g iv wx => ∃ k : Nat, iv = .int .i64 k ∧ k + g = len ∧ Hid (wx = w) ∧ Hid (numsB (us.drop k) = numsB us))
  case atStart => exact ⟨0, rfl, by omega, rfl, rfl⟩
  case round =>
    obtain ⟨k, rfl, hk, hw, H1⟩ := hrel
    by_cases hlt : k < len
    · have hd : decide ((k : Int) < (len : Int)) = true := decide_eq_true (by omega)
      obtain ⟨g, rfl⟩ : ∃ g, gk = g + 1 := ⟨gk - 1, by omega⟩
      rcases HR.out.cells with h0 | ⟨b, off, rfl, hc⟩
      · omega
      · have g0 := hc k hlt
        rw [← hw.out] at g0
        have hul := HU.out _ (getD_mem (us := us) (j := k) (by rw [HLN.out]; exact hlt))
        have h2 := H1.out
        rw [numsB_drop us (by rw [HLN.out]; exact hlt)] at h2
        obtain ⟨u, hu⟩ : ∃ u, us[k]?.getD 0 = u := ⟨_, rfl⟩
        rw [hu] at g0 hul h2
        clear hc hu H1
        by_cases hf : Fin u
        · have hfd : decide (Fin u) = true := decide_eq_true hf
          have H2 : Hid (numsB (us.drop (k + 1)) = numsB us) := by unfold Hid; rw [← h2, hfd, Bool.true_and]
          clear h2
          go_wp2_with (go_at_call 53; refine (numberRef_any u hul _).mono ?_; rintro e w' ⟨rfl, rfl⟩; rw [hfd])
          go_roundg g
          case measure => omega
          case rel => exact ⟨k + 1, by go_num, by omega, hw, H2⟩
        · have hfd : decide (Fin u) = false := decide_eq_false hf
          have H2 : Hid (false = numsB us) := by unfold Hid; rw [← h2, hfd, Bool.false_and]
          clear h2
          go_wp2_with (go_at_call 53; refine (numberRef_any u hul _).mono ?_; rintro e w' ⟨rfl, rfl⟩; rw [hfd])
          go_ret
          exact ⟨by rw [← H2.out]; rfl, hw.out⟩
    · have hd : decide ((k : Int) < (len : Int)) = false := decide_eq_false (by omega)
      have H2 : Hid (true = numsB us) := by
        unfold Hid
        rw [← H1.out, List.drop_eq_nil_of_le (by rw [HLN.out]; omega)]
        rfl
      clear H1
      go_wp2
      go_ret
      exact ⟨by rw [← H2.out]; rfl, hw.out⟩
set_option maxRecDepth 100000 in
theorem refList_any (ao : Option Addr) (len cap : Nat) (us : List Nat) (n : Int) (w : World) (h : RdU w ao len cap us) (hu : ∀ u ∈ us, u < 18446744073709551616) :
    Calls Tryd.prog 30 #[.slice ao len cap, .int .i64 n] w fun e w' => e = .returned (.int .i64 (listE us n)) ∧ w' = w := by
  have hln := h.length
  have HN : Hid _ := refNumbers_any ao len cap us w h hu
  clear h hu
  by_cases hn : (len : Int) = n
  · subst hn
    cases hb : numsB us with
    | true =>
      have H1 : Hid (listE us len = 0) := by unfold Hid listE; rw [if_neg (by omega), if_pos hb]
      rw [hb] at HN
      clear hb
      go_enter Tryd.func30, Tryd.ntmps30
      go_wp2_with fail
      refine Calls.mono HN.out ?_
      rintro e w' ⟨rfl, hw⟩
      rw [hw]
      go_wp2
      go_ret
      exact ⟨by rw [H1.out]; rfl, rfl⟩
    | false =>
      have H1 : Hid (listE us len = 64) := by unfold Hid listE; rw [if_neg (by omega), if_neg (by rw [hb]; decide)]
      rw [hb] at HN
      clear hb
      go_enter Tryd.func30, Tryd.ntmps30
      go_wp2_with fail
      refine Calls.mono HN.out ?_
      rintro e w' ⟨rfl, hw⟩
      rw [hw]
      go_wp2
      go_ret
      exact ⟨by rw [H1.out]; rfl, rfl⟩
  · have H1 : Hid (listE us n = 63) := by unfold Hid listE; rw [if_pos (by omega)]
    have hd : ((len : Int) == n) = false := by simp; exact hn
    go_enter Tryd.func30, Tryd.ntmps30
    go_wp2
    go_ret
    exact ⟨by rw [H1.out]; rfl, rfl⟩

/-! ### the same? -/
set_option maxRecDepth 100000 in
set_option maxHeartbeats 1000000 in
theorem sameList_any (ao bo : Option Addr) (len cap bcap : Nat) (us : List Nat) (w : World) (h : RdU w ao len cap us) (h' : RdU w bo len bcap us) :
    Calls Tryd.prog 43 #[.slice ao len cap, .slice bo len bcap] w fun e w' => e = .returned (.bool true) ∧ Below w.heap.size w w' := by
  have HR : Hid _ := h
  have HS : Hid _ := h'
  have hmx := Nat.le_trans h.max maxLen_le
  clear h h'
  go_enter Tryd.func43, Tryd.ntmps43
  go_wp2_with fail
  go_loopg [5] len (fun g iv wx => ∃ k : Nat, iv = .int .i64 k ∧ k + g = len ∧ Hid (Below w.heap.size w wx))
  case atStart => exact ⟨0, rfl, by omega, Below.refl _ _⟩
  case round =>
    obtain ⟨k, rfl, hk, HB⟩ := hrel
    by_cases hlt : k < len
    · have hd : decide ((k : Int) < (len : Int)) = true := decide_eq_true (by omega)
      obtain ⟨g, rfl⟩ : ∃ g, gk = g + 1 := ⟨gk - 1, by omega⟩
      rcases (HR.out.later HB.out).cells with h0 | ⟨b, off, rfl, hc⟩
      · omega
      rcases (HS.out.later HB.out).cells with h0 | ⟨b', off', rfl, hc'⟩
      · omega
      have g0 := hc k hlt
      have g1 := hc' k hlt
      generalize us[k]?.getD 0 = u at *
      clear hc hc'
      go_upto_region 6 with fail
      go_quiet (fail)
      go_wp2
      go_roundg g
      case measure => omega
      case rel => exact ⟨k + 1, by go_num, by omega, below_drewN HB.out _⟩
    · have hd : decide ((k : Int) < (len : Int)) = false := decide_eq_false (by omega)
      go_wp2
      go_ret
      exact ⟨rfl, HB.out⟩
end Go.Proofs.YtnhaapnmgjlbjaaDoor
