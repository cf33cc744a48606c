import Derived.Test.YtmbnbleahehdaaaVE
namespace Go.Proofs.Ytmbnbleahehdaaa
open Go.RowKit
set_option linter.unusedVariables false

theorem within_any (n lo hi : Int) (w : World) : Calls Try.prog 47 #[.int .i64 n, .int .i64 lo, .int .i64 hi] w fun e w' => e = .returned (.bool (inB lo n hi)) ∧ w' = w := by
  unfold inB
  by_cases h : lo ≤ n
  · have hd : decide (lo ≤ n) = true := decide_eq_true h
    rw [hd, Bool.true_and]
    clear h
    go_enter Try.func47, Try.ntmps47
    go_wp2
    go_ret
    exact ⟨rfl, rfl⟩
  · have hd : decide (lo ≤ n) = false := decide_eq_false h
    rw [hd, Bool.false_and]
    clear h
    go_enter Try.func47, Try.ntmps47
    go_wp2
    go_ret
    exact ⟨rfl, rfl⟩
set_option maxRecDepth 100000 in
theorem numberRef_any (u : Nat) (hu : u < 18446744073709551616) (w : World) : Calls Try.prog 56 #[.int .u64 (u : Int)] w fun e w' => e = .returned (.bool (decide (Fin u))) ∧ w' = w := by
  obtain ⟨E, hE⟩ : ∃ E : Nat, u / 4503599627370496 % 2048 = E := ⟨_, rfl⟩
  have fE : bits .and .u64 ((u : Int) / 4503599627370496) 2047 = (E : Int) := by
    have k := u64_and_nat (u / 4503599627370496) 2047 (by omega) (by decide)
    rw [show ((2047 : Nat) : Int) = 2047 from rfl] at k
    rw [show (u : Int) / 4503599627370496 = ((u / 4503599627370496 : Nat) : Int) by omega, k, show (2047 : Nat) = 2 ^ 11 - 1 by decide, Nat.and_two_pow_sub_one_eq_mod, ← hE]
  have hFin : Fin u ↔ E < 2047 := by unfold Fin infK frung; omega
  have HX : Hid (((E : Int) != 2047) = decide (Fin u)) := by
    unfold Hid
    by_cases h : E < 2047
    · rw [decide_eq_true (hFin.2 h)]; simp; omega
    · rw [decide_eq_false (fun c => h (hFin.1 c))]; simp; omega
  clear hE hFin
  go_enter Try.func56, Try.ntmps56
  go_wp2_with fail
  go_ret
  exact ⟨congrArg (fun b => Ending.returned (.bool b)) HX.out, rfl⟩
set_option maxRecDepth 100000 in
set_option maxHeartbeats 1000000 in
theorem sameList_any (ao bo : Option Addr) (len cap bcap : Nat) (us : List Nat) (w : World) (h : RdU w ao len cap us) (h' : RdU w bo len bcap us) :
    Calls Try.prog 27 #[.slice ao len cap, .slice bo len bcap] w fun e w' => e = .returned (.bool true) ∧ Below w.heap.size w w' := by
  have HR : Hid _ := h
  have HS : Hid _ := h'
  have hmx := Nat.le_trans h.max maxLen_le
  clear h h'
  go_enter Try.func27, Try.ntmps27
  go_wp2_with fail
  go_loopg [5] len (fun g iv wx => ∃ k : Nat, iv = .int .i64 k ∧ k + g = len ∧ Hid (Below w.heap.size w wx))
  case atStart => exact ⟨0, rfl, by omega, Below.refl _ _⟩
  case round =>
    obtain ⟨k, rfl, hk, HB⟩ := hrel
    by_cases hlt : k < len
    · have hd : decide ((k : Int) < (len : Int)) = true := decide_eq_true (by omega)
      obtain ⟨g, rfl⟩ : ∃ g, gk = g + 1 := ⟨gk - 1, by omega⟩
      rcases (HR.out.later HB.out).cells with h0 | ⟨b, off, rfl, hc⟩
      · omega
      rcases (HS.out.later HB.out).cells with h0 | ⟨b', off', rfl, hc'⟩
      · omega
      have g0 := hc k hlt
      have g1 := hc' k hlt
      generalize us[k]?.getD 0 = u at *
      clear hc hc'
      go_upto_region 6 with fail
      go_quiet (fail)
      go_wp2
      go_roundg g
      case measure => omega
      case rel => exact ⟨k + 1, by go_num, by omega, below_drewN HB.out _⟩
    · have hd : decide ((k : Int) < (len : Int)) = false := decide_eq_false (by omega)
      go_wp2
      go_ret
      exact ⟨rfl, HB.out⟩
end Go.Proofs.Ytmbnbleahehdaaa
