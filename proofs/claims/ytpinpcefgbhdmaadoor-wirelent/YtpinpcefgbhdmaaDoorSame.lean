import Derived.Test.YtpinpcefgbhdmaaDoorChecked
import Derived.Test.YtpinpcefgbhdmaaDoorBase
import Derived.WalkKit
import Derived.Deep.QuietTactic
import Derived.BigQuiet
import Derived.WalkSmall
namespace Go.Proofs.YtpinpcefgbhdmaaDoor
open Go.RowKit

theorem ret_bool {a b : Bool} (h : a = b) : Ending.returned (.bool a) = .returned (.bool b) := by rw [h]
def prefixEq (xs ys : List Int) (k : Nat) : Prop := ∀ j, j < k → xs[j]?.getD 0 = ys[j]?.getD 0

theorem prefix_step {xs ys : List Int} {k : Nat} (h : prefixEq xs ys k) (he : xs[k]?.getD 0 = ys[k]?.getD 0) : prefixEq xs ys (k + 1) := by
  intro j hj
  by_cases hjk : j = k
  · subst hjk; exact he
  · exact h j (by omega)

set_option maxHeartbeats 400000 in
theorem same_eq (a0 a1 : Option Addr) (len cap0 cap1 : Nat) (xs ys : List Int) (w : World) (h0 : Rd w a0 len cap0 xs) (h1 : Rd w a1 len cap1 ys) :
    Calls Tryd.prog 15 #[.slice a0 len cap0, .slice a1 len cap1] w fun e w' => e = .returned (.bool (decide (xs = ys))) ∧ Below w.heap.size w w' := by
  obtain ⟨l0, c0, m0, y0, n0, r0⟩ := h0
  obtain ⟨l1, c1, m1, y1, n1, r1⟩ := h1
  have hm : len ≤ 9223372036854775807 := by omega
  have hL0 : Hid (xs.length = len) := l0
  have hL1 : Hid (ys.length = len) := l1
  clear l0 l1
  go_enter Tryd.func15, Tryd.ntmps15
  go_wp2
  go_loopw [5] (fun i wr => ∃ k : Nat, k ≤ len ∧ i = .int .i64 k ∧ Hid (prefixEq xs ys k) ∧ Below w.heap.size w wr) (fun i _ => len - (intOf i).toNat)
  case atStart => exact ⟨0, Nat.zero_le _, rfl, fun j hj => by omega, Below.refl _ _⟩
  case round =>
    obtain ⟨k, hk, rfl, hp, hbel⟩ := hrel
    by_cases hlt : k < len
    · rcases r0 with r0 | ⟨b0, o0, rfl, r0⟩
      · omega
      rcases r1 with r1 | ⟨b1, o1, rfl, r1⟩
      · omega
      have g0 := (hbel.cell (World.block_lt_of_cell? w _ (r0 k hlt))).trans (r0 k hlt)
      have g1 := (hbel.cell (World.block_lt_of_cell? w _ (r1 k hlt))).trans (r1 k hlt)
      have Hb : Hid (Below w.heap.size w wr) := hbel
      clear r0 r1 hbel
      go_wp2_with fail
      go_quiet (fail)
      go_wp2
      · go_ret
        have hne : xs[k]?.getD 0 ≠ ys[k]?.getD 0 := by
          have h : (xs[k]?.getD 0 != ys[k]?.getD 0) = true := by assumption
          simpa using h
        refine ⟨ret_bool (by simp; intro h; rw [h] at hne; exact hne rfl), ?_⟩
        exact below_drewN Hb.out _
      · go_roundw
        case rel =>
          have he : xs[k]?.getD 0 = ys[k]?.getD 0 := by
            have h : (xs[k]?.getD 0 != ys[k]?.getD 0) = false := by assumption
            simpa using h
          exact ⟨k + 1, by omega, by go_num, prefix_step hp.out he, below_drewN Hb.out _⟩
        case measure => simp [intOf]; omega
    · go_wp2
      go_ret
      have hk' : k = len := by omega
      refine ⟨ret_bool (by simp; exact getD_eq_of (hL0.out.trans hL1.out.symm) (by rw [hL0.out, ← hk']; exact hp.out)), hbel⟩

/-- Same: are the two lists of bytes one? -/
theorem same_any (a0 a1 : Option Addr) (len0 len1 cap0 cap1 : Nat) (xs ys : List Int) (w : World) (h0 : Rd w a0 len0 cap0 xs) (h1 : Rd w a1 len1 cap1 ys) :
    Calls Tryd.prog 15 #[.slice a0 len0 cap0, .slice a1 len1 cap1] w fun e w' => e = .returned (.bool (decide (xs = ys))) ∧ Below w.heap.size w w' := by
  by_cases he : len0 = len1
  · subst he
    exact same_eq a0 a1 len0 cap0 cap1 xs ys w h0 h1
  · have hd : decide (xs = ys) = false := by
      simp; intro h; apply he; rw [← h0.length, ← h1.length, h]
    have m0 := h0.max
    have m1 := h1.max
    have c0 := h0.le
    have c1 := h1.le
    rw [hd]
    clear hd h0 h1
    have hne : ((len0 : Int) != (len1 : Int)) = true := by rw [bne_iff_ne]; omega
    go_enter Tryd.func15, Tryd.ntmps15
    go_wp2
    go_ret
    exact ⟨rfl, Below.refl _ _⟩
end Go.Proofs.YtpinpcefgbhdmaaDoor
