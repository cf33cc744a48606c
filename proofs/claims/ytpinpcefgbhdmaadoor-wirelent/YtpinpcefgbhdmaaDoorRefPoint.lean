import Derived.Test.YtpinpcefgbhdmaaDoorRunesA
import Derived.Test.YtpinpcefgbhdmaaDoorMem
namespace Go.Proofs.YtpinpcefgbhdmaaDoor
open Go.RowKit
set_option linter.unusedVariables false

/-- The byte at a place (0 behind the end). -/
def by' (s : ByteArray) (i : Nat) : Nat := (s.get! i).toNat
def lowV (s : ByteArray) (i : Nat) : Int := if i < s.size ∧ 128 ≤ by' s i ∧ by' s i ≤ 191 then (by' s i : Int) - 128 else -1099511627776

/-- The form of a code point. -/
def ptB (p : Int) : List Int :=
  if p < 0 ∨ 1114111 < p ∨ (55296 ≤ p ∧ p ≤ 57343) then []
  else if p < 128 then [p]
  else if p < 2048 then [192 + p / 64, 128 + p % 64]
  else if p < 65536 then [224 + p / 4096, 128 + p / 64 % 64, 128 + p % 64]
  else [240 + p / 262144, 128 + p / 4096 % 64, 128 + p / 64 % 64, 128 + p % 64]
theorem ptB_byt (p : Int) : Byt (ptB p) := by
  unfold ptB
  repeat' split
  all_goals first | exact Byt.nil | (intro x hx; simp only [List.mem_cons, List.mem_nil_iff, or_false] at hx; omega)

set_option maxRecDepth 100000 in
set_option maxHeartbeats 1000000 in
theorem refPoint_any (p : Int) (h0 : -9223372036854775808 ≤ p) (h1 : p ≤ 9223372036854775807) (w : World) :
    Calls Tryd.prog 43 #[.int .i64 p] w fun e w' => ∃ v, e = .returned v ∧ Own w' w.heap.size v (ptB p) ∧ Below w.heap.size w w' := by
  by_cases c0 : p < 0 ∨ 1114111 < p ∨ (55296 ≤ p ∧ p ≤ 57343)
  · have HE : Hid (ptB p = []) := by unfold Hid ptB; rw [if_pos c0]
    have close : ∃ v, Ending.returned (.slice none 0 0) = .returned v ∧ Own w w.heap.size v (ptB p) ∧ Below w.heap.size w w := ⟨_, rfl, by rw [HE.out]; exact Own.nil _ _, Below.refl _ _⟩
    have HC : Hid _ := close
    clear close HE
    rcases c0 with c | c | c
    · go_enter Tryd.func43, Tryd.ntmps43
      go_wp2
      all_goals go_ret
      all_goals exact HC.out
    · go_enter Tryd.func43, Tryd.ntmps43
      go_wp2
      all_goals go_ret
      all_goals exact HC.out
    · obtain ⟨c, c'⟩ := c
      go_enter Tryd.func43, Tryd.ntmps43
      go_wp2
      all_goals go_ret
      all_goals exact HC.out
  · have d0 : 0 ≤ p := by omega
    have d1 : p ≤ 1114111 := by omega
    have d2 : p < 55296 ∨ 57343 < p := by omega
    by_cases c1 : p < 128
    · have HE : Hid (ptB p = [p]) := by unfold Hid ptB; rw [if_neg c0, if_pos c1]
      clear c0 d2
      go_enter Tryd.func43, Tryd.ntmps43
      go_wp2
      all_goals go_ret
      all_goals exact ⟨_, rfl, by rw [HE.out]; exact Own.fresh w [p] (by simp), (Below.refl _ _).alloc (Nat.le_refl _) _⟩
    · by_cases c2 : p < 2048
      · have HE : Hid (ptB p = [192 + p / 64, 128 + p % 64]) := by unfold Hid ptB; rw [if_neg c0, if_neg c1, if_pos c2]
        clear c0 d2
        go_enter Tryd.func43, Tryd.ntmps43
        go_wp2
        all_goals go_ret
        all_goals exact ⟨_, rfl, by rw [HE.out]; exact Own.fresh w [192 + p / 64, 128 + p % 64] (by simp), (Below.refl _ _).alloc (Nat.le_refl _) _⟩
      · by_cases c3 : p < 65536
        · have HE : Hid (ptB p = [224 + p / 4096, 128 + p / 64 % 64, 128 + p % 64]) := by unfold Hid ptB; rw [if_neg c0, if_neg c1, if_neg c2, if_pos c3]
          clear c0
          rcases d2 with d2 | d2
          · go_enter Tryd.func43, Tryd.ntmps43
            go_wp2
            all_goals go_ret
            all_goals exact ⟨_, rfl, by rw [HE.out]; exact Own.fresh w [224 + p / 4096, 128 + p / 64 % 64, 128 + p % 64] (by simp), (Below.refl _ _).alloc (Nat.le_refl _) _⟩
          · go_enter Tryd.func43, Tryd.ntmps43
            go_wp2
            all_goals go_ret
            all_goals exact ⟨_, rfl, by rw [HE.out]; exact Own.fresh w [224 + p / 4096, 128 + p / 64 % 64, 128 + p % 64] (by simp), (Below.refl _ _).alloc (Nat.le_refl _) _⟩
        · have HE : Hid (ptB p = [240 + p / 262144, 128 + p / 4096 % 64, 128 + p / 64 % 64, 128 + p % 64]) := by unfold Hid ptB; rw [if_neg c0, if_neg c1, if_neg c2, if_neg c3]
          have d3 : 57343 < p := by omega
          clear c0 d2
          go_enter Tryd.func43, Tryd.ntmps43
          go_wp2
          all_goals go_ret
          all_goals exact ⟨_, rfl, by rw [HE.out]; exact Own.fresh w [240 + p / 262144, 128 + p / 4096 % 64, 128 + p / 64 % 64, 128 + p % 64] (by simp), (Below.refl _ _).alloc (Nat.le_refl _) _⟩

theorem by'_eq (s : ByteArray) (i : Nat) (h : i < s.size) : by' s i = (s[i]'h).toNat := by
  have e : s.get! i = s[i]'h := by
    simp [ByteArray.get!, getElem!_pos, h]
    rfl
  unfold by'
  rw [e]
theorem lowV_none (s : ByteArray) (i : Nat) (h : s.size ≤ i ∨ by' s i < 128 ∨ 191 < by' s i) : lowV s i = -1099511627776 := by
  unfold lowV; rw [if_neg (by omega)]
theorem lowV_some (s : ByteArray) (i : Nat) (h : i < s.size) (h1 : 128 ≤ by' s i) (h2 : by' s i ≤ 191) : lowV s i = (by' s i : Int) - 128 := by
  unfold lowV; rw [if_pos ⟨h, h1, h2⟩]

set_option maxRecDepth 100000 in
set_option maxHeartbeats 1000000 in
theorem refLow_any (s : ByteArray) (i : Nat) (hi : i ≤ 4611686018427387904) (hs : s.size ≤ 4611686018427387904) (w : World) :
    Calls Tryd.prog 42 #[.string s, .int .i64 i] w fun e w' => e = .returned (.int .i64 (lowV s i)) ∧ w' = w := by
  go_enter Tryd.func42, Tryd.ntmps42
  go_wp2
  all_goals go_ret
  all_goals refine ⟨?_, rfl⟩
  · rename_i h1 h2 h3
    rw [lowV_none s i (by rw [by'_eq s i h1]; omega)]
    rfl
  · rename_i h1 h2 h3
    rw [lowV_some s i h1 (by rw [by'_eq s i h1]; omega) (by rw [by'_eq s i h1]; omega), by'_eq s i h1]
    rfl
  · rename_i h1 h2
    rw [lowV_none s i (by rw [by'_eq s i h1]; omega)]
    rfl
  · rename_i h1
    rw [lowV_none s i (by omega)]
    rfl
end Go.Proofs.YtpinpcefgbhdmaaDoor
