import Derived.Test.YtpinpcefgbhdmaaDoorFrame
import Derived.Test.YtpinpcefgbhdmaaDoorLowV
import Derived.Test.YtpinpcefgbhdmaaDoorSame
import Derived.Deep.RegionWith
namespace Go.Proofs.YtpinpcefgbhdmaaDoor
open Go.RowKit
set_option linter.unusedVariables false

/-- Do the last four bytes hold the sum of those ahead? -/
def sumOk (xs : List Int) : Bool := decide (leV (xs.drop (xs.length - 4)) = sum (xs.take (xs.length - 4)))

theorem beq_cast (a b : Nat) : (((a : Nat) : Int) == ((b : Nat) : Int)) = decide (a = b) := by
  by_cases h : a = b
  · subst h; simp
  · rw [decide_eq_false h]
    exact beq_eq_false_iff_ne.2 (by omega)

set_option maxRecDepth 100000 in
set_option maxHeartbeats 1000000 in
theorem sumHolds_any (ao : Option Addr) (len cap : Nat) (xs : List Int) (w : World) (hr : Rd w ao len cap xs) (h4 : 4 ≤ len) :
    Calls Tryd.prog 30 #[.slice ao len cap] w fun e w' => e = .returned (.bool (sumOk xs)) ∧ Below w.heap.size w w' := by
  have hm := hr.max
  have hle := hr.le
  obtain ⟨n, hn⟩ : ∃ n, n + 4 = len := ⟨len - 4, by omega⟩
  obtain ⟨a1, l1, c1, hcut1, hr1⟩ := cut_from hr n (by omega)
  obtain ⟨a2, l2, c2, hcut2, hr2⟩ := cut_to hr n (by omega)
  have hl1 : l1 ≤ 8 := by have := hr1.length; rw [List.length_drop, hr.length] at this; omega
  have hS : sumOk xs = decide (leV (xs.drop n) = sum (xs.take n)) := by unfold sumOk; rw [hr.length, show len - 4 = n from by omega]
  rw [hS]
  have HR1 : Hid _ := hr1
  have HR2 : Hid _ := hr2
  have hmm : n + 4 ≤ 9223372036854775807 := by omega
  obtain rfl : len = n + 4 := hn.symm
  clear hr hr1 hr2 hS
  generalize xs.drop n = ys at *
  generalize xs.take n = zs at *
  go_enter Tryd.func30, Tryd.ntmps30
  go_wp2
  have hs := sum_le zs
  have hf := flatOne zs
  go_region_with (first
    | (go_at_call 31; refine (low_any _ _ _ ys _ ?_ hl1).mono ?_; (first | exact HR1.out.later (Below.refl _ _).drew | exact HR1.out.later ((Below.refl _ _).alloc (Nat.le_refl _) _).drew | exact HR1.out.later (below_trans ((Below.refl _ _).alloc (Nat.le_refl _) _).drew hb3)); rintro e w' ⟨rfl, rfl⟩)
    | (go_at_call 28; refine (sum_any _ 1 1 [zs] _ ?_).mono ?_; exact (RdL.one HR2.out).later (Below.refl _ _).drew; rintro e w3 ⟨rfl, hb3⟩; rw [hf]))
  all_goals go_wp2
  all_goals go_ret
  all_goals exact ⟨(show Ending.returned (.bool (((leV ys : Nat) : Int) == IntKind.u64.wrap ((sum zs : Nat) : Int))) = _ from ret_bool (by rw [u64_wrap_id _ (by omega) (by omega)]; exact beq_cast _ _)), below_trans ((Below.refl _ _).alloc (Nat.le_refl _) _).drew hb3⟩
end Go.Proofs.YtpinpcefgbhdmaaDoor
