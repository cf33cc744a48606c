import Derived.Test.YtpinpcefgbhdmaaDoorLow
import Derived.Test.YtpinpcefgbhdmaaDoorReadUint
import Derived.WalkLawsBesides
namespace Go.Proofs.YtpinpcefgbhdmaaDoor
open Go.RowKit
set_option linter.unusedVariables false

theorem call_bits (u : Nat) (w : World) : (callFunc 36 #[.float .f64 u]).run Tryd.prog w = .ok (.value (.int .u64 u)) w := by kernel_rfl
theorem call_from (n : Int) (w : World) : (callFunc 26 #[.int .u64 n]).run Tryd.prog w = .ok (.value (.float .f64 n.toNat)) w := by kernel_rfl

theorem bits_any (u : Nat) (w : World) : Calls Tryd.prog 23 #[.float .f64 u] w fun e w' => e = .returned (.int .u64 u) ∧ w' = w := by
  have hcb := call_bits
  go_enter Tryd.func23, Tryd.ntmps23
  go_wp2
  go_ret
  exact ⟨rfl, rfl⟩
theorem float_any (u : Nat) (w : World) : Calls Tryd.prog 8 #[.int .u64 u] w fun e w' => e = .returned (.float .f64 u) ∧ w' = w := by
  have hcf := call_from
  go_enter Tryd.func8, Tryd.ntmps8
  go_wp2
  go_ret
  exact ⟨rfl, rfl⟩

/-- Are these the bits of a number? -/
def isNum (u : Nat) : Bool := decide (u / 4503599627370496 % 2048 ≠ 2047)
theorem and2047 (q : Nat) (hq : q < 18446744073709551616) : bits .and .u64 (q : Int) 2047 = ((q % 2048 : Nat) : Int) := by
  have k := u64_and_nat q 2047 hq (by decide)
  rw [show ((2047 : Nat) : Int) = 2047 from rfl] at k
  rw [k, show (2047 : Nat) = 2 ^ 11 - 1 from rfl, Nat.and_two_pow_sub_one_eq_mod]
theorem isNum_eq (u : Nat) (hu : u < 18446744073709551616) : (bits .and .u64 ((u : Int) / 4503599627370496) 2047 != 2047) = isNum u := by
  rw [show (u : Int) / 4503599627370496 = ((u / 4503599627370496 : Nat) : Int) from by omega, and2047 _ (by omega)]
  unfold isNum
  by_cases h : u / 4503599627370496 % 2048 = 2047
  · rw [h]; decide
  · have h2 : (((u / 4503599627370496 % 2048 : Nat) : Int) != 2047) = true := by rw [bne_iff_ne]; omega
    rw [h2]; simp [h]
theorem isNumber_any (u : Nat) (hu : u < 18446744073709551616) (w : World) : Calls Tryd.prog 24 #[.int .u64 u] w fun e w' => e = .returned (.bool (isNum u)) ∧ w' = w := by
  have HE : Hid _ := isNum_eq u hu
  go_enter Tryd.func24, Tryd.ntmps24
  go_wp2
  go_ret
  exact ⟨by rw [← HE.out]; rfl, rfl⟩
/-- What Float writes, and its error. -/
def floatB (u : Nat) : List Int := if isNum u then low8 u 8 else []
def floatE (u : Nat) : Int := if isNum u then 0 else 15
theorem floatB_byt (u : Nat) : Byt (floatB u) := by
  unfold floatB; split
  · exact low8_byt _ _
  · exact Byt.nil

theorem appendLow8 (u : Nat) (w : World) (hu : u < 18446744073709551616) :
    Calls Tryd.prog 25 #[.slice none 0 0, .int .u64 u, .int .i64 8] w fun e w' => ∃ v', e = .returned v' ∧ Own w' w.heap.size v' (low8 u 8) ∧ Below w.heap.size w w' :=
  appendLow_any (.slice none 0 0) [] u 8 w.heap.size w (Own.nil _ _) (Nat.le_refl _) hu (by omega) (by simp)

set_option maxRecDepth 100000 in
theorem wfloat_any (u : Nat) (hu : u < 18446744073709551616) (w : World) :
    Calls Tryd.prog 7 #[.float .f64 u] w fun e w' => ∃ v, e = .returned (.tuple #[v, .int .i64 (floatE u)]) ∧ Own w' w.heap.size v (floatB u) ∧ Below w.heap.size w w' := by
  cases hn : isNum u with
  | false =>
    have hB : floatB u = [] := by unfold floatB; rw [hn]; rfl
    have hE : floatE u = 15 := by unfold floatE; rw [hn]; rfl
    rw [hB, hE]
    have HN : Hid _ := hn
    clear hB hE hn
    go_enter Tryd.func7, Tryd.ntmps7
    go_wp2_with fail
    refine (bits_any u _).mono ?_
    rintro e w1 ⟨rfl, rfl⟩
    go_wp2_with fail
    refine (isNumber_any u hu _).mono ?_
    rintro e w2 ⟨rfl, rfl⟩
    rw [HN.out]
    go_wp2
    go_ret2
    exact ⟨_, rfl, Own.nil _ _, Below.refl _ _⟩
  | true =>
    have hB : floatB u = low8 u 8 := by unfold floatB; rw [hn]; rfl
    have hE : floatE u = 0 := by unfold floatE; rw [hn]; rfl
    rw [hB, hE]
    have HN : Hid _ := hn
    clear hB hE hn
    go_enter Tryd.func7, Tryd.ntmps7
    go_wp2_with fail
    refine (bits_any u _).mono ?_
    rintro e w1 ⟨rfl, rfl⟩
    go_wp2_with fail
    refine (isNumber_any u hu _).mono ?_
    rintro e w2 ⟨rfl, rfl⟩
    rw [HN.out]
    go_wp2_with fail
    refine (appendLow8 u _ hu).mono ?_
    rintro e w3 ⟨v, rfl, hO, hb⟩
    go_wp2
    go_ret2
    exact ⟨_, rfl, hO, hb⟩

end Go.Proofs.YtpinpcefgbhdmaaDoor
