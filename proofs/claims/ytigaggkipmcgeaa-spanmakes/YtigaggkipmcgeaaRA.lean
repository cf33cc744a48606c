import Derived.Test.YtigaggkipmcgeaaChecked
import Derived.Test.YtigaggkipmcgeaaPur
import Derived.WalkKit
import Derived.WalkSmall
import Derived.WalkLawsBesides
import Derived.Lib.EndianBits
import Derived.Laws.Bits128
import Derived.Laws.BitsAll
namespace Go.Proofs.Ytigaggkipmcgeaa
open Go.RowKit
set_option linter.unusedVariables false

theorem call_bits (u : Nat) (w : World) : (callFunc 76 #[.float .f64 u]).run Try.prog w = .ok (.value (.int .u64 u)) w := by kernel_rfl
theorem call_from (n : Int) (w : World) : (callFunc 73 #[.int .u64 n]).run Try.prog w = .ok (.value (.float .f64 n.toNat)) w := by kernel_rfl

theorem bits_any (u : Nat) (w : World) : Calls Try.prog 25 #[.float .f64 u] w fun e w' => e = .returned (.int .u64 u) ∧ w' = w := by
  have hcb := call_bits
  go_enter Try.func25, Try.ntmps25
  go_wp2
  go_ret
  exact ⟨rfl, rfl⟩
theorem float_int (n : Int) (w : World) : Calls Try.prog 21 #[.int .u64 n] w fun e w' => e = .returned (.float .f64 n.toNat) ∧ w' = w := by
  have hcf := call_from
  go_enter Try.func21, Try.ntmps21
  go_wp2
  go_ret
  exact ⟨rfl, rfl⟩

theorem abs_any (u : Nat) (hu : u < 18446744073709551616) (w : World) : Calls Try.prog 131 #[.float .f64 u] w fun e w' => e = .returned (.float .f64 (frung u)) ∧ w' = w := by
  have hcb := call_bits
  have hcf := call_from
  have HE : Hid _ := u64_andNot_nat u 9223372036854775808 hu (by decide)
  go_enter Try.func131, Try.ntmps131
  go_wp2
  go_ret
  refine ⟨?_, rfl⟩
  have h := HE.out
  rw [show ((9223372036854775808 : Nat) : Int) = 9223372036854775808 from rfl] at h
  rw [h, Int.toNat_natCast, show 18446744073709551615 - 9223372036854775808 = 2 ^ 63 - 1 by decide, Nat.and_two_pow_sub_one_eq_mod]
  rfl

/-- What an order tells. -/
theorem ord_le {x y : Nat} : (Ieee.double.order x y == some .lt || Ieee.double.order x y == some .eq) = decide (frung x ≤ infK ∧ frung y ≤ infK ∧ srung x ≤ srung y) := by
  by_cases hx : frung x ≤ infK
  · by_cases hy : frung y ≤ infK
    · rw [order_rung hx hy, icmp]
      by_cases h1 : srung x < srung y
      · have : srung x ≤ srung y := by omega
        simp [h1, hx, hy, this]
      · by_cases h2 : srung x = srung y
        · simp [h2, hx, hy]
        · have : ¬ srung x ≤ srung y := by omega
          simp [h1, h2, this]
    · rw [order_nan (.inr (by omega))]; simp [hy]
  · rw [order_nan (.inl (by omega))]; simp [hx]
theorem ord_lt {x y : Nat} (hx : frung x ≤ infK) (hy : frung y ≤ infK) : (Ieee.double.order x y == some .lt) = decide (srung x < srung y) := by
  rw [order_rung hx hy, icmp]
  by_cases h1 : srung x < srung y
  · simp [h1]
  · by_cases h2 : srung x = srung y <;> simp [h1, h2]
theorem ord_gt {x y : Nat} (hx : frung x ≤ infK) (hy : frung y ≤ infK) : (Ieee.double.order x y == some .gt) = decide (srung y < srung x) := by
  rw [order_rung hx hy, icmp]
  by_cases h1 : srung x < srung y
  · have : ¬ srung y < srung x := by omega
    simp [h1, this]
  · by_cases h2 : srung x = srung y
    · simp [h2]
    · have : srung y < srung x := by omega
      simp [h1, h2, this]
theorem ord_eq {x y : Nat} (hx : frung x ≤ infK) (hy : frung y ≤ infK) : (Ieee.double.order x y == some .eq) = decide (srung x = srung y) := by
  rw [order_rung hx hy, icmp]
  by_cases h1 : srung x < srung y
  · have : ¬ srung x = srung y := by omega
    simp [h1, this]
  · by_cases h2 : srung x = srung y <;> simp [h1, h2]
theorem f64_fmt : FloatKind.f64.format = Ieee.double := rfl

theorem number_any (u : Nat) (hu : u < 18446744073709551616) (w : World) : Calls Try.prog 116 #[.float .f64 u] w fun e w' => e = .returned (.bool (decide (Fin u))) ∧ w' = w := by
  have hE : (FloatKind.f64.format.order (frung u) 9218868437227405311 == some .lt || FloatKind.f64.format.order (frung u) 9218868437227405311 == some .eq) = decide (Fin u) := by
    rw [f64_fmt, ord_le]
    have h1 : frung (frung u) = frung u := by unfold frung; omega
    have h2 : srung (frung u) = frung u := by
      unfold srung fneg; rw [h1]
      have : frung u / 9223372036854775808 = 0 := by unfold frung; omega
      rw [this]; rfl
    have h3 : srung 9218868437227405311 = 9218868437227405311 := by decide
    have h4 : frung 9218868437227405311 = 9218868437227405311 := by decide
    rw [h1, h2, h3, h4]
    unfold Fin infK
    congr 1
    apply propext
    omega
  have HE : Hid _ := hE
  clear hE
  go_enter Try.func116, Try.ntmps116
  go_wp2_with (go_at_call 131; refine (abs_any u hu _).mono ?_; rintro e w' ⟨rfl, rfl⟩)
  go_ret
  exact ⟨by rw [← HE.out]; rfl, rfl⟩

theorem plain_any (u : Nat) (hu : u < 18446744073709551616) (hn : frung u ≤ infK) (w : World) : Calls Try.prog 133 #[.float .f64 u] w fun e w' => e = .returned (.float .f64 (plainM u)) ∧ w' = w := by
  have hE : (FloatKind.f64.format.order u 0 == some .eq) = decide (srung u = 0) := ord_eq hn (by decide)
  unfold plainM
  go_enter Try.func133, Try.ntmps133
  by_cases h : srung u = 0
  · rw [h] at hE; simp only [decide_true] at hE
    go_wp2
    go_ret
    exact ⟨rfl, rfl⟩
  · simp only [h, decide_false] at hE
    go_wp2
    go_ret
    exact ⟨rfl, rfl⟩

theorem srung_bits {u : Nat} (hu : u < 18446744073709551616) (h : srung u < 0) : 9223372036854775808 < u := by
  unfold srung fneg frung at h
  by_cases h1 : u / 9223372036854775808 % 2 = 1
  · rw [h1] at h; simp only [beq_self_eq_true, if_true] at h; omega
  · have : (u / 9223372036854775808 % 2 == 1) = false := by simp [h1]
    rw [this] at h; simp only [Bool.false_eq_true, if_false] at h; omega
theorem srung_bits' {u : Nat} (hu : u < 18446744073709551616) (h : 0 < srung u) : u < 9223372036854775808 := by
  unfold srung fneg frung at h
  by_cases h1 : u / 9223372036854775808 % 2 = 1
  · rw [h1] at h; simp only [beq_self_eq_true, if_true] at h; omega
  · omega
theorem above_any (u : Nat) (hu : u < 18446744073709551616) (hn : frung u ≤ infK) (w : World) : Calls Try.prog 132 #[.float .f64 u] w fun e w' => e = .returned (.float .f64 (aboveM u)) ∧ w' = w := by
  have hE : (FloatKind.f64.format.order u 0 == some .eq) = decide (srung u = 0) := ord_eq hn (by decide)
  have hG : (FloatKind.f64.format.order u 0 == some .gt) = decide (0 < srung u) := ord_gt hn (by decide)
  unfold aboveM
  by_cases h : srung u = 0
  · simp only [h, decide_true] at hE
    rw [if_pos h]
    clear hG
    go_enter Try.func132, Try.ntmps132
    go_wp2_with (go_at_call 21; refine (float_int _ _).mono ?_; rintro e w' ⟨rfl, rfl⟩)
    go_ret
    exact ⟨rfl, rfl⟩
  · simp only [h, decide_false] at hE
    rw [if_neg h]
    by_cases h2 : 0 < srung u
    · simp only [h2, decide_true] at hG
      rw [if_pos h2]
      have hb := srung_bits' hu h2
      clear h h2
      go_enter Try.func132, Try.ntmps132
      go_wp2_with (first | (go_at_call 25; refine (bits_any u _).mono ?_; rintro e w' ⟨rfl, rfl⟩) | (go_at_call 21; refine (float_int _ _).mono ?_; rintro e w' ⟨rfl, rfl⟩))
      go_ret
      exact ⟨by congr 2, rfl⟩
    · simp only [h2, decide_false] at hG
      rw [if_neg h2]
      have hb := srung_bits hu (by omega)
      clear h h2
      go_enter Try.func132, Try.ntmps132
      go_wp2_with (first | (go_at_call 25; refine (bits_any u _).mono ?_; rintro e w' ⟨rfl, rfl⟩) | (go_at_call 21; refine (float_int _ _).mono ?_; rintro e w' ⟨rfl, rfl⟩))
      go_ret
      exact ⟨by congr 2, rfl⟩
end Go.Proofs.Ytigaggkipmcgeaa
