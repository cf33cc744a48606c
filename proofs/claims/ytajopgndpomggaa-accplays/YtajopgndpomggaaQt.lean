import Derived.Test.YtajopgndpomggaaPur
namespace Go.Proofs.Ytajopgndpomggaa
set_option linter.unusedVariables false
open Ieee

/-- A word's shift up by n, and what falls out above. -/
theorem shl_parts {x n : Nat} (hn : n ≤ 64) : x * 2 ^ n = x * 2 ^ n % 18446744073709551616 + 18446744073709551616 * (x / 2 ^ (64 - n)) := by
  have h : x * 2 ^ n / 18446744073709551616 = x / 2 ^ (64 - n) := by
    rw [show (18446744073709551616 : Nat) = 2 ^ (64 - n) * 2 ^ n by rw [← Nat.pow_add, show 64 - n + n = 64 by omega]]
    exact Nat.mul_div_mul_right _ _ (Nat.two_pow_pos n)
  have := Nat.mod_add_div (x * 2 ^ n) 18446744073709551616
  rw [h] at this
  exact this.symm
theorem pow_next (m : Nat) : (2 : Nat) ^ (64 * (m + 1)) = 18446744073709551616 * 2 ^ (64 * m) := by
  rw [show 64 * (m + 1) = 64 + 64 * m by omega, Nat.pow_add]
/-- One step of raise: the words shifted so far. -/
theorem raise_step {f r : Nat → Nat} {i far n over v : Nat} (hn : n < 64) (hi : wv r (far + i) + over * 2 ^ (64 * (far + i)) = 2 ^ (64 * far + n) * wv f i) (hv : v = f i * 2 ^ n % 18446744073709551616 + over) :
    wv (upd r (far + i) v) (far + (i + 1)) + (f i / 2 ^ (64 - n)) * 2 ^ (64 * (far + (i + 1))) = 2 ^ (64 * far + n) * wv f (i + 1) := by
  rw [show far + (i + 1) = far + i + 1 by omega, wv_succ, wv_succ, upd_same, wv_upd_le (Nat.le_refl _), Nat.mul_add (2 ^ (64 * far + n)), ← hi, pow_next]
  have h1 : 2 ^ (64 * far + n) * (f i * 2 ^ (64 * i)) = (f i * 2 ^ n) * 2 ^ (64 * (far + i)) := by
    rw [show 64 * (far + i) = 64 * far + 64 * i by omega, Nat.pow_add, Nat.pow_add]; ac_rfl
  have h2 := shl_parts (x := f i) (n := n) (by omega)
  rw [h1]
  generalize f i / 2 ^ (64 - n) = q at *
  generalize f i * 2 ^ n % 18446744073709551616 = s at *
  rw [h2, hv]
  generalize 2 ^ (64 * (far + i)) = K at *
  rw [Nat.add_mul, Nat.add_mul, show q * (18446744073709551616 * K) = 18446744073709551616 * q * K by ac_rfl]
  omega
/-- Behind the last step. -/
theorem raise_end {f r : Nat → Nat} {far n over : Nat} (hfar : far ≤ 76) (hl : ∀ j, j < 76 → r j < 18446744073709551616) (hi : wv r (far + (76 - far)) + over * 2 ^ (64 * (far + (76 - far))) = 2 ^ (64 * far + n) * wv f (76 - far)) (hz : ∀ j, 76 - far ≤ j → j < 76 → f j = 0)
    {P : Nat} (hP : P = 64 * 76) (hb : 2 ^ (64 * far + n) * wv f 76 < 2 ^ P) : wv r 76 = 2 ^ (64 * far + n) * wv f 76 := by
  rw [show far + (76 - far) = 76 by omega] at hi
  rw [wv_top (show 76 - far ≤ 76 by omega) hz] at hb ⊢
  subst hP
  rw [← hi] at hb ⊢
  have : over = 0 := by
    rcases Nat.eq_zero_or_pos over with h | h
    · exact h
    · exfalso
      have := Nat.mul_le_mul_right (2 ^ (64 * 76)) h
      omega
  rw [this]; omega
theorem or_add {x n over : Nat} (hn : n < 64) (ho : over < 2 ^ n) : (x * 2 ^ n % 18446744073709551616) ||| over = x * 2 ^ n % 18446744073709551616 + over := by
  have h : x * 2 ^ n % 18446744073709551616 = 2 ^ n * (x % 2 ^ (64 - n)) := by
    rw [show (18446744073709551616 : Nat) = 2 ^ (64 - n) * 2 ^ n by rw [← Nat.pow_add, show 64 - n + n = 64 by omega], Nat.mul_mod_mul_right, Nat.mul_comm]
  rw [h]
  exact (Nat.two_pow_add_eq_or_of_lt ho _).symm
theorem over_lt {x n : Nat} (hn : n ≤ 64) (hx : x < 18446744073709551616) : x / 2 ^ (64 - n) < 2 ^ n := by
  rw [Nat.div_lt_iff_lt_mul (Nat.two_pow_pos _), ← Nat.pow_add, show n + (64 - n) = 64 by omega]
  exact hx
theorem word_lt {x n over : Nat} (hn : n < 64) (ho : over < 2 ^ n) : x * 2 ^ n % 18446744073709551616 + over < 18446744073709551616 := by
  have h : x * 2 ^ n % 18446744073709551616 = 2 ^ n * (x % 2 ^ (64 - n)) := by
    rw [show (18446744073709551616 : Nat) = 2 ^ (64 - n) * 2 ^ n by rw [← Nat.pow_add, show 64 - n + n = 64 by omega], Nat.mul_mod_mul_right, Nat.mul_comm]
  have h1 : x % 2 ^ (64 - n) + 1 ≤ 2 ^ (64 - n) := Nat.mod_lt _ (Nat.two_pow_pos _)
  have h2 := Nat.mul_le_mul_left (2 ^ n) h1
  rw [← Nat.pow_add, show n + (64 - n) = 64 by omega, Nat.mul_add] at h2
  rw [h]
  have h3 : (2 : Nat) ^ 64 = 18446744073709551616 := by decide
  omega
/-- One step of less: y times n is taken away word by word. -/
theorem less_step {f y h : Nat → Nat} {i n over borrow v over' borrow' : Nat} (H : wv h i + n * wv y i = wv f i + (over + borrow) * 2 ^ (64 * i)) (hv : v + y i * n + over + borrow = f i + 18446744073709551616 * (over' + borrow')) :
    wv (upd h i v) (i + 1) + n * wv y (i + 1) = wv f (i + 1) + (over' + borrow') * 2 ^ (64 * (i + 1)) := by
  rw [wv_succ, wv_succ, wv_succ, upd_same, wv_upd_le (Nat.le_refl _), Nat.mul_add, pow_next]
  generalize 2 ^ (64 * i) = K at *
  have h1 : v * K + n * (y i * K) + over * K + borrow * K = f i * K + (over' + borrow') * (18446744073709551616 * K) := by
    have := congrArg (· * K) hv
    simp only [Nat.add_mul] at this
    rw [show n * (y i * K) = y i * n * K by ac_rfl, this, Nat.mul_add, Nat.add_mul, Nat.add_mul]
    rw [show over' * (18446744073709551616 * K) = 18446744073709551616 * over' * K by ac_rfl, show borrow' * (18446744073709551616 * K) = 18446744073709551616 * borrow' * K by ac_rfl]
  rw [Nat.add_mul] at H
  omega
theorem Tc.less {f h : Nat → Nat} {z z' : Int} {Y n c : Nat} (hf : Tc f z) (hh : ∀ j, j < 76 → h j < 18446744073709551616) (hs : wv h 76 + n * Y = wv f 76 + c * 2 ^ 4864) (hz : z' = z - ((n * Y : Nat) : Int)) (h1 : -((2 ^ 4863 : Nat) : Int) ≤ z') (h2 : z' < ((2 ^ 4863 : Nat) : Int)) : Tc h z' := by
  refine ⟨hh, h1, h2, ?_⟩
  have hl := wv_lt hh
  have e := hf.eq
  rw [show 64 * 76 = 4864 by omega] at hl
  have hf2 := wv_lt hf.lt
  rw [show 64 * 76 = 4864 by omega] at hf2
  rw [pow_half] at *
  generalize 2 ^ 4863 = L at *
  generalize wv f 76 = F at *
  generalize wv h 76 = K at *
  generalize n * Y = M at *
  have hc : c = 0 ∨ c = 1 ∨ 2 ≤ c := by omega
  rcases hc with rfl | rfl | hc
  · omega
  · omega
  · have : 2 * (2 * L) ≤ c * (2 * L) := Nat.mul_le_mul_right _ hc
    generalize c * (2 * L) = X at *
    omega
/-- The first guess of a quotient is never too small, and too great by 2 at most. -/
theorem knuth {V W t w1 vl wl K q : Nat} (hV : V = t * K + vl) (hvl : vl < K) (hW : W = w1 * K + wl) (hwl : wl < K) (hw1 : 9223372036854775808 ≤ w1) (hq0 : q * w1 ≤ t) (hq1 : t < (q + 1) * w1) (hq : q < 18446744073709551616) :
    V < (q + 1) * W ∧ q * W ≤ V + 2 * W := by
  constructor
  · have h1 : (t + 1) * K ≤ (q + 1) * w1 * K := Nat.mul_le_mul_right K hq1
    have h2 : (q + 1) * w1 * K ≤ (q + 1) * W := by
      rw [hW, Nat.mul_add, Nat.mul_assoc]; omega
    rw [Nat.add_mul] at h1
    omega
  · have h1 : q * w1 * K ≤ t * K := Nat.mul_le_mul_right K hq0
    have h2 : q * wl ≤ q * K := Nat.mul_le_mul_left q (Nat.le_of_lt hwl)
    have h3 : q * K ≤ (2 * w1) * K := Nat.mul_le_mul_right K (by omega)
    rw [hV, hW, Nat.mul_add, Nat.mul_add]
    rw [show q * (w1 * K) = q * w1 * K by ac_rfl, show 2 * (w1 * K) = 2 * w1 * K by ac_rfl]
    omega
end Go.Proofs.Ytajopgndpomggaa
