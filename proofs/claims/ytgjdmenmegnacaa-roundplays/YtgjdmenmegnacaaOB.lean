import Derived.Test.YtgjdmenmegnacaaOA
import Derived.Test.YtgjdmenmegnacaaNF
namespace Go.Proofs.Ytgjdmenmegnacaa
open Go.RowKit
set_option linter.unusedVariables false

/-- One bit more of a quotient. -/
theorem part_step {a b Q i A : Nat} (hb : 0 < b) (h1 : A = a + b * Q) (h2 : a < b * 2 ^ (i + 1)) (hq : Q % 2 ^ (i + 1) = 0) :
    (b * 2 ^ i ≤ a → A = (a - b * 2 ^ i) + b * (Q + 2 ^ i) ∧ a - b * 2 ^ i < b * 2 ^ i ∧ (Q + 2 ^ i) % 2 ^ i = 0) ∧ (¬ b * 2 ^ i ≤ a → a < b * 2 ^ i ∧ Q % 2 ^ i = 0) := by
  have e : b * 2 ^ (i + 1) = 2 * (b * 2 ^ i) := by rw [Nat.pow_succ, ← Nat.mul_assoc, Nat.mul_comm]
  have hq2 : Q % 2 ^ i = 0 := by
    have : 2 ^ i ∣ 2 ^ (i + 1) := ⟨2, by rw [Nat.pow_succ]⟩
    exact Nat.mod_eq_zero_of_dvd (Nat.dvd_trans this (Nat.dvd_of_mod_eq_zero hq))
  refine ⟨fun h => ⟨?_, by omega, ?_⟩, fun h => ⟨by omega, hq2⟩⟩
  · rw [Nat.mul_add]; omega
  · rw [Nat.add_mod, hq2, Nat.mod_self]; simp
/-- A bit is laid into the words. -/
theorem part_bit {zs : List Nat} {i : Nat} (hu : U4 zs) (hl : i / 32 < zs.length) (hz : dig zs % 2 ^ (i + 1) = 0) :
    zs[i / 32]?.getD 0 % 2 ^ (i % 32 + 1) = 0 ∧ dig (zs.set (i / 32) (zs[i / 32]?.getD 0 + 2 ^ (i % 32))) = dig zs + 2 ^ i ∧ zs[i / 32]?.getD 0 + 2 ^ (i % 32) < 4294967296 := by
  obtain ⟨q, hq⟩ : ∃ q, i / 32 = q := ⟨_, rfl⟩
  obtain ⟨r, hr⟩ : ∃ r, i % 32 = r := ⟨_, rfl⟩
  rw [hq] at hl
  rw [hq, hr]
  have hi : i = 32 * q + r := by omega
  have hr32 : r < 32 := by omega
  have hx := hu.at q
  have e1 := dig_split zs q
  rw [List.length_take, Nat.min_eq_left (by omega), dig_drop_pred] at e1
  have hlow := dig_lt (hu.take q)
  rw [List.length_take, Nat.min_eq_left (by omega)] at hlow
  generalize hxe : zs[q]?.getD 0 = x at *
  have hpow : 2 ^ (i + 1) = wd q * 2 ^ (r + 1) := by unfold wd; rw [hi, ← Nat.pow_add, Nat.add_assoc]
  have hx0 : x % 2 ^ (r + 1) = 0 := by
    rw [hpow] at hz
    obtain ⟨c, hc⟩ := Nat.dvd_of_mod_eq_zero hz
    have h32 : (4294967296 : Nat) = 2 ^ (r + 1) * 2 ^ (31 - r) := by rw [← Nat.pow_add, show r + 1 + (31 - r) = 32 by omega]
    have hl0 : dig (zs.take q) = 0 := by
      have h1 : wd q ∣ dig (zs.take q) := by
        have h2 : wd q ∣ dig zs := ⟨2 ^ (r + 1) * c, by rw [hc, Nat.mul_assoc]⟩
        have h3 : wd q ∣ wd q * (x + 4294967296 * dig (zs.drop (q + 1))) := Nat.dvd_mul_right ..
        rw [e1] at h2
        exact (Nat.dvd_add_iff_left h3).2 h2
      exact Nat.eq_zero_of_dvd_of_lt h1 hlow
    rw [hl0, Nat.zero_add] at e1
    rw [e1] at hc
    have h4 : x + 4294967296 * dig (zs.drop (q + 1)) = 2 ^ (r + 1) * c := by
      refine Nat.eq_of_mul_eq_mul_left (wd_pos q) ?_
      rw [hc, Nat.mul_assoc]
    have h5 : 2 ^ (r + 1) ∣ x + 4294967296 * dig (zs.drop (q + 1)) := ⟨c, h4⟩
    have h6 : 2 ^ (r + 1) ∣ 4294967296 * dig (zs.drop (q + 1)) := by rw [h32, Nat.mul_assoc]; exact Nat.dvd_mul_right ..
    exact Nat.mod_eq_zero_of_dvd ((Nat.dvd_add_iff_left h6).2 h5)
  refine ⟨hx0, ?_, ?_⟩
  · have e2 := dig_set (xs := zs) (k := q) (v := x + 2 ^ r) hl
    have hxx : zs[q]?.getD 0 = x := hxe
    rw [hxx, Nat.mul_add] at e2
    have e3 : wd q * 2 ^ r = 2 ^ i := by unfold wd; rw [← Nat.pow_add, hi]
    omega
  · obtain ⟨c, hc⟩ := Nat.dvd_of_mod_eq_zero hx0
    have h32 : (4294967296 : Nat) = 2 ^ (r + 1) * 2 ^ (31 - r) := by rw [← Nat.pow_add, show r + 1 + (31 - r) = 32 by omega]
    have hlt : c < 2 ^ (31 - r) := by
      have hx' := hx
      rw [hc, h32] at hx'
      exact Nat.lt_of_mul_lt_mul_left hx'
    have h5 := Nat.mul_le_mul_left (2 ^ (r + 1)) (show c + 1 ≤ 2 ^ (31 - r) from hlt)
    rw [← h32, Nat.mul_add, Nat.mul_one, ← hc] at h5
    have h6 : 2 ^ (r + 1) = 2 ^ r * 2 := Nat.pow_succ ..
    have := Nat.two_pow_pos r
    omega
end Go.Proofs.Ytgjdmenmegnacaa
