import Derived.WalkKit
import Derived.Laws.BitsAllLaws
/-
  MY OWN: the check sum, bit by bit and by half bytes, on natural numbers.
-/
namespace Go.Proofs.YtpinpcefgbhdmaaDoor
open Go.RowKit

/-- One bit on its way out of the register. -/
def stp (r : Nat) : Nat := if r % 2 = 1 then (r / 2) ^^^ 2197175160 else r / 2
def stp4 (r : Nat) : Nat := stp (stp (stp (stp r)))
def stp8 (r : Nat) : Nat := stp4 (stp4 r)
/-- The register behind some bytes. -/
def crc (r : Nat) (xs : List Int) : Nat := xs.foldl (fun r c => stp8 (r ^^^ c.toNat)) r
/-- The sum. -/
def sum (xs : List Int) : Nat := 4294967295 - crc 4294967295 xs

theorem xor_mod2 (a b : Nat) : (a ^^^ b) % 2 = (a + b) % 2 := by
  have h := Nat.xor_mod_two_pow (a := a) (b := b) (n := 1)
  simp only [Nat.pow_one] at h
  rw [h]
  rcases Nat.mod_two_eq_zero_or_one a with ha | ha <;> rcases Nat.mod_two_eq_zero_or_one b with hb | hb <;> rw [ha, hb] <;> simp <;> omega
theorem xor_div2 (a b : Nat) : (a ^^^ b) / 2 = (a / 2) ^^^ (b / 2) := by
  have h := Nat.xor_div_two (a := a) (b := b)
  exact h
theorem stp_xor (a b : Nat) : stp (a ^^^ b) = stp a ^^^ stp b := by
  unfold stp
  rw [xor_mod2, xor_div2]
  rcases Nat.mod_two_eq_zero_or_one a with ha | ha <;> rcases Nat.mod_two_eq_zero_or_one b with hb | hb
  · rw [if_neg (by omega), if_neg (by omega), if_neg (by omega)]
  · rw [if_pos (by omega), if_neg (by omega), if_pos (by omega), Nat.xor_assoc]
  · rw [if_pos (by omega), if_pos (by omega), if_neg (by omega), Nat.xor_assoc, Nat.xor_assoc, Nat.xor_comm (b / 2)]
  · rw [if_neg (by omega), if_pos (by omega), if_pos (by omega)]
    rw [Nat.xor_assoc, Nat.xor_comm 2197175160, Nat.xor_assoc (b / 2), Nat.xor_self, Nat.xor_zero]
theorem stp_two (y : Nat) : stp (2 * y) = y := by unfold stp; rw [if_neg (by omega)]; omega
theorem stp4_xor (a b : Nat) : stp4 (a ^^^ b) = stp4 a ^^^ stp4 b := by unfold stp4; rw [stp_xor, stp_xor, stp_xor, stp_xor]
theorem stp4_16 (y : Nat) : stp4 (16 * y) = y := by
  unfold stp4
  rw [show 16 * y = 2 * (2 * (2 * (2 * y))) from by omega, stp_two, stp_two, stp_two, stp_two]
theorem split16 (x : Nat) : x = (16 * (x / 16)) ^^^ (x % 16) := by
  have h := Nat.two_pow_add_eq_or_of_lt (i := 4) (b := x % 16) (by omega) (x / 16)
  have e : 2 ^ 4 * (x / 16) + x % 16 = x := by omega
  rw [e] at h
  apply Nat.eq_of_testBit_eq
  intro i
  rw [Nat.testBit_xor]
  have h2 := congrArg (fun n => n.testBit i) h
  simp only [Nat.testBit_or] at h2
  rw [show 16 * (x / 16) = 2 ^ 4 * (x / 16) from rfl]
  rw [h2]
  by_cases hi : i < 4
  · have : (2 ^ 4 * (x / 16)).testBit i = false := by rw [Nat.testBit_two_pow_mul]; simp; omega
    rw [this]; simp
  · have : (x % 16).testBit i = false := Nat.testBit_lt_two_pow (Nat.lt_of_lt_of_le (Nat.mod_lt _ (by decide)) (by have := Nat.pow_le_pow_right (n := 2) (by decide) (show 4 ≤ i by omega); omega))
    rw [this]; simp
theorem stp4_split (x : Nat) : stp4 x = (x / 16) ^^^ stp4 (x % 16) := by
  have h := congrArg stp4 (split16 x)
  rw [stp4_xor, stp4_16] at h
  exact h
theorem xor_lt32 {a b : Nat} (ha : a < 4294967296) (hb : b < 4294967296) : a ^^^ b < 4294967296 := Nat.xor_lt_two_pow (n := 32) ha hb
theorem stp_lt {r : Nat} (h : r < 4294967296) : stp r < 4294967296 := by
  unfold stp; split
  · exact xor_lt32 (by omega) (by decide)
  · omega
theorem stp4_lt {r : Nat} (h : r < 4294967296) : stp4 r < 4294967296 := stp_lt (stp_lt (stp_lt (stp_lt h)))
theorem stp8_lt {r : Nat} (h : r < 4294967296) : stp8 r < 4294967296 := stp4_lt (stp4_lt h)
theorem crc_snoc (r : Nat) (xs : List Int) (c : Int) : crc r (xs ++ [c]) = stp8 (crc r xs ^^^ c.toNat) := by unfold crc; rw [List.foldl_append]; rfl
theorem crc_append (r : Nat) (xs ys : List Int) : crc r (xs ++ ys) = crc (crc r xs) ys := by unfold crc; rw [List.foldl_append]
theorem crc_lt (xs : List Int) (hb : ∀ x ∈ xs, 0 ≤ x ∧ x ≤ 255) : ∀ r, r < 4294967296 → crc r xs < 4294967296 := by
  induction xs with
  | nil => intro r h; exact h
  | cons c cs ih =>
    intro r h
    have hc := hb c List.mem_cons_self
    exact ih (fun x hx => hb x (List.mem_cons_of_mem _ hx)) _ (stp8_lt (xor_lt32 h (by omega)))

/-- The document's step: the register and what is left of the byte. -/
def bit (q : Nat × Nat) : Nat × Nat := (if q.1 % 2 ≠ q.2 % 2 then (q.1 / 2) ^^^ 2197175160 else q.1 / 2, q.2 / 2)
theorem bit_stp (q : Nat × Nat) : (bit q).1 ^^^ (bit q).2 = stp (q.1 ^^^ q.2) := by
  unfold bit stp
  rw [xor_mod2, xor_div2]
  by_cases h : q.1 % 2 = q.2 % 2
  · rw [if_neg (by simp [h]), if_neg (by omega)]
  · rw [if_pos h, if_pos (by omega)]
    simp only
    rw [Nat.xor_assoc, Nat.xor_comm 2197175160, ← Nat.xor_assoc]
def bitTo (q : Nat × Nat) : Nat → Nat × Nat
  | 0 => q
  | n + 1 => bit (bitTo q n)
theorem bit8 (r c : Nat) (hc : c < 256) : (bitTo (r, c) 8).1 = stp8 (r ^^^ c) := by
  have h8 : (bitTo (r, c) 8).1 ^^^ (bitTo (r, c) 8).2 = stp8 (r ^^^ c) := by
    simp only [bitTo, bit_stp]; rfl
  have h0 : (bitTo (r, c) 8).2 = 0 := by
    have : (bitTo (r, c) 8).2 = c / 2 / 2 / 2 / 2 / 2 / 2 / 2 / 2 := rfl
    omega
  rw [h0, Nat.xor_zero] at h8
  exact h8
theorem bit_lt (q : Nat × Nat) (h : q.1 < 4294967296) : (bit q).1 < 4294967296 := by
  unfold bit; simp only; split
  · exact xor_lt32 (by omega) (by decide)
  · omega
theorem bitTo_lt (q : Nat × Nat) (h : q.1 < 4294967296) (n : Nat) : (bitTo q n).1 < 4294967296 := by
  induction n with
  | zero => exact h
  | succ n ih => exact bit_lt _ ih
theorem bitTo_le (q : Nat × Nat) (n : Nat) : (bitTo q n).2 ≤ q.2 := by
  induction n with
  | zero => exact Nat.le_refl _
  | succ n ih => exact Nat.le_trans (Nat.div_le_self _ _) ih
end Go.Proofs.YtpinpcefgbhdmaaDoor
