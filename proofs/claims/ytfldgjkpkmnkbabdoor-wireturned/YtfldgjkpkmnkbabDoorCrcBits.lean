import Derived.Test.YtfldgjkpkmnkbabDoorCrcMath
namespace Go.Proofs.YtfldgjkpkmnkbabDoor
open Go.RowKit
set_option linter.unusedVariables false

theorem stpN_pow (n v : Nat) : stpN n (2 ^ n * v) = v := by
  induction n generalizing v with
  | zero => simp [stpN]
  | succ n ih =>
    simp only [stpN]
    rw [show 2 ^ (n + 1) * v = 2 * (2 ^ n * v) from by rw [Nat.pow_succ, Nat.mul_comm (2 ^ n) 2, Nat.mul_assoc], stp_two]
    exact ih v
theorem stpN_shift (n k v : Nat) (h : k ≤ n) : stpN n (2 ^ k * v) = stpN (n - k) v := by
  have := stpN_add k (n - k) (2 ^ k * v)
  rw [show k + (n - k) = n from by omega, stpN_pow] at this
  exact this
theorem add_xor256 (c v : Nat) (hc : c < 256) : c + 256 * v = c ^^^ (2 ^ 8 * v) := by
  have h := Nat.two_pow_add_eq_or_of_lt (i := 8) (b := c) (by omega) v
  rw [show c + 256 * v = 2 ^ 8 * v + c from by omega, h]
  apply Nat.eq_of_testBit_eq
  intro i
  rw [Nat.testBit_xor, Nat.testBit_or]
  by_cases hi : i < 8
  · have : (2 ^ 8 * v).testBit i = false := by rw [Nat.testBit_two_pow_mul]; simp; omega
    rw [this]; simp
  · have : c.testBit i = false := Nat.testBit_lt_two_pow (Nat.lt_of_lt_of_le hc (by have := Nat.pow_le_pow_right (n := 2) (by decide) (show 8 ≤ i by omega); omega))
    rw [this]; simp
/-- The register behind some bytes, of the bytes as one number. -/
theorem crc_leV (bs : List Int) (hb : Byt bs) : ∀ r, crc r bs = stpN (8 * bs.length) (r ^^^ leV bs) := by
  induction bs with
  | nil => intro r; show r = stpN 0 (r ^^^ 0); simp [stpN]
  | cons c cs ih =>
    intro r
    have hc := hb c List.mem_cons_self
    have h1 : crc r (c :: cs) = crc (stp8 (r ^^^ c.toNat)) cs := rfl
    have h2 : leV (c :: cs) = c.toNat + 256 * leV cs := rfl
    rw [h1, h2, ih (fun x hx => hb x (List.mem_cons_of_mem _ hx)), add_xor256 _ _ (by omega), ← Nat.xor_assoc, List.length_cons, show 8 * (cs.length + 1) = 8 + 8 * cs.length from by omega, stpN_add, stpN_xor 8, stpN_pow]
    rfl
/-- One bit of a list of bytes turned over. -/
def flip : List Int → Nat → List Int
  | [], _ => []
  | c :: cs, k => if k < 8 then ((c.toNat ^^^ 2 ^ k : Nat) : Int) :: cs else c :: flip cs (k - 8)
theorem flip_len (xs : List Int) : ∀ k, (flip xs k).length = xs.length := by
  induction xs with
  | nil => intro k; rfl
  | cons c cs ih => intro k; simp only [flip]; split <;> simp [ih]
theorem flip_byt (xs : List Int) (hb : Byt xs) : ∀ k, Byt (flip xs k) := by
  induction xs with
  | nil => intro k; exact Byt.nil
  | cons c cs ih =>
    intro k
    have hc := hb c List.mem_cons_self
    have ht : Byt cs := fun x hx => hb x (List.mem_cons_of_mem _ hx)
    simp only [flip]
    split
    · rename_i hk
      have : c.toNat ^^^ 2 ^ k < 256 := Nat.xor_lt_two_pow (n := 8) (by omega) (by have := Nat.pow_le_pow_right (n := 2) (by decide) (show k ≤ 7 by omega); omega)
      exact Byt.cons (by omega) (by omega) ht
    · exact Byt.cons hc.1 hc.2 (ih ht _)
theorem flip_leV (xs : List Int) (hb : Byt xs) : ∀ k, k < 8 * xs.length → leV (flip xs k) = leV xs ^^^ 2 ^ k := by
  induction xs with
  | nil => intro k hk; simp at hk
  | cons c cs ih =>
    intro k hk
    have hc := hb c List.mem_cons_self
    have ht : Byt cs := fun x hx => hb x (List.mem_cons_of_mem _ hx)
    have h2 : leV (c :: cs) = c.toNat + 256 * leV cs := rfl
    rw [List.length_cons] at hk
    simp only [flip]
    split
    · rename_i hk8
      have hlt : c.toNat ^^^ 2 ^ k < 256 := Nat.xor_lt_two_pow (n := 8) (by omega) (by have := Nat.pow_le_pow_right (n := 2) (by decide) (show k ≤ 7 by omega); omega)
      have h3 : leV (((c.toNat ^^^ 2 ^ k : Nat) : Int) :: cs) = (c.toNat ^^^ 2 ^ k) + 256 * leV cs := by
        show ((c.toNat ^^^ 2 ^ k : Nat) : Int).toNat + 256 * leV cs = _
        rw [Int.toNat_natCast]
      rw [h3, h2, add_xor256 _ _ hlt, add_xor256 _ _ (by omega), Nat.xor_assoc, Nat.xor_assoc, Nat.xor_comm (2 ^ k)]
    · rename_i hk8
      have h3 : leV (c :: flip cs (k - 8)) = c.toNat + 256 * leV (flip cs (k - 8)) := rfl
      rw [h3, h2, ih ht (k - 8) (by omega), add_xor256 _ _ (by omega), add_xor256 _ _ (by omega), Nat.xor_assoc]
      congr 1
      have e : 2 ^ k = 2 ^ 8 * 2 ^ (k - 8) := by rw [← Nat.pow_add, show 8 + (k - 8) = k from by omega]
      rw [e]
      apply Nat.eq_of_testBit_eq
      intro i
      rw [Nat.testBit_two_pow_mul, Nat.testBit_xor, Nat.testBit_xor, Nat.testBit_two_pow_mul, Nat.testBit_two_pow_mul]
      by_cases hi : 8 ≤ i <;> simp [hi]

/-! ### what a sum tells -/
end Go.Proofs.YtfldgjkpkmnkbabDoor
