import Derived.Test.YtfldgjkpkmnkbabDoorCrcBits
import Derived.Test.YtfldgjkpkmnkbabDoorCrcOrder
namespace Go.Proofs.YtfldgjkpkmnkbabDoor
open Go.RowKit
set_option linter.unusedVariables false

theorem not_xor (r : Nat) (h : r < 4294967296) : 4294967295 - r = 4294967295 ^^^ r := by
  have h1 := congrArg BitVec.toNat (BitVec.not_def (x := BitVec.ofNat 32 r))
  rw [BitVec.toNat_not, BitVec.toNat_xor, BitVec.toNat_allOnes, BitVec.toNat_ofNat, Nat.mod_eq_of_lt h] at h1
  exact h1
theorem xor_cancel (a b : Nat) : a ^^^ (a ^^^ b) = b := by rw [← Nat.xor_assoc, Nat.xor_self, Nat.zero_xor]
theorem sumOk_iff (ys : List Int) (hb : Byt ys) (h4 : 4 ≤ ys.length) : sumOk ys = true ↔ stpN (8 * ys.length) (4294967295 ^^^ leV ys) = stpN 32 4294967295 := by
  have hA : Byt (ys.take (ys.length - 4)) := hb.take _
  have hB : Byt (ys.drop (ys.length - 4)) := hb.drop _
  have hlB : (ys.drop (ys.length - 4)).length = 4 := by rw [List.length_drop]; omega
  have e1 := crc_leV ys hb 4294967295
  have e2 : crc 4294967295 ys = crc (crc 4294967295 (ys.take (ys.length - 4))) (ys.drop (ys.length - 4)) := by rw [← crc_append, List.take_append_drop]
  have e3 := crc_leV _ hB (crc 4294967295 (ys.take (ys.length - 4)))
  rw [hlB] at e3
  rw [← e1, e2, e3]
  have hR : crc 4294967295 (ys.take (ys.length - 4)) < 4294967296 := crc_lt _ hA _ (by decide)
  have hV : leV (ys.drop (ys.length - 4)) < 4294967296 := by have := leV_lt _ hB; rw [hlB] at this; exact this
  unfold sumOk
  rw [decide_eq_true_iff]
  unfold sum
  generalize crc 4294967295 (ys.take (ys.length - 4)) = R at *
  generalize leV (ys.drop (ys.length - 4)) = V at *
  rw [not_xor R hR]
  constructor
  · intro h
    rw [h, Nat.xor_comm 4294967295 R, xor_cancel]
  · intro h
    have := stpN_inj (8 * 4) (xor_lt32 hR hV) (by decide) h
    rw [← this, Nat.xor_comm (R ^^^ V) R, xor_cancel]
/-- What a sum tells. -/
theorem sumOk_turned (xs ys : List Int) (hx : Byt xs) (hy : Byt ys) (hl : ys.length = xs.length) (h4 : 4 ≤ xs.length) (hok : sumOk xs = true) (F : Nat) (hF : leV ys = leV xs ^^^ F) (hne : stpN (8 * xs.length) F ≠ 0) : sumOk ys = false := by
  cases h : sumOk ys with
  | false => rfl
  | true =>
    have h1 := (sumOk_iff xs hx h4).1 hok
    have h2 := (sumOk_iff ys hy (by omega)).1 h
    rw [hl, hF, ← Nat.xor_assoc, stpN_xor, h1] at h2
    have := congrArg (fun x => stpN 32 4294967295 ^^^ x) h2
    simp only [xor_cancel, Nat.xor_self] at this
    exact absurd this hne

theorem pow_eq (k : Nat) : 2 ^ k = 2 ^ k * 1 := by omega
theorem tells1 (N a : Nat) (ha : a < N) : stpN N (2 ^ a) ≠ 0 := by
  rw [pow_eq a, stpN_shift N a 1 (by omega)]
  exact stpN_ne _ (by decide) (by decide)
theorem tells2 (N a b : Nat) (hb : b < N) (hab : a < b) (hN : N ≤ 163840) : stpN N (2 ^ a ^^^ 2 ^ b) ≠ 0 := by
  intro h
  rw [stpN_xor] at h
  have h1 := xor_zero_eq h
  rw [pow_eq a, pow_eq b, stpN_shift N a 1 (by omega), stpN_shift N b 1 (by omega), show N - a = (b - a) + (N - b) from by omega, stpN_add] at h1
  exact no_return (b - a) (by omega) (by omega) (stpN_inj (N - b) (stpN_lt _ (by decide)) (by decide) h1)
theorem tells3 (N a b c : Nat) (ha : a < N) (hb : b < N) (hc : c < N) : stpN N (2 ^ a ^^^ 2 ^ b ^^^ 2 ^ c) ≠ 0 := by
  intro h
  have hp : ∀ k, k < N → par 32 (stpN N (2 ^ k)) = true := by
    intro k hk
    rw [pow_eq k, stpN_shift N k 1 (by omega), par_stpN _ _ (by decide)]
    decide
  have := congrArg (par 32) h
  rw [stpN_xor, stpN_xor, par_xor, par_xor, hp a ha, hp b hb, hp c hc, par_zero] at this
  exact absurd this (by decide)
theorem tellsB (N at' C : Nat) (ha : at' ≤ N) (h0 : C ≠ 0) (h1 : C < 4294967296) : stpN N (2 ^ at' * C) ≠ 0 := by
  rw [stpN_shift N at' C ha]
  exact stpN_ne _ h1 h0
end Go.Proofs.YtfldgjkpkmnkbabDoor
