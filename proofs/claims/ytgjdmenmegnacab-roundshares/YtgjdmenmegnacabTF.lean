import Derived.Test.YtgjdmenmegnacabTE
import Derived.Test.YtgjdmenmegnacabRO
namespace Go.Proofs.Ytgjdmenmegnacab
open Go.RowKit
set_option linter.unusedVariables false

/-- The quotient's parts: V / D, in units of 2^-1074. -/
def quoV (E a b : Nat) : Int := sgi (fval b) * (fval a * ((2 ^ E : Nat) : Int))
theorem sgi_abs (z : Int) : sgi z * z = (z.natAbs : Int) ∧ (z ≠ 0 → sgi z = 1 ∨ sgi z = -1) := by
  unfold sgi
  by_cases h : z < 0
  · rw [if_pos h]; exact ⟨by omega, fun _ => .inr rfl⟩
  · rw [if_neg h]
    by_cases h0 : z = 0
    · rw [if_pos h0, h0]; exact ⟨rfl, fun c => absurd rfl c⟩
    · rw [if_neg h0]; exact ⟨by omega, fun _ => .inl rfl⟩
theorem quo_rndZ {d : Int} {E a b : Nat} {p : Nat × Bool} (hb : frung b ≠ 0) (h : Rnd d (fneg a ^^ fneg b) (rmag (frung a) * 2 ^ E) (rmag (frung b)) p) : RndZ d (quoV E a b) (rmag (frung b)) p := by
  have hpb := frung_pos_rmag hb
  have hbne : fval b ≠ 0 := by unfold fval; split <;> omega
  have hs := (sgi_abs (fval b)).2 hbne
  have hz : (quoV E a b).natAbs = rmag (frung a) * 2 ^ E := by
    unfold quoV
    rw [Int.natAbs_mul, Int.natAbs_mul, fval_abs, Int.natAbs_natCast]
    rcases hs with h | h <;> rw [h] <;> simp
  rw [← hz] at h
  refine h.toZ (fun hne => ?_)
  have hE : (0 : Int) < ((2 ^ E : Nat) : Int) := by have := Nat.two_pow_pos E; omega
  have hb1 : fneg b = decide (fval b < 0) := by
    unfold fval; cases fneg b
    · simp only [Bool.false_eq_true, if_false]; exact (decide_eq_false (by omega)).symm
    · simp only [if_true]; exact (decide_eq_true (by omega)).symm
  have ha0 : fval a ≠ 0 := by
    intro c; apply hne; unfold quoV; rw [c, Int.zero_mul, Int.mul_zero]
  have ha1 : fneg a = decide (fval a < 0) := by
    have hab := fval_abs a
    unfold fval at ha0 hab ⊢; cases fneg a
    · simp only [Bool.false_eq_true, if_false] at *; exact (decide_eq_false (by omega)).symm
    · simp only [if_true] at *; exact (decide_eq_true (by omega)).symm
  rw [ha1, hb1]
  unfold quoV sgi
  by_cases h1 : fval b < 0
  · rw [if_pos h1, decide_eq_true h1, show (-1 : Int) * (fval a * ((2 ^ E : Nat) : Int)) = -fval a * ((2 ^ E : Nat) : Int) by rw [Int.neg_mul, Int.one_mul, Int.neg_mul]]
    by_cases h2 : fval a < 0
    · rw [decide_eq_true h2]
      have := Int.mul_pos (show 0 < -fval a by omega) hE
      exact (decide_eq_false (by omega)).symm
    · rw [decide_eq_false h2]
      have := Int.mul_pos (show 0 < fval a by omega) hE
      rw [Int.neg_mul]
      exact (decide_eq_true (by omega)).symm
  · rw [if_neg h1, if_neg hbne, decide_eq_false h1, Int.one_mul]
    by_cases h2 : fval a < 0
    · rw [decide_eq_true h2]
      have := Int.mul_pos (show 0 < -fval a by omega) hE
      rw [Int.neg_mul] at this
      exact (decide_eq_true (by omega)).symm
    · rw [decide_eq_false h2]
      have := Int.mul_pos (show 0 < fval a by omega) hE
      exact (decide_eq_false (by omega)).symm
/-- What the law reckons: the sign times the comparison of the product. -/
theorem quo_cmp {E a b x : Nat} (hb : frung b ≠ 0) : sgi (fval b) * sgi (fval x * fval b - fval a * ((2 ^ E : Nat) : Int)) = sgi (fval x * (rmag (frung b) : Int) - quoV E a b) := by
  have hpb := frung_pos_rmag hb
  have hbne : fval b ≠ 0 := by unfold fval; split <;> omega
  have hab := fval_abs b
  have h1 := (sgi_abs (fval b)).1
  have hs := (sgi_abs (fval b)).2 hbne
  have e : fval x * (rmag (frung b) : Int) - quoV E a b = sgi (fval b) * (fval x * fval b - fval a * ((2 ^ E : Nat) : Int)) := by
    unfold quoV
    rw [← hab, ← h1, Int.mul_sub]
    congr 1
    rw [← Int.mul_assoc, ← Int.mul_assoc, Int.mul_comm (fval x)]
  rw [e]
  generalize fval x * fval b - fval a * ((2 ^ E : Nat) : Int) = t
  rcases hs with h | h
  · rw [h, Int.one_mul, Int.one_mul]
  · rw [h, Int.neg_mul, Int.one_mul, Int.neg_mul, Int.one_mul, sgi_neg]
theorem Held.lo_le {X : Int} {D : Nat} {f : Int} {lo hi m : Nat × Bool} (h : Held X D f lo hi m) (hl : lo.2 = true) : fval lo.1 * D ≤ X := by
  rcases rz_down h.dn h.fl with ⟨a1, a2, a3⟩ | ⟨a1, a2⟩
  · rw [fval_smag, a3]; exact (floor_le h.pos h.fl _).2 (by omega)
  · rw [a1] at hl; cases hl
theorem Held.le_hi {X : Int} {D : Nat} {f : Int} {lo hi m : Nat × Bool} (h : Held X D f lo hi m) (hl : hi.2 = true) : X ≤ fval hi.1 * D := by
  rcases rz_up h.up h.fl with ⟨a1, a2, a3⟩ | ⟨a1, a2⟩
  · rw [fval_smag, a3]; exact (ceil_le h.pos h.fl _).2 (by omega)
  · rw [a1] at hl; cases hl
theorem Held.one {X : Int} {D : Nat} {f : Int} {lo hi m : Nat × Bool} (h : Held X D f lo hi m) : lo.2 = true ∨ hi.2 = true := by
  have hi0 : 0 < infK := by decide
  rcases rz_down h.dn h.fl with ⟨a1, -⟩ | ⟨a1, a2⟩
  · exact .inl a1
  · rcases rz_up h.up h.fl with ⟨b1, -⟩ | ⟨b1, b2⟩
    · exact .inr b1
    · have := ceil_or X D f; omega
end Go.Proofs.Ytgjdmenmegnacab
