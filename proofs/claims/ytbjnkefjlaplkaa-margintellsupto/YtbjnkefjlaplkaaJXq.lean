import Derived.Test.YtbjnkefjlaplkaaJXd
namespace Go.Proofs.Ytbjnkefjlaplkaa
open Go.RowKit Go.Shelf
set_option linter.unusedVariables false
set_option linter.unusedSimpArgs false

/-- A whole number of at most 2^n, moved down by n: from -1 to 1. -/
theorem partC {w : World} {v : Value} {i : Int} {n E : Nat} (hE : E = 1074) (hn : n ≤ 16) (hi : i.natAbs ≤ 2 ^ n) (h : NumV w v (decide (i < 0)) i.natAbs (if i.natAbs = 0 then 0 else 0 + -(n : Int))) : ∃ z, NumC w v E 1024 z ∧ z.natAbs ≤ 2 ^ E := by
  have h17 : 2 ^ n ≤ 65536 := Nat.pow_le_pow_right (by omega : 0 < 2) hn
  refine ⟨_, ⟨_, _, _, h, by split <;> omega, ?_, rfl, fun c => by rw [if_pos c]⟩, ?_⟩
  · have := bl_le_of_lt (m := i.natAbs) (k := 17) (by omega)
    split <;> omega
  · rw [zv_abs]
    by_cases h0 : i.natAbs = 0
    · rw [h0, Nat.zero_mul]; exact Nat.zero_le _
    · rw [if_neg h0, show ((0 : Int) + -(n : Int) + (E : Int)).toNat = E - n by omega]
      have := Nat.mul_le_mul_right (2 ^ (E - n)) hi
      rw [← Nat.pow_add, show n + (E - n) = E by omega] at this
      exact this
theorem oneC {w : World} {v : Value} {E : Nat} (hE : E = 1074) (h : NumV w v (decide ((1 : Int) < 0)) (1 : Int).natAbs 0) : NumC w v E 1024 ((2 ^ E : Nat) : Int) := by
  refine ⟨_, _, _, h, by omega, ?_, ?_, fun c => by cases c⟩
  · have := bl_le_of_lt (m := (1 : Int).natAbs) (k := 1) (by decide)
    omega
  · unfold zv sv
    simp
theorem cell_later {w w' : World} {a : Addr} {v : Value} (h : w.cell? a = some v) (hb : Below w.heap.size w w') : w'.cell? a = some v := (hb.cell (World.block_lt_of_cell? _ _ h)).trans h
end Go.Proofs.Ytbjnkefjlaplkaa

