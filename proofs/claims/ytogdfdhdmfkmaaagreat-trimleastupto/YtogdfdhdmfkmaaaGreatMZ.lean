import Derived.Test.YtogdfdhdmfkmaaaGreatMN
import Derived.Test.YtogdfdhdmfkmaaaGreatMR
import Derived.Deep.RegionHeld3
import Derived.Test.YtogdfdhdmfkmaaaGreatMQ
namespace Go.Proofs.YtogdfdhdmfkmaaaGreat
open Go.RowKit
set_option linter.unusedVariables false

theorem odd_bit (h : Nat) (hh : h < 18446744073709551616) : (bits .and .u64 (h : Int) 1 == 1) = decide (h % 2 = 1) := by
  have k := u64_and_nat h 1 hh (by decide)
  rw [show ((1 : Nat) : Int) = 1 from rfl] at k
  rw [k, Nat.and_one_is_mod]
  by_cases ho : h % 2 = 1
  · rw [ho]; rfl
  · have : h % 2 = 0 := by omega
    rw [this]; rfl
end Go.Proofs.YtogdfdhdmfkmaaaGreat


namespace Go.Proofs.YtogdfdhdmfkmaaaGreat
open Go.RowKit
set_option linter.unusedVariables false

theorem rd4_none (w : World) : Rd4 w none 0 0 [] := Rd4.none w
theorem alloc2_other (w : World) (o o' c : Obj) (b : Nat) (hb : b ≠ w.heap.size) : ((w.alloc o).alloc c).heap[b]? = ((w.alloc o').alloc c).heap[b]? := by
  rcases Nat.lt_or_ge b w.heap.size with h | h
  · rw [Below.heap_alloc _ _ _ (by simp; omega), Below.heap_alloc _ _ _ h, Below.heap_alloc _ _ _ (by simp; omega), Below.heap_alloc _ _ _ h]
  · by_cases h1 : b = w.heap.size + 1
    · subst h1
      have e1 := heap_alloc_new (w.alloc o) c
      have e2 := heap_alloc_new (w.alloc o') c
      rw [show (w.alloc o).heap.size = w.heap.size + 1 by simp] at e1
      rw [show (w.alloc o').heap.size = w.heap.size + 1 by simp] at e2
      rw [e1, e2]
    · rw [Array.getElem?_eq_none (by simp; omega), Array.getElem?_eq_none (by simp; omega)]
theorem alloc2_first (w : World) (o c : Obj) : ((w.alloc o).alloc c).heap[w.heap.size]? = some o := by
  rw [Below.heap_alloc _ _ _ (by simp)]; exact heap_alloc_new w o
def ofM (u : Nat) : Nat := if frung u < 4503599627370496 then frung u else 4503599627370496 + frung u % 4503599627370496
def ofE (u : Nat) : Int := if frung u < 4503599627370496 then -1074 else (frung u / 4503599627370496 : Nat) - 1075
theorem words2 {m : Nat} (hm : m < 18446744073709551616) : dig [m % 4294967296, m / 4294967296] = m ∧ U4 [m % 4294967296, m / 4294967296] := by
  refine ⟨?_, ?_⟩
  · simp only [dig]; omega
  · intro x hx
    simp only [List.mem_cons, List.mem_nil_iff, or_false] at hx
    rcases hx with rfl | rfl <;> omega
theorem rd4_fresh2 (w : World) (a b : Nat) (hu : U4 [a, b]) : Rd4 (w.alloc (.cells #[.int .u32 (a : Int), .int .u32 (b : Int)] 82)) (some ⟨w.heap.size, 0, none⟩) 2 2 [a, b] := by
  refine ⟨rfl, Nat.le_refl _, by decide, hu, (fun h => by cases h), .inr ⟨_, _, rfl, fun j hj => ?_⟩⟩
  rw [Nat.zero_add, cell_of_row _ w.heap.size j _ _ _ (heap_alloc_new w _)]
  match j, hj with
  | 0, _ => rfl
  | 1, _ => rfl
theorem ofM_val {u : Nat} (hf : Fin u) : ofM u * 2 ^ (ofE u + 1074).toNat = rmag (frung u) ∧ -1074 ≤ ofE u ∧ ofE u ≤ 971 ∧ bl (ofM u) ≤ 53 ∧ (ofM u = 0 ↔ frung u = 0) := by
  unfold Fin infK at hf
  have hbl : ∀ m : Nat, m < 9007199254740992 → bl m ≤ 53 := by
    intro m hm
    rcases Nat.eq_zero_or_pos m with h0 | h0
    · rw [h0, bl_zero]; omega
    · have h3 := bl_spec (m := m) (by omega)
      rcases Nat.lt_or_ge 53 (bl m) with h4 | h4
      · have : 2 ^ 53 ≤ 2 ^ (bl m - 1) := Nat.pow_le_pow_right (by omega) (by omega)
        have h53 : (2 : Nat) ^ 53 = 9007199254740992 := by decide
        omega
      · exact h4
  unfold ofM ofE
  by_cases h : frung u < 4503599627370496
  · rw [if_pos h, if_pos h]
    refine ⟨?_, by omega, by omega, hbl _ (by omega), Iff.rfl⟩
    unfold rmag; rw [if_pos h, show ((-1074 : Int) + 1074).toNat = 0 from rfl, Nat.pow_zero, Nat.mul_one]
  · rw [if_neg h, if_neg h]
    refine ⟨?_, by omega, by omega, hbl _ (by omega), by omega⟩
    unfold rmag; rw [if_neg h]; congr 2; omega
end Go.Proofs.YtogdfdhdmfkmaaaGreat


namespace Go.Proofs.YtogdfdhdmfkmaaaGreat
open Go.RowKit
set_option linter.unusedVariables false

end Go.Proofs.YtogdfdhdmfkmaaaGreat


namespace Go.Proofs.YtogdfdhdmfkmaaaGreat
open Go.RowKit
set_option linter.unusedVariables false

end Go.Proofs.YtogdfdhdmfkmaaaGreat


namespace Go.Proofs.YtogdfdhdmfkmaaaGreat
open Go.RowKit
set_option linter.unusedVariables false

end Go.Proofs.YtogdfdhdmfkmaaaGreat


namespace Go.Proofs.YtogdfdhdmfkmaaaGreat
open Go.RowKit
set_option linter.unusedVariables false

end Go.Proofs.YtogdfdhdmfkmaaaGreat


namespace Go.Proofs.YtogdfdhdmfkmaaaGreat
open Go.RowKit
set_option linter.unusedVariables false

end Go.Proofs.YtogdfdhdmfkmaaaGreat


namespace Go.Proofs.YtogdfdhdmfkmaaaGreat
open Go.RowKit
set_option linter.unusedVariables false

end Go.Proofs.YtogdfdhdmfkmaaaGreat

