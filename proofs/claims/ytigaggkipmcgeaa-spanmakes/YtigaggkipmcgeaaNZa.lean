import Derived.Test.YtigaggkipmcgeaaNY
import Derived.Test.YtigaggkipmcgeaaNH
namespace Go.Proofs.Ytigaggkipmcgeaa
open Go.RowKit
set_option linter.unusedVariables false

theorem ofZ_any (u : Nat) (hu : u < 18446744073709551616) (w : World) (E : Nat) (hE : E = 1074) :
    Calls Try.prog 14 #[.int .u64 u] w fun e' w' => ∃ v, e' = .returned (.tuple #[v, .bool (decide (Fin u))]) ∧ (∃ z, NumZ w' v E 1024 z ∧ (Fin u → z = fval u)) ∧ Below w.heap.size w w' := by
  refine (of_any u hu w).mono ?_
  rintro e' w' ⟨v, rfl, ⟨neg, e, hN, hne, h1, h2⟩, hB⟩
  refine ⟨v, rfl, ⟨_, ⟨neg, _, e, hN, by omega, ?_, rfl⟩, ?_⟩, hB⟩
  · by_cases hf : Fin u
    · rw [if_pos hf]
      have hv := ofM_val hf
      have := hv.2.2.2.1
      omega
    · rw [if_neg hf, bl_zero]; omega
  · intro hf
    rw [if_pos hf]
    have hv := ofM_val hf
    by_cases h0 : frung u = 0
    · rw [hv.2.2.2.2.2 h0, zv_zero]; unfold fval; rw [h0, rmag_zero]; split <;> rfl
    · obtain ⟨rfl, rfl⟩ := hne hf h0
      unfold zv sv fval
      rw [hE, ← hv.1]
      split
      · rw [Int.natCast_mul, Int.neg_mul]; rfl
      · rw [Int.natCast_mul]; rfl
end Go.Proofs.Ytigaggkipmcgeaa
