import Derived.Test.YtnjjichanfpbhaaGreatMV
namespace Go.Proofs.YtnjjichanfpbhaaGreat
open Go.RowKit
set_option linter.unusedVariables false
/-- What the document tells of a span by a number. -/
def TellR (P : Prop) (d V : Int) (D : Nat) (w : World) (e : Ending) (w' : World) : Prop := ∃ (a : Nat) (b : Bool), e = .returned (.tuple #[.int .u64 (a : Int), .bool b]) ∧ (P → RndZ d V D (a, b)) ∧ (¬ P → a = 0 ∧ b = false) ∧ Below w.heap.size w w'
theorem movedHalf_any (v : Value) (s : Nat) (T z : Int) (w : World) (h : NumZ w v s T z) (hs : s ≤ 20000) (hT : 0 ≤ T ∧ T ≤ 20000) :
    Calls Tryz.prog 61 #[v, .int .i64 (-1)] w fun e' w' => ∃ v', e' = .returned v' ∧ NumZ w' v' (s + 1) T z ∧ Below w.heap.size w w' := by
  obtain ⟨neg, m, e, h1, h2, h3, h4⟩ := h
  have hb : (0 : Int) ≤ (bl m : Int) := by omega
  refine Calls.mono (moved_any v neg m e (-1) (by omega) (by omega) w h1) ?_
  rintro e' w' ⟨v', rfl, hN, hB⟩
  refine ⟨v', rfl, ⟨neg, m, _, hN, ?_, ?_, ?_⟩, hB⟩
  · split <;> omega
  · split <;> omega
  · rw [← h4]
    by_cases h0 : m = 0
    · subst h0
      unfold zv; simp [sv_zero]
    · rw [if_neg h0]
      unfold zv
      rw [show e + -1 + ((s + 1 : Nat) : Int) = e + (s : Int) by omega]
end Go.Proofs.YtnjjichanfpbhaaGreat
