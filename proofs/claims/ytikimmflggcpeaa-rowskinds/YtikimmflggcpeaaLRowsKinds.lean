import Derived.Test.YtikimmflggcpeaaTE
namespace Go.Proofs.Ytikimmflggcpeaa
open Go.RowKit
set_option linter.unusedVariables false

set_option maxRecDepth 100000 in
set_option maxHeartbeats 1000000 in
theorem rowsKinds_walk (k : Int) (h1 : -9223372036854775808 ≤ k) (h2 : k ≤ 9223372036854775807) (w : World) : Calls Try.prog 3 #[.int .i64 k] w fun e w' => e = .returned (.bool true) ∧ Below w.heap.size w w' := by
  clear h1 h2
  have HT : Hid _ := told7
  have HL : Hid (∀ w, Calls Try.prog 8 #[.int .i64 k] w fun e w' => e = .returned (.bool (decide (1 ≤ k ∧ k ≤ 6))) ∧ w' = w) := linear_any k
  have HE : Hid (∀ w, Calls Try.prog 9 #[.int .i64 k] w fun e w' => e = .returned (.bool (decide (7 ≤ k ∧ k ≤ 12))) ∧ w' = w) := bent_any k
  have hcase : (k < 1) ∨ (1 ≤ k ∧ k ≤ 6) ∨ (7 ≤ k ∧ k ≤ 12) ∨ (12 < k) := by omega
  rcases hcase with hk | hk | hk | hk
  all_goals
    first
      | (have e1 : decide (1 ≤ k ∧ k ≤ 6) = true := decide_eq_true (by omega); have g1 : decide (1 ≤ k) = true := decide_eq_true (by omega); have g2 : decide (k ≤ 6) = true := decide_eq_true (by omega); rw [e1] at HL)
      | (have e1 : decide (1 ≤ k ∧ k ≤ 6) = false := decide_eq_false (by omega); have g1 : decide (1 ≤ k) = false := decide_eq_false (by omega); rw [e1] at HL)
      | (have e1 : decide (1 ≤ k ∧ k ≤ 6) = false := decide_eq_false (by omega); have g1 : decide (1 ≤ k) = true := decide_eq_true (by omega); have g2 : decide (k ≤ 6) = false := decide_eq_false (by omega); rw [e1] at HL)
    first
      | (have e2 : decide (7 ≤ k ∧ k ≤ 12) = true := decide_eq_true (by omega); have g3 : decide (7 ≤ k) = true := decide_eq_true (by omega); have g4 : decide (k ≤ 12) = true := decide_eq_true (by omega); rw [e2] at HE)
      | (have e2 : decide (7 ≤ k ∧ k ≤ 12) = false := decide_eq_false (by omega); have g3 : decide (7 ≤ k) = false := decide_eq_false (by omega); rw [e2] at HE)
      | (have e2 : decide (7 ≤ k ∧ k ≤ 12) = false := decide_eq_false (by omega); have g3 : decide (7 ≤ k) = true := decide_eq_true (by omega); have g4 : decide (k ≤ 12) = false := decide_eq_false (by omega); rw [e2] at HE)
    clear hk e1 e2
    go_enter Try.func3, Try.ntmps3
    go_wp2_with (first
      | (go_at_call 7; refine Calls.mono (HT.out _) ?_; rintro e w1 ⟨rfl, hb⟩)
      | (go_at_call 8; refine Calls.mono (HL.out _) ?_; rintro e wz ⟨rfl, hw⟩; rw [hw]; clear hw)
      | (go_at_call 9; refine Calls.mono (HE.out _) ?_; rintro e wz ⟨rfl, hw⟩; rw [hw]; clear hw))
    go_ret
    exact ⟨rfl, hb⟩
end Go.Proofs.Ytikimmflggcpeaa
