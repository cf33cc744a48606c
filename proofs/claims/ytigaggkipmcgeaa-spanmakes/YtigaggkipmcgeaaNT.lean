import Derived.Test.YtigaggkipmcgeaaNS
namespace Go.Proofs.Ytigaggkipmcgeaa
open Go.RowKit
set_option linter.unusedVariables false

set_option maxRecDepth 100000 in
set_option maxHeartbeats 1000000 in
theorem sign_any (v : Value) (neg : Bool) (m : Nat) (e : Int) (w : World) (h : NumV w v neg m e) :
    Calls Try.prog 23 #[v] w fun e' w' => e' = .returned (.int .i64 (if m = 0 then 0 else if neg then -1 else 1)) ∧ Below w.heap.size w w' := by
  obtain ⟨ao, len, cap, xs, rfl, hr, hnm, hm⟩ := h
  have hz := len_zero hr.length hr.lt hnm
  rw [hm] at hz
  clear hr
  by_cases h0 : m = 0
  · have hl : len = 0 := hz.2 h0
    subst hl
    rw [if_pos h0]
    clear hz
    go_enter Try.func23, Try.ntmps23
    go_wp2_with fail
    go_ret
    exact ⟨rfl, (Below.refl _ _).alloc (Nat.le_refl _) _⟩
  · have hl : 0 < len := by omega
    have hb : ((len : Int) == 0) = false := by rw [beq_eq_false_iff_ne]; omega
    rw [if_neg h0]
    clear hz
    cases neg
    · go_enter Try.func23, Try.ntmps23
      go_wp2_with fail
      go_ret
      exact ⟨rfl, (Below.refl _ _).alloc (Nat.le_refl _) _⟩
    · go_enter Try.func23, Try.ntmps23
      go_wp2_with fail
      go_ret
      exact ⟨rfl, (Below.refl _ _).alloc (Nat.le_refl _) _⟩
end Go.Proofs.Ytigaggkipmcgeaa
