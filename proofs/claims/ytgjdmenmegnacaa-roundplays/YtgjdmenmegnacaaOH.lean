import Derived.Test.YtgjdmenmegnacaaOG
namespace Go.Proofs.Ytgjdmenmegnacaa
open Go.RowKit
set_option linter.unusedVariables false

set_option maxRecDepth 100000 in
set_option maxHeartbeats 1000000 in
theorem oneS_any (c : Int) (hc : ¬ (c = 0 ∨ c = 1 ∨ c = 2 ∨ c = 3 ∨ c = 4)) (d : Int) (a b : Nat) (n : Int) (ha : a < 18446744073709551616) (hd0 : -9223372036854775808 ≤ d) (hd1 : d ≤ 9223372036854775807) (w : World) :
    Calls Try.prog 11 #[.int .i64 c, .int .i64 d, .float .f64 a, .float .f64 b, .int .i64 n] w fun e w' => e = .returned (.bool true) ∧ Below w.heap.size w w' := by
  obtain ⟨⟨p, o⟩, h1, h2, c1⟩ := scale_any d a n ha
  simp only at c1
  have HE : Hid (∀ (q : Nat) (r : Bool), (Fin a → Rnd d (fneg a) (rmag (frung a) * 2 ^ (clip5 n).toNat) (2 ^ (-(clip5 n)).toNat) (q, r)) → (¬ Fin a → (q, r) = (0, false)) → q = p ∧ r = o) := by
    intro q r k1 k2
    by_cases hf : Fin a
    · have := far_same hf (h1 hf) (k1 hf)
      simp only [Prod.mk.injEq] at this
      exact ⟨this.1.symm, this.2.symm⟩
    · have e1 := h2 hf
      have e2 := k2 hf
      simp only [Prod.mk.injEq] at e1 e2
      exact ⟨by rw [e1.1, e2.1], by rw [e1.2, e2.2]⟩
  clear h1 h2
  have q0 : (c == 0) = false := by rw [beq_eq_false_iff_ne]; omega
  have q1 : (c == 1) = false := by rw [beq_eq_false_iff_ne]; omega
  have q2 : (c == 2) = false := by rw [beq_eq_false_iff_ne]; omega
  have q3 : (c == 3) = false := by rw [beq_eq_false_iff_ne]; omega
  have q4 : (c == 4) = false := by rw [beq_eq_false_iff_ne]; omega
  clear hc
  go_enter Try.func11, Try.ntmps11
  go_wp2_with (first
    | (go_at_call 10; refine (bits_any _ _).mono ?_; rintro e w' ⟨rfl, rfl⟩)
    | (go_at_call 30; refine (c1 _).mono ?_; rintro e w' ⟨rfl, rfl⟩)
    | (go_at_call 31; refine (rscale_any d a n ha hd0 hd1 _).mono ?_; rintro e w' ⟨q, r, rfl, k1, k2, hb1⟩; obtain ⟨rfl, rfl⟩ := HE.out q r k1 k2)
    | (go_at_call 15; refine (same_true _ _ _).mono ?_; rintro e w'' ⟨rfl, rfl⟩))
  all_goals (go_ret; exact ⟨rfl, hb1⟩)
/-- Every call of the play. -/
theorem one_any (c d : Int) (a b : Nat) (n : Int) (ha : a < 18446744073709551616) (hb : b < 18446744073709551616) (hd0 : -9223372036854775808 ≤ d) (hd1 : d ≤ 9223372036854775807) (w : World) :
    Calls Try.prog 11 #[.int .i64 c, .int .i64 d, .float .f64 a, .float .f64 b, .int .i64 n] w fun e w' => e = .returned (.bool true) ∧ Below w.heap.size w w' := by
  by_cases hc : c = 0 ∨ c = 1 ∨ c = 2 ∨ c = 3 ∨ c = 4
  · rcases hc with rfl | rfl | rfl | rfl | rfl
    · exact one0_any d a b n ha hb hd0 hd1 w
    · exact one1_any d a b n ha hb hd0 hd1 w
    · exact one2_any d a b n ha hb hd0 hd1 w
    · exact one3_any d a b n ha hb hd0 hd1 w
    · exact one4_any d a b n ha hb hd0 hd1 w
  · exact oneS_any c hc d a b n ha hd0 hd1 w
end Go.Proofs.Ytgjdmenmegnacaa
