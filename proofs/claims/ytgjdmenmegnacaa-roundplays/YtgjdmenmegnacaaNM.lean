import Derived.Test.YtgjdmenmegnacaaNL
namespace Go.Proofs.Ytgjdmenmegnacaa
open Go.RowKit
set_option linter.unusedVariables false

theorem same_true (a : Nat) (ok : Bool) (w : World) : Calls Try.prog 15 #[.float .f64 a, .bool ok, .int .u64 (a : Int), .bool ok] w fun e w' => e = .returned (.bool true) ∧ w' = w := by
  have h1 : (ok == ok) = true := by simp
  have h2 : ((a : Int) == (a : Int)) = true := by simp
  go_enter Try.func15, Try.ntmps15
  go_wp2_with (go_at_call 10; refine (bits_any a _).mono ?_; rintro e w' ⟨rfl, rfl⟩)
  all_goals (go_ret; exact ⟨rfl, rfl⟩)
set_option maxRecDepth 100000 in
set_option maxHeartbeats 1000000 in
theorem one5_any (d : Int) (a b : Nat) (n : Int) (ha : a < 18446744073709551616) (hd0 : -9223372036854775808 ≤ d) (hd1 : d ≤ 9223372036854775807) (w : World) :
    Calls Try.prog 11 #[.int .i64 5, .int .i64 d, .float .f64 a, .float .f64 b, .int .i64 n] w fun e w' => e = .returned (.bool true) ∧ Below w.heap.size w w' := by
  obtain ⟨⟨p, o⟩, h1, h2, c1⟩ := scale_any d a n ha
  simp only at c1
  have HE : Hid (∀ (q : Nat) (r : Bool), (Fin a → Rnd d (fneg a) (rmag (frung a) * 2 ^ (clip5 n).toNat) (2 ^ (-(clip5 n)).toNat) (q, r)) → (¬ Fin a → (q, r) = (0, false)) → q = p ∧ r = o) := by
    intro q r k1 k2
    by_cases hf : Fin a
    · have := far_same hf (h1 hf) (k1 hf)
      simp only [Prod.mk.injEq] at this
      exact ⟨this.1.symm, this.2.symm⟩
    · have e1 := h2 hf
      have e2 := k2 hf
      simp only [Prod.mk.injEq] at e1 e2
      exact ⟨by rw [e1.1, e2.1], by rw [e1.2, e2.2]⟩
  clear h1 h2
  go_enter Try.func11, Try.ntmps11
  go_wp2_with (first
    | (go_at_call 10; refine (bits_any _ _).mono ?_; rintro e w' ⟨rfl, rfl⟩)
    | (go_at_call 30; refine (c1 _).mono ?_; rintro e w' ⟨rfl, rfl⟩)
    | (go_at_call 31; refine (rscale_any d a n ha hd0 hd1 _).mono ?_; rintro e w' ⟨q, r, rfl, k1, k2, hb1⟩; obtain ⟨rfl, rfl⟩ := HE.out q r k1 k2)
    | (go_at_call 15; refine (same_true _ _ _).mono ?_; rintro e w'' ⟨rfl, rfl⟩))
  all_goals (go_ret; exact ⟨rfl, hb1⟩)
end Go.Proofs.Ytgjdmenmegnacaa
