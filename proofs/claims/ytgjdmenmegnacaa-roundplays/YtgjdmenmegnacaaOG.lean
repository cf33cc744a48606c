import Derived.Test.YtgjdmenmegnacaaOF
import Derived.Test.YtgjdmenmegnacaaRJ
import Derived.Test.YtgjdmenmegnacaaSD
namespace Go.Proofs.Ytgjdmenmegnacaa
open Go.RowKit
set_option linter.unusedVariables false

set_option maxRecDepth 100000 in
set_option maxHeartbeats 1000000 in
theorem one4_any (d : Int) (a b : Nat) (n : Int) (ha : a < 18446744073709551616) (hb : b < 18446744073709551616) (hd0 : -9223372036854775808 ≤ d) (hd1 : d ≤ 9223372036854775807) (w : World) :
    Calls Try.prog 11 #[.int .i64 4, .int .i64 d, .float .f64 a, .float .f64 b, .int .i64 n] w fun e w' => e = .returned (.bool true) ∧ Below w.heap.size w w' := by
  obtain ⟨E, hE⟩ : ∃ E : Nat, E = 1074 := ⟨_, rfl⟩
  obtain ⟨⟨p, o⟩, h1, h2, c1⟩ := div_any d a b ha hb
  simp only at c1
  have HE : Hid (∀ (q : Nat) (r : Bool), (Fin a ∧ Fin b ∧ frung b ≠ 0 → Rnd d (fneg a ^^ fneg b) (rmag (frung a) * 2 ^ E) (rmag (frung b)) (q, r)) → (¬ (Fin a ∧ Fin b ∧ frung b ≠ 0) → (q, r) = (0, false)) → q = p ∧ r = o) := by
    intro q r k1 k2
    by_cases hf : Fin a ∧ Fin b ∧ frung b ≠ 0
    · have := Rnd.uniq (k1 hf) (h1 hf.1 hf.2.1 hf.2.2 E hE)
      simp only [Prod.mk.injEq] at this
      exact this
    · have e1 := h2 hf
      have e2 := k2 hf
      simp only [Prod.mk.injEq] at e1 e2
      exact ⟨by rw [e1.1, e2.1], by rw [e1.2, e2.2]⟩
  clear h1 h2
  go_enter Try.func11, Try.ntmps11
  go_wp2_with (first
    | (go_at_call_of 10 (Value.float FloatKind.f64 a); refine (bits_any a _).mono ?_; rintro e w' ⟨rfl, rfl⟩)
    | (go_at_call_of 10 (Value.float FloatKind.f64 b); refine (bits_any b _).mono ?_; rintro e w' ⟨rfl, rfl⟩)
    | (go_at_call 28; refine (c1 _).mono ?_; rintro e w' ⟨rfl, rfl⟩)
    | (go_at_call 29; refine (refDiv_any d a b ha hb hd0 hd1 _ E hE).mono ?_; rintro e w' ⟨q, r, rfl, k1, k2, hb1⟩; obtain ⟨rfl, rfl⟩ := HE.out q r k1 k2)
    | (go_at_call 15; refine (same_true _ _ _).mono ?_; rintro e w'' ⟨rfl, rfl⟩))
  all_goals (go_ret; exact ⟨rfl, hb1⟩)
end Go.Proofs.Ytgjdmenmegnacaa
