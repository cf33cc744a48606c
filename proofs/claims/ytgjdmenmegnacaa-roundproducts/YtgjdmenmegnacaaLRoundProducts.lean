import Derived.Test.YtgjdmenmegnacaaSE
import Derived.Test.YtgjdmenmegnacaaRQ
namespace Go.Proofs.Ytgjdmenmegnacaa
open Go.RowKit
set_option linter.unusedVariables false

set_option maxHeartbeats 1000000 in
theorem roundProducts_walk (d : Int) (d0 : -9223372036854775808 ≤ d) (d1 : d ≤ 9223372036854775807) (a : Nat) (ha : a < 18446744073709551616) (b : Nat) (hb : b < 18446744073709551616) (w : World) :
    Calls Try.prog 5 #[.int .i64 d, .float .f64 a, .float .f64 b] w fun e w' => e = .returned (.bool true) ∧ Below w.heap.size w w' := by
  obtain ⟨E, hE⟩ : ∃ E : Nat, E = 1074 := ⟨_, rfl⟩
  obtain ⟨u, v, o, k1, k2, c1⟩ := prod2_any a b ha hb hE
  have HE : Hid (∀ (u' v' : Nat) (o' : Bool), (Fin a ∧ Fin b → Rest (fval a * fval b) (2 ^ E) u' v' o') → (¬ (Fin a ∧ Fin b) → u' = 0 ∧ v' = 0 ∧ o' = false) → u' = u ∧ v' = v ∧ o' = o) := by
    intro u' v' o' j1 j2
    by_cases hf : Fin a ∧ Fin b
    · exact Rest.uniq (j1 hf) (k1 hf)
    · obtain ⟨rfl, rfl, rfl⟩ := j2 hf
      obtain ⟨rfl, rfl, rfl⟩ := k2 hf
      exact ⟨rfl, rfl, rfl⟩
  have hvv : ((v : Int) == (v : Int)) = true := by simp
  clear k1 k2
  go_enter Try.func5, Try.ntmps5
  go_wp2_with (first
    | (go_at_call 16; refine (c1 _).mono ?_; rintro e w0 ⟨rfl, rfl⟩)
    | (go_at_call 10; refine (bits_any _ _).mono ?_; rintro e w0 ⟨rfl, rfl⟩)
    | (go_at_call 17; refine (refProd2_any a b ha hb _ E hE).mono ?_; rintro e w1 ⟨u', v', o', rfl, j1, j2, hb1⟩; obtain ⟨rfl, rfl, rfl⟩ := HE.out u' v' o' j1 j2)
    | (go_at_call 11; refine (one3_any d a b 0 ha hb d0 d1 _).mono ?_; rintro e w2 ⟨rfl, hb2⟩)
    | (go_at_call 15; refine (same_true _ _ _).mono ?_; rintro e w4 ⟨rfl, rfl⟩)
    | (go_at_call 12; refine (started_any _).mono ?_; rintro e w5 ⟨rfl, rfl⟩))
  all_goals (go_ret; exact ⟨rfl, hb1.trans (hb2.mono hb1.size)⟩)
end Go.Proofs.Ytgjdmenmegnacaa
