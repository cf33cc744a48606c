import Derived.Test.YtajopgndpomggaaPD
import Derived.Test.YtajopgndpomggaaPE
import Derived.Test.YtajopgndpomggaaPF
import Derived.Test.YtajopgndpomggaaPG
import Derived.Test.YtajopgndpomggaaPH
import Derived.Test.YtajopgndpomggaaPI
namespace Go.Proofs.Ytajopgndpomggaa
open Go.RowKit
set_option linter.unusedVariables false

theorem step_any (P base : Nat) (X : Nat → Nat) (o : Nat → Option Int) (s : StV) (hA : s.a < 18446744073709551616) (hB : s.b < 18446744073709551616) (w : World) (h : PS w base P X o o) :
    Calls Try.prog 7 #[.pointer (some ⟨P, 0, none⟩), .agg #[.int .i64 s.kd, .int .i64 s.i, .int .i64 s.j, .int .u64 (s.a : Int), .int .u64 (s.b : Int), .int .i64 s.n]] w (StepR w base P) := by
  obtain ⟨kd, I, J, A, B, N⟩ := s
  simp only at hA hB ⊢
  by_cases h0 : kd = 0
  · subst h0; exact step0_any P base X o I J A B N hA hB w h
  by_cases h1 : kd = 1
  · subst h1; exact step1_any P base X o I J A B N hA hB w h
  by_cases h2 : kd = 2
  · subst h2; exact step2_any P base X o I J A B N hA hB w h
  by_cases h3 : kd = 3
  · subst h3; exact step3_any P base X o I J A B N hA hB w h
  by_cases h5 : kd = 5
  · subst h5; exact step5_any P base X o I J A B N hA hB w h
  by_cases h6 : kd = 6
  · subst h6; exact step6_any P base X o I J A B N hA hB w h
  by_cases h7 : kd = 7
  · subst h7; exact step7_any P base X o I J A B N hA hB w h
  by_cases h8 : kd = 8
  · subst h8; exact step8_any P base X o I J A B N hA hB w h
  exact step9_any P base X o kd (beq_eq_false_iff_ne.2 h0) (beq_eq_false_iff_ne.2 h1) (beq_eq_false_iff_ne.2 h2) (beq_eq_false_iff_ne.2 h3) (beq_eq_false_iff_ne.2 h5) (beq_eq_false_iff_ne.2 h6) (beq_eq_false_iff_ne.2 h7) (beq_eq_false_iff_ne.2 h8) I J A B N hA hB w h
end Go.Proofs.Ytajopgndpomggaa
