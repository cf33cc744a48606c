import Derived.Test.YtokglpemefkmjaaRMm
import Derived.Test.YtokglpemefkmjaaRMz
namespace Go.Proofs.Ytokglpemefkmjaa
open Go.RowKit
set_option linter.unusedVariables false
set_option linter.unusedSimpArgs false
theorem rowsMatrix_walk (kd g0 g1 g2 g3 g4 g5 g6 seed : Int) (hkd : -9223372036854775808 ≤ kd ∧ kd ≤ 9223372036854775807) (hg0 : -9223372036854775808 ≤ g0 ∧ g0 ≤ 9223372036854775807) (hg1 : -9223372036854775808 ≤ g1 ∧ g1 ≤ 9223372036854775807) (hg2 : -9223372036854775808 ≤ g2 ∧ g2 ≤ 9223372036854775807) (hg3 : -9223372036854775808 ≤ g3 ∧ g3 ≤ 9223372036854775807) (hg4 : -9223372036854775808 ≤ g4 ∧ g4 ≤ 9223372036854775807) (hg5 : -9223372036854775808 ≤ g5 ∧ g5 ≤ 9223372036854775807) (hg6 : -9223372036854775808 ≤ g6 ∧ g6 ≤ 9223372036854775807) (hseed : -9223372036854775808 ≤ seed ∧ seed ≤ 9223372036854775807) (c h k : Int) (hc : -9223372036854775808 ≤ c ∧ c ≤ 9223372036854775807) (hh : -9223372036854775808 ≤ h ∧ h ≤ 9223372036854775807) (hk : -9223372036854775808 ≤ k ∧ k ≤ 9223372036854775807) (W : World) :
    Calls Try.prog 3 #[.agg #[.int .i64 kd, .int .i64 g0, .int .i64 g1, .int .i64 g2, .int .i64 g3, .int .i64 g4, .int .i64 g5, .int .i64 g6, .int .i64 seed], .agg #[.int .i64 c, .int .i64 h, .int .i64 k]] W fun e w' => e = .returned (.bool true) ∧ Below W.heap.size W w' := by
  by_cases n2 : kd = 2
  · subst n2; exact lawMC g0 g1 g2 g3 g4 g5 g6 seed c h k 0 (fun w => mdM2 g0 g1 g2 g3 g4 g5 g6 seed c h k hc.2 hh.2 hk.2 hg0.2 w) W
  by_cases n4 : kd = 4
  · subst n4; exact lawMM g0 g1 g2 g3 g4 g5 g6 seed c h k _ (fun w => mdM4 g0 g1 g2 g3 g4 g5 g6 seed c h k _ rfl hc.2 hh.2 hk.2 w) W
  by_cases n1 : kd = 1
  · subst n1; exact lawMA 1 (Or.inl rfl) g0 g1 g2 g3 g4 g5 g6 seed c h k 0 (fun w => mdM1 g0 g1 g2 g3 g4 g5 g6 seed c h k hc.2 hh.2 hk.2 hg0.2 w) W
  by_cases n3 : kd = 3
  · subst n3; exact lawMA 3 (Or.inr (Or.inl rfl)) g0 g1 g2 g3 g4 g5 g6 seed c h k 0 (fun w => mdM3 g0 g1 g2 g3 g4 g5 g6 seed c h k hc.2 hh.2 hk.2 w) W
  by_cases n6 : kd = 6
  · subst n6; exact lawMA 6 (Or.inr (Or.inr rfl)) g0 g1 g2 g3 g4 g5 g6 seed c h k 0 (fun w => mdM6 g0 g1 g2 g3 g4 g5 g6 seed c h k hc.2 hh.2 hk.2 w) W
  by_cases n12 : kd = 12
  · subst n12
    exact lawMN 12 g0 g1 g2 g3 g4 g5 g6 seed c h k 0 (LW12 g0 g1 g2 g3 g4 g5 g6 c h k) (Or.inl (by decide)) (fun w => made_all 12 g0 g1 g2 g3 g4 g5 g6 seed c h k 0 (Or.inr ⟨by decide, rfl⟩) (LW12 g0 g1 g2 g3 g4 g5 g6 c h k) (fun q0 q1 q2 q3 hq => by obtain ⟨C, H, K, KH, KW, SH, SW, PH, PW, o, D1, D2, hw, hg0, ho, e0, e1, e2, e3⟩ := hq; rw [e0, e1, e2, e3]; decide) (lsW12 g0 g1 g2 g3 g4 g5 g6 c h k hc.2 hh.2 hk.2) w) W
  by_cases n5 : kd = 5
  · subst n5
    exact lawMN 5 g0 g1 g2 g3 g4 g5 g6 seed c h k 0 (LO g0 g1 g2 g3 g4 g5 g6 c h k) (Or.inr rfl) (fun w => made_all 5 g0 g1 g2 g3 g4 g5 g6 seed c h k 0 (Or.inr ⟨n4, rfl⟩) (LO g0 g1 g2 g3 g4 g5 g6 c h k) (fun q0 q1 q2 q3 hq => by obtain ⟨e0, e1, e2, e3⟩ := hq; rw [e0, e1, e2, e3]; decide) (lsO5 g0 g1 g2 g3 g4 g5 g6 c h k hc.2 hh.2 hk.2) w) W
  by_cases n8 : kd = 8
  · subst n8
    exact lawMN 8 g0 g1 g2 g3 g4 g5 g6 seed c h k 0 (LO g0 g1 g2 g3 g4 g5 g6 c h k) (Or.inl (by decide)) (fun w => made_all 8 g0 g1 g2 g3 g4 g5 g6 seed c h k 0 (Or.inr ⟨n4, rfl⟩) (LO g0 g1 g2 g3 g4 g5 g6 c h k) (fun q0 q1 q2 q3 hq => by obtain ⟨e0, e1, e2, e3⟩ := hq; rw [e0, e1, e2, e3]; decide) (lsO8 g0 g1 g2 g3 g4 g5 g6 c h k hc.2 hh.2 hk.2) w) W
  by_cases hr : 1 ≤ kd ∧ kd ≤ 12
  · exact lawMN kd g0 g1 g2 g3 g4 g5 g6 seed c h k 0 (LO g0 g1 g2 g3 g4 g5 g6 c h k) (Or.inl (by omega)) (fun w => made_all kd g0 g1 g2 g3 g4 g5 g6 seed c h k 0 (Or.inr ⟨n4, rfl⟩) (LO g0 g1 g2 g3 g4 g5 g6 c h k) (fun q0 q1 q2 q3 hq => by obtain ⟨e0, e1, e2, e3⟩ := hq; rw [e0, e1, e2, e3]; decide) (lsO kd hr n1 n2 n3 n4 n5 n6 n8 n12 g0 g1 g2 g3 g4 g5 g6 c h k hc.2 hh.2 hk.2) w) W
  · exact lawMN kd g0 g1 g2 g3 g4 g5 g6 seed c h k 0 (fun _ _ _ _ => False) (Or.inl (by omega)) (fun w => made_all kd g0 g1 g2 g3 g4 g5 g6 seed c h k 0 (Or.inr ⟨n4, rfl⟩) (fun _ _ _ _ => False) (fun q0 q1 q2 q3 hq => hq.elim) (lsX kd g0 g1 g2 g3 g4 g5 g6 c h k hc.2 hh.2 hk.2 hr) w) W
end Go.Proofs.Ytokglpemefkmjaa
