import Derived.Test.YtokglpemefkmjaaRWu
import Derived.Test.YtokglpemefkmjaaRWW
import Derived.Test.YtokglpemefkmjaaRWn
namespace Go.Proofs.Ytokglpemefkmjaa
open Go.RowKit
set_option linter.unusedVariables false
set_option linter.unusedSimpArgs false
theorem rowsWindows_walk (kd g0 g1 g2 g3 g4 g5 g6 seed : Int) (hkd : -9223372036854775808 ≤ kd ∧ kd ≤ 9223372036854775807) (hg0 : -9223372036854775808 ≤ g0 ∧ g0 ≤ 9223372036854775807) (hg1 : -9223372036854775808 ≤ g1 ∧ g1 ≤ 9223372036854775807) (hg2 : -9223372036854775808 ≤ g2 ∧ g2 ≤ 9223372036854775807) (hg3 : -9223372036854775808 ≤ g3 ∧ g3 ≤ 9223372036854775807) (hg4 : -9223372036854775808 ≤ g4 ∧ g4 ≤ 9223372036854775807) (hg5 : -9223372036854775808 ≤ g5 ∧ g5 ≤ 9223372036854775807) (hg6 : -9223372036854775808 ≤ g6 ∧ g6 ≤ 9223372036854775807) (hseed : -9223372036854775808 ≤ seed ∧ seed ≤ 9223372036854775807) (c h k : Int) (hc : -9223372036854775808 ≤ c ∧ c ≤ 9223372036854775807) (hh : -9223372036854775808 ≤ h ∧ h ≤ 9223372036854775807) (hk : -9223372036854775808 ≤ k ∧ k ≤ 9223372036854775807) (W : World) :
    Calls Try.prog 4 #[.agg #[.int .i64 kd, .int .i64 g0, .int .i64 g1, .int .i64 g2, .int .i64 g3, .int .i64 g4, .int .i64 g5, .int .i64 g6, .int .i64 seed], .agg #[.int .i64 c, .int .i64 h, .int .i64 k]] W fun e w' => e = .returned (.bool true) ∧ Below W.heap.size W w' := by
  by_cases n2 : kd = 2
  · subst n2; exact lawR2 g0 g1 g2 g3 g4 g5 g6 seed c h k 0 (fun w => mdR2 g0 g1 g2 g3 g4 g5 g6 seed c h k hc.2 hh.2 hk.2 hg0.2 w) W
  by_cases n4 : kd = 4
  · subst n4; exact lawR4 g0 g1 g2 g3 g4 g5 g6 seed c h k _ (fun w => mdR4 g0 g1 g2 g3 g4 g5 g6 seed c h k _ rfl hc.2 hh.2 hk.2 w) W
  by_cases n12 : kd = 12
  · subst n12; exact lawR12 g0 g1 g2 g3 g4 g5 g6 seed c h k 0 (fun w => mdR12 g0 g1 g2 g3 g4 g5 g6 seed c h k hc.2 hh.2 hk.2 w) W
  by_cases n1 : kd = 1
  · subst n1
    exact lawN 1 g0 g1 g2 g3 g4 g5 g6 seed c h k 0 (LD g0 g1 g2 g3 g4 g5 g6 c h k) n2 n4 n12 (fun w => made_all 1 g0 g1 g2 g3 g4 g5 g6 seed c h k 0 (Or.inr ⟨n4, rfl⟩) (LD g0 g1 g2 g3 g4 g5 g6 c h k) (fun q0 q1 q2 q3 hq => by obtain ⟨C, H, K, o, _, _, o1, o2, _, e0, e1, e2, e3⟩ := hq; rw [e0, e1, e2, e3]; exact ⟨by omega, by omega, by omega, by omega, by omega, by omega⟩) (lsD g0 g1 g2 g3 g4 g5 g6 c h k hc.2 hh.2 hk.2 hg0.2) w) W
  by_cases n3 : kd = 3
  · subst n3
    exact lawN 3 g0 g1 g2 g3 g4 g5 g6 seed c h k 0 (LS g0 g1 g2 g3 g4 g5 g6 c h k) n2 n4 n12 (fun w => made_all 3 g0 g1 g2 g3 g4 g5 g6 seed c h k 0 (Or.inr ⟨n4, rfl⟩) (LS g0 g1 g2 g3 g4 g5 g6 c h k) (fun q0 q1 q2 q3 hq => by obtain ⟨C, H, K, ⟨_, _, _, c1, h1, k1, hch⟩, _, e0, e1, e2, e3⟩ := hq; have := (le_prod3 c1 h1 k1 hch).1; rw [e0, e1, e2, e3]; exact ⟨by omega, by omega, by omega, by omega, by omega, by omega⟩) (lsS g0 g1 g2 g3 g4 g5 g6 c h k hc.2 hh.2 hk.2) w) W
  by_cases n6 : kd = 6
  · subst n6
    exact lawN 6 g0 g1 g2 g3 g4 g5 g6 seed c h k 0 (LT g0 g1 g2 g3 g4 g5 g6 c h k) n2 n4 n12 (fun w => made_all 6 g0 g1 g2 g3 g4 g5 g6 seed c h k 0 (Or.inr ⟨n4, rfl⟩) (LT g0 g1 g2 g3 g4 g5 g6 c h k) (fun q0 q1 q2 q3 hq => by obtain ⟨C, H, K, o, _, _, o1, o2, _, _, e0, e1, e2, e3⟩ := hq; rw [e0, e1, e2, e3]; exact ⟨by omega, by omega, by omega, by omega, by omega, by omega⟩) (lsT g0 g1 g2 g3 g4 g5 g6 c h k hc.2 hh.2 hk.2) w) W
  by_cases n5 : kd = 5
  · subst n5
    exact lawN 5 g0 g1 g2 g3 g4 g5 g6 seed c h k 0 (LO g0 g1 g2 g3 g4 g5 g6 c h k) n2 n4 n12 (fun w => made_all 5 g0 g1 g2 g3 g4 g5 g6 seed c h k 0 (Or.inr ⟨n4, rfl⟩) (LO g0 g1 g2 g3 g4 g5 g6 c h k) (fun q0 q1 q2 q3 hq => by obtain ⟨e0, e1, e2, e3⟩ := hq; rw [e0, e1, e2, e3]; decide) (lsO5 g0 g1 g2 g3 g4 g5 g6 c h k hc.2 hh.2 hk.2) w) W
  by_cases n8 : kd = 8
  · subst n8
    exact lawN 8 g0 g1 g2 g3 g4 g5 g6 seed c h k 0 (LO g0 g1 g2 g3 g4 g5 g6 c h k) n2 n4 n12 (fun w => made_all 8 g0 g1 g2 g3 g4 g5 g6 seed c h k 0 (Or.inr ⟨n4, rfl⟩) (LO g0 g1 g2 g3 g4 g5 g6 c h k) (fun q0 q1 q2 q3 hq => by obtain ⟨e0, e1, e2, e3⟩ := hq; rw [e0, e1, e2, e3]; decide) (lsO8 g0 g1 g2 g3 g4 g5 g6 c h k hc.2 hh.2 hk.2) w) W
  by_cases hr : 1 ≤ kd ∧ kd ≤ 12
  · exact lawN kd g0 g1 g2 g3 g4 g5 g6 seed c h k 0 (LO g0 g1 g2 g3 g4 g5 g6 c h k) n2 n4 n12 (fun w => made_all kd g0 g1 g2 g3 g4 g5 g6 seed c h k 0 (Or.inr ⟨n4, rfl⟩) (LO g0 g1 g2 g3 g4 g5 g6 c h k) (fun q0 q1 q2 q3 hq => by obtain ⟨e0, e1, e2, e3⟩ := hq; rw [e0, e1, e2, e3]; decide) (lsO kd hr n1 n2 n3 n4 n5 n6 n8 n12 g0 g1 g2 g3 g4 g5 g6 c h k hc.2 hh.2 hk.2) w) W
  · exact lawN kd g0 g1 g2 g3 g4 g5 g6 seed c h k 0 (fun _ _ _ _ => False) n2 n4 n12 (fun w => made_all kd g0 g1 g2 g3 g4 g5 g6 seed c h k 0 (Or.inr ⟨n4, rfl⟩) (fun _ _ _ _ => False) (fun q0 q1 q2 q3 hq => hq.elim) (lsX kd g0 g1 g2 g3 g4 g5 g6 c h k hc.2 hh.2 hk.2 hr) w) W
end Go.Proofs.Ytokglpemefkmjaa
