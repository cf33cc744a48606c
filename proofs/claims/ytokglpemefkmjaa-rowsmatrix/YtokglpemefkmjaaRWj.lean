import Derived.Test.YtokglpemefkmjaaRWk
namespace Go.Proofs.Ytokglpemefkmjaa
open Go.RowKit
set_option linter.unusedVariables false
set_option linter.unusedSimpArgs false
theorem wrap64_eq (x : Int) : wrap64 x = IntKind.i64.wrap x := by rw [IntKind.wrap_i64]; unfold wrap64; omega
/-- Lists of such a kind. -/
def LD (g0 g1 g2 g3 g4 g5 g6 c h k : Int) (q0 q1 q2 q3 : Int) : Prop := ∃ C H K o : Nat, (c = C ∧ h = H ∧ k = K ∧ 1 ≤ C ∧ 1 ≤ H ∧ 1 ≤ K ∧ C * H * K ≤ 256) ∧ g0 = o ∧ 1 ≤ o ∧ o ≤ 256 ∧ (g1 = 0 ∧ g2 = 0 ∧ g3 = 0 ∧ g4 = 0 ∧ g5 = 0 ∧ g6 = 0) ∧ q0 = ((o * (C * H * K) : Nat) : Int) ∧ q1 = o ∧ q2 = 0 ∧ q3 = 0
theorem lsD (g0 g1 g2 g3 g4 g5 g6 c h k : Int) (hc : c ≤ 9223372036854775807) (hh : h ≤ 9223372036854775807) (hk : k ≤ 9223372036854775807) (hg0 : g0 ≤ 9223372036854775807) : LsM 1 g0 g1 g2 g3 g4 g5 g6 c h k 0 (LD g0 g1 g2 g3 g4 g5 g6 c h k) := by
  obtain ⟨n, s, hS, hs⟩ := sizeR c h k hc hh hk
  obtain ⟨p, hp⟩ : ∃ x, IntKind.i64.wrap (g0 * n) = x := ⟨_, rfl⟩
  obtain ⟨n', s', hT, hs'⟩ := sizeR g0 1 1 (by have := hg0; omega) (by decide) (by decide)
  obtain ⟨QF, hQF⟩ : ∃ QF : Nat → Prop, QF = (fun j => if j = 0 then (1 ≤ g0 ∧ g0 ≤ 256) else if j = 1 then (0 ≤ g1 ∧ g1 ≤ 0) else if j = 2 then (0 ≤ g2 ∧ g2 ≤ 0) else if j = 3 then (0 ≤ g3 ∧ g3 ≤ 0) else if j = 4 then (0 ≤ g4 ∧ g4 ≤ 0) else if j = 5 then (0 ≤ g5 ∧ g5 ≤ 0) else if j = 6 then (0 ≤ g6 ∧ g6 ≤ 0) else if j = 7 then (0 ≤ (0 : Int) ∧ (0 : Int) ≤ 0) else True) := ⟨_, rfl⟩
  have hF : ∀ w, Calls Try.prog 43 #[.agg #[.int .i64 1, .int .i64 g0, .int .i64 g1, .int .i64 g2, .int .i64 g3, .int .i64 g4, .int .i64 g5, .int .i64 g6, .int .i64 0, .int .u64 0, .slice none 0 0, .slice none 0 0, .slice none 0 0, .slice none 0 0]] w fun e w' => ∃ f : Int, e = .returned (.int .i64 f) ∧ (f = 0 → ∀ j, j < 8 → QF j) ∧ Below w.heap.size w w' := fun w =>
    refFields_any 1 g0 g1 g2 g3 g4 g5 g6 0 1 0 0 0 0 0 0 0 256 0 0 0 0 0 0 0 _ _ _ _ _ QF (by subst hQF; exact ⟨by simp, by simp, by simp, by simp, by simp, by simp, by simp, by simp⟩) (by decide) (fun w => boundsD g0 g1 g2 g3 g4 g5 g6 0 _ _ _ _ _ w) (fun w => slopeZ_any 1 _ _ _ _ _ _ _ _ (by decide) (by decide) _ _ _ _ w) w
  have qd : (∀ j, j < 8 → QF j) → (1 ≤ g0 ∧ g0 ≤ 256) ∧ (0 ≤ g1 ∧ g1 ≤ 0) ∧ (0 ≤ g2 ∧ g2 ≤ 0) ∧ (0 ≤ g3 ∧ g3 ≤ 0) ∧ (0 ≤ g4 ∧ g4 ≤ 0) ∧ (0 ≤ g5 ∧ g5 ≤ 0) ∧ (0 ≤ g6 ∧ g6 ≤ 0) := fun hq => by
    subst hQF
    exact ⟨by simpa using hq 0 (by decide), by simpa using hq 1 (by decide), by simpa using hq 2 (by decide), by simpa using hq 3 (by decide), by simpa using hq 4 (by decide), by simpa using hq 5 (by decide), by simpa using hq 6 (by decide)⟩
  obtain ⟨OKW, hOKW⟩ : ∃ P : Prop, P = (∃ C H K o : Nat, (c = C ∧ h = H ∧ k = K ∧ 1 ≤ C ∧ 1 ≤ H ∧ 1 ≤ K ∧ C * H * K ≤ 256) ∧ n = ((C * H * K : Nat) : Int) ∧ g0 = o ∧ 1 ≤ o ∧ o ≤ 256 ∧ g1 = 0 ∧ g2 = 0 ∧ g3 = 0 ∧ g4 = 0 ∧ g5 = 0 ∧ g6 = 0) := ⟨_, rfl⟩
  have hOut := fun w => outD_any g0 g1 g2 g3 g4 g5 g6 0 c h k n s n' s' _ _ _ _ _ (∀ j, j < 8 → QF j) OKW (fun hq h1 h2 => by
    obtain ⟨y0, y1, y2, y3, y4, y5, y6⟩ := qd hq
    rw [hOKW]
    obtain ⟨C, H, K, r1, r2, r3, r4, r5, r6, r7, r8⟩ := hs h1
    exact ⟨C, H, K, g0.toNat, ⟨r1, r2, r3, r4, r5, r6, r7⟩, r8, by omega, by omega, by omega, by omega, by omega, by omega, by omega, by omega, by omega⟩) hF hS hT w
  have hL := fun w => listsD_any g0 g1 g2 g3 g4 g5 g6 0 c h k n s p _ _ _ _ _ OKW hp hOut hS w
  refine fun w => (lsM_of hL w).mono fun e w' => ?_
  rintro ⟨q0, q1, q2, q3, f, rfl, hq, hb⟩
  refine ⟨q0, q1, q2, q3, f, rfl, fun hf => ?_, hb⟩
  obtain ⟨hok, hq0, hq1, hq2, hq3⟩ := hq hf
  rw [hOKW] at hok
  obtain ⟨C, H, K, o, hz, rfl, hgo, o1, o2, z⟩ := hok
  have m : o * (C * H * K) ≤ 256 * 256 := Nat.mul_le_mul o2 hz.2.2.2.2.2.2
  have hp' : p = ((o * (C * H * K) : Nat) : Int) := by rw [← hp, hgo, ← Int.natCast_mul, IntKind.wrap_i64]; generalize o * (C * H * K) = x at m ⊢; omega
  exact ⟨C, H, K, o, hz, hgo, o1, o2, z, hq0.trans hp', hq1.trans hgo, hq2, hq3⟩
/-- Lists of such a kind. -/
def LS (g0 g1 g2 g3 g4 g5 g6 c h k : Int) (q0 q1 q2 q3 : Int) : Prop := ∃ C H K : Nat, (c = C ∧ h = H ∧ k = K ∧ 1 ≤ C ∧ 1 ≤ H ∧ 1 ≤ K ∧ C * H * K ≤ 256) ∧ (g0 = 0 ∧ g1 = 0 ∧ g2 = 0 ∧ g3 = 0 ∧ g4 = 0 ∧ g5 = 0 ∧ g6 = 0) ∧ q0 = C ∧ q1 = C ∧ q2 = 0 ∧ q3 = 0
theorem lsS (g0 g1 g2 g3 g4 g5 g6 c h k : Int) (hc : c ≤ 9223372036854775807) (hh : h ≤ 9223372036854775807) (hk : k ≤ 9223372036854775807) : LsM 3 g0 g1 g2 g3 g4 g5 g6 c h k 0 (LS g0 g1 g2 g3 g4 g5 g6 c h k) := by
  obtain ⟨n, s, hS, hs⟩ := sizeR c h k hc hh hk
  obtain ⟨n', s', hT, hs'⟩ := sizeR c h k hc hh hk
  obtain ⟨QF, hQF⟩ : ∃ QF : Nat → Prop, QF = (fun j => if j = 0 then (0 ≤ g0 ∧ g0 ≤ 0) else if j = 1 then (0 ≤ g1 ∧ g1 ≤ 0) else if j = 2 then (0 ≤ g2 ∧ g2 ≤ 0) else if j = 3 then (0 ≤ g3 ∧ g3 ≤ 0) else if j = 4 then (0 ≤ g4 ∧ g4 ≤ 0) else if j = 5 then (0 ≤ g5 ∧ g5 ≤ 0) else if j = 6 then (0 ≤ g6 ∧ g6 ≤ 0) else if j = 7 then (0 ≤ (0 : Int) ∧ (0 : Int) ≤ 0) else True) := ⟨_, rfl⟩
  have hF : ∀ w, Calls Try.prog 43 #[.agg #[.int .i64 3, .int .i64 g0, .int .i64 g1, .int .i64 g2, .int .i64 g3, .int .i64 g4, .int .i64 g5, .int .i64 g6, .int .i64 0, .int .u64 0, .slice none 0 0, .slice none 0 0, .slice none 0 0, .slice none 0 0]] w fun e w' => ∃ f : Int, e = .returned (.int .i64 f) ∧ (f = 0 → ∀ j, j < 8 → QF j) ∧ Below w.heap.size w w' := fun w =>
    refFields_any 3 g0 g1 g2 g3 g4 g5 g6 0 0 0 0 0 0 0 0 0 0 0 0 0 0 0 0 0 _ _ _ _ _ QF (by subst hQF; exact ⟨by simp, by simp, by simp, by simp, by simp, by simp, by simp, by simp⟩) (by decide) (fun w => boundsZ 3 g0 g1 g2 g3 g4 g5 g6 0 (by decide) (by decide) (by decide) (by decide) (by decide) (by decide) _ _ _ _ _ w) (fun w => slopeZ_any 3 _ _ _ _ _ _ _ _ (by decide) (by decide) _ _ _ _ w) w
  have qd : (∀ j, j < 8 → QF j) → (0 ≤ g0 ∧ g0 ≤ 0) ∧ (0 ≤ g1 ∧ g1 ≤ 0) ∧ (0 ≤ g2 ∧ g2 ≤ 0) ∧ (0 ≤ g3 ∧ g3 ≤ 0) ∧ (0 ≤ g4 ∧ g4 ≤ 0) ∧ (0 ≤ g5 ∧ g5 ≤ 0) ∧ (0 ≤ g6 ∧ g6 ≤ 0) := fun hq => by
    subst hQF
    exact ⟨by simpa using hq 0 (by decide), by simpa using hq 1 (by decide), by simpa using hq 2 (by decide), by simpa using hq 3 (by decide), by simpa using hq 4 (by decide), by simpa using hq 5 (by decide), by simpa using hq 6 (by decide)⟩
  obtain ⟨OKW, hOKW⟩ : ∃ P : Prop, P = (∃ C H K : Nat, (c = C ∧ h = H ∧ k = K ∧ 1 ≤ C ∧ 1 ≤ H ∧ 1 ≤ K ∧ C * H * K ≤ 256) ∧ g0 = 0 ∧ g1 = 0 ∧ g2 = 0 ∧ g3 = 0 ∧ g4 = 0 ∧ g5 = 0 ∧ g6 = 0) := ⟨_, rfl⟩
  have hOut := fun w => outZ_any 3 g0 g1 g2 g3 g4 g5 g6 0 c h k n s n' s' _ _ _ _ _ (∀ j, j < 8 → QF j) OKW (by decide) (by decide) (by decide) (by decide) (by decide) (fun hq h1 h2 => by
    obtain ⟨y0, y1, y2, y3, y4, y5, y6⟩ := qd hq
    rw [hOKW]
    obtain ⟨C, H, K, r1, r2, r3, r4, r5, r6, r7, r8⟩ := hs h1
    exact ⟨C, H, K, ⟨r1, r2, r3, r4, r5, r6, r7⟩, by omega, by omega, by omega, by omega, by omega, by omega, by omega⟩) hF hS hT w
  have hL := fun w => listsS_any g0 g1 g2 g3 g4 g5 g6 0 c h k n s _ _ _ _ _ OKW hOut hS w
  refine fun w => (lsM_of hL w).mono fun e w' => ?_
  rintro ⟨q0, q1, q2, q3, f, rfl, hq, hb⟩
  refine ⟨q0, q1, q2, q3, f, rfl, fun hf => ?_, hb⟩
  obtain ⟨hok, hq0, hq1, hq2, hq3⟩ := hq hf
  rw [hOKW] at hok
  obtain ⟨C, H, K, hz, z⟩ := hok
  exact ⟨C, H, K, hz, z, hq0.trans hz.1, hq1.trans hz.1, hq2, hq3⟩
/-- Lists of such a kind. -/
def LT (g0 g1 g2 g3 g4 g5 g6 c h k : Int) (q0 q1 q2 q3 : Int) : Prop := ∃ C H K o : Nat, (c = C ∧ h = H ∧ k = K ∧ 1 ≤ C ∧ 1 ≤ H ∧ 1 ≤ K ∧ C * H * K ≤ 256) ∧ g0 = o ∧ 1 ≤ o ∧ o ≤ 128 ∧ C * H * K % 2 = 0 ∧ (g1 = 0 ∧ g2 = 0 ∧ g3 = 0 ∧ g4 = 0 ∧ g5 = 0 ∧ g6 = 0) ∧ q0 = 0 ∧ q1 = 0 ∧ q2 = ((o * (C * H * K) / 2 : Nat) : Int) ∧ q3 = o
theorem lsT (g0 g1 g2 g3 g4 g5 g6 c h k : Int) (hc : c ≤ 9223372036854775807) (hh : h ≤ 9223372036854775807) (hk : k ≤ 9223372036854775807) : LsM 6 g0 g1 g2 g3 g4 g5 g6 c h k 0 (LT g0 g1 g2 g3 g4 g5 g6 c h k) := by
  obtain ⟨n, s, hS, hs⟩ := sizeR c h k hc hh hk
  obtain ⟨p, hp⟩ : ∃ x, IntKind.i64.wrap (g0 * n) = x := ⟨_, rfl⟩
  obtain ⟨q, hq2'⟩ : ∃ x, IntKind.i64.wrap (p.tdiv 2) = x := ⟨_, rfl⟩
  have hq1' : wrap64 (p.tdiv 2) = q := (wrap64_eq _).trans hq2'
  obtain ⟨n', s', hT, hs'⟩ := sizeR (IntKind.i64.wrap (2 * g0)) 1 1 (wrap_hi _) (by decide) (by decide)
  obtain ⟨QF, hQF⟩ : ∃ QF : Nat → Prop, QF = (fun j => if j = 0 then (1 ≤ g0 ∧ g0 ≤ 128) else if j = 1 then (0 ≤ g1 ∧ g1 ≤ 0) else if j = 2 then (0 ≤ g2 ∧ g2 ≤ 0) else if j = 3 then (0 ≤ g3 ∧ g3 ≤ 0) else if j = 4 then (0 ≤ g4 ∧ g4 ≤ 0) else if j = 5 then (0 ≤ g5 ∧ g5 ≤ 0) else if j = 6 then (0 ≤ g6 ∧ g6 ≤ 0) else if j = 7 then (0 ≤ (0 : Int) ∧ (0 : Int) ≤ 0) else True) := ⟨_, rfl⟩
  have hF : ∀ w, Calls Try.prog 43 #[.agg #[.int .i64 6, .int .i64 g0, .int .i64 g1, .int .i64 g2, .int .i64 g3, .int .i64 g4, .int .i64 g5, .int .i64 g6, .int .i64 0, .int .u64 0, .slice none 0 0, .slice none 0 0, .slice none 0 0, .slice none 0 0]] w fun e w' => ∃ f : Int, e = .returned (.int .i64 f) ∧ (f = 0 → ∀ j, j < 8 → QF j) ∧ Below w.heap.size w w' := fun w =>
    refFields_any 6 g0 g1 g2 g3 g4 g5 g6 0 1 0 0 0 0 0 0 0 128 0 0 0 0 0 0 0 _ _ _ _ _ QF (by subst hQF; exact ⟨by simp, by simp, by simp, by simp, by simp, by simp, by simp, by simp⟩) (by decide) (fun w => boundsT g0 g1 g2 g3 g4 g5 g6 0 _ _ _ _ _ w) (fun w => slopeZ_any 6 _ _ _ _ _ _ _ _ (by decide) (by decide) _ _ _ _ w) w
  have qd : (∀ j, j < 8 → QF j) → (1 ≤ g0 ∧ g0 ≤ 128) ∧ (0 ≤ g1 ∧ g1 ≤ 0) ∧ (0 ≤ g2 ∧ g2 ≤ 0) ∧ (0 ≤ g3 ∧ g3 ≤ 0) ∧ (0 ≤ g4 ∧ g4 ≤ 0) ∧ (0 ≤ g5 ∧ g5 ≤ 0) ∧ (0 ≤ g6 ∧ g6 ≤ 0) := fun hq => by
    subst hQF
    exact ⟨by simpa using hq 0 (by decide), by simpa using hq 1 (by decide), by simpa using hq 2 (by decide), by simpa using hq 3 (by decide), by simpa using hq 4 (by decide), by simpa using hq 5 (by decide), by simpa using hq 6 (by decide)⟩
  obtain ⟨OKW, hOKW⟩ : ∃ P : Prop, P = (∃ C H K o : Nat, (c = C ∧ h = H ∧ k = K ∧ 1 ≤ C ∧ 1 ≤ H ∧ 1 ≤ K ∧ C * H * K ≤ 256) ∧ n = ((C * H * K : Nat) : Int) ∧ g0 = o ∧ 1 ≤ o ∧ o ≤ 128 ∧ C * H * K % 2 = 0 ∧ g1 = 0 ∧ g2 = 0 ∧ g3 = 0 ∧ g4 = 0 ∧ g5 = 0 ∧ g6 = 0) := ⟨_, rfl⟩
  have hOut := fun w => outT_any g0 g1 g2 g3 g4 g5 g6 0 c h k n s n' s' _ _ _ _ _ _ (∀ j, j < 8 → QF j) OKW rfl (n.tmod 2) rfl (fun hq h1 hm h2 => by
    obtain ⟨y0, y1, y2, y3, y4, y5, y6⟩ := qd hq
    rw [hOKW]
    obtain ⟨C, H, K, r1, r2, r3, r4, r5, r6, r7, r8⟩ := hs h1
    have hev : C * H * K % 2 = 0 := by
      rw [r8, show (((C * H * K : Nat) : Int).tmod 2) = ((C * H * K % 2 : Nat) : Int) from rfl] at hm
      omega
    exact ⟨C, H, K, g0.toNat, ⟨r1, r2, r3, r4, r5, r6, r7⟩, r8, by omega, by omega, by omega, hev, by omega, by omega, by omega, by omega, by omega, by omega⟩) hF hS hT w
  have hL := fun w => listsT_any g0 g1 g2 g3 g4 g5 g6 0 c h k n s p q _ _ _ _ _ OKW hp hq1' hq2' hOut hS w
  refine fun w => (lsM_of hL w).mono fun e w' => ?_
  rintro ⟨q0, q1, q2, q3, f, rfl, hq, hb⟩
  refine ⟨q0, q1, q2, q3, f, rfl, fun hf => ?_, hb⟩
  obtain ⟨hok, hq0, hq1, hq2, hq3⟩ := hq hf
  rw [hOKW] at hok
  obtain ⟨C, H, K, o, hz, rfl, hgo, o1, o2, hev, z⟩ := hok
  have m : o * (C * H * K) ≤ 128 * 256 := Nat.mul_le_mul o2 hz.2.2.2.2.2.2
  have hp' : p = ((o * (C * H * K) : Nat) : Int) := by rw [← hp, hgo, ← Int.natCast_mul, IntKind.wrap_i64]; generalize o * (C * H * K) = x at m ⊢; omega
  have hq' : q = ((o * (C * H * K) / 2 : Nat) : Int) := by
    rw [← hq2', hp', show (((o * (C * H * K) : Nat) : Int).tdiv 2) = ((o * (C * H * K) / 2 : Nat) : Int) from rfl, IntKind.wrap_i64]
    generalize o * (C * H * K) = x at m ⊢
    omega
  exact ⟨C, H, K, o, hz, hgo, o1, o2, hev, z, hq0, hq1, hq2.trans hq', hq3.trans hgo⟩
/-- Lists of such a kind. -/
def LO (g0 g1 g2 g3 g4 g5 g6 c h k : Int) (q0 q1 q2 q3 : Int) : Prop := q0 = 0 ∧ q1 = 0 ∧ q2 = 0 ∧ q3 = 0
theorem lsO (kd : Int) (hkd : 1 ≤ kd ∧ kd ≤ 12) (n1 : ¬ kd = 1) (n2 : ¬ kd = 2) (n3 : ¬ kd = 3) (n4 : ¬ kd = 4) (n5 : ¬ kd = 5) (n6 : ¬ kd = 6) (n8 : ¬ kd = 8) (n12 : ¬ kd = 12) (g0 g1 g2 g3 g4 g5 g6 c h k : Int) (hc : c ≤ 9223372036854775807) (hh : h ≤ 9223372036854775807) (hk : k ≤ 9223372036854775807) : LsM kd g0 g1 g2 g3 g4 g5 g6 c h k 0 (LO g0 g1 g2 g3 g4 g5 g6 c h k) := by
  obtain ⟨n, s, hS, hs⟩ := sizeR c h k hc hh hk
  obtain ⟨n', s', hT, hs'⟩ := sizeR c h k hc hh hk
  obtain ⟨QF, hQF⟩ : ∃ QF : Nat → Prop, QF = (fun j => if j = 0 then (0 ≤ g0 ∧ g0 ≤ 0) else if j = 1 then (0 ≤ g1 ∧ g1 ≤ 0) else if j = 2 then (0 ≤ g2 ∧ g2 ≤ 0) else if j = 3 then (0 ≤ g3 ∧ g3 ≤ 0) else if j = 4 then (0 ≤ g4 ∧ g4 ≤ 0) else if j = 5 then (0 ≤ g5 ∧ g5 ≤ 0) else if j = 6 then (0 ≤ g6 ∧ g6 ≤ 0) else if j = 7 then (0 ≤ (0 : Int) ∧ (0 : Int) ≤ 0) else True) := ⟨_, rfl⟩
  have hF : ∀ w, Calls Try.prog 43 #[.agg #[.int .i64 kd, .int .i64 g0, .int .i64 g1, .int .i64 g2, .int .i64 g3, .int .i64 g4, .int .i64 g5, .int .i64 g6, .int .i64 0, .int .u64 0, .slice none 0 0, .slice none 0 0, .slice none 0 0, .slice none 0 0]] w fun e w' => ∃ f : Int, e = .returned (.int .i64 f) ∧ (f = 0 → ∀ j, j < 8 → QF j) ∧ Below w.heap.size w w' := fun w =>
    refFields_any kd g0 g1 g2 g3 g4 g5 g6 0 0 0 0 0 0 0 0 0 0 0 0 0 0 0 0 0 _ _ _ _ _ QF (by subst hQF; exact ⟨by simp, by simp, by simp, by simp, by simp, by simp, by simp, by simp⟩) (by exact hkd) (fun w => boundsZ kd g0 g1 g2 g3 g4 g5 g6 0 n1 n2 n4 n5 n6 n12 _ _ _ _ _ w) (fun w => slopeZ_any kd _ _ _ _ _ _ _ _ n4 n8 _ _ _ _ w) w
  have qd : (∀ j, j < 8 → QF j) → (0 ≤ g0 ∧ g0 ≤ 0) ∧ (0 ≤ g1 ∧ g1 ≤ 0) ∧ (0 ≤ g2 ∧ g2 ≤ 0) ∧ (0 ≤ g3 ∧ g3 ≤ 0) ∧ (0 ≤ g4 ∧ g4 ≤ 0) ∧ (0 ≤ g5 ∧ g5 ≤ 0) ∧ (0 ≤ g6 ∧ g6 ≤ 0) := fun hq => by
    subst hQF
    exact ⟨by simpa using hq 0 (by decide), by simpa using hq 1 (by decide), by simpa using hq 2 (by decide), by simpa using hq 3 (by decide), by simpa using hq 4 (by decide), by simpa using hq 5 (by decide), by simpa using hq 6 (by decide)⟩
  obtain ⟨OKW, hOKW⟩ : ∃ P : Prop, P = (True) := ⟨_, rfl⟩
  have hOut := fun w => outZ_any kd g0 g1 g2 g3 g4 g5 g6 0 c h k n s n' s' _ _ _ _ _ (∀ j, j < 8 → QF j) OKW n1 n2 n4 n6 n12 (fun hq h1 h2 => by rw [hOKW]; trivial) hF hS hT w
  have hL := fun w => listsO_any kd g0 g1 g2 g3 g4 g5 g6 0 c h k n s _ _ _ _ _ OKW n1 n2 n3 n6 hOut hS w
  refine fun w => (lsM_of hL w).mono fun e w' => ?_
  rintro ⟨q0, q1, q2, q3, f, rfl, hq, hb⟩
  refine ⟨q0, q1, q2, q3, f, rfl, fun hf => ?_, hb⟩
  obtain ⟨hok, hq0, hq1, hq2, hq3⟩ := hq hf
  rw [hOKW] at hok
  exact ⟨hq0, hq1, hq2, hq3⟩
theorem lsO5 (g0 g1 g2 g3 g4 g5 g6 c h k : Int) (hc : c ≤ 9223372036854775807) (hh : h ≤ 9223372036854775807) (hk : k ≤ 9223372036854775807) : LsM 5 g0 g1 g2 g3 g4 g5 g6 c h k 0 (LO g0 g1 g2 g3 g4 g5 g6 c h k) := by
  obtain ⟨n, s, hS, hs⟩ := sizeR c h k hc hh hk
  obtain ⟨n', s', hT, hs'⟩ := sizeR c h k hc hh hk
  obtain ⟨QF, hQF⟩ : ∃ QF : Nat → Prop, QF = (fun j => if j = 0 then (0 ≤ g0 ∧ g0 ≤ 0) else if j = 1 then (0 ≤ g1 ∧ g1 ≤ 0) else if j = 2 then (0 ≤ g2 ∧ g2 ≤ 0) else if j = 3 then (0 ≤ g3 ∧ g3 ≤ 0) else if j = 4 then (0 ≤ g4 ∧ g4 ≤ 0) else if j = 5 then (0 ≤ g5 ∧ g5 ≤ 0) else if j = 6 then (0 ≤ g6 ∧ g6 ≤ 0) else if j = 7 then (0 ≤ (0 : Int) ∧ (0 : Int) ≤ 64) else True) := ⟨_, rfl⟩
  have hF : ∀ w, Calls Try.prog 43 #[.agg #[.int .i64 5, .int .i64 g0, .int .i64 g1, .int .i64 g2, .int .i64 g3, .int .i64 g4, .int .i64 g5, .int .i64 g6, .int .i64 0, .int .u64 0, .slice none 0 0, .slice none 0 0, .slice none 0 0, .slice none 0 0]] w fun e w' => ∃ f : Int, e = .returned (.int .i64 f) ∧ (f = 0 → ∀ j, j < 8 → QF j) ∧ Below w.heap.size w w' := fun w =>
    refFields_any 5 g0 g1 g2 g3 g4 g5 g6 0 0 0 0 0 0 0 0 0 0 0 0 0 0 0 0 64 _ _ _ _ _ QF (by subst hQF; exact ⟨by simp, by simp, by simp, by simp, by simp, by simp, by simp, by simp⟩) (by decide) (fun w => boundsA g0 g1 g2 g3 g4 g5 g6 0 _ _ _ _ _ w) (fun w => slopeZ_any 5 _ _ _ _ _ _ _ _ (by decide) (by decide) _ _ _ _ w) w
  have qd : (∀ j, j < 8 → QF j) → (0 ≤ g0 ∧ g0 ≤ 0) ∧ (0 ≤ g1 ∧ g1 ≤ 0) ∧ (0 ≤ g2 ∧ g2 ≤ 0) ∧ (0 ≤ g3 ∧ g3 ≤ 0) ∧ (0 ≤ g4 ∧ g4 ≤ 0) ∧ (0 ≤ g5 ∧ g5 ≤ 0) ∧ (0 ≤ g6 ∧ g6 ≤ 0) := fun hq => by
    subst hQF
    exact ⟨by simpa using hq 0 (by decide), by simpa using hq 1 (by decide), by simpa using hq 2 (by decide), by simpa using hq 3 (by decide), by simpa using hq 4 (by decide), by simpa using hq 5 (by decide), by simpa using hq 6 (by decide)⟩
  obtain ⟨OKW, hOKW⟩ : ∃ P : Prop, P = (True) := ⟨_, rfl⟩
  have hOut := fun w => outZ_any 5 g0 g1 g2 g3 g4 g5 g6 0 c h k n s n' s' _ _ _ _ _ (∀ j, j < 8 → QF j) OKW (by decide) (by decide) (by decide) (by decide) (by decide) (fun hq h1 h2 => by rw [hOKW]; trivial) hF hS hT w
  have hL := fun w => listsO_any 5 g0 g1 g2 g3 g4 g5 g6 0 c h k n s _ _ _ _ _ OKW (by decide) (by decide) (by decide) (by decide) hOut hS w
  refine fun w => (lsM_of hL w).mono fun e w' => ?_
  rintro ⟨q0, q1, q2, q3, f, rfl, hq, hb⟩
  refine ⟨q0, q1, q2, q3, f, rfl, fun hf => ?_, hb⟩
  obtain ⟨hok, hq0, hq1, hq2, hq3⟩ := hq hf
  rw [hOKW] at hok
  exact ⟨hq0, hq1, hq2, hq3⟩
theorem lsO8 (g0 g1 g2 g3 g4 g5 g6 c h k : Int) (hc : c ≤ 9223372036854775807) (hh : h ≤ 9223372036854775807) (hk : k ≤ 9223372036854775807) : LsM 8 g0 g1 g2 g3 g4 g5 g6 c h k 0 (LO g0 g1 g2 g3 g4 g5 g6 c h k) := by
  obtain ⟨n, s, hS, hs⟩ := sizeR c h k hc hh hk
  obtain ⟨n', s', hT, hs'⟩ := sizeR c h k hc hh hk
  obtain ⟨QF, hQF⟩ : ∃ QF : Nat → Prop, QF = (fun j => if j = 0 then (0 ≤ g0 ∧ g0 ≤ 0) else if j = 1 then (0 ≤ g1 ∧ g1 ≤ 0) else if j = 2 then (0 ≤ g2 ∧ g2 ≤ 0) else if j = 3 then (0 ≤ g3 ∧ g3 ≤ 0) else if j = 4 then (0 ≤ g4 ∧ g4 ≤ 0) else if j = 5 then (0 ≤ g5 ∧ g5 ≤ 0) else if j = 6 then (0 ≤ g6 ∧ g6 ≤ 0) else if j = 7 then (0 ≤ (0 : Int) ∧ (0 : Int) ≤ 0) else True) := ⟨_, rfl⟩
  have hF : ∀ w, Calls Try.prog 43 #[.agg #[.int .i64 8, .int .i64 g0, .int .i64 g1, .int .i64 g2, .int .i64 g3, .int .i64 g4, .int .i64 g5, .int .i64 g6, .int .i64 0, .int .u64 0, .slice none 0 0, .slice none 0 0, .slice none 0 0, .slice none 0 0]] w fun e w' => ∃ f : Int, e = .returned (.int .i64 f) ∧ (f = 0 → ∀ j, j < 8 → QF j) ∧ Below w.heap.size w w' := fun w =>
    refFields_any 8 g0 g1 g2 g3 g4 g5 g6 0 0 0 0 0 0 0 0 0 0 0 0 0 0 0 0 0 _ _ _ _ _ QF (by subst hQF; exact ⟨by simp, by simp, by simp, by simp, by simp, by simp, by simp, by simp⟩) (by decide) (fun w => boundsZ 8 g0 g1 g2 g3 g4 g5 g6 0 (by decide) (by decide) (by decide) (by decide) (by decide) (by decide) _ _ _ _ _ w) (fun w => slope8_any _ _ _ _ _ _ _ _ _ _ _ _ w) w
  have qd : (∀ j, j < 8 → QF j) → (0 ≤ g0 ∧ g0 ≤ 0) ∧ (0 ≤ g1 ∧ g1 ≤ 0) ∧ (0 ≤ g2 ∧ g2 ≤ 0) ∧ (0 ≤ g3 ∧ g3 ≤ 0) ∧ (0 ≤ g4 ∧ g4 ≤ 0) ∧ (0 ≤ g5 ∧ g5 ≤ 0) ∧ (0 ≤ g6 ∧ g6 ≤ 0) := fun hq => by
    subst hQF
    exact ⟨by simpa using hq 0 (by decide), by simpa using hq 1 (by decide), by simpa using hq 2 (by decide), by simpa using hq 3 (by decide), by simpa using hq 4 (by decide), by simpa using hq 5 (by decide), by simpa using hq 6 (by decide)⟩
  obtain ⟨OKW, hOKW⟩ : ∃ P : Prop, P = (True) := ⟨_, rfl⟩
  have hOut := fun w => outZ_any 8 g0 g1 g2 g3 g4 g5 g6 0 c h k n s n' s' _ _ _ _ _ (∀ j, j < 8 → QF j) OKW (by decide) (by decide) (by decide) (by decide) (by decide) (fun hq h1 h2 => by rw [hOKW]; trivial) hF hS hT w
  have hL := fun w => listsO_any 8 g0 g1 g2 g3 g4 g5 g6 0 c h k n s _ _ _ _ _ OKW (by decide) (by decide) (by decide) (by decide) hOut hS w
  refine fun w => (lsM_of hL w).mono fun e w' => ?_
  rintro ⟨q0, q1, q2, q3, f, rfl, hq, hb⟩
  refine ⟨q0, q1, q2, q3, f, rfl, fun hf => ?_, hb⟩
  obtain ⟨hok, hq0, hq1, hq2, hq3⟩ := hq hf
  rw [hOKW] at hok
  exact ⟨hq0, hq1, hq2, hq3⟩
theorem lsX (kd g0 g1 g2 g3 g4 g5 g6 c h k : Int) (hc : c ≤ 9223372036854775807) (hh : h ≤ 9223372036854775807) (hk : k ≤ 9223372036854775807) (hx : ¬ (1 ≤ kd ∧ kd ≤ 12)) : LsM kd g0 g1 g2 g3 g4 g5 g6 c h k 0 (fun _ _ _ _ => False) := by
  obtain ⟨n, s, hS, hs⟩ := sizeR c h k hc hh hk
  have hF : ∀ w, Calls Try.prog 43 #[.agg #[.int .i64 kd, .int .i64 g0, .int .i64 g1, .int .i64 g2, .int .i64 g3, .int .i64 g4, .int .i64 g5, .int .i64 g6, .int .i64 0, .int .u64 0, .slice none 0 0, .slice none 0 0, .slice none 0 0, .slice none 0 0]] w fun e w' => ∃ f : Int, e = .returned (.int .i64 f) ∧ (f = 0 → False) ∧ Below w.heap.size w w' := fun w => (refFields_kind kd g0 g1 g2 g3 g4 g5 g6 0 _ _ _ _ _ hx w).mono fun e w' => by
    rintro ⟨rfl, hb⟩
    exact ⟨61, rfl, by decide, hb⟩
  have hOut := fun w => outZ_any kd g0 g1 g2 g3 g4 g5 g6 0 c h k n s n s _ _ _ _ _ False False (by omega) (by omega) (by omega) (by omega) (by omega) (fun hq _ _ => hq) hF hS hS w
  have hL := fun w => listsO_any kd g0 g1 g2 g3 g4 g5 g6 0 c h k n s _ _ _ _ _ False (by omega) (by omega) (by omega) (by omega) hOut hS w
  refine fun w => (lsM_of hL w).mono fun e w' => ?_
  rintro ⟨q0, q1, q2, q3, f, rfl, hq, hb⟩
  exact ⟨q0, q1, q2, q3, f, rfl, fun hf => (hq hf).1, hb⟩
end Go.Proofs.Ytokglpemefkmjaa
