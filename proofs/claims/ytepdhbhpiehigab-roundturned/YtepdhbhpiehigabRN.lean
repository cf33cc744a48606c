import Derived.Test.YtepdhbhpiehigabRM
namespace Go.Proofs.Ytepdhbhpiehigab
open Go.RowKit
set_option linter.unusedVariables false

theorem fopp_fin {x : Nat} (hx : x < 18446744073709551616) : Fin (fopp x) ↔ Fin x := by unfold Fin; rw [(fopp_parts hx).1]
/-- What the law asks of the calls, ahead of its walk. -/
theorem turned_calls (a b : Nat) (ha : a < 18446744073709551616) (hb : b < 18446744073709551616) :
    (∃ p q, Turn p q ∧ (∀ w, Calls Try.prog 26 #[.int .i64 1, .float .f64 a, .float .f64 b] w fun e w' => e = .returned (.tuple #[.float .f64 p.1, .bool p.2]) ∧ w' = w) ∧ (∀ w, Calls Try.prog 26 #[.int .i64 2, .float .f64 (fopp a), .float .f64 (fopp b)] w fun e w' => e = .returned (.tuple #[.float .f64 q.1, .bool q.2]) ∧ w' = w)) ∧
    (∃ p q, Turn p q ∧ (∀ w, Calls Try.prog 31 #[.int .i64 1, .float .f64 a, .float .f64 b] w fun e w' => e = .returned (.tuple #[.float .f64 p.1, .bool p.2]) ∧ w' = w) ∧ (∀ w, Calls Try.prog 31 #[.int .i64 2, .float .f64 (fopp a), .float .f64 (fopp b)] w fun e w' => e = .returned (.tuple #[.float .f64 q.1, .bool q.2]) ∧ w' = w)) ∧
    (∃ p q x, Turn p q ∧ (∀ w, Calls Try.prog 27 #[.int .i64 1, .float .f64 a, .float .f64 b] w fun e w' => e = .returned (.tuple #[.float .f64 p.1, .bool p.2]) ∧ w' = w) ∧ (∀ w, Calls Try.prog 27 #[.int .i64 2, .float .f64 (fopp a), .float .f64 b] w fun e w' => e = .returned (.tuple #[.float .f64 q.1, .bool q.2]) ∧ w' = w) ∧
      (∀ w, Calls Try.prog 27 #[.int .i64 2, .float .f64 (fopp a), .float .f64 (fopp b)] w fun e w' => e = .returned (.tuple #[.float .f64 (x : Nat × Bool).1, .bool x.2]) ∧ w' = w) ∧ Fin p.1 ∧ (∀ w, Calls Try.prog 27 #[.int .i64 1, .float .f64 b, .float .f64 a] w fun e w' => e = .returned (.tuple #[.float .f64 p.1, .bool p.2]) ∧ w' = w)) := by
  have fa := fopp_parts ha
  have fb := fopp_parts hb
  have va := fopp_fval ha
  have vb := fopp_fval hb
  have ia := fopp_fin ha
  have ib := fopp_fin hb
  refine ⟨?_, ?_, ?_⟩
  · obtain ⟨p, p1, p2, pc⟩ := add_any 1 a b ha hb
    obtain ⟨q, q1, q2, qc⟩ := add_any 2 (fopp a) (fopp b) fa.2.2 fb.2.2
    refine ⟨p, q, ?_, pc, qc⟩
    by_cases hf : Fin a ∧ Fin b
    · have h1 := p1 hf.1 hf.2
      have h2 := q1 (ia.2 hf.1) (ib.2 hf.2)
      have h3 := rndZ_turn h1 h2 (by rw [va, vb]; omega)
      exact ⟨h3.1, h3.2, (rndZ_fin h1).1, (rndZ_fin h2).1, (rndZ_fin h2).2⟩
    · rw [p2 hf, q2 (by rw [ia, ib]; exact hf)]; exact Turn.none
  · obtain ⟨p, p1, p2, pc⟩ := sub_any 1 a b ha hb
    obtain ⟨q, q1, q2, qc⟩ := sub_any 2 (fopp a) (fopp b) fa.2.2 fb.2.2
    refine ⟨p, q, ?_, pc, qc⟩
    by_cases hf : Fin a ∧ Fin b
    · have h1 := p1 hf.1 hf.2
      have h2 := q1 (ia.2 hf.1) (ib.2 hf.2)
      have h3 := rndZ_turn h1 h2 (by rw [va, vb]; omega)
      exact ⟨h3.1, h3.2, (rndZ_fin h1).1, (rndZ_fin h2).1, (rndZ_fin h2).2⟩
    · rw [p2 hf, q2 (by rw [ia, ib]; exact hf)]; exact Turn.none
  · obtain ⟨E, hE⟩ : ∃ E : Nat, E = 1074 := ⟨_, rfl⟩
    obtain ⟨p, p1, p2, pc⟩ := mul_any 1 a b ha hb
    obtain ⟨r, r1, r2, rc⟩ := mul_any 1 b a hb ha
    obtain ⟨q, q1, q2, qc⟩ := mul_any 2 (fopp a) b fa.2.2 hb
    obtain ⟨x, x1, x2, xc⟩ := mul_any 2 (fopp a) (fopp b) fa.2.2 fb.2.2
    by_cases hf : Fin a ∧ Fin b
    · have h1 := p1 hf.1 hf.2 E hE
      have h2 := q1 (ia.2 hf.1) hf.2 E hE
      have h5 := r1 hf.2 hf.1 E hE
      rw [fa.1, fa.2.1, show ((!fneg a) ^^ fneg b) = !(fneg a ^^ fneg b) by cases fneg a <;> cases fneg b <;> rfl] at h2
      rw [Bool.xor_comm, Nat.mul_comm (rmag (frung b))] at h5
      obtain rfl := h1.uniq h5
      have h3 := rnd_turn h1 h2
      exact ⟨p, q, x, ⟨h3.1, h3.2, (tell_fin h1).1, (tell_fin h2).1, (tell_fin h2).2⟩, pc, qc, xc, (tell_fin h1).1, rc⟩
    · have hf' : ¬ (Fin b ∧ Fin a) := fun h => hf ⟨h.2, h.1⟩
      have e1 := p2 hf
      have e2 := r2 hf'
      have e3 := q2 (by rw [ia]; exact hf)
      subst e1 e2 e3
      exact ⟨(0, false), (0, false), x, Turn.none, pc, qc, xc, by decide, rc⟩
theorem same_calls (a b : Nat) (ha : a < 18446744073709551616) (hb : b < 18446744073709551616) :
    (∃ p, Fin p.1 ∧ (∀ w, Calls Try.prog 23 #[.int .i64 0, .float .f64 a, .float .f64 b] w fun e w' => e = .returned (.tuple #[.float .f64 (p : Nat × Bool).1, .bool p.2]) ∧ w' = w) ∧ (∀ w, Calls Try.prog 23 #[.int .i64 0, .float .f64 (fopp a), .float .f64 (fopp b)] w fun e w' => e = .returned (.tuple #[.float .f64 p.1, .bool p.2]) ∧ w' = w)) ∧
    (∃ p, Fin p.1 ∧ (∀ w, Calls Try.prog 26 #[.int .i64 0, .float .f64 a, .float .f64 b] w fun e w' => e = .returned (.tuple #[.float .f64 (p : Nat × Bool).1, .bool p.2]) ∧ w' = w) ∧ (∀ w, Calls Try.prog 26 #[.int .i64 0, .float .f64 b, .float .f64 a] w fun e w' => e = .returned (.tuple #[.float .f64 p.1, .bool p.2]) ∧ w' = w)) ∧
    (∃ p, (p.2 = true → (FloatKind.f64.format.order p.1 a == some .eq) = true) ∧ (∀ w, Calls Try.prog 26 #[.int .i64 2, .float .f64 a, .float .f64 0] w fun e w' => e = .returned (.tuple #[.float .f64 (p : Nat × Bool).1, .bool p.2]) ∧ w' = w) ∧ (∀ w, Calls Try.prog 26 #[.int .i64 2, .float .f64 a, .float .f64 9223372036854775808] w fun e w' => e = .returned (.tuple #[.float .f64 p.1, .bool p.2]) ∧ w' = w)) := by
  have fa := fopp_parts ha
  have fb := fopp_parts hb
  have ia := fopp_fin ha
  have ib := fopp_fin hb
  refine ⟨?_, ?_, ?_⟩
  · obtain ⟨E, hE⟩ : ∃ E : Nat, E = 1074 := ⟨_, rfl⟩
    obtain ⟨p, p1, p2, pc⟩ := div_any 0 a b ha hb
    obtain ⟨q, q1, q2, qc⟩ := div_any 0 (fopp a) (fopp b) fa.2.2 fb.2.2
    by_cases hf : Fin a ∧ Fin b ∧ frung b ≠ 0
    · have h1 := p1 hf.1 hf.2.1 hf.2.2 E hE
      have h2 := q1 (ia.2 hf.1) (ib.2 hf.2.1) (by rw [fb.1]; exact hf.2.2) E hE
      rw [fa.1, fb.1, fa.2.1, fb.2.1, show ((!fneg a) ^^ (!fneg b)) = (fneg a ^^ fneg b) by cases fneg a <;> cases fneg b <;> rfl] at h2
      obtain rfl := h1.uniq h2
      exact ⟨p, (tell_fin h1).1, pc, qc⟩
    · have e1 := p2 hf
      have e2 := q2 (by rw [ia, ib, fb.1]; exact hf)
      subst e1 e2
      exact ⟨(0, false), by decide, pc, qc⟩
  · obtain ⟨p, p1, p2, pc⟩ := add_any 0 a b ha hb
    obtain ⟨q, q1, q2, qc⟩ := add_any 0 b a hb ha
    by_cases hf : Fin a ∧ Fin b
    · have h1 := p1 hf.1 hf.2
      have h2 := q1 hf.2 hf.1
      rw [Int.add_comm] at h2
      obtain rfl := h1.uniq h2
      exact ⟨p, (rndZ_fin h1).1, pc, qc⟩
    · have e1 := p2 hf
      have e2 := q2 (fun h => hf ⟨h.2, h.1⟩)
      subst e1 e2
      exact ⟨(0, false), by decide, pc, qc⟩
  · obtain ⟨p, p1, p2, pc⟩ := add_any 2 a 0 ha (by decide)
    obtain ⟨q, q1, q2, qc⟩ := add_any 2 a 9223372036854775808 ha (by decide)
    have z1 : Fin 0 := by decide
    have z2 : Fin 9223372036854775808 := by decide
    by_cases hf : Fin a
    · have h1 := p1 hf z1
      have h2 := q1 hf z2
      have v1 : fval 0 = 0 := by decide
      have v2 : fval 9223372036854775808 = 0 := by decide
      rw [v1, Int.add_zero] at h1
      rw [v2, Int.add_zero] at h2
      obtain rfl := h1.uniq h2
      refine ⟨p, fun _ => ?_, pc, qc⟩
      have h3 := h1
      unfold RndZ at h3
      rw [fval_abs, show rmag (frung a) = rmag (frung a) * 1 from (Nat.mul_one _).symm] at h3
      have e := rnd_exact hf h3
      rw [if_pos (.inr (.inr rfl))] at e
      rw [e]
      have sp := sgn_parts (decide (fval a < 0)) hf
      rw [f64_fmt, ord_eq (by rw [sp.1]; exact Nat.le_of_lt hf) (Nat.le_of_lt hf)]
      apply decide_eq_true
      rw [sp.2.2.2]
      have hr := le_rmag (frung a)
      unfold fval srung
      cases fneg a
      · simp; omega
      · simp only [if_true]
        by_cases h0 : frung a = 0
        · rw [h0]; decide
        · simp; omega
    · have e1 := p2 (fun h => hf h.1)
      have e2 := q2 (fun h => hf h.1)
      subst e1 e2
      exact ⟨(0, false), by simp, pc, qc⟩

end Go.Proofs.Ytepdhbhpiehigab
