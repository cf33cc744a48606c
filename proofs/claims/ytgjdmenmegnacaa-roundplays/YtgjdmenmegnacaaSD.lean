import Derived.Test.YtgjdmenmegnacaaSC
import Derived.Test.YtgjdmenmegnacaaRO
import Derived.Test.YtgjdmenmegnacaaRM
import Derived.Test.YtgjdmenmegnacaaNM
namespace Go.Proofs.Ytgjdmenmegnacaa
open Go.RowKit
set_option linter.unusedVariables false

theorem refNumber_any (u : Nat) (hu : u < 18446744073709551616) (w : World) : Calls Try.prog 9 #[.int .u64 u] w fun e w' => e = .returned (.bool (decide (Fin u))) ∧ w' = w := by
  obtain ⟨E, hE⟩ : ∃ E : Nat, u / 4503599627370496 % 2048 = E := ⟨_, rfl⟩
  have fE : bits .and .u64 ((u : Int) / 4503599627370496) 2047 = (E : Int) := by
    have k := u64_and_nat (u / 4503599627370496) 2047 (by omega) (by decide)
    rw [show ((2047 : Nat) : Int) = 2047 from rfl] at k
    rw [show (u : Int) / 4503599627370496 = ((u / 4503599627370496 : Nat) : Int) by omega, k, and_2047, hE]
  have hF : Fin u ↔ E ≠ 2047 := by
    unfold Fin infK frung; omega
  by_cases h : E = 2047
  · have hd : decide (Fin u) = false := decide_eq_false (by rw [hF]; omega)
    have hb : ((E : Int) != 2047) = false := by rw [bne_eq_false_iff_eq]; omega
    rw [hd]
    clear hF hE
    go_enter Try.func9, Try.ntmps9
    go_wp2
    go_ret
    exact ⟨rfl, rfl⟩
  · have hd : decide (Fin u) = true := decide_eq_true (by rw [hF]; omega)
    have hb : ((E : Int) != 2047) = true := by rw [bne_iff_ne]; omega
    rw [hd]
    clear hF hE
    go_enter Try.func9, Try.ntmps9
    go_wp2
    go_ret
    exact ⟨rfl, rfl⟩
theorem mul_rndZ {d : Int} {a b E : Nat} {p : Nat × Bool} (h : Rnd d (fneg a ^^ fneg b) (rmag (frung a) * rmag (frung b)) (2 ^ E) p) : RndZ d (fval a * fval b) (2 ^ E) p := by
  have hz : (fval a * fval b).natAbs = rmag (frung a) * rmag (frung b) := by rw [Int.natAbs_mul, fval_abs, fval_abs]
  rw [← hz] at h
  refine h.toZ (fun hne => ?_)
  have h1 := fval_signs a
  have h2 := fval_signs b
  have h3 := mul_sign h1 h2
  cases hh : (fneg a ^^ fneg b)
  · have := h3.2 hh; exact (decide_eq_false (by omega)).symm
  · have := h3.1 hh; exact (decide_eq_true (by omega)).symm
set_option maxRecDepth 100000 in
set_option maxHeartbeats 1000000 in
theorem one0_any (d : Int) (a b : Nat) (n : Int) (ha : a < 18446744073709551616) (hb : b < 18446744073709551616) (hd0 : -9223372036854775808 ≤ d) (hd1 : d ≤ 9223372036854775807) (w : World) :
    Calls Try.prog 11 #[.int .i64 0, .int .i64 d, .float .f64 a, .float .f64 b, .int .i64 n] w fun e w' => e = .returned (.bool true) ∧ Below w.heap.size w w' := by
  obtain ⟨E, hE⟩ : ∃ E : Nat, E = 1074 := ⟨_, rfl⟩
  obtain ⟨⟨p, o⟩, h1, h2, c1⟩ := next_any d a ha
  simp only at c1
  have HE : Hid (∀ (q : Nat) (r : Bool), (Fin a → RndZ d (fval a * 64 + sideOf d) 64 (q, r)) → (¬ (Fin a) → (q, r) = (0, false)) → q = p ∧ r = o) := by
    intro q r k1 k2
    by_cases hf : Fin a
    · have := RndZ.uniq (k1 hf) (h1 hf)
      simp only [Prod.mk.injEq] at this
      exact this
    · have e1 := h2 hf
      have e2 := k2 hf
      simp only [Prod.mk.injEq] at e1 e2
      exact ⟨by rw [e1.1, e2.1], by rw [e1.2, e2.2]⟩
  clear h1 h2
  go_enter Try.func11, Try.ntmps11
  go_wp2_with (first
    | (go_at_call_of 10 (Value.float FloatKind.f64 a); refine (bits_any a _).mono ?_; rintro e w' ⟨rfl, rfl⟩)
    | (go_at_call_of 10 (Value.float FloatKind.f64 b); refine (bits_any b _).mono ?_; rintro e w' ⟨rfl, rfl⟩)
    | (go_at_call 20; refine (c1 _).mono ?_; rintro e w' ⟨rfl, rfl⟩)
    | (go_at_call 21; refine (refNext_any d a ha hd0 hd1 _ E hE).mono ?_; rintro e w' ⟨q, r, rfl, k1, k2, hb1⟩; obtain ⟨rfl, rfl⟩ := HE.out q r k1 k2)
    | (go_at_call 15; refine (same_true _ _ _).mono ?_; rintro e w'' ⟨rfl, rfl⟩))
  all_goals (go_ret; exact ⟨rfl, hb1⟩)
set_option maxRecDepth 100000 in
set_option maxHeartbeats 1000000 in
theorem one1_any (d : Int) (a b : Nat) (n : Int) (ha : a < 18446744073709551616) (hb : b < 18446744073709551616) (hd0 : -9223372036854775808 ≤ d) (hd1 : d ≤ 9223372036854775807) (w : World) :
    Calls Try.prog 11 #[.int .i64 1, .int .i64 d, .float .f64 a, .float .f64 b, .int .i64 n] w fun e w' => e = .returned (.bool true) ∧ Below w.heap.size w w' := by
  obtain ⟨E, hE⟩ : ∃ E : Nat, E = 1074 := ⟨_, rfl⟩
  obtain ⟨⟨p, o⟩, h1, h2, c1⟩ := add_any d a b ha hb
  simp only at c1
  have HE : Hid (∀ (q : Nat) (r : Bool), (Fin a ∧ Fin b → RndZ d (fval a + fval b) 1 (q, r)) → (¬ (Fin a ∧ Fin b) → (q, r) = (0, false)) → q = p ∧ r = o) := by
    intro q r k1 k2
    by_cases hf : Fin a ∧ Fin b
    · have := RndZ.uniq (k1 hf) (h1 hf.1 hf.2)
      simp only [Prod.mk.injEq] at this
      exact this
    · have e1 := h2 hf
      have e2 := k2 hf
      simp only [Prod.mk.injEq] at e1 e2
      exact ⟨by rw [e1.1, e2.1], by rw [e1.2, e2.2]⟩
  clear h1 h2
  go_enter Try.func11, Try.ntmps11
  go_wp2_with (first
    | (go_at_call_of 10 (Value.float FloatKind.f64 a); refine (bits_any a _).mono ?_; rintro e w' ⟨rfl, rfl⟩)
    | (go_at_call_of 10 (Value.float FloatKind.f64 b); refine (bits_any b _).mono ?_; rintro e w' ⟨rfl, rfl⟩)
    | (go_at_call 22; refine (c1 _).mono ?_; rintro e w' ⟨rfl, rfl⟩)
    | (go_at_call 23; refine (refAdd_any d a b ha hb hd0 hd1 _ E hE).mono ?_; rintro e w' ⟨q, r, rfl, k1, k2, hb1⟩; obtain ⟨rfl, rfl⟩ := HE.out q r k1 k2)
    | (go_at_call 15; refine (same_true _ _ _).mono ?_; rintro e w'' ⟨rfl, rfl⟩))
  all_goals (go_ret; exact ⟨rfl, hb1⟩)
set_option maxRecDepth 100000 in
set_option maxHeartbeats 1000000 in
theorem one2_any (d : Int) (a b : Nat) (n : Int) (ha : a < 18446744073709551616) (hb : b < 18446744073709551616) (hd0 : -9223372036854775808 ≤ d) (hd1 : d ≤ 9223372036854775807) (w : World) :
    Calls Try.prog 11 #[.int .i64 2, .int .i64 d, .float .f64 a, .float .f64 b, .int .i64 n] w fun e w' => e = .returned (.bool true) ∧ Below w.heap.size w w' := by
  obtain ⟨E, hE⟩ : ∃ E : Nat, E = 1074 := ⟨_, rfl⟩
  obtain ⟨⟨p, o⟩, h1, h2, c1⟩ := sub_any d a b ha hb
  simp only at c1
  have HE : Hid (∀ (q : Nat) (r : Bool), (Fin a ∧ Fin b → RndZ d (fval a - fval b) 1 (q, r)) → (¬ (Fin a ∧ Fin b) → (q, r) = (0, false)) → q = p ∧ r = o) := by
    intro q r k1 k2
    by_cases hf : Fin a ∧ Fin b
    · have := RndZ.uniq (k1 hf) (h1 hf.1 hf.2)
      simp only [Prod.mk.injEq] at this
      exact this
    · have e1 := h2 hf
      have e2 := k2 hf
      simp only [Prod.mk.injEq] at e1 e2
      exact ⟨by rw [e1.1, e2.1], by rw [e1.2, e2.2]⟩
  clear h1 h2
  go_enter Try.func11, Try.ntmps11
  go_wp2_with (first
    | (go_at_call_of 10 (Value.float FloatKind.f64 a); refine (bits_any a _).mono ?_; rintro e w' ⟨rfl, rfl⟩)
    | (go_at_call_of 10 (Value.float FloatKind.f64 b); refine (bits_any b _).mono ?_; rintro e w' ⟨rfl, rfl⟩)
    | (go_at_call 24; refine (c1 _).mono ?_; rintro e w' ⟨rfl, rfl⟩)
    | (go_at_call 25; refine (refSub_any d a b ha hb hd0 hd1 _ E hE).mono ?_; rintro e w' ⟨q, r, rfl, k1, k2, hb1⟩; obtain ⟨rfl, rfl⟩ := HE.out q r k1 k2)
    | (go_at_call 15; refine (same_true _ _ _).mono ?_; rintro e w'' ⟨rfl, rfl⟩))
  all_goals (go_ret; exact ⟨rfl, hb1⟩)
set_option maxRecDepth 100000 in
set_option maxHeartbeats 1000000 in
theorem one3_any (d : Int) (a b : Nat) (n : Int) (ha : a < 18446744073709551616) (hb : b < 18446744073709551616) (hd0 : -9223372036854775808 ≤ d) (hd1 : d ≤ 9223372036854775807) (w : World) :
    Calls Try.prog 11 #[.int .i64 3, .int .i64 d, .float .f64 a, .float .f64 b, .int .i64 n] w fun e w' => e = .returned (.bool true) ∧ Below w.heap.size w w' := by
  obtain ⟨E, hE⟩ : ∃ E : Nat, E = 1074 := ⟨_, rfl⟩
  obtain ⟨⟨p, o⟩, h1, h2, c1⟩ := mul_any d a b ha hb
  simp only at c1
  have HE : Hid (∀ (q : Nat) (r : Bool), (Fin a ∧ Fin b → RndZ d (fval a * fval b) (2 ^ E) (q, r)) → (¬ (Fin a ∧ Fin b) → (q, r) = (0, false)) → q = p ∧ r = o) := by
    intro q r k1 k2
    by_cases hf : Fin a ∧ Fin b
    · have := RndZ.uniq (k1 hf) (mul_rndZ (h1 hf.1 hf.2 E hE))
      simp only [Prod.mk.injEq] at this
      exact this
    · have e1 := h2 hf
      have e2 := k2 hf
      simp only [Prod.mk.injEq] at e1 e2
      exact ⟨by rw [e1.1, e2.1], by rw [e1.2, e2.2]⟩
  clear h1 h2
  go_enter Try.func11, Try.ntmps11
  go_wp2_with (first
    | (go_at_call_of 10 (Value.float FloatKind.f64 a); refine (bits_any a _).mono ?_; rintro e w' ⟨rfl, rfl⟩)
    | (go_at_call_of 10 (Value.float FloatKind.f64 b); refine (bits_any b _).mono ?_; rintro e w' ⟨rfl, rfl⟩)
    | (go_at_call 26; refine (c1 _).mono ?_; rintro e w' ⟨rfl, rfl⟩)
    | (go_at_call 27; refine (refMul_any d a b ha hb hd0 hd1 _ E hE).mono ?_; rintro e w' ⟨q, r, rfl, k1, k2, hb1⟩; obtain ⟨rfl, rfl⟩ := HE.out q r k1 k2)
    | (go_at_call 15; refine (same_true _ _ _).mono ?_; rintro e w'' ⟨rfl, rfl⟩))
  all_goals (go_ret; exact ⟨rfl, hb1⟩)
end Go.Proofs.Ytgjdmenmegnacaa
