import Derived.Test.YtgjdmenmegnacabRL
import Derived.Test.YtgjdmenmegnacabPrt
namespace Go.Proofs.Ytgjdmenmegnacab
open Go.RowKit
set_option linter.unusedVariables false

theorem mul_rndZq {d : Int} {a b E : Nat} {p : Nat × Bool} (h : Rnd d (fneg a ^^ fneg b) (rmag (frung a) * rmag (frung b)) (2 ^ E) p) : RndZ d (fval a * fval b) (2 ^ E) p := by
  have hz : (fval a * fval b).natAbs = rmag (frung a) * rmag (frung b) := by rw [Int.natAbs_mul, fval_abs, fval_abs]
  rw [← hz] at h
  refine h.toZ (fun hne => ?_)
  have h1 := fval_signs a
  have h2 := fval_signs b
  have h3 := mul_sign h1 h2
  cases hh : (fneg a ^^ fneg b)
  · have := h3.2 hh; exact (decide_eq_false (by omega)).symm
  · have := h3.1 hh; exact (decide_eq_true (by omega)).symm
theorem ord_bne {x y : Nat} (hx : frung x ≤ infK) (hy : frung y ≤ infK) : (FloatKind.f64.format.order x y != some .eq) = !decide (srung x = srung y) := by
  rw [f64_fmt]; unfold bne; rw [ord_eq hx hy]
set_option maxRecDepth 100000 in
theorem prod2_any (a b : Nat) (ha : a < 18446744073709551616) (hb : b < 18446744073709551616) {E : Nat} (hE : E = 1074) : ∃ u v o, (Fin a ∧ Fin b → Rest (fval a * fval b) (2 ^ E) u v o) ∧ (¬ (Fin a ∧ Fin b) → u = 0 ∧ v = 0 ∧ o = false) ∧
    ∀ w, Calls Try.prog 26 #[.float .f64 a, .float .f64 b] w fun e w' => e = .returned (.tuple #[.float .f64 u, .float .f64 v, .bool o]) ∧ w' = w := by
  obtain ⟨⟨p, ok⟩, h1, h2, c1⟩ := mul_any 0 a b ha hb
  simp only at c1
  by_cases hf : Fin a ∧ Fin b
  · obtain ⟨hfa, hfb⟩ := hf
    have hR := mul_rndZq (h1 hfa hfb E hE)
    clear h1 h2
    cases ok
    · refine ⟨0, 0, false, fun _ => .inl ⟨p, hR, rfl, rfl, rfl⟩, fun h => absurd ⟨hfa, hfb⟩ h, fun w => ?_⟩
      clear hR
      go_enter Try.func26, Try.ntmps26
      go_wp2_with (go_at_call 28; refine (c1 _).mono ?_; rintro e w' ⟨rfl, rfl⟩)
      all_goals (go_ret3; exact ⟨rfl, rfl⟩)
    · obtain ⟨hpf, hpl⟩ := tell_fin hR
      simp only at hpf hpl
      have hpi : frung p ≤ infK := Nat.le_of_lt hpf
      obtain ⟨fa, A, ea, Fa, hla, ca⟩ := frexp_any a ha hfa
      obtain ⟨fb, B, eb, Fb, hlb, cb⟩ := frexp_any b hb hfb
      have l1 := Fa.lo
      have l2 := Fa.hi
      have l3 := Fb.lo
      have l4 := Fb.hi
      obtain ⟨p', hw1, hw2, hpl', cl⟩ := ldexp_any p (-(ea + eb)) hpl (by omega) hpi
      obtain ⟨high, low, dd, r, hP, hd, hdi, hr, hrf, hrl, hall⟩ := prod_rest hfa hfb Fa Fb splitter_sc hE hR (hw1 hpf)
      have cr := fun w => productRest_any (p := p) (hdi := hdi) (ba := ⟨l1, l2⟩) (bb := ⟨l3, l4⟩) (hab := fun _ => trivial) ca cb cl hP hd w
      rw [← hr] at cr
      have hri : frung r ≤ infK := Nat.le_of_lt hrf
      obtain ⟨e, he1, -, hel, ce⟩ := ldexp_any r (ea + eb) hrl (by omega) hri
      have heR : frung e ≤ infK := by
        obtain ⟨R, -, h5, -, -⟩ := Rn.rung (he1 hrf)
        rw [h5]; exact Nat.min_le_right ..
      obtain ⟨bk, hk1, hk2, hkl, cb2⟩ := ldexp_any e (-(ea + eb)) hel (by omega) heR
      obtain ⟨t1, t2, t3, t4, t5⟩ := hall e bk (he1 hrf) hk1 hk2
      have hcmp := ord_bne t1 hri
      obtain ⟨n, hn⟩ : ∃ n, ea + eb = n := ⟨_, rfl⟩
      rw [hn] at cr ce cb2
      have hnb : -2200 ≤ n ∧ n ≤ 2200 := by omega
      clear hd hP hw1 hw2 Fa Fb ca cb cl hall he1 hk1 hk2 hR hn hr
      by_cases hs : srung bk = srung r
      · rw [decide_eq_true hs] at hcmp
        simp only [Bool.not_true] at hcmp
        refine ⟨p, plainM e, true, fun _ => t4 hs, fun h => absurd ⟨hfa, hfb⟩ h, fun w => ?_⟩
        clear t4 t5 hs
        go_enter Try.func26, Try.ntmps26
        go_wp2_with (first
          | (go_at_call 28; refine (c1 _).mono ?_; rintro ee w' ⟨rfl, rfl⟩)
          | (go_at_call 44; refine (cr _).mono ?_; rintro ee w' ⟨rfl, rfl⟩)
          | (go_at_call_of 45 (Value.float FloatKind.f64 r); refine (ce _).mono ?_; rintro ee w' ⟨rfl, rfl⟩)
          | (go_at_call_of 45 (Value.float FloatKind.f64 e); refine (cb2 _).mono ?_; rintro ee w' ⟨rfl, rfl⟩)
          | (go_at_call 42; refine (plain_any e hel heR _).mono ?_; rintro ee w' ⟨rfl, rfl⟩))
        all_goals (go_ret3; exact ⟨rfl, rfl⟩)
      · rw [decide_eq_false hs] at hcmp
        simp only [Bool.not_false] at hcmp
        refine ⟨0, 0, false, fun _ => t5 hs, fun h => absurd ⟨hfa, hfb⟩ h, fun w => ?_⟩
        clear t4 t5 hs
        go_enter Try.func26, Try.ntmps26
        go_wp2_with (first
          | (go_at_call 28; refine (c1 _).mono ?_; rintro ee w' ⟨rfl, rfl⟩)
          | (go_at_call 44; refine (cr _).mono ?_; rintro ee w' ⟨rfl, rfl⟩)
          | (go_at_call_of 45 (Value.float FloatKind.f64 r); refine (ce _).mono ?_; rintro ee w' ⟨rfl, rfl⟩)
          | (go_at_call_of 45 (Value.float FloatKind.f64 e); refine (cb2 _).mono ?_; rintro ee w' ⟨rfl, rfl⟩)
          | (go_at_call 42; refine (plain_any e hel heR _).mono ?_; rintro ee w' ⟨rfl, rfl⟩))
        all_goals (go_ret3; exact ⟨rfl, rfl⟩)
  · have e := h2 hf
    simp only [Prod.mk.injEq] at e
    obtain ⟨rfl, rfl⟩ := e
    clear h1 h2
    refine ⟨0, 0, false, fun h => absurd h hf, fun _ => ⟨rfl, rfl, rfl⟩, fun w => ?_⟩
    go_enter Try.func26, Try.ntmps26
    go_wp2_with (go_at_call 28; refine (c1 _).mono ?_; rintro e w' ⟨rfl, rfl⟩)
    all_goals (go_ret3; exact ⟨rfl, rfl⟩)
end Go.Proofs.Ytgjdmenmegnacab
