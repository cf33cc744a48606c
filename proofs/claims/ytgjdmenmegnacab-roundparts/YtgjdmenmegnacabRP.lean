import Derived.Test.YtgjdmenmegnacabRL
namespace Go.Proofs.Ytgjdmenmegnacab
open Go.RowKit
set_option linter.unusedVariables false

theorem near_of {V : Int} {p s : Nat} {g : Bool} (h : RndZ 0 V 1 (p, true)) (hg : Rn g V.natAbs 1 s) (hsg : V ≠ 0 → g = decide (V < 0)) : Fin s ∧ fval p = fval s ∧ Fin p ∧ p < 18446744073709551616 := by
  have hp := tell_fin h
  obtain ⟨R, hR, h1, h2, h3⟩ := hg.rung
  obtain ⟨R', hR', h4⟩ := h
  have e := hR'.uniq hR
  subst e
  unfold tellK at h4
  rw [if_pos rfl] at h4
  by_cases hb : nearK V.natAbs 1 R' < infK
  · rw [if_pos hb] at h4
    simp only [Prod.mk.injEq, and_true] at h4
    rw [Nat.min_eq_left (by omega)] at h1
    refine ⟨by unfold Fin; rw [h1]; exact hb, ?_, hp⟩
    have hs := sgn_parts (decide (V < 0)) hb
    rw [← h4] at hs
    by_cases h0 : V = 0
    · subst h0
      have hz : Int.natAbs 0 = 0 := rfl
      rw [hz] at hR' h1 hs
      have := fl_zero hR'
      subst this
      have hn : nearK 0 1 0 = 0 := nearK_exact (by rw [rmag_zero]) (by decide)
      rw [hn] at h1 hs
      unfold fval
      rw [h1, hs.1, rmag_zero]
      split <;> split <;> rfl
    · rw [fval_smag, fval_smag, hs.2.2.2]
      congr 1
      unfold srung
      rw [h1, h2, hsg h0]
  · rw [if_neg hb] at h4; simp at h4
set_option maxRecDepth 100000 in
theorem sum2_any (a b : Nat) (ha : a < 18446744073709551616) (hb : b < 18446744073709551616) : ∃ u v o, (Fin a ∧ Fin b → Rest (fval a + fval b) 1 u v o) ∧ (¬ (Fin a ∧ Fin b) → u = 0 ∧ v = 0 ∧ o = false) ∧
    ∀ w, Calls Try.prog 25 #[.float .f64 a, .float .f64 b] w fun e w' => e = .returned (.tuple #[.float .f64 u, .float .f64 v, .bool o]) ∧ w' = w := by
  obtain ⟨⟨p, ok⟩, h1, h2, c1⟩ := add_any 0 a b ha hb
  simp only at c1
  by_cases hf : Fin a ∧ Fin b
  · have hR := h1 hf.1 hf.2
    clear h1 h2
    cases ok
    · refine ⟨0, 0, false, fun _ => .inl ⟨p, hR, rfl, rfl, rfl⟩, fun h => absurd hf h, fun w => ?_⟩
      clear hR
      go_enter Try.func25, Try.ntmps25
      go_wp2_with (go_at_call 27; refine (c1 _).mono ?_; rintro e w' ⟨rfl, rfl⟩)
      all_goals (go_ret3; exact ⟨rfl, rfl⟩)
    · have key : ∃ x y t r, (x, y) = (if frung a < frung b then (b, a) else (a, b)) ∧ Ieee.double.sub p x = some t ∧ Ieee.double.sub y t = some r ∧ Fin r ∧ fval r = fval a + fval b - fval p := by
        have go : ∀ x y, Fin x → Fin y → frung y ≤ frung x → fval x + fval y = fval a + fval b → ∃ t r, Ieee.double.sub p x = some t ∧ Ieee.double.sub y t = some r ∧ Fin r ∧ fval r = fval a + fval b - fval p := by
          intro x y hx hy hle hs
          obtain ⟨s', hs', g', hg', hsg'⟩ := add_fin hx hy
          rw [hs] at hg' hsg'
          obtain ⟨n1, n2, n3, n4⟩ := near_of hR hg' hsg'
          obtain ⟨t, r, t1, t2, t3, t4⟩ := sum_rest_v hx hy hle hs' n1 n3 n2
          exact ⟨t, r, t1, t2, t3, by rw [t4, hs, n2]⟩
        by_cases h : frung a < frung b
        · obtain ⟨t, r, t1, t2, t3, t4⟩ := go b a hf.2 hf.1 (by omega) (Int.add_comm ..)
          exact ⟨b, a, t, r, by rw [if_pos h], t1, t2, t3, t4⟩
        · obtain ⟨t, r, t1, t2, t3, t4⟩ := go a b hf.1 hf.2 (by omega) rfl
          exact ⟨a, b, t, r, by rw [if_neg h], t1, t2, t3, t4⟩
      obtain ⟨x, y, t, r, hxy, t1, t2, t3, t4⟩ := key
      have hrl : r < 18446744073709551616 := Ieee.Format.sub_lt _ t2
      refine ⟨p, plainM r, true, fun _ => Rest.of_num (by decide) hR hrl t3 (by rw [t4]; omega), fun h => absurd hf h, fun w => ?_⟩
      have HX : Hid _ := hxy
      have H1 : Hid _ := t1
      have H2 : Hid _ := t2
      have hfr : frung r ≤ infK := Nat.le_of_lt t3
      clear hR hxy t1 t2 t4
      go_enter Try.func25, Try.ntmps25
      go_wp2_with (first
        | (go_at_call 27; refine (c1 _).mono ?_; rintro e w' ⟨rfl, rfl⟩)
        | (go_at_call 43; refine (sumRest_any ha hb HX.out H1.out H2.out hf.1 hf.2 _).mono ?_; rintro e w' ⟨rfl, rfl⟩)
        | (go_at_call 42; refine (plain_any r hrl hfr _).mono ?_; rintro e w' ⟨rfl, rfl⟩))
      all_goals (go_ret3; exact ⟨rfl, rfl⟩)
  · have e := h2 hf
    simp only [Prod.mk.injEq] at e
    obtain ⟨rfl, rfl⟩ := e
    clear h1 h2
    refine ⟨0, 0, false, fun h => absurd h hf, fun _ => ⟨rfl, rfl, rfl⟩, fun w => ?_⟩
    go_enter Try.func25, Try.ntmps25
    go_wp2_with (go_at_call 27; refine (c1 _).mono ?_; rintro e w' ⟨rfl, rfl⟩)
    all_goals (go_ret3; exact ⟨rfl, rfl⟩)
end Go.Proofs.Ytgjdmenmegnacab
