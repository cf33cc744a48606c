import Derived.Test.YtigaggkipmcgeaaRL
namespace Go.Proofs.Ytigaggkipmcgeaa
open Go.RowKit
set_option linter.unusedVariables false

theorem sub_any (d : Int) (a b : Nat) (ha : a < 18446744073709551616) (hb : b < 18446744073709551616) : ∃ p, (Fin a → Fin b → RndZ d (fval a - fval b) 1 p) ∧ (¬ (Fin a ∧ Fin b) → p = (0, false)) ∧
    ∀ w, Calls Try.prog 92 #[.int .i64 d, .float .f64 a, .float .f64 b] w fun e w' => e = .returned (.tuple #[.float .f64 p.1, .bool p.2]) ∧ w' = w := by
  have fb := fopp_parts hb
  obtain ⟨p, h1, h2, c⟩ := add_any d a (fopp b) ha fb.2.2
  have hff : Fin (fopp b) ↔ Fin b := by unfold Fin; rw [fb.1]
  refine ⟨p, fun h3 h4 => ?_, fun h => h2 (by rw [hff]; exact h), fun w => ?_⟩
  · have := h1 h3 (hff.2 h4)
    rw [fopp_fval hb] at this
    exact this
  · have hn := run_neg b
    go_enter Try.func92, Try.ntmps92
    go_wp2_with (go_at_call 121; refine (c _).mono ?_; rintro e w' ⟨rfl, rfl⟩)
    go_ret2
    exact ⟨rfl, rfl⟩
/-- Up and down are each other, turned. -/
theorem rnd_turn {neg : Bool} {n D : Nat} {p q : Nat × Bool} (h1 : Rnd 1 neg n D p) (h2 : Rnd 2 (!neg) n D q) : p.2 = q.2 ∧ srung p.1 = -srung q.1 := by
  obtain ⟨R, hR, rfl⟩ := h1
  obtain ⟨R', hR', rfl⟩ := h2
  rw [hR'.uniq hR]
  have hz : srung 0 = 0 := by decide
  have hi : 0 < infK := by decide
  cases neg
  · have t1 : tellK 1 false n D R = if upK n D R < infK then (sgnK false (upK n D R), true) else (0, false) := by unfold tellK; simp
    have t2 : tellK 2 (!false) n D R = if upK n D R < infK then (sgnK true (upK n D R), true) else (0, false) := by unfold tellK; simp
    rw [t1, t2]
    by_cases hlt : upK n D R < infK
    · rw [if_pos hlt, if_pos hlt, (sgn_parts false hlt).2.2.2, (sgn_parts true hlt).2.2.2]; simp
    · rw [if_neg hlt, if_neg hlt, hz]; simp
  · have t1 : tellK 1 true n D R = (sgnK true (min R (infK - 1)), true) := by unfold tellK; simp
    have t2 : tellK 2 (!true) n D R = (sgnK false (min R (infK - 1)), true) := by unfold tellK; simp
    have hlt : min R (infK - 1) < infK := by omega
    rw [t1, t2, (sgn_parts false hlt).2.2.2, (sgn_parts true hlt).2.2.2]; simp
theorem rndZ_turn {V V' : Int} {D : Nat} {p q : Nat × Bool} (h1 : RndZ 1 V D p) (h2 : RndZ 2 V' D q) (hv : V' = -V) : p.2 = q.2 ∧ srung p.1 = -srung q.1 := by
  subst hv
  unfold RndZ at h1 h2
  rw [Int.natAbs_neg] at h2
  refine rnd_turn h1 ?_
  by_cases h0 : V = 0
  · subst h0
    obtain ⟨R, hR, e⟩ := h2
    have := fl_zero hR
    subst this
    exact ⟨0, hR, by rw [e]; exact tell_zero _ _ _ _ hR.pos⟩
  · have : (!decide (V < 0)) = decide (-V < 0) := by
      by_cases hn : V < 0
      · simp [hn]; omega
      · simp [hn]; omega
    rw [this]; exact h2
/-- p told of the one and q of the turned one: alike in all that is asked. -/
def Turn (p q : Nat × Bool) : Prop := p.2 = q.2 ∧ srung p.1 = -srung q.1 ∧ Fin p.1 ∧ Fin q.1 ∧ q.1 < 18446744073709551616
theorem Turn.none : Turn (0, false) (0, false) := ⟨rfl, rfl, by decide, by decide, by decide⟩
theorem Turn.ne {p q : Nat × Bool} (h : Turn p q) : (FloatKind.f64.format.order p.1 (fopp q.1) != some .eq) = false := by
  have hf : Fin (fopp q.1) := by unfold Fin; rw [(fopp_parts h.2.2.2.2).1]; exact h.2.2.2.1
  rw [ord_ne h.2.2.1 hf, fopp_srung h.2.2.2.2, h.2.1]
  simp
theorem rndZ_fin {d : Int} {V : Int} {D : Nat} {p : Nat × Bool} (h : RndZ d V D p) : Fin p.1 ∧ p.1 < 18446744073709551616 := tell_fin h
end Go.Proofs.Ytigaggkipmcgeaa
