import Derived.Test.YtgjdmenmegnacabPur
namespace Go.Proofs.Ytgjdmenmegnacab
open Ieee
set_option linter.unusedVariables false

theorem rmag_shift {r : Nat} (t : Nat) (h : 4503599627370496 ≤ r) : rmag (r + t * 4503599627370496) = rmag r * 2 ^ t := by
  obtain ⟨e, k, hr, hek, hk, he⟩ := rmag_parts r
  have hk2 : 4503599627370496 ≤ k := by rcases hek with h1 | h1 <;> omega
  have e1 := rmag_form e k (.inr hk2) (by omega)
  have e2 := rmag_form (e + t) k (.inr hk2) (by omega)
  rw [show r + t * 4503599627370496 = (e + t) * 4503599627370496 + k by omega, e2, hr, e1, Nat.pow_add, Nat.mul_assoc]
theorem fl_shift {N D R : Nat} (t : Nat) (hR : Fl N D R) (h : 4503599627370496 ≤ R) : Fl (N * 2 ^ t) D (R + t * 4503599627370496) ∧ nearK (N * 2 ^ t) D (R + t * 4503599627370496) = nearK N D R + t * 4503599627370496 := by
  have hp := Nat.two_pow_pos t
  have e1 := rmag_shift t h
  have e2 : rmag (R + t * 4503599627370496 + 1) = rmag (R + 1) * 2 ^ t := by
    have := rmag_shift t (show 4503599627370496 ≤ R + 1 by omega)
    rw [← this]; congr 1; omega
  have c1 : ∀ x, x * 2 ^ t * D = x * D * 2 ^ t := fun x => Nat.mul_right_comm ..
  refine ⟨⟨?_, ?_⟩, ?_⟩
  · rw [e1, c1]; exact Nat.mul_le_mul_right _ hR.1
  · rw [e2, c1]; exact Nat.mul_lt_mul_of_pos_right hR.2 hp
  · unfold nearK
    rw [e1, e2, ← Nat.add_mul, c1, ← Nat.mul_assoc 2 N]
    have par : (R + t * 4503599627370496) % 2 = R % 2 := by omega
    rw [par]
    generalize (rmag R + rmag (R + 1)) * D = M
    generalize 2 * N = Y
    have l1 : Y * 2 ^ t < M * 2 ^ t ↔ Y < M := Nat.mul_lt_mul_right hp
    have l2 : Y * 2 ^ t = M * 2 ^ t ↔ Y = M := ⟨fun h => Nat.eq_of_mul_eq_mul_right hp h, fun h => by rw [h]⟩
    by_cases c : Y < M ∨ Y = M ∧ R % 2 = 0
    · rw [if_pos c, if_pos (by rw [l1, l2]; exact c)]
    · rw [if_neg c, if_neg (by rw [l1, l2]; exact c)]; omega
theorem fl_small {R : Nat} (h : R < 4503599627370496) : rmag R = R ∧ rmag (R + 1) = R + 1 := by
  have h1 := rmag_form 0 R (.inl rfl) (by omega)
  have h2 := rmag_form 0 (R + 1) (.inl rfl) (by omega)
  rw [Nat.zero_mul, Nat.zero_add, Nat.pow_zero, Nat.mul_one] at h1 h2
  exact ⟨h1, h2⟩
/-- A rung times a power of 2. -/
theorem rung_up (k t : Nat) : ∃ j, rmag j = rmag k * 2 ^ t := by
  obtain ⟨m, e, hm, hm1, _⟩ := rung_form k
  obtain ⟨j, hj⟩ := rung_some m (e + t) (by omega)
  exact ⟨j, by rw [hj, hm, Nat.pow_add, Nat.mul_assoc]⟩
theorem near_rung {k D R : Nat} (h : Fl (rmag k * D) D R) : R = k ∧ nearK (rmag k * D) D R = k := by
  have hD := h.pos
  have e := h.uniq (Fl.exact k D hD)
  subst e
  exact ⟨rfl, nearK_exact rfl hD⟩
/-- n / D is no number's: so what is told up and down is not the same. -/
theorem Rest.none {z : Int} {D p : Nat} (hD : 0 < D) (h : RndZ 0 z D (p, true)) (hn : ∀ k, (z - fval p * D).natAbs ≠ rmag k * D) : Rest z D 0 0 false := by
  obtain ⟨⟨v1, o1⟩, hx1⟩ : ∃ x, RndZ 1 (z - fval p * D) D x := by obtain ⟨R, hR⟩ := Fl.some (z - fval p * D).natAbs D hD; exact ⟨_, R, hR, rfl⟩
  obtain ⟨⟨v2, o2⟩, hx2⟩ : ∃ x, RndZ 2 (z - fval p * D) D x := by obtain ⟨R, hR⟩ := Fl.some (z - fval p * D).natAbs D hD; exact ⟨_, R, hR, rfl⟩
  refine .inr ⟨p, v1, o1, v2, o2, h, hx1, hx2, .inr ⟨?_, rfl, rfl, rfl⟩⟩
  rintro ⟨rfl, rfl, rfl⟩
  obtain ⟨k, -, hk, -⟩ := rnd_both hx1 hx2 rfl
  exact hn k hk
def sgz (g : Bool) (x : Int) : Int := if g then -x else x
theorem sgz_abs (g : Bool) (x : Int) : (sgz g x).natAbs = x.natAbs := by unfold sgz; split <;> simp
theorem sgz_sub (g : Bool) (x y : Int) : sgz g x - sgz g y = sgz g (x - y) := by unfold sgz; split <;> omega
theorem sgz_mul (g : Bool) (x y : Int) : sgz g x * y = sgz g (x * y) := by unfold sgz; split <;> simp [Int.neg_mul]
theorem fval_sgz (x : Nat) : fval x = sgz (fneg x) (rmag (frung x)) := rfl
theorem sgz_inj {g : Bool} {x y : Int} (h : sgz g x = sgz g y) : x = y := by unfold sgz at h; split at h <;> omega

/-- What the rest of a product comes to, scaled back. r is the rest of the scaled ones, e the rest itself, bk the scaled rest again. -/
theorem rest_scaled {z : Int} {D p r e bk : Nat} {n : Int} (hD : 0 < D) (h : RndZ 0 z D (p, true)) (hr : Fin r) (hrl : r < 18446744073709551616)
    (hrel : (z - fval p * D) * ((2 ^ (-n).toNat : Nat) : Int) = fval r * ((2 ^ n.toNat : Nat) : Int) * D)
    (hbig : (z - fval p * D).natAbs < rmag infK * D)
    (he : Pow r n e) (hb1 : Fin e → Pow e (-n) bk) (hb2 : frung e = infK → bk = e) :
    frung bk ≤ infK ∧ e < 18446744073709551616 ∧ (Fin e) ∧ (srung bk = srung r → Rest z D p (plainM e) true) ∧ (srung bk ≠ srung r → Rest z D 0 0 false) := by
  obtain ⟨Re, hRe, hre1, hre2, hel⟩ := Rn.rung he
  have hrf : frung r < infK := hr
  by_cases hn : 0 ≤ n
  · have hz : (-n).toNat = 0 := by omega
    obtain ⟨t, ht⟩ : ∃ t : Nat, n.toNat = t := ⟨_, rfl⟩
    rw [hz, ht, Nat.pow_zero] at hrel hRe hre1
    obtain ⟨k, hk⟩ := rung_up (frung r) t
    rw [← hk, ← Nat.mul_one (rmag k)] at hRe hre1
    have hkk := near_rung hRe
    rw [hkk.2] at hre1
    have hrel2 : z - fval p * D = fval r * ((2 ^ t : Nat) : Int) * D := by rw [← hrel]; simp
    have hki : k < infK := by
      refine lt_of_rmag ?_
      refine Nat.lt_of_mul_lt_mul_right (a := D) ?_
      rw [hrel2, Int.natAbs_mul, Int.natAbs_mul, fval_abs, Int.natAbs_natCast, Int.natAbs_natCast, ← hk] at hbig
      exact hbig
    rw [Nat.min_eq_left (Nat.le_of_lt hki)] at hre1
    have hfe : Fin e := by unfold Fin; rw [hre1]; exact hki
    have hev : fval e = fval r * ((2 ^ t : Nat) : Int) := by
      rw [fval_sgz, fval_sgz, hre1, hre2, hk, sgz_mul, Int.natCast_mul]
    have hp := hb1 hfe
    unfold Pow at hp
    rw [hz, show (- -n).toNat = t by omega, Nat.pow_zero, Nat.mul_one, hre1, hk] at hp
    obtain ⟨Rb, hRb, hb3, hb4, -⟩ := Rn.rung hp
    have hbb := near_rung hRb
    rw [hbb.2, Nat.min_eq_left (Nat.le_of_lt hrf)] at hb3
    have hs : srung bk = srung r := by unfold srung; rw [hb3, hb4, hre2]
    exact ⟨by rw [hb3]; omega, hel, hfe, fun _ => Rest.of_num hD h hel hfe (by rw [hrel2, hev]), fun c => absurd hs c⟩
  · have hz : n.toNat = 0 := by omega
    obtain ⟨t, ht⟩ : ∃ t : Nat, (-n).toNat = t := ⟨_, rfl⟩
    have hp2 := Nat.two_pow_pos t
    rw [hz, ht, Nat.pow_zero] at hrel
    rw [hz, ht, Nat.pow_zero, Nat.mul_one] at hRe hre1
    have hle : nearK (rmag (frung r)) (2 ^ t) Re ≤ frung r := nearK_le hRe (Nat.le_mul_of_pos_right _ hp2)
    rw [Nat.min_eq_left (by omega)] at hre1
    have hfe : Fin e := by unfold Fin; rw [hre1]; omega
    have hp := hb1 hfe
    unfold Pow at hp
    rw [ht, show (- -n).toNat = 0 by omega, Nat.pow_zero] at hp
    obtain ⟨k, hk⟩ := rung_up (frung e) t
    rw [← hk, ← Nat.mul_one (rmag k)] at hp
    obtain ⟨Rb, hRb, hb3, hb4, -⟩ := Rn.rung hp
    have hbb := near_rung hRb
    rw [hbb.2] at hb3
    have hbi : frung bk ≤ infK := by rw [hb3]; exact Nat.min_le_right ..
    have hiff : srung bk = srung r ↔ k = frung r := by
      constructor
      · intro hs
        have : frung bk = frung r := by unfold srung at hs; rw [hb4, hre2] at hs; split at hs <;> omega
        rw [hb3] at this; omega
      · intro hkr
        unfold srung; rw [hb3, hb4, hre2, hkr, Nat.min_eq_left (by omega)]
    refine ⟨hbi, hel, hfe, fun hs => ?_, fun hs => ?_⟩
    · have hkr := hiff.1 hs
      have hev : fval r = fval e * ((2 ^ t : Nat) : Int) := by
        rw [fval_sgz e, fval_sgz r, hre2, ← hkr, hk, sgz_mul, Int.natCast_mul]
      refine Rest.of_num hD h hel hfe ?_
      have hp3 : ((2 ^ t : Nat) : Int) ≠ 0 := by omega
      refine Int.eq_of_mul_eq_mul_right hp3 ?_
      rw [hrel, hev]; simp; rw [Int.mul_right_comm]
    · refine Rest.none hD h (fun k' hk' => ?_)
      apply hs
      apply hiff.2
      have h3 : rmag (frung r) = rmag k' * 2 ^ t := by
        have := congrArg Int.natAbs hrel
        rw [Int.natAbs_mul, hk', Int.natAbs_natCast, Int.natAbs_mul, Int.natAbs_mul, fval_abs] at this
        simp at this
        rw [Nat.mul_right_comm] at this
        exact (Nat.eq_of_mul_eq_mul_right hD this).symm
      rw [h3] at hRe hre1
      have hx := near_rung hRe
      rw [hx.2] at hre1
      rw [hre1, ← h3] at hk
      exact rmag_inj hk
theorem sgz_xor (g h : Bool) (x y : Int) : sgz g x * sgz h y = sgz (g ^^ h) (x * y) := by
  cases g <;> cases h <;> simp [sgz, Int.neg_mul, Int.mul_neg]
theorem sgz_of {g : Bool} {x : Int} (h : (g = true → x ≤ 0) ∧ (g = false → 0 ≤ x)) : x = sgz g (x.natAbs : Int) := by
  unfold sgz; cases g
  · have := h.2 rfl; simp only [Bool.false_eq_true, if_false]; omega
  · have := h.1 rfl; simp only [if_true]; omega
/-- Half a step at most. -/
theorem near_half {X R : Nat} (h : Fl X 1 R) (hR : 4503599627370496 ≤ R) {t : Nat} (hX : X < 4503599627370496 * 2 ^ t) : 4 * ((rmag (nearK X 1 R) : Int) - X).natAbs ≤ 2 ^ t := by
  obtain ⟨e, k, hr, hek, hk, he⟩ := rmag_parts R
  have hk2 : 4503599627370496 ≤ k := by rcases hek with h1 | h1 <;> omega
  have e1 := rmag_form e k (.inr hk2) (by omega)
  have e2 := rmag_form e (k + 1) (.inr (by omega)) (by omega)
  rw [← hr] at e1
  rw [show e * 4503599627370496 + (k + 1) = R + 1 by omega] at e2
  have h1 := h.1
  have h2 := h.2
  rw [Nat.mul_one] at h1 h2
  have hgap : rmag (R + 1) = rmag R + 2 ^ e := by rw [e1, e2, Nat.add_mul, Nat.one_mul]
  have hlt : e < t := by
    rcases Nat.lt_or_ge e t with h3 | h3
    · exact h3
    · have h4 : 2 ^ t ≤ 2 ^ e := Nat.pow_le_pow_right (by omega) h3
      have h5 := Nat.mul_le_mul hk2 h4
      rw [← e1] at h5; omega
  have h6 : 2 ^ (e + 1) ≤ 2 ^ t := Nat.pow_le_pow_right (by omega) hlt
  rw [Nat.pow_succ] at h6
  unfold nearK
  rw [Nat.mul_one]
  split <;> omega
end Go.Proofs.Ytgjdmenmegnacab
