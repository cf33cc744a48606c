import Derived.Test.YtepdhbhpiehigaaDivx
namespace Go.Proofs.Ytepdhbhpiehigaa
open Ieee
set_option linter.unusedVariables false

set_option maxHeartbeats 4000000 in
/-- (a' - high) - low has the sign of a' - (high + low), where high is nearest to that. (Magnitudes; s the sign of all.) -/
theorem quot_signs {s : Bool} {ja pv R high low fa : Nat} (hfa : fval fa = (if s then -(rmag ja : Int) else rmag ja)) (hff : Fin fa) (hja : ja < infK)
    (hR : Fl pv 1 R) (hh : fval high = (if s then -(rmag (nearK pv 1 R) : Int) else rmag (nearK pv 1 R))) (hhf : Fin high)
    (hl : fval low = (if s then -((pv : Int) - rmag (nearK pv 1 R)) else (pv : Int) - rmag (nearK pv 1 R))) (hlf : Fin low) :
    ∃ d r, double.sub fa high = some d ∧ double.sub d low = some r ∧ frung r ≤ infK ∧ r < 18446744073709551616 ∧
      (0 < srung r ↔ (s = false ∧ pv < rmag ja) ∨ (s = true ∧ rmag ja < pv)) ∧ (srung r < 0 ↔ (s = false ∧ rmag ja < pv) ∨ (s = true ∧ pv < rmag ja)) := by
  -- the first difference
  obtain ⟨d, hd, g, hg, hsg⟩ := sub_fin hff hhf
  obtain ⟨S, hS, hd1, hd2, hdl⟩ := hg.rung
  have hbest := nearK_best hR (j := ja)
  rw [Nat.mul_one, Nat.mul_one] at hbest
  have hup : pv ≤ rmag ja → rmag (nearK pv 1 R) ≤ rmag ja := fun h => rmag_le (nearK_le hR (by omega))
  have hdn : rmag ja ≤ pv → rmag ja ≤ rmag (nearK pv 1 R) := fun h => rmag_le (le_nearK hR (by omega))
  have hla := fval_abs low
  have hhk : nearK pv 1 R < infK ∨ True := .inr trivial
  have hV : (fval fa - fval high).natAbs = ((rmag ja : Int) - rmag (nearK pv 1 R)).natAbs := by rw [hfa, hh]; cases s <;> simp <;> omega
  -- twice what is left is a number
  obtain ⟨lm, le, hlm, hlm1, _⟩ := rung_form (frung low)
  obtain ⟨k2, hk2⟩ := rung_some lm (le + 1) (by omega)
  have hk2' : rmag k2 = 2 * rmag (frung low) := by rw [hk2, hlm, Nat.pow_succ, ← Nat.mul_assoc, Nat.mul_comm]
  have hlabs : rmag (frung low) = ((pv : Int) - rmag (nearK pv 1 R)).natAbs := by rw [← hla, hl]; cases s <;> simp <;> omega
  have hge : 2 * rmag (frung low) ≤ (fval fa - fval high).natAbs → 2 * rmag (frung low) ≤ rmag (nearK (fval fa - fval high).natAbs 1 S) := by
    intro h
    have := rmag_le (le_nearK hS (j := k2) (by omega))
    omega
  have hpos : 0 < (fval fa - fval high).natAbs → 1 ≤ rmag (nearK (fval fa - fval high).natAbs 1 S) := by
    intro h
    have := rmag_le (le_nearK hS (j := 1) (by rw [show rmag 1 = 1 by decide]; omega))
    rw [show rmag 1 = 1 by decide] at this
    exact this
  have hzero : (fval fa - fval high).natAbs = 0 → rmag (nearK (fval fa - fval high).natAbs 1 S) = 0 := fun h => by
    rw [near_one (j := 0) hS (by rw [h]; rfl), h]
  -- it is finite
  have hdfin : Fin d := by
    unfold Fin
    rw [hd1]
    have h1 : nearK (fval fa - fval high).natAbs 1 S ≤ max ja (frung high) := by
      refine nearK_le hS ?_
      have a1 := rmag_le (Nat.le_max_left ja (frung high))
      have a2 := rmag_le (Nat.le_max_right ja (frung high))
      have a3 : rmag (frung high) = rmag (nearK pv 1 R) := by rw [← fval_abs, hh]; cases s <;> simp
      omega
    unfold Fin at hhf
    omega
  obtain ⟨r, hr, hri, hrl, hrp, hrn⟩ := sub_sign hdfin hlf
  have hdv := hg.fval_of hS hsg hdfin
  refine ⟨d, r, hd, hr, hri, hrl, ?_, ?_⟩
  · rw [hrp, hdv.1, hl]
    generalize rmag (nearK (fval fa - fval high).natAbs 1 S) = δ at *
    have hV2 : fval fa - fval high < 0 ↔ (s = false ∧ rmag ja < rmag (nearK pv 1 R)) ∨ (s = true ∧ rmag (nearK pv 1 R) < rmag ja) := by rw [hfa, hh]; cases s <;> simp <;> omega
    generalize rmag (nearK pv 1 R) = H at *
    simp only [hV2]
    rw [hV] at hge hpos hzero
    rw [hlabs] at hge
    cases s <;> simp only [Bool.false_eq_true, Bool.true_eq_false, false_and, true_and, or_false, false_or, if_false, if_true] <;> split <;> omega
  · rw [hrn, hdv.1, hl]
    generalize rmag (nearK (fval fa - fval high).natAbs 1 S) = δ at *
    have hV2 : fval fa - fval high < 0 ↔ (s = false ∧ rmag ja < rmag (nearK pv 1 R)) ∨ (s = true ∧ rmag (nearK pv 1 R) < rmag ja) := by rw [hfa, hh]; cases s <;> simp <;> omega
    generalize rmag (nearK pv 1 R) = H at *
    simp only [hV2]
    rw [hV] at hge hpos hzero
    rw [hlabs] at hge
    cases s <;> simp only [Bool.false_eq_true, Bool.true_eq_false, false_and, true_and, or_false, false_or, if_false, if_true] <;> split <;> omega

set_option maxHeartbeats 4000000 in
theorem quot_all {x y fx fy q q' sp : Nat} {A B ex ey : Int} (hfx : Fin x) (hfy : Fin y) (hy0 : frung y ≠ 0) (hyp : fneg y = false) (Fx : Frx x fx A ex) (Fy : Frx y fy B ey) (hs : ∀ E, E = 1074 → Sc E 134217729 sp)
    {E : Nat} (hE : E = 1074) (hq : Rn (fneg x) (rmag (frung x) * 2 ^ E) (rmag (frung y)) q) (hqf : Fin q) (hpow : Pow q (ey - ex) q') :
    ∃ high low d r, Prd q' fy sp high low ∧ double.sub fx high = some d ∧ double.sub d low = some r ∧ r < 18446744073709551616 ∧ Sides (fneg x) (rmag (frung x) * 2 ^ E) (rmag (frung y)) q r := by
  have hqff : frung q < infK := hqf
  obtain ⟨R, hR, hr1, hr2, hql⟩ := hq.rung
  rw [Nat.min_eq_left (by omega)] at hr1
  obtain ⟨c0, hc0⟩ : ∃ c : Nat, c = 1021 := ⟨_, rfl⟩
  have hxr := Fx.rel
  have hyr := Fy.rel
  have x1 := Fx.lo
  have x2 := Fx.hi
  have y1 := Fy.lo
  have y2 := Fy.hi
  have hry : 0 < rmag (frung y) := by have := le_rmag (frung y); omega
  have hB : 4503599627370496 ≤ B.natAbs ∧ B.natAbs < 9007199254740992 := by
    rcases Fy.full with h | h
    · rw [h, Int.natAbs_zero, Nat.zero_mul] at hyr; omega
    · exact h
  have hB0 : 0 ≤ B := Fy.sign.2 hyp
  have hA : A.natAbs < 9007199254740992 := by rcases Fx.full with h | h <;> omega
  generalize ht : ex - ey = t at *
  rw [show ey - ex = -t by omega] at hpow
  have pos1 := Nat.two_pow_pos t.toNat
  have pos2 := Nat.two_pow_pos (-t).toNat
  have pey := Nat.two_pow_pos (ey + 1073).toNat
  -- v times this is |A| 2^E, y's is |B|
  have relv : rmag (frung x) * 4503599627370496 * 2 ^ (-t).toNat = A.natAbs * (2 ^ t.toNat * 2 ^ (ey + 1073).toNat) := by
    rw [hxr, Nat.mul_assoc, ← Nat.pow_add, ← Nat.pow_add]; congr 2; omega
  -- the copy's rung
  have hj : ∃ j, rmag j * 2 ^ t.toNat = rmag (frung q) * 2 ^ (-t).toNat := by
    by_cases hn0 : t ≤ 0
    · obtain ⟨m, e, hm, hm1, _⟩ := rung_form (frung q)
      obtain ⟨j, hj⟩ := rung_some m (e + (-t).toNat) (by omega)
      exact ⟨j, by rw [hj, hm, show t.toNat = 0 by omega, Nat.pow_zero, Nat.mul_one, Nat.pow_add, Nat.mul_assoc]⟩
    · by_cases hz : frung q = 0
      · exact ⟨0, by rw [hz, rmag_zero, Nat.zero_mul, Nat.zero_mul]⟩
      · have hA0 : 4503599627370496 ≤ A.natAbs := by
          rcases Fx.full with h | h
          · exfalso
            rw [h, Int.natAbs_zero, Nat.zero_mul] at hxr
            have h0 : rmag (frung x) = 0 := by omega
            have := nearK_le hR (j := 0) (by rw [h0, Nat.zero_mul]; exact Nat.zero_le _)
            omega
          · exact h.1
        have hge : 4503599627370496 * 2 ^ t.toNat ≤ rmag (frung q) := by
          obtain ⟨k, hk⟩ := rung_some 4503599627370496 t.toNat (by omega)
          have : k ≤ frung q := by
            rw [hr1]
            refine le_nearK hR ?_
            rw [hk]
            refine Nat.le_of_mul_le_mul_right (c := 4503599627370496) ?_ (by decide)
            rw [Nat.mul_assoc _ (rmag (frung y)), hyr, show rmag (frung x) * 2 ^ E * 4503599627370496 = rmag (frung x) * 4503599627370496 * 2 ^ E from Nat.mul_right_comm .., hxr]
            rw [show (-t).toNat = 0 by omega] at relv
            have e1 : (ex + 1073).toNat = t.toNat + (ey + 1073).toNat := by omega
            rw [e1, Nat.pow_add]
            have e2 : 4503599627370496 * B.natAbs ≤ A.natAbs * 2 ^ E := by
              have : (2 : Nat) ^ 106 ≤ 2 ^ E := Nat.pow_le_pow_right (by omega) (by omega)
              have h106 : (2 : Nat) ^ 106 = 9007199254740992 * 9007199254740992 := by decide
              have : 4503599627370496 * 2 ^ E ≤ A.natAbs * 2 ^ E := Nat.mul_le_mul_right _ hA0
              omega
            calc 4503599627370496 * 2 ^ t.toNat * (B.natAbs * 2 ^ (ey + 1073).toNat) = (4503599627370496 * B.natAbs) * (2 ^ t.toNat * 2 ^ (ey + 1073).toNat) := Nat.mul_mul_mul_comm ..
              _ ≤ (A.natAbs * 2 ^ E) * (2 ^ t.toNat * 2 ^ (ey + 1073).toNat) := Nat.mul_le_mul_right _ e2
              _ = A.natAbs * (2 ^ t.toNat * 2 ^ (ey + 1073).toNat) * 2 ^ E := Nat.mul_right_comm ..
          have := rmag_le this
          omega
        obtain ⟨m, e, hm, hm1, _⟩ := rung_form (frung q)
        have hne : t.toNat ≤ e := by
          rcases Nat.lt_or_ge e t.toNat with h | h
          · exfalso
            have h1 : 2 ^ (e + 1) ≤ 2 ^ t.toNat := Nat.pow_le_pow_right (by omega) (by omega)
            rw [Nat.pow_succ] at h1
            have h2 : m * 2 ^ e < 9007199254740992 * 2 ^ e := Nat.mul_lt_mul_of_pos_right hm1 (Nat.two_pow_pos e)
            omega
          · exact h
        obtain ⟨j, hj⟩ := rung_some m (e - t.toNat) (by omega)
        refine ⟨j, ?_⟩
        rw [hj, hm, show (-t).toNat = 0 by omega, Nat.pow_zero, Nat.mul_one, Nat.mul_assoc, ← Nat.pow_add]
        congr 2; omega
  obtain ⟨j, hj⟩ := hj
  -- the two comparisons, scaled
  have L : ∀ k, k * 2 ^ (-t).toNat * (rmag (frung y) * 4503599627370496) = k * 2 ^ (-t).toNat * B.natAbs * 2 ^ (ey + 1073).toNat := fun k => by rw [hyr, ← Nat.mul_assoc]
  have scl : rmag (frung q) * rmag (frung y) * (4503599627370496 * 2 ^ (-t).toNat) = rmag j * B.natAbs * (2 ^ t.toNat * 2 ^ (ey + 1073).toNat) := by
    calc rmag (frung q) * rmag (frung y) * (4503599627370496 * 2 ^ (-t).toNat) = (rmag (frung q) * 2 ^ (-t).toNat) * (rmag (frung y) * 4503599627370496) := by rw [Nat.mul_comm 4503599627370496, Nat.mul_mul_mul_comm]
      _ = (rmag j * 2 ^ t.toNat) * (B.natAbs * 2 ^ (ey + 1073).toNat) := by rw [hj, hyr]
      _ = rmag j * B.natAbs * (2 ^ t.toNat * 2 ^ (ey + 1073).toNat) := Nat.mul_mul_mul_comm ..
  have scr : rmag (frung x) * 2 ^ E * (4503599627370496 * 2 ^ (-t).toNat) = A.natAbs * 2 ^ E * (2 ^ t.toNat * 2 ^ (ey + 1073).toNat) := by
    calc rmag (frung x) * 2 ^ E * (4503599627370496 * 2 ^ (-t).toNat) = (rmag (frung x) * 4503599627370496 * 2 ^ (-t).toNat) * 2 ^ E := by rw [Nat.mul_right_comm, ← Nat.mul_assoc (rmag (frung x))]
      _ = _ := by rw [relv, Nat.mul_right_comm]
  have p1 : 0 < 4503599627370496 * 2 ^ (-t).toNat := Nat.mul_pos (by decide) pos2
  have p2 : 0 < 2 ^ t.toNat * 2 ^ (ey + 1073).toNat := Nat.mul_pos pos1 pey
  have k1 : rmag (frung q) * rmag (frung y) < rmag (frung x) * 2 ^ E ↔ rmag j * B.natAbs < A.natAbs * 2 ^ E := by rw [← Nat.mul_lt_mul_right p1, scl, scr, Nat.mul_lt_mul_right p2]
  have k2 : rmag (frung x) * 2 ^ E < rmag (frung q) * rmag (frung y) ↔ A.natAbs * 2 ^ E < rmag j * B.natAbs := by rw [← Nat.mul_lt_mul_right p1, scl, scr, Nat.mul_lt_mul_right p2]
  have htwo : rmag j * B.natAbs ≤ 2 * (A.natAbs * 2 ^ E) := by
    have h2 := near_two hR
    rw [← hr1] at h2
    have := Nat.mul_le_mul_right (4503599627370496 * 2 ^ (-t).toNat) h2
    rw [scl, Nat.mul_assoc 2, scr, ← Nat.mul_assoc 2] at this
    exact Nat.le_of_mul_le_mul_right this p2
  -- how great the copy is
  have hjup : rmag j ≤ 9007199254740992 * 2 ^ (c0 + 3) := by
    have a1 : rmag j * 4503599627370496 ≤ rmag j * B.natAbs := Nat.mul_le_mul_left _ hB.1
    have a2 : A.natAbs * 2 ^ E ≤ 9007199254740992 * 2 ^ E := Nat.mul_le_mul_right _ (by omega)
    have a3 : 2 ^ E = 9007199254740992 * 2 ^ c0 := by rw [show (9007199254740992 : Nat) = 2 ^ 53 by decide, ← Nat.pow_add]; congr 1; omega
    rw [a3] at a2 htwo
    rw [Nat.pow_add, show (2 : Nat) ^ 3 = 8 by decide]
    have := Nat.two_pow_pos c0
    omega
  have hjf : j < infK := lt_inf hjup (by omega)
  have hq'w : q' = double.word (fneg x) j := by
    unfold Pow at hpow
    rw [hr2, show (- -t).toNat = t.toNat by rw [Int.neg_neg], ← hj] at hpow
    have := hpow.uniq (Rn.exact (fneg x) j (2 ^ t.toNat) pos1)
    rw [Nat.min_eq_left (Nat.le_of_lt hjf)] at this
    exact this
  have hq'v := word_fval (fneg x) hjf
  rw [← hq'w] at hq'v
  have hq'l : q' < 18446744073709551616 := by rw [hq'w]; exact (word_rung (fneg x) (by have : infK = 9218868437227405312 := rfl; omega)).2.2
  have hq's : fneg q' = fneg x := by rw [hq'w]; exact (word_rung (fneg x) (by have : infK = 9218868437227405312 := rfl; omega)).2.1
  -- all its bits
  have hfull : ∃ c M : Nat, rmag j = M * 2 ^ c ∧ 900 ≤ c ∧ c ≤ 1100 ∧ Full (M : Int) ∧ (M = 0 → j = 0) := by
    by_cases hz : frung q = 0
    · have : rmag j = 0 := by
        rw [hz, rmag_zero, Nat.zero_mul] at hj
        rcases Nat.mul_eq_zero.1 hj with h | h
        · exact h
        · omega
      obtain ⟨c9, hc9⟩ : ∃ c : Nat, c = 1000 := ⟨_, rfl⟩
      exact ⟨c9, 0, by rw [this, Nat.zero_mul], by omega, by omega, .inl rfl, fun _ => rmag_inj (by rw [this]; rfl)⟩
    · obtain ⟨M, c, hM, hM1, hM2⟩ := rung_form j
      -- at least half of what it stands for
      have hhalf : rmag (frung x) * 2 ^ E < 2 * (rmag (frung q) * rmag (frung y)) ∨ rmag (frung x) * 2 ^ E ≤ 2 * (rmag (frung q) * rmag (frung y)) := by
        right
        rw [hr1]
        rcases nearK_cases (rmag (frung x) * 2 ^ E) (rmag (frung y)) R with h | h
        · rw [h]
          have hR1 : 1 ≤ R := by omega
          have := hR.2
          rw [rmag_succ, Nat.add_mul] at this
          have hs : 2 ^ (R / 4503599627370496 - 1) ≤ rmag R := by
            obtain ⟨e, m, hr, hf, hk, he⟩ := rmag_parts R
            rw [← he, hr, rmag_form e m hf (by omega)]
            have : 1 ≤ m := by rcases hf with h0 | h0 <;> omega
            exact Nat.le_mul_of_pos_left _ this
          have := Nat.mul_le_mul_right (rmag (frung y)) hs
          omega
        · rw [h]; have := hR.2; omega
      have hA0 : 4503599627370496 ≤ A.natAbs := by
        rcases Fx.full with h | h
        · exfalso
          rw [h, Int.natAbs_zero, Nat.zero_mul] at hxr
          have h0 : rmag (frung x) = 0 := by omega
          have := nearK_le hR (j := 0) (by rw [h0, Nat.zero_mul]; exact Nat.zero_le _)
          omega
        · exact h.1
      have hlow : A.natAbs * 2 ^ E ≤ 2 * (rmag j * B.natAbs) := by
        have h2 : rmag (frung x) * 2 ^ E ≤ 2 * (rmag (frung q) * rmag (frung y)) := by omega
        have := Nat.mul_le_mul_right (4503599627370496 * 2 ^ (-t).toNat) h2
        rw [scr, Nat.mul_assoc 2, scl, ← Nat.mul_assoc 2] at this
        exact Nat.le_of_mul_le_mul_right this p2
      have hjlo : 2 ^ c0 ≤ rmag j := by
        have a1 : rmag j * B.natAbs ≤ rmag j * 9007199254740992 := Nat.mul_le_mul_left _ (by omega)
        have a2 : 4503599627370496 * 2 ^ E ≤ A.natAbs * 2 ^ E := Nat.mul_le_mul_right _ hA0
        have a3 : 2 ^ E = 9007199254740992 * 2 ^ c0 := by rw [show (9007199254740992 : Nat) = 2 ^ 53 by decide, ← Nat.pow_add]; congr 1; omega
        rw [a3] at a2 hlow
        have := Nat.two_pow_pos c0
        omega
      have hc1 : 900 ≤ c := by
        rcases Nat.lt_or_ge c 900 with h | h
        · exfalso
          have h1 : M * 2 ^ c < 9007199254740992 * 2 ^ c := Nat.mul_lt_mul_of_pos_right hM1 (Nat.two_pow_pos c)
          have h2 : 2 ^ (53 + c) ≤ 2 ^ c0 := Nat.pow_le_pow_right (by omega) (by omega)
          rw [Nat.pow_add, show (2 : Nat) ^ 53 = 9007199254740992 by decide] at h2
          omega
        · exact h
      have hM52 : 4503599627370496 ≤ M := by omega
      have hc2 : c ≤ 1100 := by
        rcases Nat.lt_or_ge 1100 c with h | h
        · exfalso
          have h1 : 4503599627370496 * 2 ^ c ≤ M * 2 ^ c := Nat.mul_le_mul_right _ hM52
          have h2 : 2 ^ (c0 + 3 + 2) ≤ 2 ^ c := Nat.pow_le_pow_right (by omega) (by omega)
          rw [Nat.pow_add 2 (c0 + 3) 2, show (2 : Nat) ^ 2 = 4 by decide] at h2
          have := Nat.two_pow_pos (c0 + 3)
          omega
        · exact h
      exact ⟨c, M, hM, hc1, hc2, .inr ⟨by omega, by omega⟩, fun h => by omega⟩
  obtain ⟨c, M, hM, hc1, hc2, hMf, -⟩ := hfull
  have hQf : Full (if fneg x then -(M : Int) else M) := by
    rcases hMf with h | h
    · left; split <;> omega
    · right; split <;> omega
  have hQs : Sc c (if fneg x then -(M : Int) else M) q' := by
    refine ⟨hq'v.2, hq'l, ?_⟩
    rw [hq'v.1, hM, Int.natCast_mul, Int.natCast_pow]
    cases fneg x
    · simp only [Bool.false_eq_true, if_false]; rfl
    · simp only [if_true, Int.neg_mul]; rfl
  obtain ⟨high, low, H, hP, hH, hLo, hRh⟩ := prd_all (b' := c + c0 - E) hE (by omega) (by omega) (show c + c0 = c + c0 - E + E by omega) (by omega) hQs (Fy.sc c0 hc0) hQf Fy.full (hs E hE)
  rw [hq's, Fy.sgn, hyp, Bool.xor_false] at hRh
  generalize hb' : c + c0 - E = b' at *
  have hmagn : ((if fneg x then -(M : Int) else M) * B).natAbs = M * B.natAbs := by
    rw [Int.natAbs_mul]; congr 1; cases fneg x <;> simp
  rw [abs_scaled, hmagn] at hRh
  obtain ⟨R', hR', hq1, hq2, -⟩ := hRh.rung
  have hhf := hH.1
  have hhk : nearK (M * B.natAbs * 2 ^ b') 1 R' < infK := by unfold Fin at hhf; rw [hq1] at hhf; omega
  rw [Nat.min_eq_left (Nat.le_of_lt hhk)] at hq1
  have hhv : fval high = (if fneg x then -(rmag (nearK (M * B.natAbs * 2 ^ b') 1 R') : Int) else rmag (nearK (M * B.natAbs * 2 ^ b') 1 R')) := by
    unfold fval; rw [hq1, hq2]
  have hlv : fval low = (if fneg x then -(((M * B.natAbs * 2 ^ b' : Nat) : Int) - rmag (nearK (M * B.natAbs * 2 ^ b') 1 R')) else ((M * B.natAbs * 2 ^ b' : Nat) : Int) - rmag (nearK (M * B.natAbs * 2 ^ b') 1 R')) := by
    rw [hLo.2.2, Int.sub_mul, ← hH.2.2, hhv, Int.natCast_mul, Int.natCast_mul, Int.natCast_pow, show ((B.natAbs : Nat) : Int) = B by omega]
    cases fneg x
    · simp only [Bool.false_eq_true, if_false]; rfl
    · simp only [if_true, Int.neg_mul]
      generalize (M : Int) * B * 2 ^ b' = z
      show -z - -_ = -(z - _)
      omega
  -- a'
  have hfxs := Fx.sc c0 hc0
  have hfxv : fval fx = (if fneg x then -(rmag (frung fx) : Int) else rmag (frung fx)) := by unfold fval; rw [Fx.sgn]
  have hfxm : rmag (frung fx) = A.natAbs * 2 ^ c0 := by rw [← fval_abs, hfxs.2.2, abs_scaled]
  obtain ⟨d, r, hd, hr, hri, hrl, hrp, hrn⟩ := quot_signs hfxv hfxs.1 hfxs.1 hR' hhv hhf hlv hLo.1
  refine ⟨high, low, d, r, hP, hd, hr, hrl, hri, ?_, ?_⟩
  all_goals
    have cmp1 : M * B.natAbs * 2 ^ b' < rmag (frung fx) ↔ rmag j * B.natAbs < A.natAbs * 2 ^ E := by
      rw [hfxm, hM, ← Nat.mul_lt_mul_right (Nat.two_pow_pos (E - c0)), Nat.mul_assoc, ← Nat.pow_add, Nat.mul_assoc (A.natAbs), ← Nat.pow_add, show b' + (E - c0) = c by omega, show c0 + (E - c0) = E by omega, Nat.mul_right_comm]
    have cmp2 : rmag (frung fx) < M * B.natAbs * 2 ^ b' ↔ A.natAbs * 2 ^ E < rmag j * B.natAbs := by
      rw [hfxm, hM, ← Nat.mul_lt_mul_right (Nat.two_pow_pos (E - c0)), Nat.mul_assoc (A.natAbs), ← Nat.pow_add, Nat.mul_assoc, ← Nat.pow_add, show b' + (E - c0) = c by omega, show c0 + (E - c0) = E by omega, Nat.mul_right_comm]
    have hne : frung q ≠ infK := by omega
    unfold Away Toward
    first
      | (rw [hrp, cmp1, cmp2, k1, k2]; simp only [hqff, hne, true_and, false_or])
      | (rw [hrn, cmp1, cmp2, k1, k2]; simp only [hqff, hne, true_and, false_or])
end Go.Proofs.Ytepdhbhpiehigaa
