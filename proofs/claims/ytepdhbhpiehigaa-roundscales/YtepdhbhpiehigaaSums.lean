import Derived.Test.YtepdhbhpiehigaaTell
namespace Go.Proofs.Ytepdhbhpiehigaa
open Ieee
set_option linter.unusedVariables false

theorem dvd_of_ge {k i : Nat} (h : 4503599627370496 * 2 ^ i ≤ rmag k) : 2 ^ i ∣ rmag k := by
  obtain ⟨m, e, hm, hm1, _⟩ := rung_form k
  rw [hm] at h ⊢
  by_cases hi : i ≤ e
  · exact Nat.dvd_trans (Nat.pow_dvd_pow 2 hi) (Nat.dvd_mul_left ..)
  · exfalso
    have h1 : 2 ^ (e + 1) ≤ 2 ^ i := Nat.pow_le_pow_right (by omega) (by omega)
    rw [Nat.pow_succ] at h1
    have h2 : m * 2 ^ e < 9007199254740992 * 2 ^ e := Nat.mul_lt_mul_of_pos_right hm1 (Nat.two_pow_pos e)
    omega
/-- A multiple of 2^i of at most 2^53 of them is a rung's. -/
theorem rung_dvd {n i : Nat} (hd : 2 ^ i ∣ n) (hn : n ≤ 9007199254740992 * 2 ^ i) : ∃ k, rmag k = n := by
  obtain ⟨c, rfl⟩ := hd
  have : c ≤ 9007199254740992 := by
    rw [Nat.mul_comm] at hn; exact Nat.le_of_mul_le_mul_right hn (Nat.two_pow_pos i)
  obtain ⟨k, hk⟩ := rung_some c i this
  exact ⟨k, by rw [hk, Nat.mul_comm]⟩
theorem near_one {n R j : Nat} (h : Fl n 1 R) (hj : rmag j = n) : rmag (nearK n 1 R) = n := by
  have h1 := nearK_le h (j := j) (by omega)
  have h2 := le_nearK h (j := j) (by omega)
  rw [show nearK n 1 R = j by omega, hj]

/-- What is left of a sum of two of one sign. -/
theorem left_plus {x y a b R : Nat} (ha : rmag a = x) (hb : rmag b = y) (hab : b ≤ a) (hR : Fl (x + y) 1 R) :
    x ≤ rmag (nearK (x + y) 1 R) ∧ (∃ t, rmag t = rmag (nearK (x + y) 1 R) - x) ∧ (∃ e, rmag e = ((x + y : Nat) - (rmag (nearK (x + y) 1 R) : Int)).natAbs ∧ e ≤ b) := by
  have hx : x ≤ rmag (nearK (x + y) 1 R) := by
    have := rmag_le (le_nearK hR (j := a) (by omega)); omega
  have hbest : ∀ j, ((rmag (nearK (x + y) 1 R) : Nat) - ((x + y : Nat) : Int)).natAbs ≤ ((rmag j : Nat) - ((x + y : Nat) : Int)).natAbs := by
    intro j; have := nearK_best hR (j := j); rw [Nat.mul_one, Nat.mul_one] at this; exact this
  have hE : ((x + y : Nat) - (rmag (nearK (x + y) 1 R) : Int)).natAbs ≤ y := by have := hbest a; omega
  have hexact := fun j => near_one (j := j) hR
  have hge : ∀ j, rmag j ≤ x + y → rmag j ≤ rmag (nearK (x + y) 1 R) := fun j h => rmag_le (le_nearK hR (by omega))
  have hdv : ∀ i, 4503599627370496 * 2 ^ i ≤ rmag (nearK (x + y) 1 R) → 2 ^ i ∣ rmag (nearK (x + y) 1 R) := fun i h => dvd_of_ge h
  generalize rmag (nearK (x + y) 1 R) = u at *
  obtain ⟨i, ma, hra, hfa, hka, _⟩ := rmag_parts a
  obtain ⟨j, mb, hrb, hfb, hkb, _⟩ := rmag_parts b
  have hji : j ≤ i := by omega
  have xa : x = ma * 2 ^ i := by rw [← ha, hra, rmag_form i ma hfa (by omega)]
  have yb : y = mb * 2 ^ j := by rw [← hb, hrb, rmag_form j mb hfb (by omega)]
  obtain ⟨c, hc⟩ : ∃ c, 2 ^ i = c * 2 ^ j := ⟨2 ^ (i - j), by rw [← Nat.pow_add]; congr 1; omega⟩
  have hdx : 2 ^ j ∣ x + y := by rw [xa, yb, hc, ← Nat.mul_assoc, ← Nat.add_mul]; exact Nat.dvd_mul_left ..
  by_cases hw : x + y ≤ 9007199254740992 * 2 ^ j
  · obtain ⟨k, hk⟩ := rung_dvd hdx hw
    have := hexact k hk
    subst this
    exact ⟨hx, ⟨b, by omega⟩, ⟨0, by rw [rmag_zero]; omega, by omega⟩⟩
  · have hyx : y ≤ x := by rw [← ha, ← hb]; exact rmag_le hab
    have pj := Nat.two_pow_pos j
    have pi := Nat.two_pow_pos i
    have hu : 9007199254740992 * 2 ^ j ≤ u := by
      obtain ⟨k, hk⟩ := rung_some 9007199254740992 j (Nat.le_refl _)
      have := hge k (by omega); omega
    have hdu : 2 ^ j ∣ u := hdv j (by omega)
    have hyb : y < 9007199254740992 * 2 ^ j := by rw [yb]; exact Nat.mul_lt_mul_of_pos_right hkb pj
    refine ⟨hx, ?_, ?_⟩
    · have hiu : 2 ^ i ∣ u := by
        rcases hfa with h0 | h0
        · subst h0; simp
        · refine hdv i (Nat.le_trans ?_ hx)
          rw [xa]; exact Nat.mul_le_mul_right _ h0
      have hix : 2 ^ i ∣ x := by rw [xa]; exact Nat.dvd_mul_left ..
      refine rung_dvd (Nat.dvd_sub hiu hix) ?_
      have hxm : x ≤ 9007199254740991 * 2 ^ i := by rw [xa]; exact Nat.mul_le_mul_right _ (by omega)
      have hq : (x + y) / 2 ^ (i + 1) ≤ 9007199254740991 := by
        have h1 : (x + y) / 2 ^ (i + 1) < 9007199254740992 := by
          rw [Nat.div_lt_iff_lt_mul (Nat.two_pow_pos _), Nat.pow_succ]; omega
        omega
      have hdm := Nat.div_add_mod (x + y) (2 ^ (i + 1))
      have hlt := Nat.mod_lt (x + y) (Nat.two_pow_pos (i + 1))
      obtain ⟨k1, hk1⟩ := rung_some ((x + y) / 2 ^ (i + 1)) (i + 1) (by omega)
      obtain ⟨k2, hk2⟩ := rung_some ((x + y) / 2 ^ (i + 1) + 1) (i + 1) (by omega)
      have b1 := hbest k1
      have b2 := hbest k2
      rw [Nat.add_mul, Nat.one_mul] at hk2
      rw [Nat.mul_comm] at hdm
      generalize (x + y) / 2 ^ (i + 1) * 2 ^ (i + 1) = Q at *
      generalize (x + y) % 2 ^ (i + 1) = r at *
      have h2 : 2 ^ (i + 1) = 2 * 2 ^ i := by rw [Nat.pow_succ, Nat.mul_comm]
      omega
    · have hde : 2 ^ j ∣ ((x + y : Nat) - (u : Int)).natAbs := by
        rcases Nat.le_total u (x + y) with h | h
        · rw [show ((x + y : Nat) - (u : Int)).natAbs = x + y - u by omega]; exact Nat.dvd_sub hdx hdu
        · rw [show ((x + y : Nat) - (u : Int)).natAbs = u - (x + y) by omega]; exact Nat.dvd_sub hdu hdx
      obtain ⟨e, he⟩ := rung_dvd hde (by omega)
      exact ⟨e, he, le_of_rmag (by omega)⟩

/-- What is left of a difference. -/
theorem left_minus {x y a b R : Nat} (ha : rmag a = x) (hb : rmag b = y) (hab : b ≤ a) (hR : Fl (x - y) 1 R) :
    rmag (nearK (x - y) 1 R) ≤ x ∧ (∃ t, rmag t = x - rmag (nearK (x - y) 1 R)) ∧ (∃ e, rmag e = ((x - y : Nat) - (rmag (nearK (x - y) 1 R) : Int)).natAbs ∧ e ≤ b) := by
  have hyx : y ≤ x := by rw [← ha, ← hb]; exact rmag_le hab
  have hx : rmag (nearK (x - y) 1 R) ≤ x := by
    have := rmag_le (nearK_le hR (j := a) (by omega)); omega
  have hbest : ∀ j, ((rmag (nearK (x - y) 1 R) : Nat) - ((x - y : Nat) : Int)).natAbs ≤ ((rmag j : Nat) - ((x - y : Nat) : Int)).natAbs := by
    intro j; have := nearK_best hR (j := j); rw [Nat.mul_one, Nat.mul_one] at this; exact this
  have hE : ((x - y : Nat) - (rmag (nearK (x - y) 1 R) : Int)).natAbs ≤ y := by have := hbest a; omega
  have hexact := fun j => near_one (j := j) hR
  have hge : ∀ j, rmag j ≤ x - y → rmag j ≤ rmag (nearK (x - y) 1 R) := fun j h => rmag_le (le_nearK hR (by omega))
  have hdv : ∀ i, 4503599627370496 * 2 ^ i ≤ rmag (nearK (x - y) 1 R) → 2 ^ i ∣ rmag (nearK (x - y) 1 R) := fun i h => dvd_of_ge h
  generalize rmag (nearK (x - y) 1 R) = u at *
  obtain ⟨i, ma, hra, hfa, hka, _⟩ := rmag_parts a
  obtain ⟨j, mb, hrb, hfb, hkb, _⟩ := rmag_parts b
  have hji : j ≤ i := by omega
  have xa : x = ma * 2 ^ i := by rw [← ha, hra, rmag_form i ma hfa (by omega)]
  have yb : y = mb * 2 ^ j := by rw [← hb, hrb, rmag_form j mb hfb (by omega)]
  obtain ⟨c, hc⟩ : ∃ c, 2 ^ i = c * 2 ^ j := ⟨2 ^ (i - j), by rw [← Nat.pow_add]; congr 1; omega⟩
  have hdjx : 2 ^ j ∣ x := by rw [xa, hc, ← Nat.mul_assoc]; exact Nat.dvd_mul_left ..
  have hdjy : 2 ^ j ∣ y := by rw [yb]; exact Nat.dvd_mul_left ..
  have hdx : 2 ^ j ∣ x - y := Nat.dvd_sub hdjx hdjy
  have pj := Nat.two_pow_pos j
  have hyb : y < 9007199254740992 * 2 ^ j := by rw [yb]; exact Nat.mul_lt_mul_of_pos_right hkb pj
  by_cases hw : x - y ≤ 9007199254740992 * 2 ^ j
  · obtain ⟨k, hk⟩ := rung_dvd hdx hw
    have := hexact k hk
    subst this
    exact ⟨hx, ⟨b, by omega⟩, ⟨0, by rw [rmag_zero]; omega, by omega⟩⟩
  · have hi : i ≠ 0 := by
      intro h0
      have hj0 : j = 0 := by omega
      subst h0 hj0
      omega
    have hma : 4503599627370496 ≤ ma := by omega
    have hu : 9007199254740992 * 2 ^ j ≤ u := by
      obtain ⟨k, hk⟩ := rung_some 9007199254740992 j (Nat.le_refl _)
      have := hge k (by omega); omega
    have hdu : 2 ^ j ∣ u := hdv j (by omega)
    refine ⟨hx, ?_, ?_⟩
    · obtain ⟨i', rfl⟩ : ∃ i', i = i' + 1 := ⟨i - 1, by omega⟩
      have xa' : x = 2 * (ma * 2 ^ i') := by rw [xa, Nat.pow_succ, ← Nat.mul_assoc, Nat.mul_comm]
      have hm : ma * 2 ^ i' ≤ u := by
        obtain ⟨k, hk⟩ := rung_some ma i' (by omega)
        have := hge k (by omega); omega
      have hiu : 2 ^ i' ∣ u := by
        refine hdv i' (Nat.le_trans ?_ hm)
        exact Nat.mul_le_mul_right _ hma
      have hix : 2 ^ i' ∣ x := by rw [xa', ← Nat.mul_assoc]; exact Nat.dvd_mul_left ..
      refine rung_dvd (Nat.dvd_sub hix hiu) ?_
      have : ma * 2 ^ i' ≤ 9007199254740992 * 2 ^ i' := Nat.mul_le_mul_right _ (by omega)
      omega
    · have hde : 2 ^ j ∣ ((x - y : Nat) - (u : Int)).natAbs := by
        rcases Nat.le_total u (x - y) with h | h
        · rw [show ((x - y : Nat) - (u : Int)).natAbs = x - y - u by omega]; exact Nat.dvd_sub hdx hdu
        · rw [show ((x - y : Nat) - (u : Int)).natAbs = u - (x - y) by omega]; exact Nat.dvd_sub hdu hdx
      obtain ⟨e, he⟩ := rung_dvd hde (by omega)
      exact ⟨e, he, le_of_rmag (by omega)⟩

/-- A difference that is a number's is just that. -/
theorem sub_exact {a b k : Nat} (ha : Fin a) (hb : Fin b) (hk : rmag k = (fval a - fval b).natAbs) (hf : k < infK) : ∃ r, double.sub a b = some r ∧ Fin r ∧ fval r = fval a - fval b := by
  obtain ⟨r, hr, g, hg, hs⟩ := sub_fin ha hb
  refine ⟨r, hr, ?_⟩
  obtain ⟨R, hR, h1, h2, _⟩ := hg.rung
  have h3 : nearK (fval a - fval b).natAbs 1 R = k := by
    have := near_one hR hk
    rw [← hk] at this
    rw [← hk]
    exact rmag_inj this
  rw [h3, Nat.min_eq_left (Nat.le_of_lt hf)] at h1
  refine ⟨by unfold Fin; rw [h1]; exact hf, ?_⟩
  have fr : fval r = if fneg r then -(rmag (frung r) : Int) else rmag (frung r) := rfl
  rw [fr, h1, h2, hk]
  clear fr hk hg hR h3 hr
  generalize fval a - fval b = V at *
  by_cases h0 : V = 0
  · rw [h0]; cases g <;> rfl
  · rw [hs h0]
    by_cases h5 : V < 0
    · simp only [h5, decide_true, if_true]; omega
    · simp only [h5, decide_false, Bool.false_eq_true, if_false]; omega

theorem fval_neg_of {x : Nat} (h : fval x < 0) : fneg x = true := by
  unfold fval at h; cases hx : fneg x
  · rw [hx] at h; simp only [Bool.false_eq_true, if_false] at h; omega
  · rfl
theorem fval_abs (x : Nat) : (fval x).natAbs = rmag (frung x) := by
  unfold fval; cases fneg x <;> simp
/-- A word near an exact whole number. -/
theorem Rn.fval_of {g : Bool} {V : Int} {s R : Nat} (hR : Fl V.natAbs 1 R) (h : Rn g V.natAbs 1 s) (hs : V ≠ 0 → g = decide (V < 0)) (hf : Fin s) :
    fval s = (if V < 0 then -(rmag (nearK V.natAbs 1 R) : Int) else rmag (nearK V.natAbs 1 R)) ∧ nearK V.natAbs 1 R < infK := by
  obtain ⟨R', hR', h1, h2, _⟩ := h.rung
  rw [hR'.uniq hR] at h1
  unfold Fin at hf
  have hlt : nearK V.natAbs 1 R < infK := by omega
  rw [Nat.min_eq_left (by omega)] at h1
  refine ⟨?_, hlt⟩
  unfold fval
  rw [h1, h2]
  by_cases h0 : V = 0
  · have hz : rmag (nearK V.natAbs 1 R) = 0 := by rw [near_one (j := 0) hR (by rw [h0]; rfl), h0]; rfl
    rw [hz, h0]; cases g <;> rfl
  · rw [hs h0]; simp only [decide_eq_true_eq]

/-- THE SUM'S REST: two differences, each exact. -/
theorem sum_rest {a b s : Nat} (ha : Fin a) (hb : Fin b) (hab : frung b ≤ frung a) (hs : double.add a b = some s) (hf : Fin s) :
    ∃ t r, double.sub s a = some t ∧ double.sub b t = some r ∧ Fin r ∧ fval r = fval a + fval b - fval s := by
  obtain ⟨s', hs', g, hg, hsg⟩ := add_fin ha hb
  rw [hs] at hs'
  cases hs'
  obtain ⟨R, hR, -⟩ := id hg
  obtain ⟨hS, hk⟩ := hg.fval_of hR hsg hf
  have hA := fval_abs a
  have hB := fval_abs b
  have hle : rmag (frung b) ≤ rmag (frung a) := rmag_le hab
  have main : ∃ t, rmag t = (fval s - fval a).natAbs ∧ t < infK ∧ ∃ e, rmag e = (fval a + fval b - fval s).natAbs ∧ e < infK := by
    have bb : frung b < infK := hb
    have aa : frung a < infK := ha
    by_cases same : 0 ≤ fval a ∧ 0 ≤ fval b ∨ fval a ≤ 0 ∧ fval b ≤ 0
    · have hv : (fval a + fval b).natAbs = rmag (frung a) + rmag (frung b) := by omega
      rw [hv] at hR hS hk
      obtain ⟨h1, ⟨t, ht⟩, e, he, hb'⟩ := left_plus rfl rfl hab hR
      refine ⟨t, ?_, ?_, e, ?_, by omega⟩
      · rw [ht, hS]; split <;> omega
      · exact Nat.lt_of_le_of_lt (le_of_rmag (by omega)) hk
      · rw [he, hS]; split <;> omega
    · have hv : (fval a + fval b).natAbs = rmag (frung a) - rmag (frung b) := by omega
      rw [hv] at hR hS hk
      have hz : rmag (frung a) - rmag (frung b) = 0 → rmag (nearK (rmag (frung a) - rmag (frung b)) 1 R) = 0 := fun h0 => by rw [near_one (j := 0) hR (by rw [h0]; rfl), h0]
      obtain ⟨h1, ⟨t, ht⟩, e, he, hb'⟩ := left_minus rfl rfl hab hR
      refine ⟨t, ?_, ?_, e, ?_, by omega⟩
      · rw [ht, hS]; split <;> omega
      · exact Nat.lt_of_le_of_lt (le_of_rmag (by omega)) aa
      · rw [he, hS]; split <;> omega
  obtain ⟨t, ht, htf, e, he, hef⟩ := main
  obtain ⟨t', h1, h2, h3⟩ := sub_exact hf ha ht htf
  have he' : rmag e = (fval b - fval t').natAbs := by rw [h3, he]; congr 1; omega
  obtain ⟨r, k1, k2, k3⟩ := sub_exact hb h2 he' hef
  exact ⟨t', r, h1, k1, k2, by omega⟩
theorem sub_inf_l {s a : Nat} (hs : frung s = infK) (ha : Fin a) : double.sub s a = some (double.word (fneg s) infK) := by
  obtain ⟨m, i, h1, _⟩ := read_fin ha
  unfold Format.sub; rw [read_inf hs, h1]; rfl
theorem sub_inf_r {s a : Nat} (hs : frung s = infK) (ha : Fin a) : double.sub a s = some (double.word (!fneg s) infK) := by
  obtain ⟨m, i, h1, _⟩ := read_fin ha
  unfold Format.sub; rw [read_inf hs, h1]; rfl
theorem inf_word (g : Bool) : frung (double.word g infK) = infK ∧ fneg (double.word g infK) = g := by
  have := word_rung g (k := infK) (by decide)
  exact ⟨this.1, this.2.1⟩
theorem sum_rest_inf {a b s : Nat} (ha : Fin a) (hb : Fin b) (hs : frung s = infK) :
    ∃ t r, double.sub s a = some t ∧ double.sub b t = some r ∧ frung r = infK ∧ fneg r = !fneg s := by
  have h := inf_word (fneg s)
  refine ⟨_, _, sub_inf_l hs ha, sub_inf_r h.1 hb, ?_, ?_⟩
  · exact (inf_word _).1
  · rw [(inf_word _).2, h.2]

theorem srung_pos (x : Nat) : 0 < srung x ↔ 0 < fval x := by
  have h := fval_srung 0 x
  have z1 : fval 0 = 0 := rfl
  have z2 : srung 0 = 0 := rfl
  rw [z1, z2, icmp, icmp] at h
  by_cases h1 : 0 < fval x <;> by_cases h2 : 0 < srung x <;> simp [h1, h2] at h ⊢
  all_goals (split at h <;> cases h)
theorem srung_neg (x : Nat) : srung x < 0 ↔ fval x < 0 := by
  have h := fval_srung x 0
  have z1 : fval 0 = 0 := rfl
  have z2 : srung 0 = 0 := rfl
  rw [z1, z2, icmp, icmp] at h
  by_cases h1 : fval x < 0 <;> by_cases h2 : srung x < 0 <;> simp [h1, h2] at h ⊢
  all_goals (split at h <;> cases h)

/-- The rest of a sum tells on which side it lies. -/
theorem sum_sides {a b s r : Nat} {g : Bool} (hg : Rn g (fval a + fval b).natAbs 1 s) (hsg : fval a + fval b ≠ 0 → g = decide (fval a + fval b < 0))
    (hr : (Fin s ∧ Fin r ∧ fval r = fval a + fval b - fval s) ∨ (frung s = infK ∧ frung r = infK ∧ fneg r = !fneg s)) : Sides g (fval a + fval b).natAbs 1 s r := by
  obtain ⟨R, hR, h1, h2, _⟩ := hg.rung
  rcases hr with ⟨hf, hfr, hv⟩ | ⟨hi, hri, hrn⟩
  · obtain ⟨hS, hk⟩ := hg.fval_of hR hsg hf
    have hfr' : frung r < infK := hfr
    have hf' : frung s < infK := hf
    rw [Nat.min_eq_left (by omega)] at h1
    have hne : frung s ≠ infK := by omega
    have zero : fval a + fval b = 0 → rmag (nearK (fval a + fval b).natAbs 1 R) = 0 := fun h0 => by rw [near_one (j := 0) hR (by rw [h0]; rfl), h0]; rfl
    unfold Fin at hfr
    refine ⟨by omega, ?_, ?_⟩
    · rw [srung_pos, hv, hS]
      unfold Away Toward
      rw [h1, Nat.mul_one]
      generalize rmag (nearK (fval a + fval b).natAbs 1 R) = u at *
      generalize fval a + fval b = V at *
      rw [h1] at hne hf'
      generalize nearK V.natAbs 1 R = kk at *
      by_cases h0 : V = 0
      · have := zero h0; subst this; subst h0
        cases g <;> simp <;> omega
      · rw [hsg h0]
        by_cases hn : V < 0 <;> simp [hn] <;> omega
    · rw [srung_neg, hv, hS]
      unfold Away Toward
      rw [h1, Nat.mul_one]
      generalize rmag (nearK (fval a + fval b).natAbs 1 R) = u at *
      generalize fval a + fval b = V at *
      rw [h1] at hne hf'
      generalize nearK V.natAbs 1 R = kk at *
      by_cases h0 : V = 0
      · have := zero h0; subst this; subst h0
        cases g <;> simp <;> omega
      · rw [hsg h0]
        by_cases hn : V < 0 <;> simp [hn] <;> omega
  · have hp : 0 < infK := by decide
    refine ⟨by omega, ?_, ?_⟩
    all_goals
      unfold srung Away Toward
      rw [hri, hrn, h2, hi]
      generalize infK = I at *
      cases g <;> simp <;> omega
end Go.Proofs.Ytepdhbhpiehigaa
