import Derived.Test.YtepdhbhpiehigaaNear
namespace Go.Proofs.Ytepdhbhpiehigaa
open Ieee
set_option linter.unusedVariables false

def Fin (x : Nat) : Prop := frung x < infK
instance (x : Nat) : Decidable (Fin x) := inferInstanceAs (Decidable (_ < _))
def fval (x : Nat) : Int := if fneg x then -(rmag (frung x) : Int) else rmag (frung x)
/-- r are the bits of n / D (units of 2^-1074), turned if neg, to the nearest. -/
def Rn (neg : Bool) (n D : Nat) (r : Nat) : Prop := ∃ R, Fl n D R ∧ r = double.word neg (min (nearK n D R) infK)

theorem word_rung (neg : Bool) {k : Nat} (h : k < 9223372036854775808) : frung (double.word neg k) = k ∧ fneg (double.word neg k) = neg ∧ double.word neg k < 18446744073709551616 := by
  unfold frung fneg Format.word
  rw [dbl_sign]
  cases neg
  · simp only [Bool.false_eq_true, if_false]
    refine ⟨by omega, ?_, by omega⟩
    rw [show k / 9223372036854775808 = 0 by omega]; rfl
  · simp only [if_true]
    refine ⟨by omega, ?_, by omega⟩
    rw [show (9223372036854775808 + k) / 9223372036854775808 = 1 by omega]; rfl
theorem min_inf_lt (k : Nat) : min k infK < 9223372036854775808 := by
  have : infK = 9218868437227405312 := rfl
  omega
theorem Rn.rung {neg : Bool} {n D r : Nat} (h : Rn neg n D r) : ∃ R, Fl n D R ∧ frung r = min (nearK n D R) infK ∧ fneg r = neg ∧ r < 18446744073709551616 := by
  obtain ⟨R, h1, rfl⟩ := h
  have := word_rung neg (min_inf_lt (nearK n D R))
  exact ⟨R, h1, this⟩
theorem word_parts {x : Nat} (h : x < 18446744073709551616) : x = double.word (fneg x) (frung x) := by
  unfold frung fneg Format.word
  rw [dbl_sign]
  by_cases h1 : x / 9223372036854775808 % 2 = 1
  · rw [h1]; simp only [beq_self_eq_true, if_true]; omega
  · have : (x / 9223372036854775808 % 2 == 1) = false := by simp [h1]
    rw [this]; simp only [Bool.false_eq_true, if_false]; omega
theorem eq_of_parts {x y : Nat} (hx : x < 18446744073709551616) (hy : y < 18446744073709551616) (h1 : fneg x = fneg y) (h2 : frung x = frung y) : x = y := by
  rw [word_parts hx, word_parts hy, h1, h2]

theorem Rn.scale {neg : Bool} {n D r : Nat} (c : Nat) (hc : 0 < c) (h : Rn neg n D r) : Rn neg (n * c) (D * c) r := by
  obtain ⟨R, h1, rfl⟩ := h
  exact ⟨R, h1.scale c hc, by rw [nearK_scale _ _ _ _ hc]⟩
theorem Rn.unscale {neg : Bool} {n D r : Nat} (c : Nat) (h : Rn neg (n * c) (D * c) r) : Rn neg n D r := by
  obtain ⟨R, h1, rfl⟩ := h
  have hc : 0 < c := by
    rcases Nat.eq_zero_or_pos c with h0 | h0
    · subst h0; have := h1.2; simp at this
    · exact h0
  exact ⟨R, h1.unscale c, by rw [nearK_scale _ _ _ _ hc]⟩
theorem Rn.of_eq {neg : Bool} {n D n' D' r : Nat} (h : Rn neg n D r) (hD : 0 < D) (hD' : 0 < D') (he : n * D' = n' * D) : Rn neg n' D' r := by
  have h1 := h.scale D' hD'
  rw [he, Nat.mul_comm D D'] at h1
  exact h1.unscale D
theorem Rn.uniq {neg : Bool} {n D r s : Nat} (h : Rn neg n D r) (h' : Rn neg n D s) : r = s := by
  obtain ⟨R, h1, rfl⟩ := h
  obtain ⟨S, h2, rfl⟩ := h'
  rw [h1.uniq h2]

theorem nearK_cases (n D R : Nat) : nearK n D R = R ∨ nearK n D R = R + 1 := by
  unfold nearK; split <;> simp
theorem nearK_exact {n D R : Nat} (h : n = rmag R * D) (hD : 0 < D) : nearK n D R = R := by
  unfold nearK
  have := rmag_lt_succ R
  rw [if_pos]
  left
  rw [h, ← Nat.mul_assoc]
  exact Nat.mul_lt_mul_of_pos_right (by omega) hD
theorem Fl.exact (k D : Nat) (hD : 0 < D) : Fl (rmag k * D) D k := ⟨Nat.le_refl _, Nat.mul_lt_mul_of_pos_right (rmag_lt_succ k) hD⟩
theorem Rn.exact (neg : Bool) (k D : Nat) (hD : 0 < D) : Rn neg (rmag k * D) D (double.word neg (min k infK)) := ⟨k, Fl.exact k D hD, by rw [nearK_exact rfl hD]⟩
theorem nearK_pos {n D R : Nat} (h : Fl n D R) (hk : nearK n D R = R + 1) : rmag R * D < n := by
  rcases Nat.lt_or_eq_of_le h.1 with h1 | h1
  · exact h1
  · rw [nearK_exact h1.symm h.pos] at hk; omega
/-- What is not above a rung is rounded to none above it. -/
theorem nearK_le {n D R j : Nat} (h : Fl n D R) (hj : n ≤ rmag j * D) : nearK n D R ≤ j := by
  rcases nearK_cases n D R with h1 | h1
  · rw [h1]
    have : rmag R * D ≤ rmag j * D := Nat.le_trans h.1 hj
    exact le_of_rmag (Nat.le_of_mul_le_mul_right this h.pos)
  · have h2 := nearK_pos h h1
    have : rmag R * D < rmag j * D := by omega
    have := lt_of_rmag (Nat.lt_of_mul_lt_mul_right this)
    omega
theorem le_nearK {n D R j : Nat} (h : Fl n D R) (hj : rmag j * D ≤ n) : j ≤ nearK n D R := by
  have : rmag j * D < rmag (R + 1) * D := Nat.lt_of_le_of_lt hj h.2
  have := lt_of_rmag (Nat.lt_of_mul_lt_mul_right this)
  rcases nearK_cases n D R with h1 | h1 <;> omega
/-- None is nearer. -/
theorem nearK_best {n D R j : Nat} (h : Fl n D R) : ((rmag (nearK n D R) * D : Nat) - (n : Int)).natAbs ≤ ((rmag j * D : Nat) - (n : Int)).natAbs := by
  have h1 := h.1
  have h2 := h.2
  rcases Nat.lt_or_ge R j with hj | hj
  · have : rmag (R + 1) * D ≤ rmag j * D := Nat.mul_le_mul_right _ (rmag_le hj)
    unfold nearK
    have e : (rmag R + rmag (R + 1)) * D = rmag R * D + rmag (R + 1) * D := Nat.add_mul ..
    rw [e]
    split <;> omega
  · have : rmag j * D ≤ rmag R * D := Nat.mul_le_mul_right _ (rmag_le hj)
    unfold nearK
    have e : (rmag R + rmag (R + 1)) * D = rmag R * D + rmag (R + 1) * D := Nat.add_mul ..
    rw [e]
    split <;> omega

/-- m 2^e, m of 53 bits at most, is a rung's. -/
theorem rung_some (m e : Nat) (h : m ≤ 9007199254740992) : ∃ k, rmag k = m * 2 ^ e := by
  induction e generalizing m with
  | zero => exact ⟨0 * 4503599627370496 + m, by rw [rmag_form 0 m (.inl rfl) h]⟩
  | succ e ih =>
    by_cases h1 : 4503599627370496 ≤ m
    · exact ⟨(e + 1) * 4503599627370496 + m, by rw [rmag_form (e + 1) m (.inr h1) h]⟩
    · obtain ⟨k, hk⟩ := ih (2 * m) (by omega)
      exact ⟨k, by rw [hk, Nat.pow_succ, Nat.mul_comm 2 m, Nat.mul_assoc, Nat.mul_comm 2]⟩
/-- A rung's magnitude is m 2^e with m of 53 bits. -/
theorem rung_form (k : Nat) : ∃ m e, rmag k = m * 2 ^ e ∧ m < 9007199254740992 ∧ (e = 0 ∨ 4503599627370496 ≤ m) := by
  obtain ⟨e, m, hr, h, hk, _⟩ := rmag_parts k
  exact ⟨m, e, by rw [hr, rmag_form e m h (by omega)], hk, h⟩

theorem signed_eq (neg : Bool) (m u : Nat) : signed neg m u = if neg then -((m * 2 ^ u : Nat) : Int) else ((m * 2 ^ u : Nat) : Int) := by
  unfold signed; rw [Nat.shiftLeft_eq]

/-- How far both are shifted. -/
theorem shifted (m : Nat) (i b : Int) (hb : b ≤ i) (hi : -1074 ≤ b) : m * 2 ^ (i + 1074).toNat = m * 2 ^ (i - b).toNat * 2 ^ (b + 1074).toNat := by
  rw [Nat.mul_assoc, ← Nat.pow_add]; congr 2; omega

theorem signed_fval {x : Nat} {m : Nat} {p : Int} (hv : m * 2 ^ (p + 1074).toNat = rmag (frung x)) (b : Int) (hb : b ≤ p) (hb1 : -1074 ≤ b) :
    signed (fneg x) m (p - b).toNat * 2 ^ (b + 1074).toNat = fval x := by
  rw [signed_eq]
  unfold fval
  rw [← hv, shifted m p b hb hb1]
  generalize (p - b).toNat = u
  generalize (b + 1074).toNat = v
  cases fneg x
  · simp only [Bool.false_eq_true, if_false]; rw [Int.natCast_mul (m * 2 ^ u), Int.natCast_pow]; rfl
  · simp only [if_true]; rw [Int.natCast_mul (m * 2 ^ u), Int.natCast_pow, Int.neg_mul]; rfl

theorem natAbs_mul_pow (t : Int) (u : Nat) : (t * 2 ^ u).natAbs = t.natAbs * 2 ^ u := by
  rw [Int.natAbs_mul, Int.natAbs_pow]; rfl

theorem write_number (s : Bool) (m : Nat) (p : Int) : double.write (.number s m p) = double.nearest s m p := rfl
theorem sum_fin {s t : Bool} {m n : Nat} {i j : Int} (x : Int) (y : Int) (hi : -1074 ≤ i) (hj : -1074 ≤ j)
    (hx : ∀ b, b ≤ i → -1074 ≤ b → signed s m (i - b).toNat * 2 ^ (b + 1074).toNat = x) (hy : ∀ b, b ≤ j → -1074 ≤ b → signed t n (j - b).toNat * 2 ^ (b + 1074).toNat = y) :
    ∃ d, (Datum.number s m i).sum (.number t n j) = some d ∧ ∃ g, Rn g (x + y).natAbs 1 (double.write d) ∧ (x + y ≠ 0 → g = decide (x + y < 0)) := by
  have hs : (Datum.number s m i).sum (.number t n j) = some (.number (if signed s m (i - min i j).toNat + signed t n (j - min i j).toNat = 0 then s && t else decide (signed s m (i - min i j).toNat + signed t n (j - min i j).toNat < 0)) (signed s m (i - min i j).toNat + signed t n (j - min i j).toNat).natAbs (min i j)) := by simp only [Datum.sum]
  refine ⟨_, hs, ?_⟩
  clear hs
  have hx := hx (min i j) (by omega) (by omega)
  have hy := hy (min i j) (by omega) (by omega)
  generalize signed s m (i - min i j).toNat = X at *
  generalize signed t n (j - min i j).toNat = Y at *
  have e : x + y = (X + Y) * 2 ^ (min i j + 1074).toNat := by rw [← hx, ← hy, Int.add_mul]
  have hp : (0 : Int) < 2 ^ (min i j + 1074).toNat := Int.pow_pos (by decide)
  rw [write_number]
  by_cases h0 : X + Y = 0
  · have hz : x + y = 0 := by rw [e, h0, Int.zero_mul]
    rw [if_pos h0, h0, hz]
    refine ⟨s && t, ?_, fun h => absurd rfl h⟩
    have := Rn.exact (s && t) 0 1 (by omega)
    rw [rmag_zero, Nat.zero_mul] at this
    have e0 : double.nearest (s && t) (Int.natAbs 0) (min i j) = double.word (s && t) (min 0 infK) := by unfold Format.nearest; rw [if_pos (show Int.natAbs 0 = 0 from rfl), Nat.zero_min]
    rw [e0]
    exact this
  · rw [if_neg h0]
    obtain ⟨R, hR, hw⟩ := nearest_eq (decide (X + Y < 0)) (X + Y).natAbs (min i j) (by omega)
    have hd : deno (min i j) = 1 := by unfold deno; rw [show (-(min i j + 1074)).toNat = 0 by omega]
    have hn : nume (X + Y).natAbs (min i j) = (x + y).natAbs := by unfold nume; rw [e, natAbs_mul_pow]
    rw [hd, hn] at hR hw
    refine ⟨_, ⟨R, hR, hw⟩, fun _ => ?_⟩
    have : X + Y < 0 ↔ x + y < 0 := by
      rw [e]
      constructor
      · intro h; exact Int.mul_neg_of_neg_of_pos h hp
      · intro h; rcases Int.lt_or_le (X + Y) 0 with h1 | h1
        · exact h1
        · have := Int.mul_nonneg h1 (Int.le_of_lt hp); omega
    simp only [this]

theorem add_fin {a b : Nat} (ha : Fin a) (hb : Fin b) : ∃ r, double.add a b = some r ∧ ∃ g, Rn g (fval a + fval b).natAbs 1 r ∧ (fval a + fval b ≠ 0 → g = decide (fval a + fval b < 0)) := by
  obtain ⟨m, i, h1, h2, h3, _⟩ := read_fin ha
  obtain ⟨n, j, k1, k2, k3, _⟩ := read_fin hb
  obtain ⟨d, hd, h⟩ := sum_fin (fval a) (fval b) h2 k2 (fun b hb hb1 => signed_fval h3 b hb hb1) (fun b hb hb1 => signed_fval k3 b hb hb1)
  exact ⟨_, by unfold Format.add; rw [h1, k1, hd]; rfl, h⟩
theorem sub_fin {a b : Nat} (ha : Fin a) (hb : Fin b) : ∃ r, double.sub a b = some r ∧ ∃ g, Rn g (fval a - fval b).natAbs 1 r ∧ (fval a - fval b ≠ 0 → g = decide (fval a - fval b < 0)) := by
  obtain ⟨m, i, h1, h2, h3, _⟩ := read_fin ha
  obtain ⟨n, j, k1, k2, k3, _⟩ := read_fin hb
  obtain ⟨d, hd, h⟩ := sum_fin (t := !fneg b) (n := n) (fval a) (-fval b) h2 k2 (fun b hb hb1 => signed_fval h3 b hb hb1) (fun c hc hc1 => by
    have := signed_fval k3 c hc hc1
    rw [← this, signed_eq, signed_eq]
    generalize (c + 1074).toNat = v
    cases fneg b
    · simp only [Bool.not_false, if_true, Bool.false_eq_true, if_false, Int.neg_mul]
    · simp only [Bool.not_true, if_true, Bool.false_eq_true, if_false, Int.neg_mul, Int.neg_neg])
  exact ⟨_, by unfold Format.sub; rw [h1, k1]; simp only [Datum.opposite]; rw [hd]; rfl, h⟩
theorem mul_fin {a b E : Nat} (hE : E = 1074) (ha : Fin a) (hb : Fin b) : ∃ r, double.mul a b = some r ∧ Rn (fneg a ^^ fneg b) (rmag (frung a) * rmag (frung b)) (2 ^ E) r := by
  obtain ⟨m, i, h1, h2, h3, _⟩ := read_fin ha
  obtain ⟨n, j, k1, k2, k3, _⟩ := read_fin hb
  have hU0 : 0 < 2 ^ E := Nat.two_pow_pos _
  refine ⟨double.nearest (fneg a ^^ fneg b) (m * n) (i + j), by unfold Format.mul; rw [h1, k1]; rfl, ?_⟩
  rw [← h3, ← k3]
  by_cases h0 : m * n = 0
  · have e : m * 2 ^ (i + 1074).toNat * (n * 2 ^ (j + 1074).toNat) = 0 := by
      rcases Nat.mul_eq_zero.1 h0 with h | h
      · rw [h, Nat.zero_mul, Nat.zero_mul]
      · rw [h, Nat.zero_mul, Nat.mul_zero]
    have e0 : double.nearest (fneg a ^^ fneg b) (m * n) (i + j) = double.word (fneg a ^^ fneg b) (min 0 infK) := by unfold Format.nearest; rw [if_pos h0, Nat.zero_min]
    rw [e, e0]
    have := Rn.exact (fneg a ^^ fneg b) 0 (2 ^ E) hU0
    rw [rmag_zero, Nat.zero_mul] at this
    exact this
  · obtain ⟨R, hR, hw⟩ := nearest_eq (fneg a ^^ fneg b) (m * n) (i + j) h0
    refine Rn.of_eq (n := nume (m * n) (i + j)) (D := deno (i + j)) ⟨R, hR, hw⟩ (Nat.two_pow_pos _) hU0 ?_
    unfold nume deno
    obtain ⟨x, hx⟩ : ∃ x : Nat, (i + 1074).toNat = x := ⟨_, rfl⟩
    obtain ⟨y, hy⟩ : ∃ y : Nat, (j + 1074).toNat = y := ⟨_, rfl⟩
    obtain ⟨z, hz⟩ : ∃ z : Nat, (i + j + 1074).toNat = z := ⟨_, rfl⟩
    obtain ⟨z', hz'⟩ : ∃ z : Nat, (-(i + j + 1074)).toNat = z := ⟨_, rfl⟩
    rw [hx, hy, hz, hz', show E = x + y + z' - z by omega]
    have e1 : m * 2 ^ x * (n * 2 ^ y) = m * n * 2 ^ (x + y) := by
      rw [Nat.mul_assoc, Nat.mul_left_comm (2 ^ x), ← Nat.mul_assoc, Nat.pow_add]
    rw [e1, Nat.mul_assoc (m * n), Nat.mul_assoc (m * n), ← Nat.pow_add, ← Nat.pow_add, show z + (x + y + z' - z) = x + y + z' by omega]
end Go.Proofs.Ytepdhbhpiehigaa
