import Ieee.Arith
namespace Go.Proofs.Ytepdhbhpiehigaa

/-- The magnitude of a rung, in units of 2^-1074. -/
def rmag (r : Nat) : Nat := if r < 4503599627370496 then r else (4503599627370496 + r % 4503599627370496) * 2 ^ (r / 4503599627370496 - 1)

theorem rmag_form (e k : Nat) (h : e = 0 ∨ 4503599627370496 ≤ k) (hk : k ≤ 9007199254740992) : rmag (e * 4503599627370496 + k) = k * 2 ^ e := by
  unfold rmag
  by_cases h1 : k < 4503599627370496
  · have he : e = 0 := by omega
    subst he
    rw [if_pos (by omega)]; simp
  · rw [if_neg (by omega)]
    by_cases h2 : k = 9007199254740992
    · have a1 : (e * 4503599627370496 + k) / 4503599627370496 = e + 2 := by omega
      have a2 : (e * 4503599627370496 + k) % 4503599627370496 = 0 := by omega
      rw [a1, a2, show e + 2 - 1 = e + 1 from rfl, Nat.pow_succ, h2]
      rw [Nat.mul_comm (2 ^ e) 2, ← Nat.mul_assoc]
    · have a1 : (e * 4503599627370496 + k) / 4503599627370496 = e + 1 := by omega
      have a2 : (e * 4503599627370496 + k) % 4503599627370496 = k - 4503599627370496 := by omega
      rw [a1, a2, show e + 1 - 1 = e from rfl, show 4503599627370496 + (k - 4503599627370496) = k by omega]

/-- Every rung has the form. -/
theorem rmag_parts (r : Nat) : ∃ e k, r = e * 4503599627370496 + k ∧ (e = 0 ∨ 4503599627370496 ≤ k) ∧ k < 9007199254740992 ∧ e = r / 4503599627370496 - 1 := by
  by_cases h : r < 4503599627370496
  · exact ⟨0, r, by omega, .inl rfl, by omega, by omega⟩
  · exact ⟨r / 4503599627370496 - 1, r - (r / 4503599627370496 - 1) * 4503599627370496, by omega, .inr (by omega), by omega, rfl⟩

theorem rmag_succ (r : Nat) : rmag (r + 1) = rmag r + 2 ^ (r / 4503599627370496 - 1) := by
  obtain ⟨e, k, hr, h, hk, he⟩ := rmag_parts r
  rw [← he, hr, Nat.add_assoc, rmag_form e k h (by omega), rmag_form e (k + 1) (by omega) (by omega), Nat.add_mul, Nat.one_mul]

theorem rmag_lt_succ (r : Nat) : rmag r < rmag (r + 1) := by
  rw [rmag_succ]; have := Nat.two_pow_pos (r / 4503599627370496 - 1); omega

theorem rmag_lt {r s : Nat} (h : r < s) : rmag r < rmag s := by
  induction s with
  | zero => omega
  | succ s ih =>
    have := rmag_lt_succ s
    by_cases h1 : r = s
    · subst h1; exact this
    · have := ih (by omega); omega
theorem rmag_le {r s : Nat} (h : r ≤ s) : rmag r ≤ rmag s := by
  rcases Nat.lt_or_eq_of_le h with h | h
  · exact Nat.le_of_lt (rmag_lt h)
  · rw [h]; exact Nat.le_refl _
theorem lt_of_rmag {r s : Nat} (h : rmag r < rmag s) : r < s := by
  rcases Nat.lt_or_ge r s with h1 | h1
  · exact h1
  · have := rmag_le h1; omega
theorem le_of_rmag {r s : Nat} (h : rmag r ≤ rmag s) : r ≤ s := by
  rcases Nat.lt_or_ge s r with h1 | h1
  · have := rmag_lt h1; omega
  · exact h1
theorem rmag_inj {r s : Nat} (h : rmag r = rmag s) : r = s := by
  have := le_of_rmag (Nat.le_of_eq h); have := le_of_rmag (Nat.le_of_eq h.symm); omega
theorem rmag_zero : rmag 0 = 0 := rfl
theorem le_rmag (r : Nat) : r ≤ rmag r := by
  induction r with
  | zero => omega
  | succ r ih => have := rmag_lt_succ r; omega

/-- R is the greatest rung not above n / D. -/
def Fl (n D R : Nat) : Prop := rmag R * D ≤ n ∧ n < rmag (R + 1) * D

theorem Fl.uniq {n D R S : Nat} (h : Fl n D R) (h' : Fl n D S) : R = S := by
  have a : rmag R * D < rmag (S + 1) * D := Nat.lt_of_le_of_lt h.1 h'.2
  have b : rmag S * D < rmag (R + 1) * D := Nat.lt_of_le_of_lt h'.1 h.2
  have := lt_of_rmag (Nat.lt_of_mul_lt_mul_right a)
  have := lt_of_rmag (Nat.lt_of_mul_lt_mul_right b)
  omega
theorem Fl.scale {n D R : Nat} (h : Fl n D R) (c : Nat) (hc : 0 < c) : Fl (n * c) (D * c) R := by
  refine ⟨?_, ?_⟩
  · rw [← Nat.mul_assoc]; exact Nat.mul_le_mul_right c h.1
  · rw [← Nat.mul_assoc]; exact Nat.mul_lt_mul_of_pos_right h.2 hc
theorem Fl.unscale {n D R : Nat} (c : Nat) (h : Fl (n * c) (D * c) R) : Fl n D R := by
  have hc : 0 < c := by
    rcases Nat.eq_zero_or_pos c with h0 | h0
    · subst h0; have := h.2; simp at this
    · exact h0
  refine ⟨?_, ?_⟩
  · have := h.1; rw [← Nat.mul_assoc] at this; exact Nat.le_of_mul_le_mul_right this hc
  · have := h.2; rw [← Nat.mul_assoc] at this; exact Nat.lt_of_mul_lt_mul_right this
theorem Fl.pos {n D R : Nat} (h : Fl n D R) : 0 < D := by
  rcases Nat.eq_zero_or_pos D with h0 | h0
  · subst h0; have := h.2; simp at this
  · exact h0
/-- There is one. -/
theorem Fl.some (n D : Nat) (hD : 0 < D) : ∃ R, Fl n D R := by
  have key : ∀ m, n < rmag m * D → ∃ R, Fl n D R := by
    intro m
    induction m with
    | zero => intro h; simp [rmag_zero] at h
    | succ m ih =>
      intro h
      by_cases h1 : n < rmag m * D
      · exact ih h1
      · exact ⟨m, by omega, h⟩
  refine key (n + 1) ?_
  have h1 := le_rmag (n + 1)
  have h2 : n + 1 ≤ (n + 1) * D := Nat.le_mul_of_pos_right _ hD
  have h3 : (n + 1) * D ≤ rmag (n + 1) * D := Nat.mul_le_mul_right _ h1
  omega
theorem Fl.mono {n D R m E S : Nat} (h : Fl n D R) (h' : Fl m E S) (hle : n * E ≤ m * D) : R ≤ S := by
  have a : rmag R * D * E ≤ n * E := Nat.mul_le_mul_right _ h.1
  have b : m * D < rmag (S + 1) * E * D := Nat.mul_lt_mul_of_pos_right h'.2 h.pos
  have c : rmag R * (D * E) < rmag (S + 1) * (D * E) := by
    have e1 : rmag R * D * E = rmag R * (D * E) := Nat.mul_assoc ..
    have e2 : rmag (S + 1) * E * D = rmag (S + 1) * (D * E) := by rw [Nat.mul_assoc, Nat.mul_comm E D]
    omega
  have := lt_of_rmag (Nat.lt_of_mul_lt_mul_right c)
  omega

/-- The rung nearest to n / D, whose greatest rung not above is R. -/
def nearK (n D R : Nat) : Nat := if 2 * n < (rmag R + rmag (R + 1)) * D ∨ (2 * n = (rmag R + rmag (R + 1)) * D ∧ R % 2 = 0) then R else R + 1
/-- The least rung not below. -/
def upK (n D R : Nat) : Nat := if n = rmag R * D then R else R + 1

theorem nearK_scale (n D R c : Nat) (hc : 0 < c) : nearK (n * c) (D * c) R = nearK n D R := by
  unfold nearK
  have e1 : 2 * (n * c) = (2 * n) * c := (Nat.mul_assoc ..).symm
  have e2 : (rmag R + rmag (R + 1)) * (D * c) = ((rmag R + rmag (R + 1)) * D) * c := (Nat.mul_assoc ..).symm
  rw [e1, e2]
  have i1 : (2 * n) * c < ((rmag R + rmag (R + 1)) * D) * c ↔ 2 * n < (rmag R + rmag (R + 1)) * D := Nat.mul_lt_mul_right hc
  have i2 : (2 * n) * c = ((rmag R + rmag (R + 1)) * D) * c ↔ 2 * n = (rmag R + rmag (R + 1)) * D := Nat.mul_left_inj (by omega)
  simp only [i1, i2]
theorem upK_scale (n D R c : Nat) (hc : 0 < c) : upK (n * c) (D * c) R = upK n D R := by
  unfold upK
  have e2 : rmag R * (D * c) = (rmag R * D) * c := (Nat.mul_assoc ..).symm
  rw [e2]
  have i2 : n * c = (rmag R * D) * c ↔ n = rmag R * D := Nat.mul_left_inj (by omega)
  simp only [i2]

def infK : Nat := 9218868437227405312
/-- A rung with its sign; nought has none. -/
def sgnK (neg : Bool) (k : Nat) : Nat := if neg = true ∧ 0 < k then 9223372036854775808 + k else k

/-- What is told of the real (n / D) 2^-1074 (turned, if neg) by the direction d. -/
def tellK (d : Int) (neg : Bool) (n D R : Nat) : Nat × Bool :=
  if d = 0 then (if nearK n D R < infK then (sgnK neg (nearK n D R), true) else (0, false))
  else if d = 1 ∧ neg = false ∨ d = 2 ∧ neg = true then (if upK n D R < infK then (sgnK neg (upK n D R), true) else (0, false))
  else if d = 1 ∨ d = 2 then (sgnK neg (min R (infK - 1)), true)
  else (0, false)
def Rnd (d : Int) (neg : Bool) (n D : Nat) (p : Nat × Bool) : Prop := ∃ R, Fl n D R ∧ p = tellK d neg n D R
theorem Rnd.uniq {d : Int} {neg : Bool} {n D : Nat} {p q : Nat × Bool} (h : Rnd d neg n D p) (h' : Rnd d neg n D q) : p = q := by
  obtain ⟨R, h1, rfl⟩ := h
  obtain ⟨S, h2, rfl⟩ := h'
  rw [h1.uniq h2]
theorem tellK_scale (d : Int) (neg : Bool) (n D R c : Nat) (hc : 0 < c) : tellK d neg (n * c) (D * c) R = tellK d neg n D R := by
  unfold tellK; rw [nearK_scale _ _ _ _ hc, upK_scale _ _ _ _ hc]
theorem Rnd.scale {d : Int} {neg : Bool} {n D : Nat} {p : Nat × Bool} (h : Rnd d neg n D p) (c : Nat) (hc : 0 < c) : Rnd d neg (n * c) (D * c) p := by
  obtain ⟨R, h1, rfl⟩ := h
  exact ⟨R, h1.scale c hc, (tellK_scale d neg n D R c hc).symm⟩
end Go.Proofs.Ytepdhbhpiehigaa
