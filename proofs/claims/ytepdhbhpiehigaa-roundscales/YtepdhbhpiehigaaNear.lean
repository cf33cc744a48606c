import Derived.Test.YtepdhbhpiehigaaLad
namespace Go.Proofs.Ytepdhbhpiehigaa
open Ieee
set_option linter.unusedVariables false

theorem dbl_binade : double.binade = 4503599627370496 := by decide
theorem dbl_inf : double.infRung = infK := by decide
theorem dbl_sign : double.signWeight = 9223372036854775808 := by decide
theorem dbl_least : double.leastPlace = -1074 := by decide
theorem dbl_frac : double.fractionBits = 52 := rfl

def fneg (x : Nat) : Bool := x / 9223372036854775808 % 2 == 1
def frung (x : Nat) : Nat := x % 9223372036854775808

theorem read_fin {x : Nat} (h : frung x < infK) : ∃ m p, double.read x = .number (fneg x) m p ∧ -1074 ≤ p ∧ m * 2 ^ (p + 1074).toNat = rmag (frung x) ∧ m < 9007199254740992 ∧ (p = -1074 ∨ 4503599627370496 ≤ m) := by
  unfold Format.read
  simp only [dbl_binade, dbl_inf, dbl_sign, dbl_least]
  have hf : x % 9223372036854775808 = frung x := rfl
  rw [hf]
  unfold rmag
  by_cases h1 : frung x < 4503599627370496
  · rw [if_pos h1, if_pos h1]
    exact ⟨_, _, rfl, by omega, by simp, by omega, .inl rfl⟩
  · rw [if_neg h1, if_pos h, if_neg h1]
    refine ⟨_, _, rfl, by omega, ?_, by omega, .inr (by omega)⟩
    congr 2
    omega
theorem read_inf {x : Nat} (h : frung x = infK) : double.read x = .infinity (fneg x) := by
  unfold Format.read
  simp only [dbl_binade, dbl_inf, dbl_sign, dbl_least]
  have hf : x % 9223372036854775808 = frung x := rfl
  rw [hf, h]
  rfl
theorem read_nan {x : Nat} (h : infK < frung x) : double.read x = .nan (fneg x) (frung x - infK) := by
  unfold Format.read
  simp only [dbl_binade, dbl_inf, dbl_sign, dbl_least]
  have hf : x % 9223372036854775808 = frung x := rfl
  rw [hf]
  have : infK = 9218868437227405312 := rfl
  rw [if_neg (by omega), if_neg (by omega), if_neg (by omega)]
  rfl

theorem cut_exact (neg : Bool) (n : Nat) : Toward.even.cut neg n 0 = n := by
  simp [Toward.cut, Nat.mod_one]
theorem cut_even (neg : Bool) (n drop : Nat) (hn : n ≠ 0) : Toward.even.cut neg n drop = n / 2 ^ drop + (if 2 * (n % 2 ^ drop) < 2 ^ drop ∨ (2 * (n % 2 ^ drop) = 2 ^ drop ∧ n / 2 ^ drop % 2 = 0) then 0 else 1) := by
  unfold Toward.cut
  simp only [Nat.shiftLeft_eq, Nat.one_mul]
  have hl : n < 2 ^ (n.log2 + 1) := Nat.lt_log2_self
  by_cases h : drop ≤ n.log2 + 2
  · rw [Nat.min_eq_left h]
    congr 1
    by_cases a : 2 * (n % 2 ^ drop) < 2 ^ drop
    · rw [if_pos (.inl a)]
      have : ¬ 2 ^ drop < 2 * (n % 2 ^ drop) := by omega
      have : ¬ 2 ^ drop = 2 * (n % 2 ^ drop) := by omega
      simp [*]
    · by_cases b : 2 * (n % 2 ^ drop) = 2 ^ drop
      · by_cases c : n / 2 ^ drop % 2 = 0
        · rw [if_pos (.inr ⟨b, c⟩)]
          have : ¬ 2 ^ drop < 2 * (n % 2 ^ drop) := by omega
          simp [*]
        · have c' : n / 2 ^ drop % 2 = 1 := by omega
          rw [if_neg (by omega)]
          simp [*]
      · rw [if_neg (by omega)]
        have : 2 ^ drop < 2 * (n % 2 ^ drop) := by omega
        simp [*]
  · rw [Nat.min_eq_right (by omega)]
    have h2 : 2 ^ (n.log2 + 2) = 2 * 2 ^ (n.log2 + 1) := by rw [Nat.pow_succ, Nat.mul_comm]
    have h3 : 2 ^ (n.log2 + 2) ≤ 2 ^ drop := Nat.pow_le_pow_right (by omega) (by omega)
    have b1 : n < 2 ^ (n.log2 + 2) := by omega
    have b2 : n < 2 ^ drop := by omega
    have b3 : 2 * n < 2 ^ drop := by omega
    have b4 : 2 * n < 2 ^ (n.log2 + 2) := by omega
    generalize 2 ^ (n.log2 + 2) = g at *
    generalize 2 ^ drop = g' at *
    rw [Nat.div_eq_of_lt b1, Nat.mod_eq_of_lt b1, Nat.div_eq_of_lt b2, Nat.mod_eq_of_lt b2, if_pos (.inl b3)]
    have c1 : ¬ g < 2 * n := by omega
    simp [c1]

/-- Where the rung of m 2^(p) lies: its greatest one not above, and the nearest. -/
theorem rung_of (m e drop c n D K : Nat) (hn : n = m * c) (hc : 0 < c) (hD : 2 ^ e * D = 2 ^ drop * c) (hK : K = m / 2 ^ drop) (h : e = 0 ∨ 4503599627370496 ≤ K) (hk : K < 9007199254740992) :
    Fl n D (e * 4503599627370496 + K) ∧ nearK n D (e * 4503599627370496 + K) = e * 4503599627370496 + (K + (if 2 * (m % 2 ^ drop) < 2 ^ drop ∨ (2 * (m % 2 ^ drop) = 2 ^ drop ∧ K % 2 = 0) then 0 else 1)) ∧ upK n D (e * 4503599627370496 + K) = e * 4503599627370496 + (K + if m % 2 ^ drop = 0 then 0 else 1) := by
  have r0 := rmag_form e K h (by omega)
  have r1 := rmag_form e (K + 1) (by omega) (by omega)
  rw [← Nat.add_assoc] at r1
  have hdm := Nat.div_add_mod m (2 ^ drop)
  rw [← hK] at hdm
  have hlt := Nat.mod_lt m (Nat.two_pow_pos drop)
  generalize m % 2 ^ drop = rest at *
  have e0 : K * 2 ^ e * D = (2 ^ drop * K) * c := by rw [Nat.mul_assoc, hD, ← Nat.mul_assoc, Nat.mul_comm K]
  have e1 : (K + 1) * 2 ^ e * D = (2 ^ drop * K + 2 ^ drop) * c := by rw [Nat.mul_assoc, hD, ← Nat.mul_assoc, Nat.mul_comm (K + 1), Nat.mul_add, Nat.mul_one]
  refine ⟨⟨?_, ?_⟩, ?_, ?_⟩
  · rw [r0, e0, hn]; exact Nat.mul_le_mul_right _ (by omega)
  · rw [r1, e1, hn]; exact Nat.mul_lt_mul_of_pos_right (by omega) hc
  · unfold nearK
    rw [r0, r1, Nat.add_mul, e0, e1, ← Nat.add_mul, hn, ← Nat.mul_assoc]
    have i1 : 2 * m * c < (2 ^ drop * K + (2 ^ drop * K + 2 ^ drop)) * c ↔ 2 * m < 2 ^ drop * K + (2 ^ drop * K + 2 ^ drop) := Nat.mul_lt_mul_right hc
    have i2 : 2 * m * c = (2 ^ drop * K + (2 ^ drop * K + 2 ^ drop)) * c ↔ 2 * m = 2 ^ drop * K + (2 ^ drop * K + 2 ^ drop) := Nat.mul_left_inj (by omega)
    simp only [i1, i2]
    by_cases a : 2 * rest < 2 ^ drop ∨ (2 * rest = 2 ^ drop ∧ K % 2 = 0)
    · rw [if_pos a, if_pos (by omega)]; omega
    · rw [if_neg a, if_neg (by omega)]; omega
  · unfold upK
    rw [r0, e0, hn]
    have i2 : m * c = (2 ^ drop * K) * c ↔ m = 2 ^ drop * K := Nat.mul_left_inj (by omega)
    simp only [i2]
    by_cases a : rest = 0
    · rw [if_pos a, if_pos (by omega)]; omega
    · rw [if_neg a, if_neg (by omega)]; omega

/-- A number's two fractions. -/
def nume (m : Nat) (p : Int) : Nat := m * 2 ^ (p + 1074).toNat
def deno (p : Int) : Nat := 2 ^ (-(p + 1074)).toNat

theorem place_log (m : Nat) (p : Int) (hm : m ≠ 0) : ∃ e drop K : Nat, ((e : Int) = max (p + m.log2 - 52) (-1074) + 1074) ∧ K = (m * 2 ^ (p + 1074 - e).toNat) / 2 ^ drop ∧ (e : Int) = (p + 1074) + drop - ((p + 1074 - e).toNat : Nat) ∧ drop = (e - (p + 1074)).toNat ∧ (e = 0 ∨ 4503599627370496 ≤ K) ∧ K < 9007199254740992 := by
  have h1 : 2 ^ m.log2 ≤ m := Nat.log2_self_le hm
  have h2 : m < 2 ^ (m.log2 + 1) := Nat.lt_log2_self
  obtain ⟨e, he⟩ : ∃ e : Nat, (e : Int) = max (p + m.log2 - 52) (-1074) + 1074 := ⟨(max (p + m.log2 - 52) (-1074) + 1074).toNat, by omega⟩
  refine ⟨e, (e - (p + 1074)).toNat, _, he, rfl, by omega, rfl, ?_⟩
  generalize m.log2 = L at *
  by_cases hs : (e : Int) ≤ p + 1074
  · have hd : ((e : Int) - (p + 1074)).toNat = 0 := by omega
    rw [hd, Nat.pow_zero, Nat.div_one]
    obtain ⟨s, hs⟩ : ∃ s : Nat, (p + 1074 - e).toNat = s := ⟨_, rfl⟩
    rw [hs]
    have hsl : s + L ≤ 52 := by omega
    constructor
    · by_cases h0 : e = 0
      · exact .inl h0
      · right
        have : s + L = 52 := by omega
        have h3 : 2 ^ 52 ≤ m * 2 ^ s := by rw [← this, Nat.add_comm, Nat.pow_add]; exact Nat.mul_le_mul_right _ h1
        exact h3
    · have h3 : m * 2 ^ s < 2 ^ (L + 1) * 2 ^ s := Nat.mul_lt_mul_of_pos_right h2 (Nat.two_pow_pos s)
      rw [← Nat.pow_add] at h3
      have h4 : 2 ^ (L + 1 + s) ≤ 2 ^ 53 := Nat.pow_le_pow_right (by omega) (by omega)
      exact Nat.lt_of_lt_of_le h3 h4
  · have hd : (p + 1074 - (e : Int)).toNat = 0 := by omega
    rw [hd, Nat.pow_zero, Nat.mul_one]
    obtain ⟨s, hs⟩ : ∃ s : Nat, (e - (p + 1074)).toNat = s := ⟨_, rfl⟩
    rw [hs]
    have hb : L ≤ s + 52 := by omega
    constructor
    · by_cases h0 : e = 0
      · exact .inl h0
      · right
        have hLs : L = 52 + s := by omega
        rw [Nat.le_div_iff_mul_le (Nat.two_pow_pos s)]
        rw [hLs, Nat.pow_add] at h1
        exact h1
    · rw [Nat.div_lt_iff_lt_mul (Nat.two_pow_pos s)]
      have h4 : 2 ^ (L + 1) ≤ 2 ^ (53 + s) := Nat.pow_le_pow_right (by omega) (by omega)
      rw [Nat.pow_add 2 53 s] at h4
      exact Nat.lt_of_lt_of_le h2 h4

theorem nearest_eq (neg : Bool) (m : Nat) (p : Int) (hm : m ≠ 0) : ∃ R, Fl (nume m p) (deno p) R ∧ double.nearest neg m p = double.word neg (min (nearK (nume m p) (deno p) R) infK) := by
  obtain ⟨e, drop, K, he, hK, hed, hdrop, hform, hk⟩ := place_log m p hm
  have hm1 : m * 2 ^ (p + 1074 - e).toNat ≠ 0 := by
    have := Nat.two_pow_pos (p + 1074 - e).toNat
    exact Nat.mul_ne_zero hm (by omega)
  have hc : 2 ^ (p + 1074 - ↑e).toNat * 2 ^ (min ↑e (p + 1074)).toNat = 2 ^ (p + 1074).toNat := by
    rw [← Nat.pow_add]; congr 1; omega
  have key := rung_of (m * 2 ^ (p + 1074 - e).toNat) e drop (2 ^ (min (e : Int) (p + 1074)).toNat) (nume m p) (deno p) K
    (by unfold nume; rw [Nat.mul_assoc, hc]) (Nat.two_pow_pos _) (by unfold deno; rw [← Nat.pow_add, ← Nat.pow_add]; congr 1; omega) hK hform hk
  refine ⟨_, key.1, ?_⟩
  rw [key.2.1]
  unfold Format.nearest
  rw [if_neg hm]
  simp only [dbl_frac, dbl_least, dbl_binade, dbl_inf]
  have hlast : max (p + (m.log2 : Int) - ((52 : Nat) : Int)) (-1074) = (e : Int) - 1074 := by omega
  rw [hlast, show ((e : Int) - 1074 - -1074).toNat = e by omega, show (p - ((e : Int) - 1074)).toNat = (p + 1074 - e).toNat by congr 1; omega, show ((e : Int) - 1074 - p).toNat = drop by omega]
  rw [Nat.shiftLeft_eq, cut_even _ _ _ hm1, ← hK]
end Go.Proofs.Ytepdhbhpiehigaa
