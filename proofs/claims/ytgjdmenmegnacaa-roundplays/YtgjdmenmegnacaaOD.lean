import Derived.Test.YtgjdmenmegnacaaOC
import Derived.Test.YtgjdmenmegnacaaNJ
namespace Go.Proofs.Ytgjdmenmegnacaa
open Go.RowKit
set_option linter.unusedVariables false

theorem rP_tell (d : Int) (hd : d = 0 ∨ d = 1 ∨ d = 2) (neg rest : Bool) (n D ee h : Nat) (hf : ee = 0 ∨ 4503599627370496 ≤ h / 2)
    (k1 : nearK n D (ee * 4503599627370496 + h / 2) = ee * 4503599627370496 + (h / 2 + (decide (h % 2 = 1) && (rest || decide (h / 2 % 2 = 1))).toNat)) (k2 : upK n D (ee * 4503599627370496 + h / 2) = ee * 4503599627370496 + (h / 2 + (decide (h % 2 = 1) || rest).toNat)) :
    rP d neg rest h ((ee : Int) - 1074) = tellK d neg n D (ee * 4503599627370496 + h / 2) := by
  have hov : (971 : Int) < (ee : Int) - 1074 → infK ≤ ee * 4503599627370496 + h / 2 := by intro h; unfold infK; omega
  unfold rP tellK
  rw [k1, k2, show ((ee : Int) - 1074 + 1074).toNat = ee by omega]
  have hM : (9218868437227405311 : Nat) = infK - 1 := by decide
  have hi : 0 < infK := by decide
  rw [hM]
  generalize infK = I at *
  have hbt : ∀ b : Bool, b.toNat = 0 ∨ b.toNat = 1 := fun b => by cases b <;> simp
  rcases hd with rfl | rfl | rfl
  · have e1 : moreR 0 neg rest h = (decide (h % 2 = 1) && (rest || decide (h / 2 % 2 = 1))) := by unfold moreR; simp
    rw [e1]
    generalize (decide (h % 2 = 1) && (rest || decide (h / 2 % 2 = 1))) = b
    rw [if_pos rfl, Nat.add_assoc]
    by_cases c : ee * 4503599627370496 + (h / 2 + b.toNat) < I
    · rw [if_neg (by omega), if_pos c]
    · rw [if_pos (by omega), if_pos (.inl rfl), if_neg c]
  · rw [if_neg (show ¬ ((1 : Int) = 0) by decide)]
    cases neg
    · have e1 : moreR 1 false rest h = (decide (h % 2 = 1) || rest) := by unfold moreR; simp
      rw [e1, if_pos (show (1 : Int) = 1 ∧ false = false ∨ (1 : Int) = 2 ∧ false = true from .inl ⟨rfl, rfl⟩)]
      generalize (decide (h % 2 = 1) || rest) = b
      rw [Nat.add_assoc]
      by_cases c : ee * 4503599627370496 + (h / 2 + b.toNat) < I
      · rw [if_neg (by omega), if_pos c]
      · rw [if_pos (by omega), if_pos (by simp), if_neg c]
    · have e1 : moreR 1 true rest h = false := by unfold moreR; simp
      rw [e1, if_neg (show ¬ ((1 : Int) = 1 ∧ true = false ∨ (1 : Int) = 2 ∧ true = true) by simp), if_pos (show (1 : Int) = 1 ∨ (1 : Int) = 2 from .inl rfl)]
      by_cases c : ee * 4503599627370496 + h / 2 < I
      · rw [if_neg (by simp only [Bool.toNat_false]; omega), Bool.toNat_false, Nat.add_zero, Nat.min_eq_left (by omega)]
      · rw [if_pos (by simp only [Bool.toNat_false]; omega), if_neg (by simp), Nat.min_eq_right (by omega)]
  · rw [if_neg (show ¬ ((2 : Int) = 0) by decide)]
    cases neg
    · have e1 : moreR 2 false rest h = false := by unfold moreR; simp
      rw [e1, if_neg (show ¬ ((2 : Int) = 1 ∧ false = false ∨ (2 : Int) = 2 ∧ false = true) by simp), if_pos (show (2 : Int) = 1 ∨ (2 : Int) = 2 from .inr rfl)]
      by_cases c : ee * 4503599627370496 + h / 2 < I
      · rw [if_neg (by simp only [Bool.toNat_false]; omega), Bool.toNat_false, Nat.add_zero, Nat.min_eq_left (by omega)]
      · rw [if_pos (by simp only [Bool.toNat_false]; omega), if_neg (by simp), Nat.min_eq_right (by omega)]
    · have e1 : moreR 2 true rest h = (decide (h % 2 = 1) || rest) := by unfold moreR; simp
      rw [e1, if_pos (show (2 : Int) = 1 ∧ true = false ∨ (2 : Int) = 2 ∧ true = true from .inr ⟨rfl, rfl⟩)]
      generalize (decide (h % 2 = 1) || rest) = b
      rw [Nat.add_assoc]
      by_cases c : ee * 4503599627370496 + (h / 2 + b.toNat) < I
      · rw [if_neg (by omega), if_pos c]
      · rw [if_pos (by omega), if_pos (by simp), if_neg c]
/-- Two quotients of one ratio. -/
theorem same_quot {A B Y V : Nat} (hB : 0 < B) (hV : 0 < V) (h : A * V = Y * B) : A / B = Y / V ∧ (A % B = 0 ↔ Y % V = 0) := by
  have e1 : A / B = A * V / (B * V) := (Nat.mul_div_mul_right _ _ hV).symm
  have e2 : Y / V = Y * B / (V * B) := (Nat.mul_div_mul_right _ _ hB).symm
  have e3 : A * V % (B * V) = A % B * V := Nat.mul_mod_mul_right ..
  have e4 : Y * B % (V * B) = Y % V * B := Nat.mul_mod_mul_right ..
  refine ⟨by rw [e1, e2, h, Nat.mul_comm B V], ?_⟩
  rw [h, Nat.mul_comm B V, e4] at e3
  constructor
  · intro h1; rw [h1, Nat.zero_mul] at e3
    rcases Nat.mul_eq_zero.1 e3 with h2 | h2 <;> omega
  · intro h1; rw [h1, Nat.zero_mul] at e3
    rcases Nat.mul_eq_zero.1 e3.symm with h2 | h2 <;> omega
/-- Whether mx 2^ex is below my 2^(ey + k). -/
def ltQ (mx my : Nat) (ex ey k : Int) : Prop := mx * 2 ^ (ex - lowE ex (ey + k)).toNat < my * 2 ^ (ey + k - lowE ex (ey + k)).toNat
theorem ltQ_iff {mx my : Nat} {ex ey k : Int} (s : Nat) (h1 : -(s : Int) ≤ ex) (h2 : -(s : Int) ≤ ey + k) : ltQ mx my ex ey k ↔ mx * 2 ^ (ex + s).toNat < my * 2 ^ (ey + k + s).toNat := by
  unfold ltQ lowE
  have hp := Nat.two_pow_pos (min ex (ey + k) + s).toNat
  have e1 : 2 ^ (ex + s).toNat = 2 ^ (ex - min ex (ey + k)).toNat * 2 ^ (min ex (ey + k) + s).toNat := by rw [← Nat.pow_add]; congr 1; omega
  have e2 : 2 ^ (ey + k + s).toNat = 2 ^ (ey + k - min ex (ey + k)).toNat * 2 ^ (min ex (ey + k) + s).toNat := by rw [← Nat.pow_add]; congr 1; omega
  rw [e1, e2, ← Nat.mul_assoc, ← Nat.mul_assoc]
  exact (Nat.mul_lt_mul_right hp).symm
/-- The first place of a quotient. -/
theorem quo_place {mx my : Nat} {ex ey : Int} (hx : mx ≠ 0) (hy : my ≠ 0) (s : Nat) (hs : -(s : Int) + 5000 ≤ ex ∧ -(s : Int) + 5000 ≤ ey) (hb : bl mx ≤ 60 ∧ bl my ≤ 60) (hd : -3000 ≤ ex - ey ∧ ex - ey ≤ 3000) :
    ¬ ltQ mx my ex ey ((bl mx : Int) + ex - bl my - ey - 1) ∧ ltQ mx my ex ey ((bl mx : Int) + ex - bl my - ey + 1) := by
  have b1 := bl_spec hx
  have b2 := bl_spec hy
  obtain ⟨p, hp⟩ : ∃ p, bl mx = p + 1 := ⟨bl mx - 1, by omega⟩
  obtain ⟨q, hq⟩ : ∃ q, bl my = q + 1 := ⟨bl my - 1, by omega⟩
  rw [hp] at b1 hb ⊢
  rw [hq] at b2 hb ⊢
  simp only [Nat.add_sub_cancel] at b1 b2
  rw [ltQ_iff s (by omega) (by omega), ltQ_iff s (by omega) (by omega)]
  constructor
  · intro h
    have h1 : 2 ^ p * 2 ^ (ex + s).toNat ≤ mx * 2 ^ (ex + s).toNat := Nat.mul_le_mul_right _ b1.1
    have h2 : my * 2 ^ (ey + ((p + 1 : Nat) + ex - (q + 1 : Nat) - ey - 1) + s).toNat < 2 ^ (q + 1) * 2 ^ (ey + ((p + 1 : Nat) + ex - (q + 1 : Nat) - ey - 1) + s).toNat := Nat.mul_lt_mul_of_pos_right b2.2.1 (Nat.two_pow_pos _)
    rw [← Nat.pow_add] at h1 h2
    rw [show q + 1 + (ey + (((p + 1 : Nat) : Int) + ex - ((q + 1 : Nat) : Int) - ey - 1) + s).toNat = p + (ex + s).toNat by omega] at h2
    omega
  · have h1 : mx * 2 ^ (ex + s).toNat < 2 ^ (p + 1) * 2 ^ (ex + s).toNat := Nat.mul_lt_mul_of_pos_right b1.2.1 (Nat.two_pow_pos _)
    have h2 : 2 ^ q * 2 ^ (ey + ((p + 1 : Nat) + ex - (q + 1 : Nat) - ey + 1) + s).toNat ≤ my * 2 ^ (ey + ((p + 1 : Nat) + ex - (q + 1 : Nat) - ey + 1) + s).toNat := Nat.mul_le_mul_right _ b2.1
    rw [← Nat.pow_add] at h1 h2
    rw [show q + (ey + (((p + 1 : Nat) : Int) + ex - ((q + 1 : Nat) : Int) - ey + 1) + s).toNat = p + 1 + (ex + s).toNat by omega] at h2
    omega
/-- What is told of a quotient, by its halves. -/
theorem over_math (d : Int) (hd : d = 0 ∨ d = 1 ∨ d = 2) (neg : Bool) {mx my : Nat} {ex ey k : Int} (hx : mx ≠ 0) (hy : my ≠ 0) (h1 : ¬ ltQ mx my ex ey k) (h2 : ltQ mx my ex ey (k + 1)) (s : Nat) (hs1 : -(s : Int) ≤ ex) (hs2 : -(s : Int) ≤ ey + k) (hs3 : -(s : Int) ≤ ey + (max (k - 52) (-1074) - 1)) :
    let e := max (k - 52) (-1074)
    let lo := lowE ex (ey + (e - 1))
    let A := mx * 2 ^ (ex - lo).toNat
    let B := my * 2 ^ (ey + (e - 1) - lo).toNat
    A / B < 18014398509481984 ∧ (e = -1074 ∨ 4503599627370496 ≤ A / B / 2) ∧ Rnd d neg (mx * 2 ^ (ex - ey + 1074).toNat) (my * 2 ^ (-(ex - ey + 1074)).toNat) (rP d neg (nz (A % B)) (A / B) e) := by
  intro e lo A B
  have hB : 0 < B := Nat.mul_pos (Nat.pos_of_ne_zero hy) (Nat.two_pow_pos _)
  have hlo : lo = min ex (ey + (e - 1)) := rfl
  have he : e = max (k - 52) (-1074) := rfl
  rw [ltQ_iff s hs1 hs2] at h1
  rw [ltQ_iff s hs1 (by omega)] at h2
  have hpl := Nat.two_pow_pos (lo + s).toNat
  have eA : A * 2 ^ (lo + s).toNat = mx * 2 ^ (ex + s).toNat := by
    show mx * _ * _ = _
    rw [Nat.mul_assoc, ← Nat.pow_add]; congr 2; omega
  have eB : ∀ j : Nat, B * 2 ^ j * 2 ^ (lo + s).toNat = my * 2 ^ (ey + (e - 1) + j + s).toNat := by
    intro j
    show my * _ * _ * _ = _
    rw [Nat.mul_assoc, Nat.mul_assoc, ← Nat.pow_add, ← Nat.pow_add]; congr 2; omega
  have hlt : A < B * 2 ^ 54 := by
    refine Nat.lt_of_mul_lt_mul_right (a := 2 ^ (lo + s).toNat) ?_
    rw [eA, eB]
    refine Nat.lt_of_lt_of_le h2 (Nat.mul_le_mul_left _ (Nat.pow_le_pow_right (by omega) (by omega)))
  have hh : A / B < 18014398509481984 := by
    rw [Nat.div_lt_iff_lt_mul hB, Nat.mul_comm, show (18014398509481984 : Nat) = 2 ^ 54 by decide]; exact hlt
  have hform : e = -1074 ∨ 4503599627370496 ≤ A / B / 2 := by
    by_cases hee : e = -1074
    · exact .inl hee
    · right
      have hge : B * 2 ^ 53 ≤ A := by
        refine Nat.le_of_mul_le_mul_right (c := 2 ^ (lo + s).toNat) ?_ hpl
        rw [eA, eB, show ey + (e - 1) + ((53 : Nat) : Int) + s = ey + k + s by omega]
        omega
      have h3 : 2 ^ 53 ≤ A / B := (Nat.le_div_iff_mul_le hB).2 (by rw [Nat.mul_comm]; exact hge)
      have h4 : (2 : Nat) ^ 53 = 9007199254740992 := by decide
      omega
  refine ⟨hh, hform, ?_⟩
  obtain ⟨ee, hee⟩ : ∃ ee : Nat, e = (ee : Int) - 1074 := ⟨(e + 1074).toNat, by omega⟩
  have hD : 0 < my * 2 ^ (-(ex - ey + 1074)).toNat := Nat.mul_pos (Nat.pos_of_ne_zero hy) (Nat.two_pow_pos _)
  have hV : 0 < my * 2 ^ (-(ex - ey + 1074)).toNat * 2 ^ ee := Nat.mul_pos hD (Nat.two_pow_pos _)
  have hsame := same_quot (A := A) (B := B) (Y := 2 * (mx * 2 ^ (ex - ey + 1074).toNat)) (V := my * 2 ^ (-(ex - ey + 1074)).toNat * 2 ^ ee) hB hV (by
    show mx * _ * _ = 2 * _ * (my * _)
    have e1 : mx * 2 ^ (ex - lo).toNat * (my * 2 ^ (-(ex - ey + 1074)).toNat * 2 ^ ee) = mx * my * 2 ^ ((ex - lo).toNat + (-(ex - ey + 1074)).toNat + ee) := by
      rw [Nat.pow_add, Nat.pow_add]; simp only [Nat.mul_comm, Nat.mul_left_comm, Nat.mul_assoc]
    have e2 : 2 * (mx * 2 ^ (ex - ey + 1074).toNat) * (my * 2 ^ (ey + (e - 1) - lo).toNat) = mx * my * 2 ^ (1 + (ex - ey + 1074).toNat + (ey + (e - 1) - lo).toNat) := by
      rw [Nat.pow_add, Nat.pow_add]; simp only [Nat.mul_left_comm, Nat.mul_assoc, Nat.pow_one]
    rw [e1, e2]; congr 2; omega)
  have hq := halves_quot (n := mx * 2 ^ (ex - ey + 1074).toNat) (e := ee) (h := A / B) (rest := nz (A % B)) hD hsame.1 (by unfold nz; rw [bne_iff_ne]; exact not_congr hsame.2) (by omega) hh
  refine ⟨_, hq.1, ?_⟩
  rw [hee]
  exact rP_tell d hd neg _ _ _ ee (A / B) (by omega) hq.2.1 hq.2.2
end Go.Proofs.Ytgjdmenmegnacaa
