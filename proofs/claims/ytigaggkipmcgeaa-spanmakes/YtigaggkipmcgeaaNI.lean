import Derived.Test.YtigaggkipmcgeaaNG
import Derived.Test.YtigaggkipmcgeaaNH
namespace Go.Proofs.Ytigaggkipmcgeaa
open Go.RowKit
set_option linter.unusedVariables false

def rE (m : Nat) (e : Int) : Int := max ((bl m : Int) + e - 53) (-1074)
def rH (m : Nat) (e : Int) : Nat := if rE m e - 1 ≤ e then m * 2 ^ (e - (rE m e - 1)).toNat else m / 2 ^ (rE m e - 1 - e).toNat
def rR (m : Nat) (e : Int) : Bool := if rE m e - 1 ≤ e then false else nz (m % 2 ^ (rE m e - 1 - e).toNat)
/-- What told answers. -/
def rP (d : Int) (neg rest : Bool) (h : Nat) (e : Int) : Nat × Bool := if infK ≤ ((e + 1074).toNat * 4503599627370496 + h / 2 + (moreR d neg rest h).toNat) ∨ 971 < e then (if d = 0 ∨ moreR d neg rest h = true ∨ (d = 1 ∧ neg = false) ∨ (d = 2 ∧ neg = true) then (0, false) else (sgnK neg 9218868437227405311, true)) else (sgnK neg ((e + 1074).toNat * 4503599627370496 + h / 2 + (moreR d neg rest h).toNat), true)

/-- h, rest and what they stand for. -/
theorem halves_of {m0 drop K h : Nat} {rest : Bool} (hK : K = m0 / 2 ^ drop) (hh : (drop = 0 ∧ h = 2 * m0 ∧ rest = false) ∨ (1 ≤ drop ∧ h = m0 / 2 ^ (drop - 1) ∧ rest = nz (m0 % 2 ^ (drop - 1)))) :
    h / 2 = K ∧ (m0 % 2 ^ drop = 0 ↔ (h % 2 = 0 ∧ rest = false)) ∧ ((2 * (m0 % 2 ^ drop) < 2 ^ drop ∨ (2 * (m0 % 2 ^ drop) = 2 ^ drop ∧ K % 2 = 0)) ↔ ¬ (h % 2 = 1 ∧ (rest = true ∨ K % 2 = 1))) := by
  rcases hh with ⟨rfl, rfl, rfl⟩ | ⟨h1, rfl, rfl⟩
  · rw [Nat.pow_zero, Nat.div_one] at hK
    rw [Nat.pow_zero, Nat.mod_one]
    refine ⟨by omega, by simp, ?_⟩
    constructor
    · intro _ c; omega
    · intro _; left; omega
  · obtain ⟨j, rfl⟩ : ∃ j, drop = j + 1 := ⟨drop - 1, by omega⟩
    rw [show j + 1 - 1 = j from rfl]
    have hp := Nat.two_pow_pos j
    have e1 : (2 : Nat) ^ (j + 1) = 2 ^ j * 2 := Nat.pow_succ ..
    have e2 : m0 % (2 ^ j * 2) = m0 % 2 ^ j + 2 ^ j * (m0 / 2 ^ j % 2) := Nat.mod_mul ..
    have e3 : m0 / (2 ^ j * 2) = m0 / 2 ^ j / 2 := (Nat.div_div_eq_div_mul ..).symm
    rw [e1] at hK ⊢
    rw [e3] at hK
    rw [e2]
    have hr := Nat.mod_lt m0 hp
    have hb : m0 / 2 ^ j % 2 = 0 ∨ m0 / 2 ^ j % 2 = 1 := by omega
    have hnz : nz (m0 % 2 ^ j) = true ↔ m0 % 2 ^ j ≠ 0 := by unfold nz; rw [bne_iff_ne]
    have hnz' : nz (m0 % 2 ^ j) = false ↔ m0 % 2 ^ j = 0 := by
      cases hh : nz (m0 % 2 ^ j)
      · simp only [true_iff]
        rcases Nat.eq_zero_or_pos (m0 % 2 ^ j) with h0 | h0
        · exact h0
        · have := hnz.2 (by omega); rw [hh] at this; cases this
      · have := hnz.1 hh; simp [this]
    rw [hnz, hnz']
    generalize m0 % 2 ^ j = r at *
    generalize m0 / 2 ^ j = H at *
    generalize 2 ^ j = P at *
    rcases hb with hb | hb
    · rw [hb, Nat.mul_zero]
      refine ⟨by omega, ?_, ?_⟩
      · constructor
        · intro h; exact ⟨rfl, by omega⟩
        · intro h; omega
      · constructor
        · intro _ c; omega
        · intro _; left; omega
    · rw [hb, Nat.mul_one]
      refine ⟨by omega, ?_, ?_⟩
      · constructor
        · intro h; omega
        · intro h; omega
      · constructor
        · intro c; rcases c with c | c <;> omega
        · intro c; right; omega

theorem round_math (d : Int) (hd : d = 0 ∨ d = 1 ∨ d = 2) (neg : Bool) (m : Nat) (e : Int) (hm : m ≠ 0) :
    rH m e < 18014398509481984 ∧ (rE m e = -1074 ∨ 4503599627370496 ≤ rH m e / 2) ∧ Rnd d neg (nume m e) (deno e) (rP d neg (rR m e) (rH m e) (rE m e)) := by
  obtain ⟨ee, drop, K, he, hK, hed, hdrop, hform, hk⟩ := place_log m e hm
  have hE : rE m e = (ee : Int) - 1074 := by unfold rE bl; rw [if_neg hm]; omega
  have hc : 2 ^ (e + 1074 - ↑ee).toNat * 2 ^ (min ↑ee (e + 1074)).toNat = 2 ^ (e + 1074).toNat := by
    rw [← Nat.pow_add]; congr 1; omega
  have key := rung_of (m * 2 ^ (e + 1074 - ee).toNat) ee drop (2 ^ (min (ee : Int) (e + 1074)).toNat) (nume m e) (deno e) K
    (by unfold nume; rw [Nat.mul_assoc, hc]) (Nat.two_pow_pos _) (by unfold deno; rw [← Nat.pow_add, ← Nat.pow_add]; congr 1; omega) hK hform hk
  have hh : (drop = 0 ∧ rH m e = 2 * (m * 2 ^ (e + 1074 - ee).toNat) ∧ rR m e = false) ∨ (1 ≤ drop ∧ rH m e = (m * 2 ^ (e + 1074 - ee).toNat) / 2 ^ (drop - 1) ∧ rR m e = nz ((m * 2 ^ (e + 1074 - ee).toNat) % 2 ^ (drop - 1))) := by
    unfold rH rR
    rw [hE]
    by_cases h0 : drop = 0
    · left
      rw [if_pos (by omega), if_pos (by omega)]
      refine ⟨h0, ?_, rfl⟩
      rw [show (e - ((ee : Int) - 1074 - 1)).toNat = (e + 1074 - ee).toNat + 1 by omega, Nat.pow_succ, ← Nat.mul_assoc, Nat.mul_comm]
    · right
      have hz : (e + 1074 - (ee : Int)).toNat = 0 := by omega
      rw [hz, Nat.pow_zero, Nat.mul_one]
      refine ⟨by omega, ?_, ?_⟩
      · by_cases h1 : (ee : Int) - 1074 - 1 ≤ e
        · rw [if_pos h1, show (e - ((ee : Int) - 1074 - 1)).toNat = 0 by omega, show drop - 1 = 0 by omega, Nat.pow_zero, Nat.mul_one, Nat.div_one]
        · rw [if_neg h1, show ((ee : Int) - 1074 - 1 - e).toNat = drop - 1 by omega]
      · by_cases h1 : (ee : Int) - 1074 - 1 ≤ e
        · rw [if_pos h1, show drop - 1 = 0 by omega, Nat.pow_zero, Nat.mod_one]; rfl
        · rw [if_neg h1, show ((ee : Int) - 1074 - 1 - e).toNat = drop - 1 by omega]
  obtain ⟨a1, a2, a3⟩ := halves_of hK hh
  generalize rH m e = h at *
  generalize rR m e = rest at *
  refine ⟨by omega, by omega, _, key.1, ?_⟩
  unfold rP tellK
  rw [key.2.1, key.2.2, hE, a1, show ((ee : Int) - 1074 + 1074).toNat = ee by omega]
  have hov : (971 : Int) < (ee : Int) - 1074 → infK ≤ ee * 4503599627370496 + K := by intro h; unfold infK; omega
  have hnear : (if 2 * (m * 2 ^ (e + 1074 - ↑ee).toNat % 2 ^ drop) < 2 ^ drop ∨ 2 * (m * 2 ^ (e + 1074 - ↑ee).toNat % 2 ^ drop) = 2 ^ drop ∧ K % 2 = 0 then 0 else 1) = (decide (h % 2 = 1) && (rest || decide (K % 2 = 1))).toNat := by
    by_cases c : h % 2 = 1 ∧ (rest = true ∨ K % 2 = 1)
    · rw [if_neg (fun x => a3.1 x c)]
      have : (decide (h % 2 = 1) && (rest || decide (K % 2 = 1))) = true := by simp; exact c
      rw [this]; rfl
    · rw [if_pos (a3.2 c)]
      have : (decide (h % 2 = 1) && (rest || decide (K % 2 = 1))) = false := by
        rw [Bool.eq_false_iff]; intro x; simp at x; exact c x
      rw [this]; rfl
  have hup : (if m * 2 ^ (e + 1074 - ↑ee).toNat % 2 ^ drop = 0 then 0 else 1) = (decide (h % 2 = 1) || rest).toNat := by
    by_cases c : h % 2 = 0 ∧ rest = false
    · rw [if_pos (a2.2 c)]
      have : (decide (h % 2 = 1) || rest) = false := by rw [c.2, c.1]; rfl
      rw [this]; rfl
    · rw [if_neg (fun x => c (a2.1 x))]
      have : (decide (h % 2 = 1) || rest) = true := by
        cases rest
        · have : h % 2 = 1 := by
            rcases Nat.mod_two_eq_zero_or_one h with x | x
            · exact absurd ⟨x, rfl⟩ c
            · exact x
          simp [this]
        · simp
      rw [this]; rfl
  rw [hnear, hup]
  have hM : (9218868437227405311 : Nat) = infK - 1 := by decide
  have hi : 0 < infK := by decide
  rw [hM, ← a1]
  rw [← a1] at hov
  generalize infK = I at *
  have hbt : ∀ b : Bool, b.toNat = 0 ∨ b.toNat = 1 := fun b => by cases b <;> simp
  rcases hd with rfl | rfl | rfl
  · have e1 : moreR 0 neg rest h = (decide (h % 2 = 1) && (rest || decide (h / 2 % 2 = 1))) := by unfold moreR; simp
    rw [e1]
    generalize (decide (h % 2 = 1) && (rest || decide (h / 2 % 2 = 1))) = b
    rw [if_pos rfl, Nat.add_assoc]
    by_cases c : ee * 4503599627370496 + (h / 2 + b.toNat) < I
    · rw [if_neg (by omega), if_pos c]
    · rw [if_pos (by omega), if_pos (.inl rfl), if_neg c]
  · rw [if_neg (show ¬ ((1 : Int) = 0) by decide)]
    cases neg
    · have e1 : moreR 1 false rest h = (decide (h % 2 = 1) || rest) := by unfold moreR; simp
      rw [e1, if_pos (show (1 : Int) = 1 ∧ false = false ∨ (1 : Int) = 2 ∧ false = true from .inl ⟨rfl, rfl⟩)]
      generalize (decide (h % 2 = 1) || rest) = b
      rw [Nat.add_assoc]
      by_cases c : ee * 4503599627370496 + (h / 2 + b.toNat) < I
      · rw [if_neg (by omega), if_pos c]
      · rw [if_pos (by omega), if_pos (by simp), if_neg c]
    · have e1 : moreR 1 true rest h = false := by unfold moreR; simp
      rw [e1, if_neg (show ¬ ((1 : Int) = 1 ∧ true = false ∨ (1 : Int) = 2 ∧ true = true) by simp), if_pos (show (1 : Int) = 1 ∨ (1 : Int) = 2 from .inl rfl)]
      by_cases c : ee * 4503599627370496 + h / 2 < I
      · rw [if_neg (by simp only [Bool.toNat_false]; omega), Bool.toNat_false, Nat.add_zero, Nat.min_eq_left (by omega)]
      · rw [if_pos (by simp only [Bool.toNat_false]; omega), if_neg (by simp), Nat.min_eq_right (by omega)]
  · rw [if_neg (show ¬ ((2 : Int) = 0) by decide)]
    cases neg
    · have e1 : moreR 2 false rest h = false := by unfold moreR; simp
      rw [e1, if_neg (show ¬ ((2 : Int) = 1 ∧ false = false ∨ (2 : Int) = 2 ∧ false = true) by simp), if_pos (show (2 : Int) = 1 ∨ (2 : Int) = 2 from .inr rfl)]
      by_cases c : ee * 4503599627370496 + h / 2 < I
      · rw [if_neg (by simp only [Bool.toNat_false]; omega), Bool.toNat_false, Nat.add_zero, Nat.min_eq_left (by omega)]
      · rw [if_pos (by simp only [Bool.toNat_false]; omega), if_neg (by simp), Nat.min_eq_right (by omega)]
    · have e1 : moreR 2 true rest h = (decide (h % 2 = 1) || rest) := by unfold moreR; simp
      rw [e1, if_pos (show (2 : Int) = 1 ∧ true = false ∨ (2 : Int) = 2 ∧ true = true from .inr ⟨rfl, rfl⟩)]
      generalize (decide (h % 2 = 1) || rest) = b
      rw [Nat.add_assoc]
      by_cases c : ee * 4503599627370496 + (h / 2 + b.toNat) < I
      · rw [if_neg (by omega), if_pos c]
      · rw [if_pos (by omega), if_pos (by simp), if_neg c]
end Go.Proofs.Ytigaggkipmcgeaa
