import Derived.Test.YtepdhbhpiehigaaFlo
namespace Go.Proofs.Ytepdhbhpiehigaa
open Ieee
set_option linter.unusedVariables false

def srung (x : Nat) : Int := if fneg x then -(frung x : Int) else frung x
def fopp (x : Nat) : Nat := x ^^^ 9223372036854775808
theorem fopp_parts {x : Nat} (h : x < 18446744073709551616) : frung (fopp x) = frung x ∧ fneg (fopp x) = !fneg x ∧ fopp x < 18446744073709551616 := by
  have h1 : fopp x % 2 ^ 63 = x % 2 ^ 63 := by
    unfold fopp; rw [Nat.xor_mod_two_pow, show 9223372036854775808 % 2 ^ 63 = 0 by decide, Nat.xor_zero]
  have h2 : fopp x / 2 ^ 63 = (x / 2 ^ 63) ^^^ 1 := by
    unfold fopp; rw [Nat.xor_div_two_pow]
  have hp : (2 : Nat) ^ 63 = 9223372036854775808 := by decide
  rw [hp] at h1 h2
  have h3 : x / 9223372036854775808 = 0 ∨ x / 9223372036854775808 = 1 := by omega
  refine ⟨h1, ?_, ?_⟩
  · unfold fneg; rw [h2]
    rcases h3 with h3 | h3 <;> rw [h3] <;> decide
  · rcases h3 with h3 | h3
    · rw [h3] at h2; have : (0 ^^^ 1 : Nat) = 1 := by decide
      omega
    · rw [h3] at h2; have : (1 ^^^ 1 : Nat) = 0 := by decide
      omega
theorem fopp_srung {x : Nat} (h : x < 18446744073709551616) : srung (fopp x) = -srung x := by
  unfold srung; rw [(fopp_parts h).1, (fopp_parts h).2.1]; cases fneg x <;> simp
theorem fopp_fval {x : Nat} (h : x < 18446744073709551616) : fval (fopp x) = -fval x := by
  unfold fval; rw [(fopp_parts h).1, (fopp_parts h).2.1]; cases fneg x <;> simp

theorem icmp (x y : Int) : compare x y = if x < y then .lt else if x = y then .eq else .gt := rfl
theorem fval_srung (x y : Nat) : compare (fval x) (fval y) = compare (srung x) (srung y) := by
  have key : (fval x < fval y ↔ srung x < srung y) ∧ (fval x = fval y ↔ srung x = srung y) := by
    unfold fval srung
    have l1 : rmag (frung x) < rmag (frung y) ↔ frung x < frung y := ⟨lt_of_rmag, rmag_lt⟩
    have l2 : rmag (frung y) < rmag (frung x) ↔ frung y < frung x := ⟨lt_of_rmag, rmag_lt⟩
    have z1 : frung x ≤ rmag (frung x) := le_rmag _
    have z2 : frung y ≤ rmag (frung y) := le_rmag _
    have z3 : rmag (frung x) = 0 ↔ frung x = 0 := ⟨fun h => by omega, fun h => by rw [h]; rfl⟩
    have z4 : rmag (frung y) = 0 ↔ frung y = 0 := ⟨fun h => by omega, fun h => by rw [h]; rfl⟩
    generalize rmag (frung x) = a at *
    generalize rmag (frung y) = b at *
    cases fneg x <;> cases fneg y <;> simp only [Bool.false_eq_true, if_false, if_true] <;> omega
  rw [icmp, icmp]
  simp only [key.1, key.2]

theorem compare_scale (x y : Int) (c : Int) (hc : 0 < c) : compare (x * c) (y * c) = compare x y := by
  have h1 : x * c < y * c ↔ x < y := ⟨fun h => Int.lt_of_mul_lt_mul_right h (Int.le_of_lt hc), fun h => Int.mul_lt_mul_of_pos_right h hc⟩
  have h2 : x * c = y * c ↔ x = y := ⟨fun h => Int.eq_of_mul_eq_mul_right (by omega) h, fun h => by rw [h]⟩
  rw [icmp, icmp]
  simp only [h1, h2]

theorem order_rung {x y : Nat} (hx : frung x ≤ infK) (hy : frung y ≤ infK) : double.order x y = some (compare (srung x) (srung y)) := by
  unfold Format.order
  rcases Nat.lt_or_eq_of_le hx with fx | fx <;> rcases Nat.lt_or_eq_of_le hy with fy | fy
  · obtain ⟨m, i, h1, h2, h3, _⟩ := read_fin fx
    obtain ⟨n, j, k1, k2, k3, _⟩ := read_fin fy
    rw [h1, k1, ← fval_srung]
    simp only [Datum.order]
    rw [← signed_fval h3 (min i j) (by omega) (by omega), ← signed_fval k3 (min i j) (by omega) (by omega), compare_scale _ _ _ (Int.pow_pos (by decide))]
  · obtain ⟨m, i, h1, h2, h3, _⟩ := read_fin fx
    rw [h1, read_inf fy]
    simp only [Datum.order, srung]
    have : infK = 9218868437227405312 := rfl
    cases fneg x <;> cases fneg y <;> simp only [Bool.false_eq_true, if_false, if_true, icmp]
    all_goals first | (rw [if_pos (by omega)]) | (rw [if_neg (by omega), if_neg (by omega)])
  · obtain ⟨n, j, k1, k2, k3, _⟩ := read_fin fy
    rw [k1, read_inf fx]
    simp only [Datum.order, srung]
    have : infK = 9218868437227405312 := rfl
    cases fneg x <;> cases fneg y <;> simp only [Bool.false_eq_true, if_false, if_true, icmp]
    all_goals first | (rw [if_pos (by omega)]) | (rw [if_neg (by omega), if_neg (by omega)])
  · rw [read_inf fx, read_inf fy]
    simp only [Datum.order, srung, fx, fy]
    cases fneg x <;> cases fneg y <;> decide
theorem order_nan {x y : Nat} (h : infK < frung x ∨ infK < frung y) : double.order x y = none := by
  unfold Format.order
  rcases h with h | h
  · rw [read_nan h]; rfl
  · rw [read_nan h]; cases double.read x <;> rfl

def aboveM (a : Nat) : Nat := if srung a = 0 then 1 else if 0 < srung a then a + 1 else a - 1
def plainM (a : Nat) : Nat := if srung a = 0 then 0 else a
/-- The float that is told of. -/
def movedM (d : Int) (near rest : Nat) : Nat :=
  if d = 2 then (if srung rest < 0 then fopp (aboveM (fopp near)) else near)
  else if d = 1 then (if 0 < srung rest then aboveM near else near) else near
def toldM (d : Int) (near rest : Nat) : Nat × Bool :=
  if (d = 0 ∨ d = 1 ∨ d = 2) ∧ Fin (movedM d near rest) then (plainM (movedM d near rest), true) else (0, false)

def Away (n D near : Nat) : Prop := frung near < infK ∧ rmag (frung near) * D < n
def Toward (n D near : Nat) : Prop := frung near = infK ∨ n < rmag (frung near) * D
structure Sides (neg : Bool) (n D near rest : Nat) : Prop where
  num : frung rest ≤ infK
  pos : 0 < srung rest ↔ (neg = false ∧ Away n D near) ∨ (neg = true ∧ Toward n D near)
  neg : srung rest < 0 ↔ (neg = false ∧ Toward n D near) ∨ (neg = true ∧ Away n D near)

/-- One rung on, in the word's own sign: away from nought, or nearer. -/
theorem above_pos {a : Nat} (h : a < 18446744073709551616) (hr : frung a < infK) (hn : fneg a = false) : aboveM a = double.word false (frung a + 1) := by
  have hp := word_parts h
  rw [hn] at hp
  have : infK = 9218868437227405312 := rfl
  unfold aboveM srung
  rw [hn]
  simp only [Bool.false_eq_true, if_false, Format.word] at hp ⊢
  by_cases h0 : frung a = 0
  · rw [if_pos (by omega), h0]
  · rw [if_neg (by omega), if_pos (by omega)]; omega
theorem above_zero {a : Nat} (hr : frung a = 0) : aboveM a = 1 := by
  unfold aboveM srung; rw [hr]; simp
theorem above_neg {a : Nat} (h : a < 18446744073709551616) (hr : 0 < frung a) (hn : fneg a = true) : aboveM a = double.word true (frung a - 1) := by
  have hp := word_parts h
  rw [hn] at hp
  unfold aboveM srung
  rw [hn]
  simp only [if_true, Format.word] at hp ⊢
  rw [if_neg (by omega), if_neg (by omega)]; omega

theorem plain_word {neg : Bool} {k : Nat} (h : k < infK) : plainM (double.word neg k) = sgnK neg k := by
  have : infK = 9218868437227405312 := rfl
  have hw := word_rung neg (k := k) (by omega)
  unfold plainM srung sgnK
  rw [hw.1, hw.2.1]
  unfold Format.word
  rw [dbl_sign]
  cases neg
  · simp only [Bool.false_eq_true, if_false, false_and]
    by_cases h0 : k = 0
    · rw [if_pos (by omega), h0]
    · rw [if_neg (by omega)]
  · simp only [if_true, true_and]
    by_cases h0 : k = 0
    · rw [if_pos (by omega), if_neg (by omega), h0]
    · rw [if_neg (by omega), if_pos (by omega)]
theorem fin_word {neg : Bool} {k : Nat} (h : k ≤ infK) : Fin (double.word neg k) ↔ k < infK := by
  have : infK = 9218868437227405312 := rfl
  unfold Fin
  rw [(word_rung neg (k := k) (by omega)).1]
theorem fopp_word (neg : Bool) {k : Nat} (h : k ≤ infK) : fopp (double.word neg k) = double.word (!neg) k := by
  have : infK = 9218868437227405312 := rfl
  have hw := word_rung neg (k := k) (by omega)
  have hw' := word_rung (!neg) (k := k) (by omega)
  have ho := fopp_parts hw.2.2
  exact eq_of_parts ho.2.2 hw'.2.2 (by rw [ho.2.1, hw.2.1, hw'.2.1]) (by rw [ho.1, hw.1, hw'.1])

/-- What is made of the nearest one: its rung as the direction has it. -/
theorem moved_word {neg : Bool} {n D near rest R : Nat} (d : Int) (hd : d = 0 ∨ d = 1 ∨ d = 2) (hR : Fl n D R) (hn : near = double.word neg (min (nearK n D R) infK)) (hs : Sides neg n D near rest) :
    ∃ g k, movedM d near rest = double.word g k ∧ k ≤ infK ∧ (k ≠ 0 → g = neg) ∧
      k = (if d = 0 then min (nearK n D R) infK else if d = 1 ∧ neg = false ∨ d = 2 ∧ neg = true then min (upK n D R) infK else min R (infK - 1)) := by
  have hinf : 0 < infK := by decide
  have hpos := hs.pos
  have hneg := hs.neg
  have above_pos : ∀ {a : Nat}, a < 18446744073709551616 → frung a < infK → fneg a = false → aboveM a = double.word false (frung a + 1) := above_pos
  have fopp_word : ∀ (neg : Bool) {k : Nat}, k ≤ infK → fopp (double.word neg k) = double.word (!neg) k := fopp_word
  have hw := word_rung neg (min_inf_lt (nearK n D R))
  rw [← hn] at hw
  have hkle : min (nearK n D R) infK ≤ infK := Nat.min_le_right ..
  obtain ⟨hr0, hr1⟩ := hR
  have hD := Fl.pos ⟨hr0, hr1⟩
  have hFl : Fl n D R := ⟨hr0, hr1⟩
  -- how the nearest one stands to the greatest one not above
  clear hs
  unfold Away Toward at hpos hneg
  generalize infK = I at *
  have hA : (frung near < I ∧ rmag (frung near) * D < n) ↔ (nearK n D R = R ∧ R < I ∧ n ≠ rmag R * D) := by
    rw [hw.1]
    rcases nearK_cases n D R with h | h
    · rw [h]
      constructor
      · rintro ⟨a, b⟩
        have hlt : R < I := by omega
        rw [Nat.min_eq_left (by omega)] at b
        exact ⟨rfl, hlt, by omega⟩
      · rintro ⟨_, a, b⟩
        rw [Nat.min_eq_left (by omega)]
        exact ⟨a, by omega⟩
    · rw [h]
      constructor
      · rintro ⟨a, b⟩
        rw [Nat.min_eq_left (by omega)] at b
        omega
      · rintro ⟨a, _⟩; omega
  have hT : (frung near = I ∨ n < rmag (frung near) * D) ↔ (nearK n D R = R + 1 ∨ I ≤ nearK n D R) := by
    rw [hw.1]
    constructor
    · rintro (a | a)
      · right; omega
      · rcases nearK_cases n D R with h | h
        · rw [h] at a
          by_cases hb : R ≤ I
          · rw [Nat.min_eq_left hb] at a; omega
          · right; omega
        · exact .inl h
    · rintro (a | a)
      · by_cases hb : R + 1 < I
        · right; rw [a, Nat.min_eq_left (by omega)]; exact hr1
        · left; omega
      · left; omega
  have hup : upK n D R = if n = rmag R * D then R else R + 1 := rfl
  have hex : n = rmag R * D → nearK n D R = R := fun h => nearK_exact h hD
  have hcs := nearK_cases n D R
  rw [hA, hT] at hpos hneg
  clear hA hT
  unfold movedM
  rcases hd with rfl | rfl | rfl
  · -- near
    refine ⟨neg, _, hn, hkle, fun _ => rfl, rfl⟩
  · -- up
    rw [if_neg (show ¬ ((1 : Int) = 2) by decide), if_pos (show (1 : Int) = 1 from rfl), if_neg (show ¬ ((1 : Int) = 0) by decide)]
    cases neg
    · rw [if_pos (show (1 : Int) = 1 ∧ false = false ∨ (1 : Int) = 2 ∧ false = true from .inl ⟨rfl, rfl⟩)]
      by_cases h : 0 < srung rest
      · rw [if_pos h]
        have h' := hpos.1 h
        simp only [Bool.false_eq_true, true_and, false_and, or_false] at h'
        rw [above_pos hw.2.2 (by rw [hw.1, h'.1]; omega) hw.2.1, hw.1, h'.1, hup, if_neg h'.2.2]
        exact ⟨false, _, rfl, by omega, fun _ => rfl, by omega⟩
      · rw [if_neg h]
        have h' : ¬ (nearK n D R = R ∧ R < I ∧ n ≠ rmag R * D) := fun c => h (hpos.2 (.inl ⟨rfl, c⟩))
        refine ⟨false, _, hn, hkle, fun _ => rfl, ?_⟩
        rw [hup]
        by_cases he : n = rmag R * D
        · rw [if_pos he, hex he]
        · rw [if_neg he]; omega
    · rw [if_neg (show ¬ ((1 : Int) = 1 ∧ true = false ∨ (1 : Int) = 2 ∧ true = true) by simp)]
      by_cases h : 0 < srung rest
      · rw [if_pos h]
        have h' := hpos.1 h
        simp only [Bool.true_eq_false, true_and, false_and, false_or] at h'
        have hk0 : 0 < min (nearK n D R) I := by omega
        rw [above_neg hw.2.2 (by rw [hw.1]; exact hk0) hw.2.1, hw.1]
        exact ⟨true, _, rfl, by omega, fun _ => rfl, by omega⟩
      · rw [if_neg h]
        have h' : ¬ (nearK n D R = R + 1 ∨ I ≤ nearK n D R) := fun c => h (hpos.2 (.inr ⟨rfl, c⟩))
        exact ⟨true, _, hn, hkle, fun _ => rfl, by omega⟩
  · -- down
    rw [if_pos (show (2 : Int) = 2 from rfl), if_neg (show ¬ ((2 : Int) = 0) by decide)]
    have hf : fopp near = double.word (!neg) (min (nearK n D R) I) := by rw [hn, fopp_word _ hkle]
    have hw' := fopp_parts hw.2.2
    rw [hw.1, hw.2.1] at hw'
    cases neg
    · rw [if_neg (show ¬ ((2 : Int) = 1 ∧ false = false ∨ (2 : Int) = 2 ∧ false = true) by simp)]
      by_cases h : srung rest < 0
      · rw [if_pos h]
        have h' := hneg.1 h
        simp only [Bool.false_eq_true, true_and, false_and, or_false] at h'
        have hk0 : 0 < min (nearK n D R) I := by omega
        rw [above_neg hw'.2.2 (by rw [hw'.1]; exact hk0) hw'.2.1, hw'.1, fopp_word _ (by omega)]
        exact ⟨false, _, rfl, by omega, fun _ => rfl, by omega⟩
      · rw [if_neg h]
        have h' : ¬ (nearK n D R = R + 1 ∨ I ≤ nearK n D R) := fun c => h (hneg.2 (.inl ⟨rfl, c⟩))
        exact ⟨false, _, hn, hkle, fun _ => rfl, by omega⟩
    · rw [if_pos (show (2 : Int) = 1 ∧ true = false ∨ (2 : Int) = 2 ∧ true = true from .inr ⟨rfl, rfl⟩)]
      by_cases h : srung rest < 0
      · rw [if_pos h]
        have h' := hneg.1 h
        simp only [Bool.true_eq_false, true_and, false_and, false_or] at h'
        rw [above_pos hw'.2.2 (by rw [hw'.1, h'.1]; omega) hw'.2.1, hw'.1, h'.1, fopp_word _ (by omega), hup, if_neg h'.2.2]
        exact ⟨true, _, rfl, by omega, fun _ => rfl, by omega⟩
      · rw [if_neg h]
        have h' : ¬ (nearK n D R = R ∧ R < I ∧ n ≠ rmag R * D) := fun c => h (hneg.2 (.inr ⟨rfl, c⟩))
        refine ⟨true, _, hn, hkle, fun _ => rfl, ?_⟩
        rw [hup]
        by_cases he : n = rmag R * D
        · rw [if_pos he, hex he]
        · rw [if_neg he]; omega

theorem plain_word' {g neg : Bool} {k : Nat} (h : k < infK) (hg : k ≠ 0 → g = neg) : plainM (double.word g k) = sgnK neg k := by
  rw [plain_word h]
  by_cases h0 : k = 0
  · subst h0; unfold sgnK; simp
  · rw [hg h0]

theorem told_rnd {neg : Bool} {n D near rest : Nat} (d : Int) (hn : Rn neg n D near) (hs : Sides neg n D near rest) : Rnd d neg n D (toldM d near rest) := by
  obtain ⟨R, hR, he⟩ := hn
  refine ⟨R, hR, ?_⟩
  have hinf : 0 < infK := by decide
  by_cases hd : d = 0 ∨ d = 1 ∨ d = 2
  · obtain ⟨g, k, h1, h2, h3, h4⟩ := moved_word d hd hR he hs
    unfold toldM tellK
    rw [h1]
    have hfin := fin_word (neg := g) h2
    rcases hd with rfl | rfl | rfl
    · rw [if_pos rfl] at h4 ⊢
      by_cases hb : nearK n D R < infK
      · rw [Nat.min_eq_left (by omega)] at h4
        rw [if_pos ⟨.inl rfl, hfin.2 (by omega)⟩, if_pos hb, plain_word' (by omega) h3, h4]
      · rw [if_neg hb, if_neg (fun c => by have := hfin.1 c.2; omega)]
    · rw [if_neg (show ¬ ((1 : Int) = 0) by decide)] at h4
      rw [if_neg (show ¬ ((1 : Int) = 0) by decide)]
      by_cases hc : (1 : Int) = 1 ∧ neg = false ∨ (1 : Int) = 2 ∧ neg = true
      · rw [if_pos hc] at h4 ⊢
        by_cases hb : upK n D R < infK
        · rw [Nat.min_eq_left (by omega)] at h4
          rw [if_pos ⟨.inr (.inl rfl), hfin.2 (by omega)⟩, if_pos hb, plain_word' (by omega) h3, h4]
        · rw [if_neg hb, if_neg (fun c => by have := hfin.1 c.2; omega)]
      · rw [if_neg hc] at h4 ⊢
        rw [if_pos (show ((1 : Int) = 0 ∨ (1 : Int) = 1 ∨ (1 : Int) = 2) ∧ Fin (double.word g k) from ⟨.inr (.inl rfl), hfin.2 (by omega)⟩), if_pos (show (1 : Int) = 1 ∨ (1 : Int) = 2 from .inl rfl), plain_word' (by omega) h3, h4]
    · rw [if_neg (show ¬ ((2 : Int) = 0) by decide)] at h4
      rw [if_neg (show ¬ ((2 : Int) = 0) by decide)]
      by_cases hc : (2 : Int) = 1 ∧ neg = false ∨ (2 : Int) = 2 ∧ neg = true
      · rw [if_pos hc] at h4 ⊢
        by_cases hb : upK n D R < infK
        · rw [Nat.min_eq_left (by omega)] at h4
          rw [if_pos ⟨.inr (.inr rfl), hfin.2 (by omega)⟩, if_pos hb, plain_word' (by omega) h3, h4]
        · rw [if_neg hb, if_neg (fun c => by have := hfin.1 c.2; omega)]
      · rw [if_neg hc] at h4 ⊢
        rw [if_pos (show ((2 : Int) = 0 ∨ (2 : Int) = 1 ∨ (2 : Int) = 2) ∧ Fin (double.word g k) from ⟨.inr (.inr rfl), hfin.2 (by omega)⟩), if_pos (show (2 : Int) = 1 ∨ (2 : Int) = 2 from .inr rfl), plain_word' (by omega) h3, h4]
  · unfold toldM tellK
    rw [if_neg (fun c => hd c.1), if_neg (fun c => hd (.inl c)), if_neg (by omega), if_neg (by omega)]
end Go.Proofs.Ytepdhbhpiehigaa
