import Derived.Test.YtbeaggmiefpgoaaWre
namespace Go.Proofs.Ytbeaggmiefpgoaa
set_option linter.unusedVariables false
open Ieee

/-- What is told of: N / D (times 2^-1074) is (whole + part) 2^power; there is a part, just if more. -/
structure Frt (N D whole : Nat) (power : Int) (more : Bool) : Prop where
  big : 9007199254740992 ≤ whole
  lt : whole < 18446744073709551616
  ex : ∃ X a b : Nat, 0 < X ∧ X * 2 ^ a = D * 2 ^ b ∧ power + 1074 = (b : Int) - a ∧ whole * X ≤ N ∧ N < (whole + 1) * X ∧ (more = true ↔ N ≠ whole * X)
theorem Frt.halves {N D whole : Nat} {power : Int} {more : Bool} (h : Frt N D whole power more) (hD : 0 < D) {drop e : Nat} (hd : 0 < drop) (he : (e : Int) = power + drop + 1074) :
    whole / 2 ^ (drop - 1) = 2 * N / (D * 2 ^ e) ∧ ((more || decide (whole % 2 ^ (drop - 1) ≠ 0)) = true ↔ 2 * N % (D * 2 ^ e) ≠ 0) := by
  obtain ⟨X, a, b, hX, hXD, hp, h1, h2, h3⟩ := h.ex
  have e1 : D * 2 ^ e = X * 2 ^ drop := by
    have : (D * 2 ^ e) * 2 ^ a = (X * 2 ^ drop) * 2 ^ a := by
      rw [Nat.mul_assoc, ← Nat.pow_add, show e + a = b + drop by omega, Nat.pow_add, ← Nat.mul_assoc, ← hXD]; ac_rfl
    exact Nat.eq_of_mul_eq_mul_right (Nat.two_pow_pos a) this
  have e2 : X * 2 ^ drop = 2 * (X * 2 ^ (drop - 1)) := by
    obtain ⟨k, rfl⟩ : ∃ k, drop = k + 1 := ⟨drop - 1, by omega⟩
    rw [Nat.pow_succ, Nat.add_sub_cancel]; ac_rfl
  rw [e1, e2, Nat.mul_div_mul_left _ _ (by omega), Nat.mul_mod_mul_left]
  have hq : N / X = whole := by
    rw [Nat.div_eq_iff hX]
    rw [Nat.add_mul] at h2
    omega
  have hm : N % X = N - whole * X := by
    have := Nat.div_add_mod N X
    rw [hq, Nat.mul_comm] at this; omega
  have hr : N % (X * 2 ^ (drop - 1)) = N % X + X * (N / X % 2 ^ (drop - 1)) := Nat.mod_mul
  refine ⟨by rw [← Nat.div_div_eq_div_mul, hq], ?_⟩
  rw [hr, hq, hm]
  have hx : X * (whole % 2 ^ (drop - 1)) = 0 ↔ whole % 2 ^ (drop - 1) = 0 := by
    rw [Nat.mul_eq_zero]; constructor
    · rintro (c | c)
      · omega
      · exact c
    · exact Or.inr
  cases more
  · have h4 : N = whole * X := Classical.byContradiction fun c => absurd (h3.2 c) (by simp)
    rw [h4, Nat.sub_self]
    simp
    omega
  · have h4 := h3.1 rfl
    simp
    omega
theorem sub_word {k : Nat} (hk : k < infK) : double.sub 0 (double.word false k) = some (sgnK true k) := by
  by_cases h0 : k = 0
  · subst h0; decide
  · have hk' : k < 9223372036854775808 := Nat.lt_trans hk (by decide)
    obtain ⟨w1, w2, w3⟩ := word_rung false hk'
    have f0 : Fin 0 := by unfold Fin; decide
    have f1 : Fin (double.word false k) := by unfold Fin; rw [w1]; exact hk
    obtain ⟨r, hr, g, hg, hs⟩ := sub_fin f0 f1
    have hv : fval 0 - fval (double.word false k) = -(rmag k : Int) := by
      rw [show fval 0 = 0 by decide]; unfold fval; rw [w1, w2]; simp
    have hp : 0 < rmag k := Nat.lt_of_lt_of_le (by omega) (le_rmag k)
    rw [hv] at hg hs
    have hs' := hs (by omega)
    have hneg : g = true := by rw [hs']; exact decide_eq_true (by omega)
    subst hneg
    have he : ((-(rmag k : Int)).natAbs) = rmag k * 1 := by omega
    rw [he] at hg
    have := hg.uniq (Rn.exact true k 1 (by omega))
    rw [hr, this, Nat.min_eq_left (Nat.le_of_lt hk)]
    congr 1
    unfold sgnK
    rw [if_pos ⟨rfl, by omega⟩]
    unfold Ieee.Format.word
    simp [dbl_sign]
theorem inf_lt_word : infK < 9223372036854775808 := by decide
/-- The float of a small whole number. -/
theorem nearest_small {m : Nat} (h : m ≤ 9007199254740992) : ∃ k, double.nearest false m 0 = double.word false k ∧ k < infK ∧ ∀ E, E = 1074 → rmag k = m * 2 ^ E := by
  by_cases h0 : m = 0
  · subst h0
    exact ⟨0, by decide, by decide, fun E _ => by rw [rmag_zero, Nat.zero_mul]⟩
  · obtain ⟨E, hE⟩ : ∃ E : Nat, E = 1074 := ⟨_, rfl⟩
    obtain ⟨R, hR, hw⟩ := nearest_eq false m 0 h0
    obtain ⟨k, hk⟩ := rung_some m E h
    have e1 : nume m 0 = rmag k * 1 := by
      unfold nume
      rw [hk, Nat.mul_one, show ((0 : Int) + 1074).toNat = E by omega]
    have e2 : deno 0 = 1 := by unfold deno; simp
    have hki : k < infK := by
      apply lt_of_rmag
      obtain ⟨F, hF⟩ : ∃ F : Nat, F = 2046 := ⟨_, rfl⟩
      rw [rmag_inf hF, hk]
      obtain ⟨G, hG⟩ : ∃ G : Nat, F = E + G := ⟨F - E, by omega⟩
      have hG2 : 2 ≤ G := by omega
      have : 2 ^ F = 2 ^ E * 2 ^ G := by rw [hG, Nat.pow_add]
      rw [this]
      have hp := Nat.two_pow_pos E
      have h5 : m * 2 ^ E ≤ 9007199254740992 * 2 ^ E := Nat.mul_le_mul_right _ h
      have h6 : (4 : Nat) ≤ 2 ^ G := by
        have := Nat.pow_le_pow_right (n := 2) (by omega) hG2
        simpa using this
      have h7 : 2 ^ E * 4 ≤ 2 ^ E * 2 ^ G := Nat.mul_le_mul_left _ h6
      generalize 2 ^ E * 2 ^ G = Z at *
      generalize m * 2 ^ E = Y at *
      omega
    rw [e1, e2] at hR hw
    have := hR.uniq (Fl.exact k 1 (by omega))
    subst this
    rw [nearK_exact rfl (by omega), Nat.min_eq_left (Nat.le_of_lt hki)] at hw
    exact ⟨R, hw, hki, fun E' h' => by
      obtain rfl : E' = E := by omega
      exact hk⟩
/-- A small whole number, scaled: a rung, or beyond. -/
theorem pow_small_whole {m k r e : Nat} {n : Int} (hk : k < infK) (hr : ∀ E, E = 1074 → rmag k = m * 2 ^ E) (hm : m ≤ 9007199254740992) (hf : e = 0 ∨ 4503599627370496 ≤ m) (he : n = (e : Int) - 1074) (hp : Pow (double.word false k) n r) :
    r = double.word false (min (e * 4503599627370496 + m) infK) := by
  obtain ⟨w1, w2, w3⟩ := word_rung false (Nat.lt_trans hk inf_lt_word)
  unfold Pow at hp
  rw [w1, w2] at hp
  have hK := rmag_form e m hf hm
  refine (hp.of_eq (n' := rmag (e * 4503599627370496 + m) * 1) (D' := 1) (Nat.two_pow_pos _) (by omega) ?_).uniq (Rn.exact false _ 1 (by omega))
  obtain ⟨E, hE⟩ : ∃ E : Nat, E = 1074 := ⟨_, rfl⟩
  rw [hK, hr E hE, Nat.mul_one, Nat.mul_one, Nat.mul_assoc, Nat.mul_assoc, ← Nat.pow_add, ← Nat.pow_add]
  congr 2
  omega
/-- By how much the halves go up. -/
def incB (d : Int) (neg : Bool) (h : Nat) (rest : Bool) : Bool :=
  if d = 0 then decide (h % 2 = 1) && (rest || decide (h / 2 % 2 = 1)) else if d = 1 ∧ neg = false ∨ d = 2 ∧ neg = true then decide (h % 2 = 1) || rest else false
/-- What told tells, by the rung K. -/
def toldK (d : Int) (neg : Bool) (K : Nat) : Nat × Bool :=
  if K < infK then (sgnK neg K, true) else if d = 0 ∨ d = 1 ∧ neg = false ∨ d = 2 ∧ neg = true then (0, false) else (sgnK neg (infK - 1), true)
theorem Frt.tells {N D whole : Nat} {power : Int} {more : Bool} (h : Frt N D whole power more) (hD : 0 < D) {d : Int} (neg : Bool) (hd : d = 0 ∨ d = 1 ∨ d = 2) {drop e : Nat} (hd0 : 0 < drop) (he : (e : Int) = power + drop + 1074)
    (hlo : e = 0 ∨ 2 ^ (drop + 52) ≤ whole) (hhi : whole < 2 ^ (drop + 53)) :
    Rnd d neg N D (toldK d neg (e * 4503599627370496 + (whole / 2 ^ (drop - 1) / 2 + (incB d neg (whole / 2 ^ (drop - 1)) (more || decide (whole % 2 ^ (drop - 1) ≠ 0))).toNat)))
    ∧ whole / 2 ^ (drop - 1) / 2 = whole / 2 ^ drop ∧ whole / 2 ^ drop < 9007199254740992 ∧ (e = 0 ∨ 4503599627370496 ≤ whole / 2 ^ drop) := by
  obtain ⟨h1, h2⟩ := h.halves hD hd0 he
  have e3 : whole / 2 ^ (drop - 1) / 2 = whole / 2 ^ drop := by
    rw [Nat.div_div_eq_div_mul]; congr 1
    obtain ⟨k, rfl⟩ : ∃ k, drop = k + 1 := ⟨drop - 1, by omega⟩
    rw [Nat.pow_succ, Nat.add_sub_cancel]
  have hl : whole / 2 ^ drop < 9007199254740992 := by
    rw [Nat.div_lt_iff_lt_mul (Nat.two_pow_pos _)]
    rw [Nat.pow_add, Nat.mul_comm] at hhi
    simpa using hhi
  have hf : e = 0 ∨ 4503599627370496 ≤ whole / 2 ^ drop := by
    rcases hlo with c | c
    · exact .inl c
    · right
      rw [Nat.le_div_iff_mul_le (Nat.two_pow_pos _)]
      rw [Nat.pow_add, Nat.mul_comm] at c
      simpa using c
  refine ⟨?_, e3, hl, hf⟩
  generalize hh : whole / 2 ^ (drop - 1) = H at *
  generalize (more || decide (whole % 2 ^ (drop - 1) ≠ 0)) = rest at *
  rw [← e3] at hl hf
  obtain ⟨q1, q2, q3⟩ := halves_quot (rest := rest) hD h1 h2 hf (by omega)
  refine ⟨_, q1, ?_⟩
  unfold tellK toldK incB
  rw [q2, q3]
  rcases hd with rfl | rfl | rfl
  · simp only [if_true, true_or]
  · cases neg
    · simp
    · simp
      split
      · rw [Nat.min_eq_left (by omega)]
      · rw [Nat.min_eq_right (by omega)]
  · cases neg
    · simp
      split
      · rw [Nat.min_eq_left (by omega)]
      · rw [Nat.min_eq_right (by omega)]
    · simp
end Go.Proofs.Ytbeaggmiefpgoaa
