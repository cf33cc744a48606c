import Derived.Test.YtbeaggmiefpgoaaWrt
namespace Go.Proofs.Ytbeaggmiefpgoaa
set_option linter.unusedVariables false

theorem shl_split (x n : Nat) (hn : n ≤ 64) : x * 2 ^ n = x * 2 ^ n % 18446744073709551616 + (x / 2 ^ (64 - n)) * 18446744073709551616 := by
  have hp : 2 ^ n * 2 ^ (64 - n) = 18446744073709551616 := by rw [← Nat.pow_add, show n + (64 - n) = 64 by omega]
  have hpn := Nat.two_pow_pos n
  have h1 := Nat.div_add_mod (x * 2 ^ n) 18446744073709551616
  have h2 : x * 2 ^ n / 18446744073709551616 = x / 2 ^ (64 - n) := by
    rw [← hp, Nat.mul_comm (2 ^ n), Nat.mul_div_mul_right _ _ hpn]
  rw [h2] at h1
  omega
theorem shl_or {a b n : Nat} (hn : n ≤ 64) (ha : a * 2 ^ n < 18446744073709551616) (hb : b < 18446744073709551616) : ((a * 2 ^ n % 18446744073709551616) ||| (b / 2 ^ (64 - n))) = a * 2 ^ n + b / 2 ^ (64 - n) := by
  have hp : 2 ^ n * 2 ^ (64 - n) = 18446744073709551616 := by rw [← Nat.pow_add, show n + (64 - n) = 64 by omega]
  have hlo : b / 2 ^ (64 - n) < 2 ^ n := by rw [Nat.div_lt_iff_lt_mul (Nat.two_pow_pos _), hp]; exact hb
  rw [Nat.mod_eq_of_lt ha, Nat.mul_comm, Nat.two_pow_add_eq_or_of_lt hlo]
/-- The first 64 bits of (fa 2^64 + b) P + Y. -/
theorem front_math {fa b Y n P X V W lo : Nat} (hn : n ≤ 64) (hf0 : 9223372036854775808 ≤ fa * 2 ^ n) (hf1 : fa * 2 ^ n < 18446744073709551616) (hb : b < 18446744073709551616)
    (hV : V * 18446744073709551616 = Y + (fa * 18446744073709551616 + b) * P) (hY : Y < P) (hX : X * 2 ^ n = P * 18446744073709551616) (hW : W = (fa * 2 ^ n % 18446744073709551616) ||| (b / 2 ^ (64 - n))) (hlo : lo = b * 2 ^ n % 18446744073709551616) :
    9223372036854775808 ≤ W ∧ W < 18446744073709551616 ∧ W * X ≤ V * 18446744073709551616 ∧ V * 18446744073709551616 < (W + 1) * X ∧ (V * 18446744073709551616 ≠ W * X ↔ (lo ≠ 0 ∨ Y ≠ 0)) := by
  have hp : 2 ^ n * 2 ^ (64 - n) = 18446744073709551616 := by rw [← Nat.pow_add, show n + (64 - n) = 64 by omega]
  have hpn := Nat.two_pow_pos n
  have e1 := shl_split b n hn
  rw [shl_or hn hf1 hb] at hW
  rw [← hlo] at e1
  have hdv : lo % 2 ^ n = 0 := by
    rw [hlo, ← hp, Nat.mul_comm b, Nat.mul_mod_mul_left]; exact Nat.mul_mod_right _ _
  have hl64 : lo < 18446744073709551616 := by rw [hlo]; exact Nat.mod_lt _ (by omega)
  have hl : lo + 2 ^ n ≤ 18446744073709551616 := by
    obtain ⟨q, hq⟩ : ∃ q, lo = 2 ^ n * q := ⟨lo / 2 ^ n, by have := Nat.div_add_mod lo (2 ^ n); omega⟩
    have h2 : q < 2 ^ (64 - n) := by
      rw [hq, ← hp] at hl64
      exact Nat.lt_of_mul_lt_mul_left hl64
    have h3 : 2 ^ n * (q + 1) ≤ 2 ^ n * 2 ^ (64 - n) := Nat.mul_le_mul_left _ h2
    rw [hp, Nat.mul_add, ← hq] at h3
    omega
  have hWl : W < 18446744073709551616 := by
    have h1 : b / 2 ^ (64 - n) < 2 ^ n := by rw [Nat.div_lt_iff_lt_mul (Nat.two_pow_pos _), hp]; exact hb
    obtain ⟨q, hq⟩ : ∃ q, q = fa + 1 := ⟨_, rfl⟩
    have h2 : fa < 2 ^ (64 - n) := by
      rw [← hp, Nat.mul_comm] at hf1
      exact Nat.lt_of_mul_lt_mul_left hf1
    have h3 : 2 ^ n * (fa + 1) ≤ 2 ^ n * 2 ^ (64 - n) := Nat.mul_le_mul_left _ h2
    rw [hp, Nat.mul_add, Nat.mul_comm] at h3
    omega
  have key : V * 18446744073709551616 * 2 ^ n = W * X * 2 ^ n + (Y * 2 ^ n + lo * P) := by
    rw [hV, Nat.mul_assoc W, hX]
    have : (fa * 18446744073709551616 + b) * P * 2 ^ n = (W * 18446744073709551616 + lo) * P := by
      rw [Nat.mul_right_comm]; congr 1
      rw [Nat.add_mul, e1, hW, Nat.add_mul]
      have : fa * 18446744073709551616 * 2 ^ n = fa * 2 ^ n * 18446744073709551616 := by ac_rfl
      omega
    rw [Nat.add_mul, this, Nat.add_mul]
    have h2 : W * 18446744073709551616 * P = W * (P * 18446744073709551616) := by ac_rfl
    rw [h2]
    omega
  have hr : Y * 2 ^ n + lo * P < X * 2 ^ n := by
    rw [hX]
    have h1 : Y * 2 ^ n < P * 2 ^ n := Nat.mul_lt_mul_of_pos_right hY hpn
    have h2 : (lo + 2 ^ n) * P ≤ 18446744073709551616 * P := Nat.mul_le_mul_right _ hl
    rw [Nat.add_mul] at h2
    rw [Nat.mul_comm P (2 ^ n)] at h1
    rw [Nat.mul_comm P]
    omega
  have hP : 0 < P := by omega
  have hz : Y * 2 ^ n + lo * P = 0 ↔ (lo = 0 ∧ Y = 0) := by
    constructor
    · intro h
      have h1 : Y * 2 ^ n = 0 := by omega
      have h2 : lo * P = 0 := by omega
      rcases Nat.mul_eq_zero.1 h1 with c | c <;> rcases Nat.mul_eq_zero.1 h2 with c' | c' <;> omega
    · rintro ⟨rfl, rfl⟩; simp
  refine ⟨by rw [hW]; omega, hWl, ?_, ?_, ?_⟩
  · exact Nat.le_of_mul_le_mul_right (by omega) hpn
  · apply Nat.lt_of_mul_lt_mul_right (a := 2 ^ n)
    rw [Nat.mul_assoc (W + 1), Nat.add_mul W 1, Nat.one_mul, ← Nat.mul_assoc]
    omega
  · have h1 : V * 18446744073709551616 = W * X ↔ Y * 2 ^ n + lo * P = 0 := by
      constructor
      · intro h; rw [h] at key; omega
      · intro h
        rw [h, Nat.add_zero] at key
        exact Nat.eq_of_mul_eq_mul_right hpn key
    rw [ne_eq, h1, hz]
    omega
/-- What front tells of the words. -/
theorem front_frt {f : Nat → Nat} {at' n A B W b : Nat} {more : Bool} {power : Int} (hlt : ∀ j, j < 76 → f j < 18446744073709551616) (ha : at' < 76) (htop : ∀ j, at' < j → j < 76 → f j = 0) (hn : n ≤ 64) (hf0 : 9223372036854775808 ≤ f at' * 2 ^ n) (hf1 : f at' * 2 ^ n < 18446744073709551616)
    (hb : b = if at' = 0 then 0 else f (at' - 1)) (hW : W = (f at' * 2 ^ n % 18446744073709551616) ||| (b / 2 ^ (64 - n))) (hm : more = true ↔ (b * 2 ^ n % 18446744073709551616 ≠ 0 ∨ ∃ j, j + 1 < at' ∧ f j ≠ 0))
    (hp : power = -2240 + at' * 64 - n) (hB : B = 64) (hA : A = 1230) : Frt (wv f 76 * 2 ^ B) (2 ^ A) W power more ∧ 9223372036854775808 ≤ W := by
  have hV : wv f 76 = wv f at' + f at' * 2 ^ (64 * at') := by
    rw [wv_top (k := at' + 1) (by omega) (fun j h1 h2 => htop j (by omega) h2), wv_succ]
  have hbl : b < 18446744073709551616 := by
    rw [hb]; split
    · omega
    · exact hlt _ (by omega)
  have h64 : (2 : Nat) ^ B = 18446744073709551616 := by subst hB; rfl
  -- what lies beneath
  obtain ⟨Y, hY, hYl, hYz⟩ : ∃ Y, wv f at' * 18446744073709551616 = Y + b * 2 ^ (64 * at') ∧ Y < 2 ^ (64 * at') ∧ (Y ≠ 0 ↔ ∃ j, j + 1 < at' ∧ f j ≠ 0) := by
    by_cases h0 : at' = 0
    · subst h0
      refine ⟨0, ?_, by simp, ?_⟩
      · rw [hb]; simp [wv]
      · constructor
        · intro h; omega
        · rintro ⟨j, h1, _⟩; omega
    · obtain ⟨k, rfl⟩ : ∃ k, at' = k + 1 := ⟨at' - 1, by omega⟩
      rw [if_neg h0, Nat.add_sub_cancel] at hb
      have hk := wv_lt (f := f) (n := k) (fun j hj => hlt j (by omega))
      refine ⟨wv f k * 18446744073709551616, ?_, ?_, ?_⟩
      · rw [wv_succ, ← hb, pow_step, Nat.add_mul]
        congr 1
        ac_rfl
      · rw [pow_step, Nat.mul_comm]; exact Nat.mul_lt_mul_of_pos_left hk (by omega)
      · have hz := wv_zero_iff (f := f) (n := k)
        constructor
        · intro h
          apply Classical.byContradiction
          intro hc
          apply h
          rw [hz.2 (fun j hj => Classical.byContradiction fun hne => hc ⟨j, by omega, hne⟩), Nat.zero_mul]
        · rintro ⟨j, h1, h2⟩ h
          rcases Nat.mul_eq_zero.1 h with c | c
          · exact h2 (hz.1 c j (by omega))
          · omega
  have hVV : wv f 76 * 18446744073709551616 = Y + (f at' * 18446744073709551616 + b) * 2 ^ (64 * at') := by
    rw [hV, Nat.add_mul, hY, Nat.add_mul]
    have : f at' * 2 ^ (64 * at') * 18446744073709551616 = f at' * 18446744073709551616 * 2 ^ (64 * at') := by ac_rfl
    omega
  have hX : 2 ^ (64 * at' + 64 - n) * 2 ^ n = 2 ^ (64 * at') * 18446744073709551616 := by
    rw [← Nat.pow_add, show 64 * at' + 64 - n + n = 64 * at' + 64 by omega, Nat.pow_add]
  obtain ⟨r1, r2, r3, r4, r5⟩ := front_math hn hf0 hf1 hbl hVV hYl hX hW rfl
  obtain ⟨u, hu⟩ : ∃ u : Nat, u = 2000 := ⟨_, rfl⟩
  obtain ⟨v, hv⟩ : ∃ v : Nat, v + n = 834 + 64 * at' := ⟨834 + 64 * at' - n, by omega⟩
  refine ⟨⟨by omega, r2, 2 ^ (64 * at' + 64 - n), u, v, Nat.two_pow_pos _, ?_, by omega, by rw [h64]; exact r3, by rw [h64]; exact r4, ?_⟩, r1⟩
  · rw [← Nat.pow_add, ← Nat.pow_add, show 64 * at' + 64 - n + u = A + v by omega]
  · rw [h64, r5, hm, hYz]
end Go.Proofs.Ytbeaggmiefpgoaa
