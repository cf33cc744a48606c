import Derived.Test.YtfldgjkpkmnkbabDoorTrip
namespace Go.Proofs.YtfldgjkpkmnkbabDoor
open Go.RowKit
set_option linter.unusedVariables false

/-! ### so many bits on their way out -/
def stpN : Nat → Nat → Nat
  | 0, r => r
  | n + 1, r => stpN n (stp r)
theorem stpN_add (m n r : Nat) : stpN (m + n) r = stpN n (stpN m r) := by
  induction m generalizing r with
  | zero => simp [stpN]
  | succ m ih => rw [show m + 1 + n = (m + n) + 1 from by omega]; simp only [stpN]; exact ih _
theorem stpN_xor (n a b : Nat) : stpN n (a ^^^ b) = stpN n a ^^^ stpN n b := by
  induction n generalizing a b with
  | zero => rfl
  | succ n ih => simp only [stpN]; rw [stp_xor, ih]
theorem stpN_zero (n : Nat) : stpN n 0 = 0 := by
  induction n with
  | zero => rfl
  | succ n ih => simp only [stpN]; exact ih
theorem stpN_lt {r : Nat} (n : Nat) (h : r < 4294967296) : stpN n r < 4294967296 := by
  induction n generalizing r with
  | zero => exact h
  | succ n ih => simp only [stpN]; exact ih (stp_lt h)
/-- Nothing but 0 goes to 0. -/
theorem stp_ne {r : Nat} (h : r < 4294967296) (h0 : r ≠ 0) : stp r ≠ 0 := by
  unfold stp
  split
  · intro he
    have h1 : (r / 2) = 2197175160 := by
      have := congrArg (fun x => x ^^^ 2197175160) he
      simp only [Nat.xor_assoc, Nat.xor_self, Nat.xor_zero, Nat.zero_xor] at this
      exact this
    omega
  · omega
theorem stpN_ne {r : Nat} (n : Nat) (h : r < 4294967296) (h0 : r ≠ 0) : stpN n r ≠ 0 := by
  induction n generalizing r with
  | zero => exact h0
  | succ n ih => simp only [stpN]; exact ih (stp_lt h) (stp_ne h h0)
theorem xor_zero_eq {a b : Nat} (h : a ^^^ b = 0) : a = b := by
  have := congrArg (fun x => x ^^^ b) h
  simp only [Nat.xor_assoc, Nat.xor_self, Nat.xor_zero, Nat.zero_xor] at this
  exact this
theorem stpN_inj {a b : Nat} (n : Nat) (ha : a < 4294967296) (hb : b < 4294967296) (h : stpN n a = stpN n b) : a = b := by
  by_cases hx : a ^^^ b = 0
  · exact xor_zero_eq hx
  · have h1 := stpN_ne n (xor_lt32 ha hb) hx
    rw [stpN_xor, h, Nat.xor_self] at h1
    exact absurd rfl h1
theorem stp8_N (r : Nat) : stp8 r = stpN 8 r := rfl

/-! ### an odd number of bits -/
def par : Nat → Nat → Bool
  | 0, _ => false
  | f + 1, r => decide (r % 2 = 1) ^^ par f (r / 2)
theorem par_xor (f a b : Nat) : par f (a ^^^ b) = (par f a ^^ par f b) := by
  induction f generalizing a b with
  | zero => rfl
  | succ f ih =>
    simp only [par]
    rw [xor_div2, ih, xor_mod2]
    have : decide ((a + b) % 2 = 1) = (decide (a % 2 = 1) ^^ decide (b % 2 = 1)) := by
      rcases Nat.mod_two_eq_zero_or_one a with ha | ha <;> rcases Nat.mod_two_eq_zero_or_one b with hb | hb
      · rw [ha, hb, show (a + b) % 2 = 0 from by omega]; rfl
      · rw [ha, hb, show (a + b) % 2 = 1 from by omega]; rfl
      · rw [ha, hb, show (a + b) % 2 = 1 from by omega]; rfl
      · rw [ha, hb, show (a + b) % 2 = 0 from by omega]; rfl
    rw [this]
    generalize decide (a % 2 = 1) = x
    generalize decide (b % 2 = 1) = y
    generalize par f (a / 2) = u
    generalize par f (b / 2) = v
    revert x y u v
    decide
theorem par_zero (f : Nat) : par f 0 = false := by
  induction f with
  | zero => rfl
  | succ f ih => simp only [par]; rw [show (0 : Nat) / 2 = 0 from rfl, ih]; rfl
theorem par_more (f r : Nat) (h : r < 2 ^ f) : par (f + 1) r = par f r := by
  induction f generalizing r with
  | zero => have : r = 0 := by simpa using h
            subst this; rfl
  | succ f ih =>
    have : par (f + 1 + 1) r = (decide (r % 2 = 1) ^^ par (f + 1) (r / 2)) := rfl
    rw [this, ih (r / 2) (by rw [Nat.pow_succ] at h; omega)]
    rfl
theorem par_stp (r : Nat) (h : r < 4294967296) : par 32 (stp r) = par 32 r := by
  have h1 : par 33 r = par 32 r := par_more 32 r h
  have h2 : par 33 r = (decide (r % 2 = 1) ^^ par 32 (r / 2)) := rfl
  have hP : par 32 2197175160 = true := by decide
  rw [← h1, h2]
  unfold stp
  split
  · rename_i ho
    rw [par_xor, hP, ho]
    generalize par 32 (r / 2) = u
    revert u
    decide
  · rename_i ho
    rw [decide_eq_false ho]
    generalize par 32 (r / 2) = u
    revert u
    decide
theorem par_stpN (n r : Nat) (h : r < 4294967296) : par 32 (stpN n r) = par 32 r := by
  induction n generalizing r with
  | zero => rfl
  | succ n ih => simp only [stpN]; rw [ih _ (stp_lt h), par_stp r h]

/-! ### two bits: 1 does not come back -/
def one? (r : Nat) : Nat := match r with
  | 0 => 0
  | y + 1 => bif (stp (y + 1)) == 1 then 0 else stp (y + 1)
def run? : Nat → Nat → Nat
  | 0, r => one? r
  | d + 1, r => match run? d r with
    | 0 => 0
    | z + 1 => run? d (z + 1)
theorem one?_ok (r : Nat) (h : one? r ≠ 0) : one? r = stp r ∧ stp r ≠ 1 := by
  cases r with
  | zero => exact absurd rfl h
  | succ y =>
    unfold one? at h ⊢
    simp only at h ⊢
    by_cases he : stp (y + 1) = 1
    · rw [he] at h; simp at h
    · have : (stp (y + 1) == 1) = false := by simp [he]
      rw [this] at h ⊢
      exact ⟨rfl, he⟩
theorem run?_ok : ∀ (d r : Nat), run? d r ≠ 0 → run? d r = stpN (2 ^ d) r ∧ ∀ k, 0 < k → k ≤ 2 ^ d → stpN k r ≠ 1 := by
  intro d
  induction d with
  | zero =>
    intro r h
    obtain ⟨h1, h2⟩ := one?_ok r h
    refine ⟨h1, fun k hk hk1 => ?_⟩
    have : k = 1 := by simp at hk1; omega
    subst this
    exact h2
  | succ d ih =>
    intro r h
    simp only [run?] at h ⊢
    cases hr : run? d r with
    | zero => rw [hr] at h; exact absurd rfl h
    | succ z =>
      rw [hr] at h
      simp only at h ⊢
      obtain ⟨h1, h2⟩ := ih r (by rw [hr]; omega)
      obtain ⟨h3, h4⟩ := ih (z + 1) h
      rw [hr] at h1
      rw [h1] at h3 h4
      refine ⟨by rw [h1, h3, Nat.pow_succ, Nat.mul_two, stpN_add], fun k hk hk1 => ?_⟩
      by_cases hk2 : k ≤ 2 ^ d
      · exact h2 k hk hk2
      · have := h4 (k - 2 ^ d) (by omega) (by rw [Nat.pow_succ] at hk1; omega)
        rw [← stpN_add, show 2 ^ d + (k - 2 ^ d) = k from by omega] at this
        exact this
end Go.Proofs.YtfldgjkpkmnkbabDoor
