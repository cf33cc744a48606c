namespace Go.Proofs.Ytepdhbhpiehigaa
set_option linter.unusedVariables false

def U4 (xs : List Nat) : Prop := ∀ x ∈ xs, x < 4294967296
/-- The whole number of words of 32 bits, the lowest first. -/
def dig : List Nat → Nat
  | [] => 0
  | x :: xs => x + 4294967296 * dig xs
/-- The last word is not 0. -/
def Nm (xs : List Nat) : Prop := xs = [] ∨ xs[xs.length - 1]?.getD 0 ≠ 0
def bl (m : Nat) : Nat := if m = 0 then 0 else m.log2 + 1
/-- 2^(32 k). -/
def wd (k : Nat) : Nat := 2 ^ (32 * k)

theorem wd_zero : wd 0 = 1 := rfl
theorem wd_succ (k : Nat) : wd (k + 1) = 4294967296 * wd k := by
  unfold wd; rw [Nat.mul_add, Nat.mul_one, Nat.pow_add, Nat.mul_comm]
theorem wd_pos (k : Nat) : 0 < wd k := Nat.two_pow_pos _
theorem wd_add (a b : Nat) : wd (a + b) = wd a * wd b := by unfold wd; rw [Nat.mul_add, Nat.pow_add]

theorem U4.tail {x : Nat} {xs : List Nat} (h : U4 (x :: xs)) : x < 4294967296 ∧ U4 xs := ⟨h x (by simp), fun y hy => h y (by simp [hy])⟩
theorem U4.at {xs : List Nat} (h : U4 xs) (j : Nat) : xs[j]?.getD 0 < 4294967296 := by
  by_cases hj : j < xs.length
  · rw [List.getElem?_eq_getElem hj]; exact h _ (List.getElem_mem hj)
  · rw [List.getElem?_eq_none (by omega)]; simp
theorem U4.take {xs : List Nat} (h : U4 xs) (n : Nat) : U4 (xs.take n) := fun y hy => h y (List.mem_of_mem_take hy)
theorem U4.drop {xs : List Nat} (h : U4 xs) (n : Nat) : U4 (xs.drop n) := fun y hy => h y (List.mem_of_mem_drop hy)
theorem U4.set {xs : List Nat} (h : U4 xs) (k v : Nat) (hv : v < 4294967296) : U4 (xs.set k v) := by
  intro y hy
  rcases List.mem_or_eq_of_mem_set hy with h1 | h1
  · exact h y h1
  · omega

theorem dig_lt {xs : List Nat} (h : U4 xs) : dig xs < wd xs.length := by
  induction xs with
  | nil => simp [dig, wd]
  | cons x xs ih =>
    have h1 := h.tail
    have := ih h1.2
    rw [List.length_cons, wd_succ]
    show x + 4294967296 * dig xs < _
    omega
theorem dig_append (xs ys : List Nat) : dig (xs ++ ys) = dig xs + wd xs.length * dig ys := by
  induction xs with
  | nil => simp [dig, wd]
  | cons x xs ih =>
    show x + 4294967296 * dig (xs ++ ys) = x + 4294967296 * dig xs + _
    rw [ih, List.length_cons, wd_succ, Nat.mul_add, Nat.mul_assoc]; omega
theorem dig_split (xs : List Nat) (k : Nat) : dig xs = dig (xs.take k) + wd (xs.take k).length * dig (xs.drop k) := by
  rw [← dig_append, List.take_append_drop]
theorem dig_take_succ {xs : List Nat} {k : Nat} (hk : k < xs.length) : dig (xs.take (k + 1)) = dig (xs.take k) + wd k * xs[k]?.getD 0 := by
  rw [List.take_succ_eq_append_getElem hk, dig_append, List.length_take, Nat.min_eq_left (by omega), List.getElem?_eq_getElem hk]
  simp [dig]
theorem dig_set {xs : List Nat} {k v : Nat} (hk : k < xs.length) : dig (xs.set k v) + wd k * xs[k]?.getD 0 = dig xs + wd k * v := by
  induction xs generalizing k with
  | nil => simp at hk
  | cons x xs ih =>
    cases k with
    | zero => simp [dig, wd_zero]; omega
    | succ k =>
      have := ih (k := k) (by simpa using hk)
      simp only [List.set_cons_succ, dig, List.getElem?_cons_succ, wd_succ]
      have e1 : 4294967296 * wd k * xs[k]?.getD 0 = 4294967296 * (wd k * xs[k]?.getD 0) := Nat.mul_assoc ..
      have e2 : 4294967296 * wd k * v = 4294967296 * (wd k * v) := Nat.mul_assoc ..
      omega
theorem dig_zeros (n : Nat) : dig (List.replicate n 0) = 0 := by
  induction n with
  | zero => rfl
  | succ n ih => rw [List.replicate_succ]; simp [dig, ih]

theorem bl_zero : bl 0 = 0 := rfl
theorem bl_spec {m : Nat} (h : m ≠ 0) : 2 ^ (bl m - 1) ≤ m ∧ m < 2 ^ bl m ∧ 1 ≤ bl m := by
  unfold bl; rw [if_neg h]
  exact ⟨Nat.log2_self_le h, Nat.lt_log2_self, by omega⟩
theorem bl_uniq {m k : Nat} (h1 : 2 ^ k ≤ m) (h2 : m < 2 ^ (k + 1)) : bl m = k + 1 := by
  have hm : m ≠ 0 := by have := Nat.two_pow_pos k; omega
  unfold bl; rw [if_neg hm]
  have := (Nat.log2_eq_iff hm).2 ⟨h1, h2⟩
  omega
theorem bl_half {m : Nat} (h : m ≠ 0) : bl (m / 2) + 1 = bl m := by
  by_cases h1 : m / 2 = 0
  · have : m = 1 := by omega
    subst this; rfl
  · have := bl_spec h1
    obtain ⟨k, hk⟩ : ∃ k, bl (m / 2) = k + 1 := ⟨bl (m / 2) - 1, by omega⟩
    rw [hk] at this
    simp only [Nat.add_sub_cancel] at this
    have e := bl_uniq (m := m) (k := k + 1) (by rw [Nat.pow_succ]; omega) (by rw [Nat.pow_succ]; omega)
    omega
/-- How long a number with a last word that is not 0 is. -/
theorem bl_dig {xs : List Nat} (h : U4 xs) (hn : Nm xs) (h0 : xs ≠ []) : bl (dig xs) = 32 * (xs.length - 1) + bl (xs[xs.length - 1]?.getD 0) ∧ dig xs ≠ 0 := by
  have hl : 0 < xs.length := List.length_pos_iff.2 h0
  have ht : xs[xs.length - 1]?.getD 0 ≠ 0 := by
    rcases hn with h1 | h1
    · exact absurd h1 h0
    · exact h1
  have e := dig_take_succ (xs := xs) (k := xs.length - 1) (by omega)
  rw [show xs.length - 1 + 1 = xs.length by omega, List.take_length] at e
  have hlow := dig_lt (h.take (xs.length - 1))
  rw [List.length_take, Nat.min_eq_left (by omega)] at hlow
  have ht2 := h.at (xs.length - 1)
  generalize xs[xs.length - 1]?.getD 0 = t at *
  generalize dig (xs.take (xs.length - 1)) = lo at *
  generalize xs.length - 1 = L at *
  have hb := bl_spec ht
  have hw := wd_pos L
  have hm : dig xs ≠ 0 := by
    have : wd L * 1 ≤ wd L * t := Nat.mul_le_mul_left _ (by omega)
    omega
  refine ⟨?_, hm⟩
  obtain ⟨k, hk⟩ : ∃ k, bl t = k + 1 := ⟨bl t - 1, by omega⟩
  rw [hk] at hb ⊢
  simp only [Nat.add_sub_cancel] at hb
  rw [e, show 32 * L + (k + 1) = (32 * L + k) + 1 from rfl]
  refine bl_uniq ?_ ?_
  · rw [Nat.pow_add]; have := Nat.mul_le_mul_left (wd L) hb.1; unfold wd at *; omega
  · rw [show 32 * L + k + 1 = 32 * L + (k + 1) from rfl, Nat.pow_add]
    have h1 : wd L * t + wd L ≤ wd L * 2 ^ (k + 1) := by
      rw [← Nat.mul_succ]; exact Nat.mul_le_mul_left _ hb.2.1
    unfold wd at *; omega
end Go.Proofs.Ytepdhbhpiehigaa
