import Derived.Test.YtepdhbhpiehigaaLft
namespace Go.Proofs.Ytepdhbhpiehigaa
set_option linter.unusedVariables false

/-- The words of a number divided by 2^s. -/
def shr (s : Nat) : List Nat → List Nat
  | [] => []
  | d :: ds => ((d + 4294967296 * (ds[0]?.getD 0)) / 2 ^ s % 4294967296) :: shr s ds
theorem shr_len (s : Nat) (ds : List Nat) : (shr s ds).length = ds.length := by
  induction ds with
  | nil => rfl
  | cons d ds ih => simp [shr, ih]
theorem shr_at (s : Nat) (ds : List Nat) (j : Nat) (hj : j < ds.length) : (shr s ds)[j]?.getD 0 = (ds[j]?.getD 0 + 4294967296 * (ds[j + 1]?.getD 0)) / 2 ^ s % 4294967296 := by
  induction ds generalizing j with
  | nil => simp at hj
  | cons d ds ih =>
    cases j with
    | zero => simp [shr]
    | succ j => simp only [shr, List.getElem?_cons_succ]; exact ih j (by simpa using hj)
theorem shr_u4 (s : Nat) (ds : List Nat) : U4 (shr s ds) := by
  induction ds with
  | nil => intro x hx; cases hx
  | cons d ds ih =>
    intro x hx
    rcases List.mem_cons.1 hx with rfl | hx
    · exact Nat.mod_lt _ (by decide)
    · exact ih x hx
theorem dig_head (ds : List Nat) : dig ds = ds[0]?.getD 0 + 4294967296 * dig (ds.drop 1) := by
  cases ds with
  | nil => rfl
  | cons d ds => rfl
theorem p32 {s : Nat} (hs : s < 32) : (4294967296 : Nat) = 2 ^ s * 2 ^ (32 - s) := by rw [← Nat.pow_add, show s + (32 - s) = 32 by omega]
theorem dig_shr {s : Nat} (hs : s < 32) {ds : List Nat} (h : U4 ds) : dig (shr s ds) = dig ds / 2 ^ s := by
  induction ds with
  | nil => simp [shr, dig]
  | cons d ds ih =>
    have h1 := h.tail
    show (d + 4294967296 * (ds[0]?.getD 0)) / 2 ^ s % 4294967296 + 4294967296 * dig (shr s ds) = (d + 4294967296 * dig ds) / 2 ^ s
    rw [ih h1.2]
    have hp := Nat.two_pow_pos s
    have hh := dig_head ds
    generalize ds[0]?.getD 0 = hd at *
    -- remainders
    have hR : dig ds % 2 ^ s = hd % 2 ^ s := by
      rw [hh, p32 hs, Nat.mul_assoc, Nat.add_mul_mod_self_left]
    have e1 := Nat.div_add_mod (dig ds) (2 ^ s)
    have e2 := Nat.div_add_mod hd (2 ^ s)
    rw [hR] at e1
    have hRl := Nat.mod_lt hd hp
    generalize hd % 2 ^ s = R at *
    generalize dig ds / 2 ^ s = Q at *
    generalize hd / 2 ^ s = Qh at *
    have key : ∀ q, (d + 4294967296 * (2 ^ s * q + R)) / 2 ^ s = (d + 4294967296 * R) / 2 ^ s + 4294967296 * q := by
      intro q
      rw [Nat.mul_add, show d + (4294967296 * (2 ^ s * q) + 4294967296 * R) = d + 4294967296 * R + 2 ^ s * (4294967296 * q) by rw [Nat.mul_left_comm]; omega, Nat.add_mul_div_left _ _ hp]
    have hlt : (d + 4294967296 * R) / 2 ^ s < 4294967296 := by
      rw [Nat.div_lt_iff_lt_mul hp]
      have : 4294967296 * (R + 1) ≤ 4294967296 * 2 ^ s := Nat.mul_le_mul_left _ hRl
      omega
    rw [← e1, ← e2, key, key, Nat.add_mul_mod_self_left, Nat.mod_eq_of_lt hlt]
/-- A number cut at a word. -/
theorem cut_words {xs : List Nat} (h : U4 xs) {q s n : Nat} (hn : n = 32 * q + s) (hq : q ≤ xs.length) : dig xs / 2 ^ n = dig (xs.drop q) / 2 ^ s ∧ dig xs % 2 ^ n = dig (xs.take q) + wd q * (dig (xs.drop q) % 2 ^ s) := by
  have hd := dig_split xs q
  have hl : (xs.take q).length = q := by rw [List.length_take]; omega
  rw [hl] at hd
  have hlo := dig_lt (h.take q)
  rw [hl] at hlo
  have hp : (2 : Nat) ^ n = wd q * 2 ^ s := by rw [hn, Nat.pow_add]; rfl
  have hw := wd_pos q
  rw [hp, hd]
  generalize dig (xs.take q) = lo at *
  generalize dig (xs.drop q) = hi at *
  constructor
  · rw [← Nat.div_div_eq_div_mul, Nat.add_mul_div_left _ _ hw, Nat.div_eq_of_lt hlo, Nat.zero_add]
  · rw [Nat.mod_mul, Nat.add_mul_mod_self_left, Nat.mod_eq_of_lt hlo, Nat.add_mul_div_left _ _ hw, Nat.div_eq_of_lt hlo, Nat.zero_add]
theorem low_bits {xs : List Nat} {q s : Nat} (hs : s < 32) : dig (xs.drop q) % 2 ^ s = xs[q]?.getD 0 % 2 ^ s := by
  rw [dig_head, p32 hs, Nat.mul_assoc, Nat.add_mul_mod_self_left, List.getElem?_drop, Nat.add_zero]
end Go.Proofs.Ytepdhbhpiehigaa
