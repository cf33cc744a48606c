import Derived.Test.YtokglpemefkmjaaRWb4
namespace Go.Proofs.Ytokglpemefkmjaa
open Go.RowKit
set_option linter.unusedVariables false
set_option linter.unusedSimpArgs false
open Ieee
def U4 (xs : List Nat) : Prop := ∀ x ∈ xs, x < 4294967296
/-- The whole number of words of 32 bits, the lowest first. -/
def dig : List Nat → Nat
  | [] => 0
  | x :: xs => x + 4294967296 * dig xs
/-- The last word is not 0. -/
def Nm (xs : List Nat) : Prop := xs = [] ∨ xs[xs.length - 1]?.getD 0 ≠ 0
def bl (m : Nat) : Nat := if m = 0 then 0 else m.log2 + 1
/-- 2^(32 k). -/
def wd (k : Nat) : Nat := 2 ^ (32 * k)
theorem wd_zero : wd 0 = 1 := rfl
theorem wd_succ (k : Nat) : wd (k + 1) = 4294967296 * wd k := by
  unfold wd; rw [Nat.mul_add, Nat.mul_one, Nat.pow_add, Nat.mul_comm]
theorem wd_pos (k : Nat) : 0 < wd k := Nat.two_pow_pos _
theorem wd_add (a b : Nat) : wd (a + b) = wd a * wd b := by unfold wd; rw [Nat.mul_add, Nat.pow_add]
theorem U4.tail {x : Nat} {xs : List Nat} (h : U4 (x :: xs)) : x < 4294967296 ∧ U4 xs := ⟨h x (by simp), fun y hy => h y (by simp [hy])⟩
theorem U4.at {xs : List Nat} (h : U4 xs) (j : Nat) : xs[j]?.getD 0 < 4294967296 := by
  by_cases hj : j < xs.length
  · rw [List.getElem?_eq_getElem hj]; exact h _ (List.getElem_mem hj)
  · rw [List.getElem?_eq_none (by omega)]; simp
theorem U4.take {xs : List Nat} (h : U4 xs) (n : Nat) : U4 (xs.take n) := fun y hy => h y (List.mem_of_mem_take hy)
theorem U4.drop {xs : List Nat} (h : U4 xs) (n : Nat) : U4 (xs.drop n) := fun y hy => h y (List.mem_of_mem_drop hy)
theorem U4.set {xs : List Nat} (h : U4 xs) (k v : Nat) (hv : v < 4294967296) : U4 (xs.set k v) := by
  intro y hy
  rcases List.mem_or_eq_of_mem_set hy with h1 | h1
  · exact h y h1
  · omega
theorem dig_lt {xs : List Nat} (h : U4 xs) : dig xs < wd xs.length := by
  induction xs with
  | nil => simp [dig, wd]
  | cons x xs ih =>
    have h1 := h.tail
    have := ih h1.2
    rw [List.length_cons, wd_succ]
    show x + 4294967296 * dig xs < _
    omega
theorem dig_append (xs ys : List Nat) : dig (xs ++ ys) = dig xs + wd xs.length * dig ys := by
  induction xs with
  | nil => simp [dig, wd]
  | cons x xs ih =>
    show x + 4294967296 * dig (xs ++ ys) = x + 4294967296 * dig xs + _
    rw [ih, List.length_cons, wd_succ, Nat.mul_add, Nat.mul_assoc]; omega
theorem dig_split (xs : List Nat) (k : Nat) : dig xs = dig (xs.take k) + wd (xs.take k).length * dig (xs.drop k) := by
  rw [← dig_append, List.take_append_drop]
theorem dig_take_succ {xs : List Nat} {k : Nat} (hk : k < xs.length) : dig (xs.take (k + 1)) = dig (xs.take k) + wd k * xs[k]?.getD 0 := by
  rw [List.take_succ_eq_append_getElem hk, dig_append, List.length_take, Nat.min_eq_left (by omega), List.getElem?_eq_getElem hk]
  simp [dig]
theorem dig_set {xs : List Nat} {k v : Nat} (hk : k < xs.length) : dig (xs.set k v) + wd k * xs[k]?.getD 0 = dig xs + wd k * v := by
  induction xs generalizing k with
  | nil => simp at hk
  | cons x xs ih =>
    cases k with
    | zero => simp [dig, wd_zero]; omega
    | succ k =>
      have := ih (k := k) (by simpa using hk)
      simp only [List.set_cons_succ, dig, List.getElem?_cons_succ, wd_succ]
      have e1 : 4294967296 * wd k * xs[k]?.getD 0 = 4294967296 * (wd k * xs[k]?.getD 0) := Nat.mul_assoc ..
      have e2 : 4294967296 * wd k * v = 4294967296 * (wd k * v) := Nat.mul_assoc ..
      omega
theorem dig_zeros (n : Nat) : dig (List.replicate n 0) = 0 := by
  induction n with
  | zero => rfl
  | succ n ih => rw [List.replicate_succ]; simp [dig, ih]
theorem bl_zero : bl 0 = 0 := rfl
theorem bl_spec {m : Nat} (h : m ≠ 0) : 2 ^ (bl m - 1) ≤ m ∧ m < 2 ^ bl m ∧ 1 ≤ bl m := by
  unfold bl; rw [if_neg h]
  exact ⟨Nat.log2_self_le h, Nat.lt_log2_self, by omega⟩
theorem bl_uniq {m k : Nat} (h1 : 2 ^ k ≤ m) (h2 : m < 2 ^ (k + 1)) : bl m = k + 1 := by
  have hm : m ≠ 0 := by have := Nat.two_pow_pos k; omega
  unfold bl; rw [if_neg hm]
  have := (Nat.log2_eq_iff hm).2 ⟨h1, h2⟩
  omega
/-- How long a number with a last word that is not 0 is. -/
theorem bl_dig {xs : List Nat} (h : U4 xs) (hn : Nm xs) (h0 : xs ≠ []) : bl (dig xs) = 32 * (xs.length - 1) + bl (xs[xs.length - 1]?.getD 0) ∧ dig xs ≠ 0 := by
  have hl : 0 < xs.length := List.length_pos_iff.2 h0
  have ht : xs[xs.length - 1]?.getD 0 ≠ 0 := by
    rcases hn with h1 | h1
    · exact absurd h1 h0
    · exact h1
  have e := dig_take_succ (xs := xs) (k := xs.length - 1) (by omega)
  rw [show xs.length - 1 + 1 = xs.length by omega, List.take_length] at e
  have hlow := dig_lt (h.take (xs.length - 1))
  rw [List.length_take, Nat.min_eq_left (by omega)] at hlow
  have ht2 := h.at (xs.length - 1)
  generalize xs[xs.length - 1]?.getD 0 = t at *
  generalize dig (xs.take (xs.length - 1)) = lo at *
  generalize xs.length - 1 = L at *
  have hb := bl_spec ht
  have hw := wd_pos L
  have hm : dig xs ≠ 0 := by
    have : wd L * 1 ≤ wd L * t := Nat.mul_le_mul_left _ (by omega)
    omega
  refine ⟨?_, hm⟩
  obtain ⟨k, hk⟩ : ∃ k, bl t = k + 1 := ⟨bl t - 1, by omega⟩
  rw [hk] at hb ⊢
  simp only [Nat.add_sub_cancel] at hb
  rw [e, show 32 * L + (k + 1) = (32 * L + k) + 1 from rfl]
  refine bl_uniq ?_ ?_
  · rw [Nat.pow_add]; have := Nat.mul_le_mul_left (wd L) hb.1; unfold wd at *; omega
  · rw [show 32 * L + k + 1 = 32 * L + (k + 1) from rfl, Nat.pow_add]
    have h1 : wd L * t + wd L ≤ wd L * 2 ^ (k + 1) := by
      rw [← Nat.mul_succ]; exact Nat.mul_le_mul_left _ hb.2.1
    unfold wd at *; omega
/-- One round of 'left': what the two words become. -/
theorem left_step {zs : List Nat} {k s x T N D : Nat} (hs : s < 32) (hx : x < 4294967296) (hk : k + 1 < zs.length) (hu : U4 zs) (hz : ∀ j, k < j → zs[j]?.getD 0 = 0) (hlo : zs[k]?.getD 0 < 2 ^ s) (hD : dig zs = D * T) (hT : T * wd 0 = T) :
    U4 ((zs.set k (zs[k]?.getD 0 + x * 2 ^ s % 4294967296)).set (k + 1) (x * 2 ^ s / 4294967296)) ∧
    dig ((zs.set k (zs[k]?.getD 0 + x * 2 ^ s % 4294967296)).set (k + 1) (x * 2 ^ s / 4294967296)) = dig zs + wd k * (x * 2 ^ s) ∧
    (∀ j, k + 1 < j → ((zs.set k (zs[k]?.getD 0 + x * 2 ^ s % 4294967296)).set (k + 1) (x * 2 ^ s / 4294967296))[j]?.getD 0 = 0) ∧
    ((zs.set k (zs[k]?.getD 0 + x * 2 ^ s % 4294967296)).set (k + 1) (x * 2 ^ s / 4294967296))[k + 1]?.getD 0 < 2 ^ s ∧ zs[k]?.getD 0 + x * 2 ^ s % 4294967296 < 4294967296 ∧ x * 2 ^ s / 4294967296 < 4294967296 := by
  have hd : (2 ^ s : Nat) ∣ x * 2 ^ s % 4294967296 := by
    rw [show (4294967296 : Nat) = 2 ^ (32 - s) * 2 ^ s by rw [← Nat.pow_add, show 32 - s + s = 32 by omega]]
    rw [Nat.mul_mod_mul_right]; exact Nat.dvd_mul_left ..
  have hp := Nat.two_pow_pos s
  have hps : (2 : Nat) ^ s ≤ 2 ^ 31 := Nat.pow_le_pow_right (by omega) (by omega)
  have h31 : (2 : Nat) ^ 31 = 2147483648 := by decide
  have hsum : zs[k]?.getD 0 + x * 2 ^ s % 4294967296 < 4294967296 := by
    obtain ⟨c, hc⟩ := hd
    have hm : x * 2 ^ s % 4294967296 < 4294967296 := Nat.mod_lt _ (by decide)
    have h32 : (4294967296 : Nat) = 2 ^ s * 2 ^ (32 - s) := by rw [← Nat.pow_add, show s + (32 - s) = 32 by omega]
    rw [hc, h32] at hm ⊢
    have h1 : c < 2 ^ (32 - s) := Nat.lt_of_mul_lt_mul_left hm
    have h2 : 2 ^ s * (c + 1) ≤ 2 ^ s * 2 ^ (32 - s) := Nat.mul_le_mul_left _ h1
    rw [Nat.mul_add, Nat.mul_one] at h2
    omega
  have hhi : x * 2 ^ s / 4294967296 < 2 ^ s := by
    rw [Nat.div_lt_iff_lt_mul (by decide), Nat.mul_comm (2 ^ s)]
    exact Nat.mul_lt_mul_of_pos_right hx hp
  have hhi' : x * 2 ^ s / 4294967296 < 4294967296 := by omega
  have hl1 : (zs.set k (zs[k]?.getD 0 + x * 2 ^ s % 4294967296)).length = zs.length := List.length_set
  refine ⟨(hu.set k _ hsum).set _ _ hhi', ?_, ?_, ?_, hsum, hhi'⟩
  · have e1 := dig_set (xs := zs) (k := k) (v := zs[k]?.getD 0 + x * 2 ^ s % 4294967296) (by omega)
    have e2 := dig_set (xs := zs.set k (zs[k]?.getD 0 + x * 2 ^ s % 4294967296)) (k := k + 1) (v := x * 2 ^ s / 4294967296) (by rw [hl1]; exact hk)
    rw [List.getElem?_set, if_neg (by omega), hz (k + 1) (by omega), Nat.mul_zero, Nat.add_zero] at e2
    rw [Nat.mul_add] at e1
    have hdm := Nat.div_add_mod (x * 2 ^ s) 4294967296
    have : wd k * (x * 2 ^ s) = wd k * (x * 2 ^ s % 4294967296) + wd (k + 1) * (x * 2 ^ s / 4294967296) := by
      rw [wd_succ, Nat.mul_comm 4294967296, Nat.mul_assoc, ← Nat.mul_add]; congr 1; omega
    omega
  · intro j hj
    rw [List.getElem?_set, if_neg (by omega), List.getElem?_set, if_neg (by omega)]
    exact hz j (by omega)
  · rw [List.getElem?_set, if_pos rfl, if_pos (by rw [hl1]; exact hk)]
    exact hhi
theorem dig_head (ds : List Nat) : dig ds = ds[0]?.getD 0 + 4294967296 * dig (ds.drop 1) := by
  cases ds with
  | nil => rfl
  | cons d ds => rfl
theorem rmag_zero : rmag 0 = 0 := rfl
/-- R is the greatest rung not above n / D. -/
def Fl (n D R : Nat) : Prop := rmag R * D ≤ n ∧ n < rmag (R + 1) * D
theorem Fl.scale {n D R : Nat} (h : Fl n D R) (c : Nat) (hc : 0 < c) : Fl (n * c) (D * c) R := by
  refine ⟨?_, ?_⟩
  · rw [← Nat.mul_assoc]; exact Nat.mul_le_mul_right c h.1
  · rw [← Nat.mul_assoc]; exact Nat.mul_lt_mul_of_pos_right h.2 hc
theorem Fl.unscale {n D R : Nat} (c : Nat) (h : Fl (n * c) (D * c) R) : Fl n D R := by
  have hc : 0 < c := by
    rcases Nat.eq_zero_or_pos c with h0 | h0
    · subst h0; have := h.2; simp at this
    · exact h0
  refine ⟨?_, ?_⟩
  · have := h.1; rw [← Nat.mul_assoc] at this; exact Nat.le_of_mul_le_mul_right this hc
  · have := h.2; rw [← Nat.mul_assoc] at this; exact Nat.lt_of_mul_lt_mul_right this
theorem Fl.pos {n D R : Nat} (h : Fl n D R) : 0 < D := by
  rcases Nat.eq_zero_or_pos D with h0 | h0
  · subst h0; have := h.2; simp at this
  · exact h0
/-- There is one. -/
theorem Fl.some (n D : Nat) (hD : 0 < D) : ∃ R, Fl n D R := by
  have key : ∀ m, n < rmag m * D → ∃ R, Fl n D R := by
    intro m
    induction m with
    | zero => intro h; simp [rmag_zero] at h
    | succ m ih =>
      intro h
      by_cases h1 : n < rmag m * D
      · exact ih h1
      · exact ⟨m, by omega, h⟩
  refine key (n + 1) ?_
  have h1 := le_rmag (n + 1)
  have h2 : n + 1 ≤ (n + 1) * D := Nat.le_mul_of_pos_right _ hD
  have h3 : (n + 1) * D ≤ rmag (n + 1) * D := Nat.mul_le_mul_right _ h1
  omega
theorem Fl.mono {n D R m E S : Nat} (h : Fl n D R) (h' : Fl m E S) (hle : n * E ≤ m * D) : R ≤ S := by
  have a : rmag R * D * E ≤ n * E := Nat.mul_le_mul_right _ h.1
  have b : m * D < rmag (S + 1) * E * D := Nat.mul_lt_mul_of_pos_right h'.2 h.pos
  have c : rmag R * (D * E) < rmag (S + 1) * (D * E) := by
    have e1 : rmag R * D * E = rmag R * (D * E) := Nat.mul_assoc ..
    have e2 : rmag (S + 1) * E * D = rmag (S + 1) * (D * E) := by rw [Nat.mul_assoc, Nat.mul_comm E D]
    omega
  have := lt_of_rmag (Nat.lt_of_mul_lt_mul_right c)
  omega
/-- The rung nearest to n / D, whose greatest rung not above is R. -/
def nearK (n D R : Nat) : Nat := if 2 * n < (rmag R + rmag (R + 1)) * D ∨ (2 * n = (rmag R + rmag (R + 1)) * D ∧ R % 2 = 0) then R else R + 1
theorem nearK_scale (n D R c : Nat) (hc : 0 < c) : nearK (n * c) (D * c) R = nearK n D R := by
  unfold nearK
  have e1 : 2 * (n * c) = (2 * n) * c := (Nat.mul_assoc ..).symm
  have e2 : (rmag R + rmag (R + 1)) * (D * c) = ((rmag R + rmag (R + 1)) * D) * c := (Nat.mul_assoc ..).symm
  rw [e1, e2]
  have i1 : (2 * n) * c < ((rmag R + rmag (R + 1)) * D) * c ↔ 2 * n < (rmag R + rmag (R + 1)) * D := Nat.mul_lt_mul_right hc
  have i2 : (2 * n) * c = ((rmag R + rmag (R + 1)) * D) * c ↔ 2 * n = (rmag R + rmag (R + 1)) * D := Nat.mul_left_inj (by omega)
  simp only [i1, i2]
/-- r are the bits of n / D (units of 2^-1074), turned if neg, to the nearest. -/
def Rn (neg : Bool) (n D : Nat) (r : Nat) : Prop := ∃ R, Fl n D R ∧ r = double.word neg (min (nearK n D R) infK)
theorem word_rung (neg : Bool) {k : Nat} (h : k < 9223372036854775808) : frung (double.word neg k) = k ∧ fneg (double.word neg k) = neg ∧ double.word neg k < 18446744073709551616 := by
  unfold frung fneg Format.word
  rw [dbl_sign]
  cases neg
  · simp only [Bool.false_eq_true, if_false]
    refine ⟨by omega, ?_, by omega⟩
    rw [show k / 9223372036854775808 = 0 by omega]; rfl
  · simp only [if_true]
    refine ⟨by omega, ?_, by omega⟩
    rw [show (9223372036854775808 + k) / 9223372036854775808 = 1 by omega]; rfl
theorem min_inf_lt (k : Nat) : min k infK < 9223372036854775808 := by
  have : infK = 9218868437227405312 := rfl
  omega
theorem Rn.rung {neg : Bool} {n D r : Nat} (h : Rn neg n D r) : ∃ R, Fl n D R ∧ frung r = min (nearK n D R) infK ∧ fneg r = neg ∧ r < 18446744073709551616 := by
  obtain ⟨R, h1, rfl⟩ := h
  have := word_rung neg (min_inf_lt (nearK n D R))
  exact ⟨R, h1, this⟩
theorem word_parts {x : Nat} (h : x < 18446744073709551616) : x = double.word (fneg x) (frung x) := by
  unfold frung fneg Format.word
  rw [dbl_sign]
  by_cases h1 : x / 9223372036854775808 % 2 = 1
  · rw [h1]; simp only [beq_self_eq_true, if_true]; omega
  · have : (x / 9223372036854775808 % 2 == 1) = false := by simp [h1]
    rw [this]; simp only [Bool.false_eq_true, if_false]; omega
theorem Rn.scale {neg : Bool} {n D r : Nat} (c : Nat) (hc : 0 < c) (h : Rn neg n D r) : Rn neg (n * c) (D * c) r := by
  obtain ⟨R, h1, rfl⟩ := h
  exact ⟨R, h1.scale c hc, by rw [nearK_scale _ _ _ _ hc]⟩
theorem Rn.unscale {neg : Bool} {n D r : Nat} (c : Nat) (h : Rn neg (n * c) (D * c) r) : Rn neg n D r := by
  obtain ⟨R, h1, rfl⟩ := h
  have hc : 0 < c := by
    rcases Nat.eq_zero_or_pos c with h0 | h0
    · subst h0; have := h1.2; simp at this
    · exact h0
  exact ⟨R, h1.unscale c, by rw [nearK_scale _ _ _ _ hc]⟩
theorem Rn.of_eq {neg : Bool} {n D n' D' r : Nat} (h : Rn neg n D r) (hD : 0 < D) (hD' : 0 < D') (he : n * D' = n' * D) : Rn neg n' D' r := by
  have h1 := h.scale D' hD'
  rw [he, Nat.mul_comm D D'] at h1
  exact h1.unscale D
theorem nearK_exact {n D R : Nat} (h : n = rmag R * D) (hD : 0 < D) : nearK n D R = R := by
  unfold nearK
  have := rmag_lt_succ R
  rw [if_pos]
  left
  rw [h, ← Nat.mul_assoc]
  exact Nat.mul_lt_mul_of_pos_right (by omega) hD
theorem Fl.exact (k D : Nat) (hD : 0 < D) : Fl (rmag k * D) D k := ⟨Nat.le_refl _, Nat.mul_lt_mul_of_pos_right (rmag_lt_succ k) hD⟩
theorem Rn.exact (neg : Bool) (k D : Nat) (hD : 0 < D) : Rn neg (rmag k * D) D (double.word neg (min k infK)) := ⟨k, Fl.exact k D hD, by rw [nearK_exact rfl hD]⟩
def sv (neg : Bool) (m : Nat) : Int := if neg then -(m : Int) else (m : Int)
/-- The real m 2^e, turned if neg, in units of 2^-s. -/
def zv (s : Nat) (neg : Bool) (m : Nat) (e : Int) : Int := sv neg m * ((2 ^ (e + s).toNat : Nat) : Int)
def sgi (z : Int) : Int := if z < 0 then -1 else if z = 0 then 0 else 1
theorem sv_zero (neg : Bool) : sv neg 0 = 0 := by unfold sv; split <;> rfl
theorem sv_mul (neg : Bool) (a b : Nat) : sv neg (a * b) = sv neg a * (b : Int) := by
  unfold sv; split
  · rw [Int.natCast_mul, Int.neg_mul]
  · rw [Int.natCast_mul]
theorem sv_not (neg : Bool) (m : Nat) : sv (!neg) m = -sv neg m := by cases neg <;> simp [sv]
theorem sv_add (g : Bool) (a b : Nat) : sv g (a + b) = sv g a + sv g b := by unfold sv; split <;> omega
theorem sv_sub (g : Bool) {a b : Nat} (h : b ≤ a) : sv g (a - b) = sv g a + sv (!g) b := by
  rw [sv_not]; unfold sv; split <;> omega
theorem zv_zero (s : Nat) (neg : Bool) (e : Int) : zv s neg 0 e = 0 := by unfold zv; rw [sv_zero, Int.zero_mul]
theorem zv_not (s : Nat) (neg : Bool) (m : Nat) (e : Int) : zv s (!neg) m e = -zv s neg m e := by unfold zv; rw [sv_not, Int.neg_mul]
theorem zv_add (s : Nat) (g : Bool) (a b : Nat) (e : Int) : zv s g (a + b) e = zv s g a e + zv s g b e := by unfold zv; rw [sv_add, Int.add_mul]
theorem zv_sub (s : Nat) (g : Bool) {a b : Nat} (e : Int) (h : b ≤ a) : zv s g (a - b) e = zv s g a e + zv s (!g) b e := by unfold zv; rw [sv_sub g h, Int.add_mul]
theorem zv_down {s : Nat} {e e' : Int} (neg : Bool) (m : Nat) (h : e' ≤ e) (h0 : -(s : Int) ≤ e') : zv s neg m e = zv s neg (m * 2 ^ (e - e').toNat) e' := by
  unfold zv; rw [sv_mul, Int.mul_assoc, ← Int.natCast_mul, ← Nat.pow_add]
  congr 3; congr 1; omega
theorem sgi_zv (s : Nat) (neg : Bool) (m : Nat) (e : Int) : sgi (zv s neg m e) = if m = 0 then 0 else if neg then -1 else 1 := by
  have hp : (0 : Int) < ((2 ^ (e + s).toNat : Nat) : Int) := by have := Nat.two_pow_pos (e + s).toNat; omega
  by_cases h : m = 0
  · rw [h, zv_zero, if_pos rfl]; rfl
  · rw [if_neg h]
    have hm : (0 : Int) < (m : Int) := by omega
    have hq := Int.mul_pos hm hp
    unfold zv sv
    cases neg
    · simp only [Bool.false_eq_true, if_false]
      unfold sgi; rw [if_neg (by omega), if_neg (by omega)]
    · simp only [if_true]
      rw [Int.neg_mul]
      unfold sgi; rw [if_pos (by omega)]
theorem bl_le_of_lt {m k : Nat} (h : m < 2 ^ k) : bl m ≤ k := by
  rcases Nat.eq_zero_or_pos m with h0 | h0
  · rw [h0, bl_zero]; omega
  · have h3 := bl_spec (m := m) (by omega)
    rcases Nat.lt_or_ge k (bl m) with h4 | h4
    · have : 2 ^ k ≤ 2 ^ (bl m - 1) := Nat.pow_le_pow_right (by omega) (by omega)
      omega
    · exact h4
theorem lt_bl (m : Nat) : m < 2 ^ bl m := by
  rcases Nat.eq_zero_or_pos m with h0 | h0
  · rw [h0]; exact Nat.two_pow_pos _
  · exact (bl_spec (by omega)).2.1
theorem bl_mono {a b : Nat} (h : a ≤ b) : bl a ≤ bl b := bl_le_of_lt (Nat.lt_of_le_of_lt h (lt_bl b))
theorem bl_mul_pow (m k : Nat) : bl (m * 2 ^ k) ≤ bl m + k := by
  refine bl_le_of_lt ?_
  rw [Nat.pow_add]; exact Nat.mul_lt_mul_of_pos_right (lt_bl m) (Nat.two_pow_pos k)
theorem bl_add (a b : Nat) : bl (a + b) ≤ max (bl a) (bl b) + 1 := by
  refine bl_le_of_lt ?_
  have h1 := lt_bl a
  have h2 := lt_bl b
  have h3 : 2 ^ bl a ≤ 2 ^ max (bl a) (bl b) := Nat.pow_le_pow_right (by omega) (by omega)
  have h4 : 2 ^ bl b ≤ 2 ^ max (bl a) (bl b) := Nat.pow_le_pow_right (by omega) (by omega)
  rw [Nat.pow_succ]; omega
theorem and_2047 {y : Nat} : y &&& 2047 = y % 2048 := by
  have := Nat.and_two_pow_sub_one_eq_mod y 11
  rw [show (2 : Nat) ^ 11 - 1 = 2047 by decide, show (2 : Nat) ^ 11 = 2048 by decide] at this
  exact this
/-- A normal word beside x: x's value without what was shifted. -/
structure Norm (x y ee Eb f : Nat) : Prop where
  lt : y < 18446744073709551616
  sgn : fneg y = fneg x
  word : frung y = Eb * 4503599627370496 + f
  eb0 : 1 ≤ Eb
  eb1 : Eb ≤ 2046
  f1 : f < 4503599627370496
  val : rmag (frung x) * 2 ^ ee = (4503599627370496 + f) * 2 ^ (Eb - 1)
  e52 : ee = 0 ∨ ee = 52
theorem norm_frac {x y ee Eb f : Nat} (h : Norm x y ee Eb f) (n X : Int) (hX : X = n - ee + Eb - 1) :
    ((4503599627370496 + f) * 2 ^ X.toNat) * 2 ^ (-n).toNat = (rmag (frung x) * 2 ^ n.toNat) * 2 ^ (-X).toNat := by
  have hv := h.val
  have he := h.eb0
  refine Nat.eq_of_mul_eq_mul_right (Nat.two_pow_pos ee) ?_
  rw [show rmag (frung x) * 2 ^ n.toNat * 2 ^ (-X).toNat * 2 ^ ee = (rmag (frung x) * 2 ^ ee) * (2 ^ n.toNat * 2 ^ (-X).toNat) by
    rw [Nat.mul_assoc, Nat.mul_assoc, Nat.mul_assoc]; congr 1; rw [← Nat.mul_assoc, Nat.mul_comm]]
  rw [hv, Nat.mul_assoc, Nat.mul_assoc, Nat.mul_assoc, ← Nat.pow_add, ← Nat.pow_add, ← Nat.pow_add, ← Nat.pow_add]
  congr 2
  omega
/-- What is asked of a power: the nearest to x 2^n. -/
def Pow (x : Nat) (n : Int) (r : Nat) : Prop := Rn (fneg x) (rmag (frung x) * 2 ^ n.toNat) (2 ^ (-n).toNat) r
theorem Pow.of {x y ee Eb f : Nat} (h : Norm x y ee Eb f) {n X : Int} (hX : X = n - ee + Eb - 1) {r : Nat} (hr : Rn (fneg x) ((4503599627370496 + f) * 2 ^ X.toNat) (2 ^ (-X).toNat) r) : Pow x n r :=
  hr.of_eq (Nat.two_pow_pos _) (Nat.two_pow_pos _) (norm_frac h n X hX)
theorem pow_zero {x : Nat} (hx : x < 18446744073709551616) (h : frung x = 0) (n : Int) : Pow x n x := by
  unfold Pow
  rw [h, rmag_zero, Nat.zero_mul]
  have := Rn.exact (fneg x) 0 (2 ^ (-n).toNat) (Nat.two_pow_pos _)
  rw [rmag_zero, Nat.zero_mul, Nat.zero_min] at this
  have e := word_parts hx
  rw [h] at e
  rw [← e] at this
  exact this
theorem Try.infoU32 : (Try.prog.info? 123).map (fun i => (i.zero, i.size, i.bytes)) = some (some (.int .u32 0), 1, 4) := by kernel_rfl
theorem Try.elemU32 : Try.prog.elem 113 = 123 := by kernel_rfl
theorem Try.sizeU32 (w : World) : (sizeOf 123).run Try.prog w = .ok 1 w := by kernel_rfl
/-- THE SLICE OF WORDS '.slice ao len cap' READS AS xs. -/
structure Rd4 (w : World) (ao : Option Addr) (len cap : Nat) (xs : List Nat) : Prop where
  length : xs.length = len
  le : len ≤ cap
  max : cap ≤ 1000000
  lt : U4 xs
  nil : ao = none → cap = 0
  cells : len = 0 ∨ ∃ b off, ao = some ⟨b, off, none⟩ ∧ ∀ j, j < len → w.cell? ⟨b, off + j, none⟩ = some (.int .u32 ((xs[j]?.getD 0 : Nat) : Int))
theorem Rd4.later {w w' : World} {ao : Option Addr} {len cap : Nat} {xs : List Nat} (h : Rd4 w ao len cap xs) (hb : Below w.heap.size w w') : Rd4 w' ao len cap xs := by
  refine ⟨h.length, h.le, h.max, h.lt, h.nil, ?_⟩
  rcases h.cells with h0 | ⟨b, off, ha, hc⟩
  · exact .inl h0
  · refine .inr ⟨b, off, ha, fun j hj => ?_⟩
    have hl := World.block_lt_of_cell? w _ (hc j hj)
    rw [hb.cell (p := ⟨b, off + j, none⟩) hl]
    exact hc j hj
theorem Rd4.none (w : World) : Rd4 w none 0 0 [] := ⟨rfl, Nat.le_refl _, by decide, (fun _ h => by cases h), fun _ => rfl, .inl rfl⟩
/-- The first q words. -/
theorem Rd4.cut {W : World} {ao : Option Addr} {len cap : Nat} {xs : List Nat} (hr : Rd4 W ao len cap xs) (q : Nat) (hq : q ≤ len) :
    Rd4 W (if cap = 0 then ao else ao.map (·.add (0 * 1))) q cap (xs.take q) := by
  have hl := hr.length
  refine ⟨by simp [hl]; omega, by have := hr.le; omega, hr.max, hr.lt.take q, ?_, ?_⟩
  · intro h
    split at h
    · assumption
    · cases ao with
      | none => exact hr.nil rfl
      | some a => simp at h
  · by_cases h0 : q = 0
    · exact .inl h0
    · right
      rcases hr.cells with h1 | ⟨b, off, rfl, hc⟩
      · omega
      · refine ⟨b, off, ?_, fun j hj => ?_⟩
        · have := hr.le; rw [if_neg (by omega), Option.map_some, Addr.add_lit, Nat.zero_mul, Nat.add_zero]
        · rw [hc j (by omega), List.getElem?_take, if_pos (by omega)]
theorem cut4 {W : World} {ao : Option Addr} {len cap : Nat} {xs : List Nat} (hr : Rd4 W ao len cap xs) (q : Nat) (hq : q ≤ len) :
    ∃ ao', (∀ w, (Instr.slice 113 (.slice ao len cap) none (some (.int .i64 q)) none).run Try.prog w = .ok (.slice ao' q cap) w) ∧ Rd4 W ao' q cap (xs.take q) := by
  refine ⟨_, fun w => ?_, hr.cut q hq⟩
  have hle := hr.le
  rw [run_slice_h w _ _ _ _ (by rw [Try.elemU32]; exact Try.underlying113) .i64 q (by omega) (by omega), Try.elemU32, Try.sizeU32]
  simp [Result.andThen, sliced]
set_option maxRecDepth 100000 in
set_option maxHeartbeats 1000000 in
theorem trim_any (ao : Option Addr) (len cap : Nat) (xs : List Nat) (w : World) (hr : Rd4 w ao len cap xs) :
    Calls Try.prog 66 #[.slice ao len cap] w fun e w' => ∃ ao' n, e = .returned (.slice ao' n cap) ∧ w' = w ∧ Rd4 w ao' n cap (xs.take n) ∧ n ≤ len ∧ Nm (xs.take n) ∧ dig (xs.take n) = dig xs := by
  have HR : Hid _ := hr
  have HL : Hid (xs.length = len) := hr.length
  have hle := hr.le
  have hmx := hr.max
  have hcl := hr.cells
  have HLT : Hid (U4 xs) := hr.lt
  clear hr
  go_enter Try.func66, Try.ntmps66
  go_wp2_with fail
  go_loop [3] (fun i => ∃ k : Nat, k ≤ len ∧ i = .int .i64 k ∧ Hid (dig (xs.take k) = dig xs)) (fun i => (intOf i).toNat)
  case atStart => exact ⟨len, by omega, rfl, by unfold Hid; rw [← HL.out, List.take_length]⟩
  case round =>
    obtain ⟨k, hk, rfl, hD⟩ := hrel
    cases k with
    | zero =>
      obtain ⟨ao', hcut, hr'⟩ := cut4 HR.out 0 (by omega)
      have HR' : Hid _ := hr'
      clear hr'
      have hz : ((0 : Nat) : Int) = 0 := rfl
      rw [hz] at hcut ⊢
      go_wp2
      go_ret
      exact ⟨ao', 0, rfl, rfl, HR'.out, by omega, .inl (by simp), hD.out⟩
    | succ k =>
      rcases hcl with h0 | ⟨b, off, rfl, hc⟩
      · omega
      have g := hc k (by omega)
      have hkl : k < xs.length := by rw [HL.out]; omega
      have hlt := HLT.out.at k
      have HDS : Hid _ := dig_take_succ hkl
      have HX : Hid (xs[k]?.getD 0 = (xs.take (k + 1))[(xs.take (k + 1)).length - 1]?.getD 0) := by
        unfold Hid; rw [List.length_take, Nat.min_eq_left (by omega), show k + 1 - 1 = k from rfl, List.getElem?_take, if_pos (by omega)]
      obtain ⟨ao', hcut, hr'⟩ := cut4 HR.out (k + 1) (by omega)
      have HR' : Hid _ := hr'
      clear hr' hc hkl
      have hz : ((k + 1 : Nat) : Int) = (k : Int) + 1 := rfl
      rw [hz] at hcut ⊢
      by_cases hx : xs[k]?.getD 0 = 0
      · rw [hx] at g
        have g' : w.cell? ⟨b, off + k, none⟩ = some (.int .u32 0) := g
        clear g hcut
        go_wp2
        go_round
        case rel => exact ⟨k, by omega, by go_num, by unfold Hid; have h1 := HDS.out; have h2 := hD.out; rw [hx, Nat.mul_zero] at h1; omega⟩
        case measure => show ((k : Int)).toNat < ((k : Int) + 1).toNat; omega
      · generalize hxe : xs[k]?.getD 0 = x at *
        go_wp2
        go_ret
        exact ⟨ao', k + 1, rfl, rfl, HR'.out, by omega, .inr (by rw [← HX.out]; exact hx), hD.out⟩
def v4 (x : Nat) : Value := .int .u32 (x : Int)
/-- Words that the call itself made. -/
def Own4 (w : World) (base g n : Nat) (xs : List Nat) : Prop := xs.length = n ∧ w.ownsRow base 123 1 (.slice (some ⟨g, 0, none⟩) n n) n (xs.map v4)
theorem Own4.cell {w : World} {base g n : Nat} {xs : List Nat} (h : Own4 w base g n xs) (j : Nat) (hj : j < n) : w.cell? ⟨g, j, none⟩ = some (.int .u32 ((xs[j]?.getD 0 : Nat) : Int)) := by
  rw [World.ownsRow.cellAt h.2 j (by omega), List.getElem?_map, List.getElem?_eq_getElem (by rw [h.1]; exact hj)]
  rfl
theorem Own4.frozen {w : World} {base g n : Nat} {xs : List Nat} (h : Own4 w base g n xs) (j : Nat) : w.frozen? ⟨g, j, none⟩ = false := World.ownsRow.frozenAt h.2 j
theorem Own4.set {w : World} {base g n : Nat} {xs : List Nat} (h : Own4 w base g n xs) (j x : Nat) : Own4 (w.setCell ⟨g, j, none⟩ (.int .u32 (x : Int))) base g n (xs.set j x) := by
  refine ⟨by rw [List.length_set]; exact h.1, ?_⟩
  rw [List.map_set]
  exact (World.ownsRow.stored h.2 j (v4 x)).1
theorem Own4.base {w : World} {base g n : Nat} {xs : List Nat} (h : Own4 w base g n xs) : base ≤ g := by
  rcases h.2.2 with ⟨h1, _⟩ | ⟨g2, cap2, cur2, hv, hg2, _⟩
  · simp at h1
  · simp only [Value.slice.injEq, Option.some.injEq, Addr.mk.injEq, and_true, true_and] at hv
    obtain ⟨rfl, rfl⟩ := hv
    exact hg2
theorem Own4.rd {w : World} {base g n : Nat} {xs : List Nat} (h : Own4 w base g n xs) (hu : U4 xs) (hn : n ≤ 1000000) : Rd4 w (some ⟨g, 0, none⟩) n n xs :=
  ⟨h.1, Nat.le_refl _, hn, hu, (fun h => by cases h), .inr ⟨g, 0, rfl, fun j hj => by rw [Nat.zero_add]; exact h.cell j hj⟩⟩
/-- A store into the call's own words leaves what was there. -/
theorem below_set {w0 w : World} {base g j : Nat} {v : Value} (h : Below base w0 w) (hg : base ≤ g) : Below base w0 (w.setCell ⟨g, j, none⟩ v) := h.setCell (p := ⟨g, j, none⟩) hg v
/-- make([]uint32, n) -/
theorem make4 (w : World) (n : Nat) (hn : n ≤ 1000000) : ∃ w', (∀ z : Int, z = n → (Instr.makeSlice 113 (.int .i64 z) (.int .i64 z)).run Try.prog w = .ok (.slice (some ⟨w.heap.size, 0, none⟩) n n) w') ∧ Own4 w' w.heap.size w.heap.size n (List.replicate n 0) ∧ Below w.heap.size w w' := by
  obtain ⟨i0, hi, hz0, hz1, hz2⟩ := info_parts Try.infoU32
  obtain ⟨w', h1, h2, h3⟩ := run_make_full (P := Try.prog) w w.heap.size 113 123 i0 (.int .u32 0) 1 Try.underlying113 hi hz0 hz1 .i64 .i64 n (by rw [hz2]; omega) (by simp only [maxLen]; omega) (Nat.le_refl _)
  refine ⟨w', fun z hz => by rw [hz]; exact h1, ⟨List.length_replicate, ?_⟩, ?_⟩
  · have e : (madeCells (Value.int IntKind.u32 0).cells (n * 1)).toList = (List.replicate n 0).map v4 := by
      rw [List.map_replicate, Nat.mul_one]
      exact toList_madeCells_one _ _
    rw [e] at h2
    exact h2
  · exact (Below.refl _ _).grown h3 (Nat.le_refl _) (fun k hk => by cases hk)
set_option maxRecDepth 100000 in
set_option maxHeartbeats 2000000 in
theorem left_any (ao : Option Addr) (len cap : Nat) (xs : List Nat) (n : Nat) (w : World) (hr : Rd4 w ao len cap xs) (hn : n ≤ 100000) (hl : len ≤ 10000) :
    Calls Try.prog 74 #[.slice ao len cap, .int .i64 n] w fun e w' => ∃ ao' k cap' zs, e = .returned (.slice ao' k cap') ∧ Rd4 w' ao' k cap' zs ∧ Nm zs ∧ dig zs = dig xs * 2 ^ n ∧ Below w.heap.size w w' ∧ k ≤ len + n / 32 + 1 := by
  have hle := hr.le
  have hmx := hr.max
  by_cases h0 : len = 0
  · subst h0
    have hx : xs = [] := List.eq_nil_of_length_eq_zero hr.length
    subst hx
    clear hr
    go_enter Try.func74, Try.ntmps74
    go_wp2
    go_ret
    exact ⟨none, 0, 0, [], rfl, Rd4.none _, .inl rfl, by simp [dig], Below.refl _ _, by omega⟩
  · have hb0 : ((len : Int) == 0) = false := by rw [beq_eq_false_iff_ne]; omega
    obtain ⟨q, hq⟩ : ∃ q : Nat, n / 32 = q := ⟨_, rfl⟩
    obtain ⟨s, hs⟩ : ∃ s : Nat, n % 32 = s := ⟨_, rfl⟩
    have hqi : (n : Int) / 32 = q := by omega
    have hsi : (n : Int) % 32 = s := by omega
    have hs32 : s < 32 := by omega
    have hqb : q ≤ 3200 := by omega
    obtain ⟨w1, hmk, hO, hB1⟩ := make4 w (len + q + 1) (by omega)
    have hmk' := hmk ((len : Int) + q + 1) (by omega)
    have HR : Hid _ := hr
    have HN : Hid (n = 32 * q + s) := by unfold Hid; omega
    have HO : Hid _ := hO
    have HB1 : Hid _ := hB1
    clear hmk hr hq hs hO hB1
    go_enter Try.func74, Try.ntmps74
    go_wp2_with fail
    go_loopg [6] len (fun gg i wx => ∃ (k : Nat) (zs : List Nat), k ≤ len ∧ i = .int .i64 k ∧ Hid (Own4 wx w.heap.size w.heap.size (len + q + 1) zs) ∧ Hid (Below w.heap.size w wx) ∧ Hid (U4 zs) ∧ Hid (dig zs = dig (xs.take k) * 2 ^ n) ∧ Hid (∀ j, k + q < j → zs[j]?.getD 0 = 0) ∧ Hid (zs[k + q]?.getD 0 < 2 ^ s) ∧ len ≤ k + gg)
    case atStart =>
      refine ⟨0, List.replicate (len + q + 1) 0, by omega, rfl, HO, HB1, ?_, ?_, ?_, ?_, by omega⟩
      · intro x hx; rw [List.eq_of_mem_replicate hx]; decide
      · unfold Hid; rw [dig_zeros]; simp [dig]
      · intro j _; by_cases hj : j < len + q + 1 <;> simp [hj]
      · unfold Hid; rw [List.getElem?_replicate, if_pos (by omega)]; exact Nat.two_pow_pos s
    case round =>
      obtain ⟨k, zs, hk, rfl, HOz, HBz, HUz, HDz, HZz, HLz, hfu⟩ := hrel
      by_cases hlt : k < len
      · obtain ⟨fu, rfl⟩ : ∃ g, gk = g + 1 := ⟨gk - 1, by omega⟩
        rcases HR.out.cells with h1 | ⟨b, off, rfl, hc⟩
        · omega
        have g := (HBz.out.cell (World.block_lt_of_cell? w _ (hc k hlt))).trans (hc k hlt)
        have hx := HR.out.lt.at k
        have gz := HOz.out.cell (k + q) (by omega)
        have gf := HOz.out.frozen
        have hz1 := HOz.out.set (k + q)
        have hzb := HUz.out.at (k + q)
        clear hc
        have hkl : k < xs.length := by rw [HR.out.length]; exact hlt
        have HTS : Hid _ := dig_take_succ hkl
        have hst := left_step (T := 2 ^ n) (D := dig (xs.take k)) (N := 0) hs32 hx (by rw [HOz.out.1]; omega) HUz.out HZz.out HLz.out HDz.out (Nat.mul_one _)
        have HST : Hid _ := hst
        have hV1 := hst.2.2.2.2.1
        have hV2 := hst.2.2.2.2.2
        clear hst hkl
        generalize hxe : xs[k]?.getD 0 = x at *
        generalize hze : zs[k + q]?.getD 0 = z at *
        have hXb : x * 2 ^ s < 9223372036854775808 := by
          have h2 : (2 : Nat) ^ s ≤ 2 ^ 31 := Nat.pow_le_pow_right (by omega) (by omega)
          have h31 : (2 : Nat) ^ 31 = 2147483648 := by decide
          have h3 : x * 2 ^ s ≤ x * 2147483648 := Nat.mul_le_mul_left _ (by omega)
          omega
        have hsh : IntKind.u64.wrap ((x : Int) * 2 ^ s) = ((x * 2 ^ s : Nat) : Int) := by
          rw [show (x : Int) * 2 ^ s = ((x * 2 ^ s : Nat) : Int) by rw [Int.natCast_mul, Int.natCast_pow]; rfl, IntKind.wrap_u64]
          omega
        have hor1 : bits .or .u32 (z : Int) (((x * 2 ^ s : Nat) : Int) % 4294967296) = ((z + x * 2 ^ s % 4294967296 : Nat) : Int) := by
          rw [show ((x * 2 ^ s : Nat) : Int) % 4294967296 = ((x * 2 ^ s % 4294967296 : Nat) : Int) by omega, u32_or_nat _ _ hzb (Nat.mod_lt _ (by decide))]
          congr 1
          have hd : (2 ^ s : Nat) ∣ x * 2 ^ s % 4294967296 := by
            rw [show (4294967296 : Nat) = 2 ^ (32 - s) * 2 ^ s by rw [← Nat.pow_add, show 32 - s + s = 32 by omega]]
            rw [Nat.mul_mod_mul_right]; exact Nat.dvd_mul_left ..
          obtain ⟨c, hc⟩ := hd
          rw [hc, Nat.or_comm, ← Nat.two_pow_add_eq_or_of_lt HLz.out, Nat.add_comm]
        have hor2 : bits .or .u32 0 (((x * 2 ^ s : Nat) : Int) / 4294967296) = ((x * 2 ^ s / 4294967296 : Nat) : Int) := by
          rw [show ((x * 2 ^ s : Nat) : Int) / 4294967296 = ((x * 2 ^ s / 4294967296 : Nat) : Int) by omega, show (0 : Int) = ((0 : Nat) : Int) from rfl, u32_or_nat _ _ (by decide) hV2, Nat.zero_or]
        have O1 := hz1 (z + x * 2 ^ s % 4294967296)
        have gz2 := O1.cell (k + q + 1) (by omega)
        rw [List.getElem?_set, if_neg (by omega), HZz.out (k + q + 1) (by omega)] at gz2
        have gf2 := O1.frozen
        have HO2 : Hid _ := O1.set (k + q + 1) (x * 2 ^ s / 4294967296)
        clear O1 hz1
        generalize hXe : x * 2 ^ s = X at *
        generalize hV1e : z + X % 4294967296 = V1 at *
        generalize hV2e : X / 4294967296 = V2 at *
        have gz2' : (wr.setCell ⟨w.heap.size, k + q, none⟩ (.int .u32 V1)).cell? ⟨w.heap.size, k + q + 1, none⟩ = some (.int .u32 0) := gz2
        clear gz2
        go_wp2_with fail
        go_roundg fu
        case rel =>
          refine ⟨k + 1, _, by omega, by go_num, HO2, ?_, HST.out.1, ?_, ?_, ?_, by omega⟩
          · exact below_set (below_set HBz.out (Nat.le_refl _)) (Nat.le_refl _)
          · unfold Hid
            rw [HST.out.2.1, HDz.out, HTS.out, Nat.add_mul, HN.out, Nat.pow_add, ← hXe]
            congr 1
            show wd (k + q) * (x * 2 ^ s) = wd k * x * (wd q * 2 ^ s)
            rw [wd_add, Nat.mul_mul_mul_comm]
          · unfold Hid; rw [show k + 1 + q = k + q + 1 by omega]; exact HST.out.2.2.1
          · unfold Hid; rw [show k + 1 + q = k + q + 1 by omega]; exact HST.out.2.2.2.1
        case measure => omega
      · obtain rfl : k = len := by omega
        have HTL : Hid (xs.take k = xs) := by unfold Hid; exact List.take_of_length_le (by rw [HR.out.length]; omega)
        go_wp2_with (go_at_call 66; refine (trim_any _ _ _ zs _ (HOz.out.rd HUz.out (by omega))).mono ?_; rintro e w' ⟨ao', m, rfl, rfl, hr', hm, hnm, hdg⟩)
        go_ret
        exact ⟨ao', m, _, _, rfl, hr', hnm, by rw [hdg, HDz.out, HTL.out], HBz.out, by have := HN.out; omega⟩
/-- v is the exact real m 2^e, turned if neg. -/
def NumV (w : World) (v : Value) (neg : Bool) (m : Nat) (e : Int) : Prop := ∃ ao len cap xs, v = .agg #[.bool neg, .slice ao len cap, .int .i64 e] ∧ Rd4 w ao len cap xs ∧ Nm xs ∧ dig xs = m
theorem NumV.later {w w' : World} {v : Value} {neg : Bool} {m : Nat} {e : Int} (h : NumV w v neg m e) (hb : Below w.heap.size w w') : NumV w' v neg m e := by
  obtain ⟨ao, len, cap, xs, h1, h2, h3, h4⟩ := h
  exact ⟨ao, len, cap, xs, h1, h2.later hb, h3, h4⟩
theorem len_zero {xs : List Nat} {len : Nat} (hl : xs.length = len) (hu : U4 xs) (hn : Nm xs) : (len = 0 ↔ dig xs = 0) := by
  constructor
  · intro h; have : xs = [] := List.eq_nil_of_length_eq_zero (by omega)
    subst this; rfl
  · intro h
    rcases Nat.eq_zero_or_pos len with h0 | h0
    · exact h0
    · exact absurd h (bl_dig hu hn (fun e => by rw [e] at hl; simp at hl; omega)).2
theorem len_bl {xs : List Nat} {len : Nat} (hl : xs.length = len) (hu : U4 xs) (hn : Nm xs) : 32 * len ≤ bl (dig xs) + 31 := by
  rcases Nat.eq_zero_or_pos len with h0 | h0
  · omega
  · have h := bl_dig hu hn (fun e => by rw [e] at hl; simp at hl; omega)
    have h1 : xs[xs.length - 1]?.getD 0 ≠ 0 := by
      rcases hn with e | e
      · rw [e] at hl; simp at hl; omega
      · exact e
    have := bl_spec h1
    rw [hl] at h this
    omega
theorem three_cells {W : World} {B : Nat} {v0 v1 v2 : Value} (h : W.heap[B]? = some (.cells #[v0, v1, v2] 115)) :
    W.cell? ⟨B, 0, none⟩ = some v0 ∧ W.cell? ⟨B, 1, none⟩ = some v1 ∧ W.cell? ⟨B, 2, none⟩ = some v2 :=
  ⟨cell_of_row _ _ 0 _ _ _ h, cell_of_row _ _ 1 _ _ _ h, cell_of_row _ _ 2 _ _ _ h⟩
theorem res_num (f : Func) (i : Nat) (hf : f.results = #[ResultVar.cell i 115]) (tmps : Array Value) (W : World) (B : Nat) (v0 v1 v2 : Value) (hp : tmps[i]? = some (.pointer (some ⟨B, 0, none⟩)))
    (h : W.heap[B]? = some (.cells #[v0, v1, v2] 115)) : (results f tmps).run Try.prog W = .ok (.agg #[v0, v1, v2]) W := by
  obtain ⟨h0, h1, h2⟩ := three_cells h
  simp [results, hf, go_sem, hp, h0, h1, h2]
theorem res_num2 (f : Func) (i j : Nat) (hf : f.results = #[ResultVar.cell i 115, ResultVar.tmp j]) (tmps : Array Value) (W : World) (B : Nat) (v0 v1 v2 u : Value) (hp : tmps[i]? = some (.pointer (some ⟨B, 0, none⟩))) (hq : tmps[j]? = some u)
    (h : W.heap[B]? = some (.cells #[v0, v1, v2] 115)) : (results f tmps).run Try.prog W = .ok (.tuple #[.agg #[v0, v1, v2], u]) W := by
  obtain ⟨h0, h1, h2⟩ := three_cells h
  simp [results, hf, go_sem, hp, hq, h0, h1, h2]
theorem dig_take_set {zs : List Nat} {k v : Nat} (hk : k < zs.length) : dig ((zs.set k v).take (k + 1)) = dig (zs.take k) + wd k * v := by
  rw [dig_take_succ (by rw [List.length_set]; exact hk), List.take_set_of_le (by omega), List.getElem?_set, if_pos rfl, if_pos hk]
  rfl
theorem dig_take_more {ys : List Nat} {k : Nat} : dig (ys.take (k + 1)) = dig (ys.take k) + wd k * ys[k]?.getD 0 := by
  by_cases h : k < ys.length
  · exact dig_take_succ h
  · rw [List.take_of_length_le (by omega), List.take_of_length_le (by omega), List.getElem?_eq_none (by omega)]; simp
set_option maxRecDepth 100000 in
set_option maxHeartbeats 2000000 in
theorem plus_core (ao : Option Addr) (len cap : Nat) (xs : List Nat) (bo : Option Addr) (blen bcap : Nat) (ys : List Nat) (w : World) (hx : Rd4 w ao len cap xs) (hy : Rd4 w bo blen bcap ys) (hl : len ≤ 10000) (hll : blen ≤ len) :
    Calls Try.prog 71 #[.slice ao len cap, .slice bo blen bcap] w fun e w' => ∃ ao' k cap' zs, e = .returned (.slice ao' k cap') ∧ Rd4 w' ao' k cap' zs ∧ Nm zs ∧ dig zs = dig xs + dig ys ∧ Below w.heap.size w w' ∧ k ≤ len + 1 := by
  have hdl : decide (len < blen) = false := decide_eq_false (by omega)
  have h1 := hx.le
  have h2 := hx.max
  have h3 := hy.le
  have h4 := hy.max
  obtain ⟨w1, hmk, hO, hB1⟩ := make4 w (len + 1) (by omega)
  have hmk' := hmk ((len : Int) + 1) (by omega)
  have HX : Hid _ := hx
  have HY : Hid _ := hy
  have HO : Hid _ := hO
  have HB1 : Hid _ := hB1
  clear hmk hx hy hO hB1
  go_enter Try.func71, Try.ntmps71
  go_wp2_with fail
  go_loopg [6, 7] len (fun gg c i wx => ∃ (k cc : Nat) (zs : List Nat), k ≤ len ∧ i = .int .i64 k ∧ c = .int .u64 cc ∧ cc ≤ 1 ∧ Hid (Own4 wx w.heap.size w.heap.size (len + 1) zs) ∧ Hid (Below w.heap.size w wx) ∧ Hid (U4 zs) ∧ Hid (dig (zs.take k) + wd k * cc = dig (xs.take k) + dig (ys.take k)) ∧ len ≤ k + gg)
  case atStart =>
    refine ⟨0, 0, List.replicate (len + 1) 0, by omega, rfl, rfl, by omega, HO, HB1, ?_, ?_, by omega⟩
    · intro x hx; rw [List.eq_of_mem_replicate hx]; decide
    · unfold Hid; simp [dig]
  case round =>
    obtain ⟨k, cc, zs, hk, rfl, rfl, hcc, HOz, HBz, HUz, HDz, hfu⟩ := hrel
    by_cases hlt : k < len
    · obtain ⟨fu, rfl⟩ : ∃ g, gk = g + 1 := ⟨gk - 1, by omega⟩
      rcases HX.out.cells with hh | ⟨b, off, rfl, hc⟩
      · omega
      have g := (HBz.out.cell (World.block_lt_of_cell? w _ (hc k hlt))).trans (hc k hlt)
      have hxb := HX.out.lt.at k
      have gz := HOz.out.cell k (by omega)
      have gf := HOz.out.frozen k
      have HSET : Hid _ := HOz.out.set k
      have HTX : Hid _ := dig_take_more (ys := xs) (k := k)
      have HTY : Hid _ := dig_take_more (ys := ys) (k := k)
      clear hc
      generalize xs[k]?.getD 0 = x at *
      by_cases hkb : k < blen
      · rcases HY.out.cells with hh | ⟨b2, off2, rfl, hc2⟩
        · omega
        have g2 := (HBz.out.cell (World.block_lt_of_cell? w _ (hc2 k hkb))).trans (hc2 k hkb)
        have hyb := HY.out.lt.at k
        clear hc2
        generalize ys[k]?.getD 0 = y at *
        obtain ⟨S, hS⟩ : ∃ S : Nat, cc + x + y = S := ⟨_, rfl⟩
        have hSi : (cc : Int) + x + y = (S : Int) := by omega
        have hSb : S < 8589934592 := by omega
        · have HS0 : Hid _ := hS
          clear hS
          have hS := HS0.out
          go_wp2_with fail
          go_roundg fu
          case rel =>
            refine ⟨k + 1, S / 4294967296, zs.set k (S % 4294967296), by omega, by go_num, by go_num, by omega, HSET.out _, below_set HBz.out (Nat.le_refl _), HUz.out.set k _ (Nat.mod_lt _ (by decide)), ?_, by omega⟩
            unfold Hid
            rw [dig_take_set (by rw [HOz.out.1]; omega), HTX.out, HTY.out, wd_succ]
            have hk0 := HDz.out
            have e1 := Nat.div_add_mod S 4294967296
            have e2 : wd k * S = wd k * cc + wd k * x + wd k * y := by rw [← hS, Nat.mul_add, Nat.mul_add]
            have e3 : wd k * S = 4294967296 * wd k * (S / 4294967296) + wd k * (S % 4294967296) := by
              rw [Nat.mul_comm 4294967296, Nat.mul_assoc, ← Nat.mul_add, e1]
            omega
          case measure => omega
      · have hy0 : ys[k]?.getD 0 = 0 := by rw [List.getElem?_eq_none (by rw [HY.out.length]; omega)]; rfl
        rw [hy0] at HTY
        obtain ⟨y, hy⟩ : ∃ y : Nat, y = 0 := ⟨_, rfl⟩
        rw [← hy] at HTY
        obtain ⟨S, hS⟩ : ∃ S : Nat, cc + x + y = S := ⟨_, rfl⟩
        have hSi : (cc : Int) + x = (S : Int) := by omega
        have hSb : S < 8589934592 := by omega
        · clear hy
          go_wp2_with fail
          go_roundg fu
          case rel =>
            refine ⟨k + 1, S / 4294967296, zs.set k (S % 4294967296), by omega, by go_num, by go_num, by omega, HSET.out _, below_set HBz.out (Nat.le_refl _), HUz.out.set k _ (Nat.mod_lt _ (by decide)), ?_, by omega⟩
            unfold Hid
            rw [dig_take_set (by rw [HOz.out.1]; omega), HTX.out, HTY.out, wd_succ]
            have hk0 := HDz.out
            have e1 := Nat.div_add_mod S 4294967296
            have e2 : wd k * S = wd k * cc + wd k * x + wd k * y := by rw [← hS, Nat.mul_add, Nat.mul_add]
            have e3 : wd k * S = 4294967296 * wd k * (S / 4294967296) + wd k * (S % 4294967296) := by
              rw [Nat.mul_comm 4294967296, Nat.mul_assoc, ← Nat.mul_add, e1]
            omega
          case measure => omega
    · obtain rfl : k = len := by omega
      have gz := HOz.out.cell k (by omega)
      have gf := HOz.out.frozen k
      have HSET : Hid _ := HOz.out.set k cc
      have HU2 : Hid (U4 (zs.set k cc)) := HUz.out.set k cc (by omega)
      have HDF : Hid (dig (zs.set k cc) = dig xs + dig ys) := by
        unfold Hid
        have e1 := dig_take_set (zs := zs) (k := k) (v := cc) (by rw [HOz.out.1]; omega)
        rw [List.take_of_length_le (by rw [List.length_set, HOz.out.1]; exact Nat.le_refl _)] at e1
        rw [e1, HDz.out, List.take_of_length_le (by rw [HX.out.length]; exact Nat.le_refl _), List.take_of_length_le (by rw [HY.out.length]; omega)]
      have hcm : (cc : Int) % 4294967296 = (cc : Int) := by omega
      go_wp2_with fail
      refine (trim_any _ _ _ (zs.set k cc) _ (Own4.rd HSET.out HU2.out (by omega))).mono ?_
      rintro e w' ⟨ao', m, rfl, rfl, hr', hm', hnm, hdg⟩
      go_wp2_with fail
      go_ret
      exact ⟨ao', m, _, _, rfl, hr', hnm, by rw [hdg, HDF.out], below_set HBz.out (Nat.le_refl _), by omega⟩
set_option maxRecDepth 100000 in
set_option maxHeartbeats 2000000 in
theorem plus_swap (ao : Option Addr) (len cap : Nat) (xs : List Nat) (bo : Option Addr) (blen bcap : Nat) (ys : List Nat) (w : World) (hx : Rd4 w ao len cap xs) (hy : Rd4 w bo blen bcap ys) (hl : len ≤ 10000) (hll : blen < len) :
    Calls Try.prog 71 #[.slice bo blen bcap, .slice ao len cap] w fun e w' => ∃ ao' k cap' zs, e = .returned (.slice ao' k cap') ∧ Rd4 w' ao' k cap' zs ∧ Nm zs ∧ dig zs = dig xs + dig ys ∧ Below w.heap.size w w' ∧ k ≤ len + 1 := by
  have hdl : decide (blen < len) = true := decide_eq_true (by omega)
  have h1 := hx.le
  have h2 := hx.max
  have h3 := hy.le
  have h4 := hy.max
  obtain ⟨w1, hmk, hO, hB1⟩ := make4 w (len + 1) (by omega)
  have hmk' := hmk ((len : Int) + 1) (by omega)
  have HX : Hid _ := hx
  have HY : Hid _ := hy
  have HO : Hid _ := hO
  have HB1 : Hid _ := hB1
  clear hmk hx hy hO hB1
  go_enter Try.func71, Try.ntmps71
  go_wp2_with fail
  go_loopg [6, 7] len (fun gg c i wx => ∃ (k cc : Nat) (zs : List Nat), k ≤ len ∧ i = .int .i64 k ∧ c = .int .u64 cc ∧ cc ≤ 1 ∧ Hid (Own4 wx w.heap.size w.heap.size (len + 1) zs) ∧ Hid (Below w.heap.size w wx) ∧ Hid (U4 zs) ∧ Hid (dig (zs.take k) + wd k * cc = dig (xs.take k) + dig (ys.take k)) ∧ len ≤ k + gg)
  case atStart =>
    refine ⟨0, 0, List.replicate (len + 1) 0, by omega, rfl, rfl, by omega, HO, HB1, ?_, ?_, by omega⟩
    · intro x hx; rw [List.eq_of_mem_replicate hx]; decide
    · unfold Hid; simp [dig]
  case round =>
    obtain ⟨k, cc, zs, hk, rfl, rfl, hcc, HOz, HBz, HUz, HDz, hfu⟩ := hrel
    by_cases hlt : k < len
    · obtain ⟨fu, rfl⟩ : ∃ g, gk = g + 1 := ⟨gk - 1, by omega⟩
      rcases HX.out.cells with hh | ⟨b, off, rfl, hc⟩
      · omega
      have g := (HBz.out.cell (World.block_lt_of_cell? w _ (hc k hlt))).trans (hc k hlt)
      have hxb := HX.out.lt.at k
      have gz := HOz.out.cell k (by omega)
      have gf := HOz.out.frozen k
      have HSET : Hid _ := HOz.out.set k
      have HTX : Hid _ := dig_take_more (ys := xs) (k := k)
      have HTY : Hid _ := dig_take_more (ys := ys) (k := k)
      clear hc
      generalize xs[k]?.getD 0 = x at *
      by_cases hkb : k < blen
      · rcases HY.out.cells with hh | ⟨b2, off2, rfl, hc2⟩
        · omega
        have g2 := (HBz.out.cell (World.block_lt_of_cell? w _ (hc2 k hkb))).trans (hc2 k hkb)
        have hyb := HY.out.lt.at k
        clear hc2
        generalize ys[k]?.getD 0 = y at *
        obtain ⟨S, hS⟩ : ∃ S : Nat, cc + x + y = S := ⟨_, rfl⟩
        have hSi : (cc : Int) + x + y = (S : Int) := by omega
        have hSb : S < 8589934592 := by omega
        · have HS0 : Hid _ := hS
          clear hS
          have hS := HS0.out
          go_wp2_with fail
          go_roundg fu
          case rel =>
            refine ⟨k + 1, S / 4294967296, zs.set k (S % 4294967296), by omega, by go_num, by go_num, by omega, HSET.out _, below_set HBz.out (Nat.le_refl _), HUz.out.set k _ (Nat.mod_lt _ (by decide)), ?_, by omega⟩
            unfold Hid
            rw [dig_take_set (by rw [HOz.out.1]; omega), HTX.out, HTY.out, wd_succ]
            have hk0 := HDz.out
            have e1 := Nat.div_add_mod S 4294967296
            have e2 : wd k * S = wd k * cc + wd k * x + wd k * y := by rw [← hS, Nat.mul_add, Nat.mul_add]
            have e3 : wd k * S = 4294967296 * wd k * (S / 4294967296) + wd k * (S % 4294967296) := by
              rw [Nat.mul_comm 4294967296, Nat.mul_assoc, ← Nat.mul_add, e1]
            omega
          case measure => omega
      · have hy0 : ys[k]?.getD 0 = 0 := by rw [List.getElem?_eq_none (by rw [HY.out.length]; omega)]; rfl
        rw [hy0] at HTY
        obtain ⟨y, hy⟩ : ∃ y : Nat, y = 0 := ⟨_, rfl⟩
        rw [← hy] at HTY
        obtain ⟨S, hS⟩ : ∃ S : Nat, cc + x + y = S := ⟨_, rfl⟩
        have hSi : (cc : Int) + x = (S : Int) := by omega
        have hSb : S < 8589934592 := by omega
        · clear hy
          go_wp2_with fail
          go_roundg fu
          case rel =>
            refine ⟨k + 1, S / 4294967296, zs.set k (S % 4294967296), by omega, by go_num, by go_num, by omega, HSET.out _, below_set HBz.out (Nat.le_refl _), HUz.out.set k _ (Nat.mod_lt _ (by decide)), ?_, by omega⟩
            unfold Hid
            rw [dig_take_set (by rw [HOz.out.1]; omega), HTX.out, HTY.out, wd_succ]
            have hk0 := HDz.out
            have e1 := Nat.div_add_mod S 4294967296
            have e2 : wd k * S = wd k * cc + wd k * x + wd k * y := by rw [← hS, Nat.mul_add, Nat.mul_add]
            have e3 : wd k * S = 4294967296 * wd k * (S / 4294967296) + wd k * (S % 4294967296) := by
              rw [Nat.mul_comm 4294967296, Nat.mul_assoc, ← Nat.mul_add, e1]
            omega
          case measure => omega
    · obtain rfl : k = len := by omega
      have gz := HOz.out.cell k (by omega)
      have gf := HOz.out.frozen k
      have HSET : Hid _ := HOz.out.set k cc
      have HU2 : Hid (U4 (zs.set k cc)) := HUz.out.set k cc (by omega)
      have HDF : Hid (dig (zs.set k cc) = dig xs + dig ys) := by
        unfold Hid
        have e1 := dig_take_set (zs := zs) (k := k) (v := cc) (by rw [HOz.out.1]; omega)
        rw [List.take_of_length_le (by rw [List.length_set, HOz.out.1]; exact Nat.le_refl _)] at e1
        rw [e1, HDz.out, List.take_of_length_le (by rw [HX.out.length]; exact Nat.le_refl _), List.take_of_length_le (by rw [HY.out.length]; omega)]
      have hcm : (cc : Int) % 4294967296 = (cc : Int) := by omega
      go_wp2_with fail
      refine (trim_any _ _ _ (zs.set k cc) _ (Own4.rd HSET.out HU2.out (by omega))).mono ?_
      rintro e w' ⟨ao', m, rfl, rfl, hr', hm', hnm, hdg⟩
      go_wp2_with fail
      go_ret
      exact ⟨ao', m, _, _, rfl, hr', hnm, by rw [hdg, HDF.out], below_set HBz.out (Nat.le_refl _), by omega⟩
theorem plus_any (ao : Option Addr) (len cap : Nat) (xs : List Nat) (bo : Option Addr) (blen bcap : Nat) (ys : List Nat) (w : World) (hx : Rd4 w ao len cap xs) (hy : Rd4 w bo blen bcap ys) (hl : len ≤ 10000) (hl2 : blen ≤ 10000) :
    Calls Try.prog 71 #[.slice ao len cap, .slice bo blen bcap] w fun e w' => ∃ ao' k cap' zs, e = .returned (.slice ao' k cap') ∧ Rd4 w' ao' k cap' zs ∧ Nm zs ∧ dig zs = dig xs + dig ys ∧ Below w.heap.size w w' ∧ k ≤ max len blen + 1 := by
  by_cases h : blen ≤ len
  · refine (plus_core ao len cap xs bo blen bcap ys w hx hy hl h).mono ?_
    rintro e w' ⟨ao', k, cap', zs, h1, h2, h3, h4, h5, h6⟩
    exact ⟨ao', k, cap', zs, h1, h2, h3, h4, h5, by omega⟩
  · refine (plus_swap bo blen bcap ys ao len cap xs w hy hx hl2 (by omega)).mono ?_
    rintro e w' ⟨ao', k, cap', zs, h1, h2, h3, h4, h5, h6⟩
    exact ⟨ao', k, cap', zs, h1, h2, h3, by rw [h4, Nat.add_comm], h5, by omega⟩
set_option maxRecDepth 100000 in
set_option maxHeartbeats 2000000 in
theorem minus_any (ao : Option Addr) (len cap : Nat) (xs : List Nat) (bo : Option Addr) (blen bcap : Nat) (ys : List Nat) (w : World) (hx : Rd4 w ao len cap xs) (hy : Rd4 w bo blen bcap ys) (hl : len ≤ 10000) (hll : blen ≤ len) (hdd : dig ys ≤ dig xs) :
    Calls Try.prog 73 #[.slice ao len cap, .slice bo blen bcap] w fun e w' => ∃ ao' k cap' zs, e = .returned (.slice ao' k cap') ∧ Rd4 w' ao' k cap' zs ∧ Nm zs ∧ dig zs = dig xs - dig ys ∧ Below w.heap.size w w' ∧ k ≤ len := by
  have h1 := hx.le
  have h2 := hx.max
  have h3 := hy.le
  have h4 := hy.max
  obtain ⟨w1, hmk, hO, hB1⟩ := make4 w len (by omega)
  have hmk' := hmk (len : Int) rfl
  have HX : Hid _ := hx
  have HY : Hid _ := hy
  have HO : Hid _ := hO
  have HB1 : Hid _ := hB1
  clear hmk hx hy hO hB1
  go_enter Try.func73, Try.ntmps73
  go_wp2_with fail
  go_loopg [6, 7] len (fun gg c i wx => ∃ (k cc : Nat) (zs : List Nat), k ≤ len ∧ i = .int .i64 k ∧ c = .int .u64 cc ∧ cc ≤ 1 ∧ Hid (Own4 wx w.heap.size w.heap.size len zs) ∧ Hid (Below w.heap.size w wx) ∧ Hid (U4 zs) ∧ Hid (dig (xs.take k) + wd k * cc = dig (zs.take k) + dig (ys.take k)) ∧ len ≤ k + gg)
  case atStart =>
    refine ⟨0, 0, List.replicate len 0, by omega, rfl, rfl, by omega, HO, HB1, ?_, ?_, by omega⟩
    · intro x hx; rw [List.eq_of_mem_replicate hx]; decide
    · unfold Hid; simp [dig]
  case round =>
    obtain ⟨k, cc, zs, hk, rfl, rfl, hcc, HOz, HBz, HUz, HDz, hfu⟩ := hrel
    by_cases hlt : k < len
    · obtain ⟨fu, rfl⟩ : ∃ g, gk = g + 1 := ⟨gk - 1, by omega⟩
      rcases HX.out.cells with hh | ⟨b, off, rfl, hc⟩
      · omega
      have g := (HBz.out.cell (World.block_lt_of_cell? w _ (hc k hlt))).trans (hc k hlt)
      have hxb := HX.out.lt.at k
      have gz := HOz.out.cell k (by omega)
      have gf := HOz.out.frozen k
      have HSET : Hid _ := HOz.out.set k
      have HTX : Hid _ := dig_take_more (ys := xs) (k := k)
      have HTY : Hid _ := dig_take_more (ys := ys) (k := k)
      clear hc
      generalize xs[k]?.getD 0 = y at *
      by_cases hkb : k < blen
      · rcases HY.out.cells with hh | ⟨b2, off2, rfl, hc2⟩
        · omega
        have g2 := (HBz.out.cell (World.block_lt_of_cell? w _ (hc2 k hkb))).trans (hc2 k hkb)
        have hyb := HY.out.lt.at k
        clear hc2
        generalize ys[k]?.getD 0 = z at *
        obtain ⟨X, hX⟩ : ∃ X : Nat, cc + z = X := ⟨_, rfl⟩
        have hXi : (cc : Int) + z = (X : Int) := by omega
        have hXb : X ≤ 4294967296 := by omega
        by_cases hbr : y < X
        · have hv : (y : Int) + 4294967296 - (X : Int) = ((y + 4294967296 - X : Nat) : Int) := by omega
          obtain ⟨V, hV⟩ : ∃ V : Nat, y + 4294967296 - X = V := ⟨_, rfl⟩
          rw [hV] at hv
          have hVb : V < 4294967296 := by omega
          go_wp2_with fail
          go_roundg fu
          case rel =>
            refine ⟨k + 1, 1, zs.set k V, by omega, by go_num, rfl, by omega, HSET.out _, below_set HBz.out (Nat.le_refl _), HUz.out.set k _ hVb, ?_, by omega⟩
            unfold Hid
            rw [dig_take_set (by rw [HOz.out.1]; omega), HTX.out, HTY.out, wd_succ]
            have hk0 := HDz.out
            have e1 : wd k * y + wd k * 4294967296 = wd k * V + (wd k * cc + wd k * z) := by rw [← Nat.mul_add, ← Nat.mul_add, ← Nat.mul_add]; congr 1; omega
            have e2 : 4294967296 * wd k * 1 = wd k * 4294967296 := by rw [Nat.mul_one, Nat.mul_comm]
            omega
          case measure => omega
        · have hv : (y : Int) - (X : Int) = ((y - X : Nat) : Int) := by omega
          obtain ⟨V, hV⟩ : ∃ V : Nat, y - X = V := ⟨_, rfl⟩
          rw [hV] at hv
          have hVb : V < 4294967296 := by omega
          go_wp2_with fail
          go_roundg fu
          case rel =>
            refine ⟨k + 1, 0, zs.set k V, by omega, by go_num, rfl, by omega, HSET.out _, below_set HBz.out (Nat.le_refl _), HUz.out.set k _ hVb, ?_, by omega⟩
            unfold Hid
            rw [dig_take_set (by rw [HOz.out.1]; omega), HTX.out, HTY.out, wd_succ]
            have hk0 := HDz.out
            have e1 : wd k * y = wd k * V + (wd k * cc + wd k * z) := by rw [← Nat.mul_add, ← Nat.mul_add]; congr 1; omega
            have e2 : 4294967296 * wd k * 0 = 0 := Nat.mul_zero _
            omega
          case measure => omega
      · have hy0 : ys[k]?.getD 0 = 0 := by rw [List.getElem?_eq_none (by rw [HY.out.length]; omega)]; rfl
        rw [hy0] at HTY
        obtain ⟨z, hz⟩ : ∃ z : Nat, z = 0 := ⟨_, rfl⟩
        rw [← hz] at HTY
        obtain ⟨X, hX⟩ : ∃ X : Nat, X = cc := ⟨_, rfl⟩
        have hXc : cc + z = X := by omega
        clear hz
        subst hX
        by_cases hbr : y < X
        · have hv : (y : Int) + 4294967296 - (X : Int) = ((y + 4294967296 - X : Nat) : Int) := by omega
          obtain ⟨V, hV⟩ : ∃ V : Nat, y + 4294967296 - X = V := ⟨_, rfl⟩
          rw [hV] at hv
          have hVb : V < 4294967296 := by omega
          go_wp2_with fail
          go_roundg fu
          case rel =>
            refine ⟨k + 1, 1, zs.set k V, by omega, by go_num, rfl, by omega, HSET.out _, below_set HBz.out (Nat.le_refl _), HUz.out.set k _ hVb, ?_, by omega⟩
            unfold Hid
            rw [dig_take_set (by rw [HOz.out.1]; omega), HTX.out, HTY.out, wd_succ]
            have hk0 := HDz.out
            have e1 : wd k * y + wd k * 4294967296 = wd k * V + (wd k * X + wd k * z) := by rw [← Nat.mul_add, ← Nat.mul_add, ← Nat.mul_add]; congr 1; omega
            have e2 : 4294967296 * wd k * 1 = wd k * 4294967296 := by rw [Nat.mul_one, Nat.mul_comm]
            omega
          case measure => omega
        · have hv : (y : Int) - (X : Int) = ((y - X : Nat) : Int) := by omega
          obtain ⟨V, hV⟩ : ∃ V : Nat, y - X = V := ⟨_, rfl⟩
          rw [hV] at hv
          have hVb : V < 4294967296 := by omega
          go_wp2_with fail
          go_roundg fu
          case rel =>
            refine ⟨k + 1, 0, zs.set k V, by omega, by go_num, rfl, by omega, HSET.out _, below_set HBz.out (Nat.le_refl _), HUz.out.set k _ hVb, ?_, by omega⟩
            unfold Hid
            rw [dig_take_set (by rw [HOz.out.1]; omega), HTX.out, HTY.out, wd_succ]
            have hk0 := HDz.out
            have e1 : wd k * y = wd k * V + (wd k * X + wd k * z) := by rw [← Nat.mul_add, ← Nat.mul_add]; congr 1; omega
            have e2 : 4294967296 * wd k * 0 = 0 := Nat.mul_zero _
            omega
          case measure => omega
    · obtain rfl : k = len := by omega
      have HTX : Hid (xs.take k = xs) := by unfold Hid; exact List.take_of_length_le (by rw [HX.out.length]; omega)
      have HDF : Hid (dig zs = dig xs - dig ys) := by
        unfold Hid
        have e1 := HDz.out
        have e2 := dig_lt HUz.out
        rw [HOz.out.1] at e2
        rw [HTX.out, List.take_of_length_le (by rw [HOz.out.1]; omega), List.take_of_length_le (by rw [HY.out.length]; omega)] at e1
        have e3 : cc = 0 := by
          rcases Nat.eq_zero_or_pos cc with h | h
          · exact h
          · have : cc = 1 := by omega
            rw [this, Nat.mul_one] at e1; omega
        rw [e3, Nat.mul_zero] at e1
        omega
      go_wp2_with fail
      refine (trim_any _ _ _ zs _ (Own4.rd HOz.out HUz.out (by omega))).mono ?_
      rintro e w' ⟨ao', m, rfl, rfl, hr', hm', hnm, hdg⟩
      go_wp2_with fail
      go_ret
      exact ⟨ao', m, _, _, rfl, hr', hnm, by rw [hdg, HDF.out], HBz.out, by omega⟩
/-- A number's block in memory, as the call's own. -/
def NumB (w : World) (B : Nat) : Prop := ∃ neg ao len cap e, w.heap[B]? = some (.cells #[.bool neg, .slice ao len cap, .int .i64 e] 115)
theorem NumB.not {w : World} {B : Nat} (h : NumB w B) (j : Nat) (x : Int) : w.cell? ⟨B, j, none⟩ ≠ some (.int .u32 x) := by
  obtain ⟨neg, ao, len, cap, e, h⟩ := h
  match j with
  | 0 => rw [(three_cells h).1]; simp
  | 1 => rw [(three_cells h).2.1]; simp
  | 2 => rw [(three_cells h).2.2]; simp
  | j + 3 => rw [cell_of_row _ _ _ _ _ _ h]; simp
theorem set3_heap {w : World} {B : Nat} {a b c : Value} (x y z : Value) (h : w.heap[B]? = some (.cells #[a, b, c] 115)) :
    (((w.setCell ⟨B, 0, none⟩ x).setCell ⟨B, 1, none⟩ y).setCell ⟨B, 2, none⟩ z).heap[B]? = some (.cells #[x, y, z] 115) := by
  have h1 := heap_setCell_same w B 0 _ _ x h
  have h2 := heap_setCell_same _ B 1 _ _ y h1
  exact heap_setCell_same _ B 2 _ _ z h2
/-- Words stay where a number's block is written over. -/
theorem rd4_set3 {w : World} {B : Nat} (x y z : Value) (hB : NumB w B) {ao : Option Addr} {len cap : Nat} {xs : List Nat} (h : Rd4 w ao len cap xs) :
    Rd4 (((w.setCell ⟨B, 0, none⟩ x).setCell ⟨B, 1, none⟩ y).setCell ⟨B, 2, none⟩ z) ao len cap xs := by
  refine ⟨h.length, h.le, h.max, h.lt, h.nil, ?_⟩
  rcases h.cells with h0 | ⟨b, off, ha, hc⟩
  · exact .inl h0
  · refine .inr ⟨b, off, ha, fun j hj => ?_⟩
    have hne : b ≠ B := by rintro rfl; exact hB.not _ _ (hc j hj)
    rw [World.cell?_setCell_other _ _ _ _ (fun e => hne (by have := congrArg Addr.block e; first | exact this | exact this.symm)), World.cell?_setCell_other _ _ _ _ (fun e => hne (by have := congrArg Addr.block e; first | exact this | exact this.symm)), World.cell?_setCell_other _ _ _ _ (fun e => hne (by have := congrArg Addr.block e; first | exact this | exact this.symm))]
    exact hc j hj
theorem rd4_other {w w' : World} {B : Nat} (hB : NumB w B) (hs : ∀ b, b ≠ B → w'.heap[b]? = w.heap[b]?) {ao : Option Addr} {len cap : Nat} {xs : List Nat} (h : Rd4 w ao len cap xs) : Rd4 w' ao len cap xs := by
  refine ⟨h.length, h.le, h.max, h.lt, h.nil, ?_⟩
  rcases h.cells with h0 | ⟨b, off, ha, hc⟩
  · exact .inl h0
  · refine .inr ⟨b, off, ha, fun j hj => ?_⟩
    have hne : b ≠ B := by rintro rfl; exact hB.not _ _ (hc j hj)
    rw [World.cell?_of_block (w := w) (w' := w') (a := ⟨b, off + j, none⟩) (hs b hne)]
    exact hc j hj
theorem dig_drop_pred {xs : List Nat} {k : Nat} : dig (xs.drop k) = xs[k]?.getD 0 + 4294967296 * dig (xs.drop (k + 1)) := by
  rw [dig_head, List.getElem?_drop, Nat.add_zero, List.drop_drop]
def cmpN (m n : Nat) : Int := if m < n then -1 else if m = n then 0 else 1
theorem shorter_lt {xs ys : List Nat} (hx : U4 xs) (hy : U4 ys) (hn : Nm ys) (hl : xs.length < ys.length) : dig xs < dig ys := by
  have h1 := dig_lt hx
  have e := dig_take_succ (xs := ys) (k := ys.length - 1) (by omega)
  rw [show ys.length - 1 + 1 = ys.length by omega, List.take_length] at e
  have h2 : ys[ys.length - 1]?.getD 0 ≠ 0 := by
    rcases hn with h | h
    · rw [h] at hl; simp at hl
    · exact h
  have h3 : wd (ys.length - 1) * 1 ≤ wd (ys.length - 1) * ys[ys.length - 1]?.getD 0 := Nat.mul_le_mul_left _ (by omega)
  have h4 : wd xs.length ≤ wd (ys.length - 1) := by unfold wd; exact Nat.pow_le_pow_right (by omega) (by omega)
  omega
theorem upper_lt {xs ys : List Nat} {k : Nat} (hx : U4 xs) (hy : U4 ys) (hl : k < xs.length) (hl2 : k < ys.length) (hd : dig (xs.drop (k + 1)) = dig (ys.drop (k + 1))) (h : xs[k]?.getD 0 < ys[k]?.getD 0) : dig xs < dig ys := by
  have e1 := dig_split xs k
  have e2 := dig_split ys k
  have b1 := dig_lt (hx.take k)
  rw [List.length_take, Nat.min_eq_left (by omega)] at e1 e2 b1
  rw [dig_drop_pred, hd] at e1
  rw [dig_drop_pred] at e2
  generalize xs[k]?.getD 0 = x at *
  generalize ys[k]?.getD 0 = y at *
  generalize dig (ys.drop (k + 1)) = D at *
  have h5 : wd k * (x + 4294967296 * D) + wd k ≤ wd k * (y + 4294967296 * D) := by
    rw [← Nat.mul_succ]; exact Nat.mul_le_mul_left _ (by omega)
  omega
set_option maxRecDepth 100000 in
set_option maxHeartbeats 1000000 in
theorem cmp_any (ao : Option Addr) (len cap : Nat) (xs : List Nat) (bo : Option Addr) (blen bcap : Nat) (ys : List Nat) (w : World) (hx : Rd4 w ao len cap xs) (hy : Rd4 w bo blen bcap ys) (hnx : Nm xs) (hny : Nm ys) :
    Calls Try.prog 72 #[.slice ao len cap, .slice bo blen bcap] w fun e w' => e = .returned (.int .i64 (cmpN (dig xs) (dig ys))) ∧ Below w.heap.size w w' := by
  have h1 := hx.le
  have h2 := hx.max
  have h3 := hy.le
  have h4 := hy.max
  by_cases hlt : len < blen
  · have hc : cmpN (dig xs) (dig ys) = -1 := by unfold cmpN; rw [if_pos (shorter_lt hx.lt hy.lt hny (by rw [hx.length, hy.length]; exact hlt))]
    rw [hc]
    clear hx hy hnx hny hc
    go_enter Try.func72, Try.ntmps72
    go_wp2
    go_ret
    exact ⟨rfl, Below.refl _ _⟩
  · by_cases hgt : blen < len
    · have hl := shorter_lt hy.lt hx.lt hnx (by rw [hx.length, hy.length]; exact hgt)
      have hc : cmpN (dig xs) (dig ys) = 1 := by unfold cmpN; rw [if_neg (by omega), if_neg (by omega)]
      rw [hc]
      clear hx hy hnx hny hc hl
      go_enter Try.func72, Try.ntmps72
      go_wp2
      go_ret
      exact ⟨rfl, Below.refl _ _⟩
    · obtain rfl : len = blen := by omega
      have HX : Hid _ := hx
      have HY : Hid _ := hy
      have hbb : ((len : Int) != (len : Int)) = false := by simp
      clear hx hy hlt hgt hnx hny
      go_enter Try.func72, Try.ntmps72
      go_wp2_with fail
      go_loopg [5] len (fun gg i wx => ∃ k : Nat, k ≤ len ∧ i = .int .i64 ((k : Int) - 1) ∧ Hid (dig (xs.drop k) = dig (ys.drop k)) ∧ Hid (Below w.heap.size w wx) ∧ k ≤ gg)
      case atStart => exact ⟨len, by omega, rfl, by unfold Hid; rw [List.drop_of_length_le (by rw [HX.out.length]; omega), List.drop_of_length_le (by rw [HY.out.length]; omega)], Below.refl _ _, by omega⟩
      case round =>
        obtain ⟨k, hk, rfl, HD, HB, hfu⟩ := hrel
        cases k with
        | zero =>
          have hz : ((0 : Nat) : Int) - 1 = -1 := rfl
          rw [hz]
          have hc : cmpN (dig xs) (dig ys) = 0 := by
            have := HD.out
            rw [List.drop_zero, List.drop_zero] at this
            unfold cmpN; rw [this, if_neg (by omega), if_pos rfl]
          have HCM : Hid _ := hc
          clear hc
          go_wp2_with fail
          go_ret
          exact ⟨by rw [HCM.out]; rfl, HB.out⟩
        | succ k =>
          obtain ⟨fu, rfl⟩ : ∃ g, gk = g + 1 := ⟨gk - 1, by omega⟩
          rcases HX.out.cells with hh | ⟨b, off, rfl, hc⟩
          · omega
          rcases HY.out.cells with hh | ⟨b2, off2, rfl, hc2⟩
          · omega
          have g := (HB.out.cell (World.block_lt_of_cell? w _ (hc k (by omega)))).trans (hc k (by omega))
          have g2 := (HB.out.cell (World.block_lt_of_cell? w _ (hc2 k (by omega)))).trans (hc2 k (by omega))
          have hxb := HX.out.lt.at k
          have hyb := HY.out.lt.at k
          have HLT : Hid (xs[k]?.getD 0 < ys[k]?.getD 0 → dig xs < dig ys) := fun h => upper_lt HX.out.lt HY.out.lt (by rw [HX.out.length]; omega) (by rw [HY.out.length]; omega) HD.out h
          have HGT : Hid (ys[k]?.getD 0 < xs[k]?.getD 0 → dig ys < dig xs) := fun h => upper_lt HY.out.lt HX.out.lt (by rw [HY.out.length]; omega) (by rw [HX.out.length]; omega) HD.out.symm h
          have HEQ : Hid (xs[k]?.getD 0 = ys[k]?.getD 0 → dig (xs.drop k) = dig (ys.drop k)) := fun h => by rw [dig_drop_pred, dig_drop_pred (xs := ys), h, HD.out]
          clear hc hc2
          generalize xs[k]?.getD 0 = x at *
          generalize ys[k]?.getD 0 = y at *
          have hz : ((k + 1 : Nat) : Int) - 1 = (k : Int) := by omega
          rw [hz]
          by_cases h5 : x < y
          · have hcm : cmpN (dig xs) (dig ys) = -1 := by unfold cmpN; rw [if_pos (HLT.out h5)]
            have HCM : Hid _ := hcm
            clear hcm
            go_wp2_with fail
            go_region
            go_wp2_with fail
            go_ret
            exact ⟨by rw [HCM.out]; rfl, HB.out.drew⟩
          · by_cases h6 : y < x
            · have hcm : cmpN (dig xs) (dig ys) = 1 := by have := HGT.out h6; unfold cmpN; rw [if_neg (by omega), if_neg (by omega)]
              have HCM : Hid _ := hcm
              clear hcm
              go_wp2_with fail
              go_region
              go_wp2_with fail
              go_region
              go_wp2_with fail
              go_ret
              exact ⟨by rw [HCM.out]; rfl, HB.out.drew.drew⟩
            · obtain rfl : x = y := by omega
              go_wp2_with fail
              go_region
              go_wp2_with fail
              go_region
              go_wp2_with fail
              go_roundg fu
              case rel => exact ⟨k, by omega, rfl, HEQ.out trivial, HB.out.drew.drew, by omega⟩
              case measure => omega
set_option maxRecDepth 100000 in
theorem turned_any (v : Value) (neg : Bool) (m : Nat) (e : Int) (w : World) (h : NumV w v neg m e) :
    Calls Try.prog 69 #[v] w fun e' w' => ∃ v', e' = .returned v' ∧ NumV w' v' (if m = 0 then neg else !neg) m e ∧ Below w.heap.size w w' := by
  obtain ⟨ao, len, cap, xs, rfl, hr, hnm, hm⟩ := h
  have hz := len_zero hr.length hr.lt hnm
  rw [hm] at hz
  have hbel : ∀ c1 c2 : Obj, Below w.heap.size w ((w.alloc c1).alloc c2) := fun c1 c2 => ((Below.refl _ _).alloc (Nat.le_refl _) _).alloc (by simp) _
  have HR : Hid _ := hr
  have HB : Hid _ := hbel
  clear hr hbel
  by_cases h0 : 0 < len
  · rw [if_neg (by omega)]
    go_enter Try.func69, Try.ntmps69
    go_wp2_with fail
    refine bodyPost_ret (v := .agg #[.bool (!neg), .slice ao len cap, .int .i64 e]) (res_num _ 2 (by kernel_rfl) _ _ (w.heap.size + 1) _ _ _ (by rfl) (by have := heap_alloc_new (w.alloc (Obj.cells #[Value.bool (!neg), Value.slice ao len cap, Value.int IntKind.i64 e] 115)) (Obj.cells #[Value.bool (!neg), Value.slice ao len cap, Value.int IntKind.i64 e] 115); simpa using this)) rfl ⟨_, rfl, ?_, HB.out _ _⟩
    exact ⟨ao, len, cap, xs, rfl, HR.out.later (HB.out _ _), hnm, hm⟩
  · rw [if_pos (by omega)]
    go_enter Try.func69, Try.ntmps69
    go_wp2_with fail
    refine bodyPost_ret (v := .agg #[.bool neg, .slice ao len cap, .int .i64 e]) (res_num _ 2 (by kernel_rfl) _ _ (w.heap.size + 1) _ _ _ (by rfl) (by have := heap_alloc_new (w.alloc (Obj.cells #[Value.bool neg, Value.slice ao len cap, Value.int IntKind.i64 e] 115)) (Obj.cells #[Value.bool neg, Value.slice ao len cap, Value.int IntKind.i64 e] 115); simpa using this)) rfl ⟨_, rfl, ?_, HB.out _ _⟩
    exact ⟨ao, len, cap, xs, rfl, HR.out.later (HB.out _ _), hnm, hm⟩
set_option maxRecDepth 100000 in
set_option maxHeartbeats 1000000 in
theorem sign_any (v : Value) (neg : Bool) (m : Nat) (e : Int) (w : World) (h : NumV w v neg m e) :
    Calls Try.prog 61 #[v] w fun e' w' => e' = .returned (.int .i64 (if m = 0 then 0 else if neg then -1 else 1)) ∧ Below w.heap.size w w' := by
  obtain ⟨ao, len, cap, xs, rfl, hr, hnm, hm⟩ := h
  have hz := len_zero hr.length hr.lt hnm
  rw [hm] at hz
  clear hr
  by_cases h0 : m = 0
  · have hl : len = 0 := hz.2 h0
    subst hl
    rw [if_pos h0]
    clear hz
    go_enter Try.func61, Try.ntmps61
    go_wp2_with fail
    go_ret
    exact ⟨rfl, (Below.refl _ _).alloc (Nat.le_refl _) _⟩
  · have hl : 0 < len := by omega
    have hb : ((len : Int) == 0) = false := by rw [beq_eq_false_iff_ne]; omega
    rw [if_neg h0]
    clear hz
    cases neg
    · go_enter Try.func61, Try.ntmps61
      go_wp2_with fail
      go_ret
      exact ⟨rfl, (Below.refl _ _).alloc (Nat.le_refl _) _⟩
    · go_enter Try.func61, Try.ntmps61
      go_wp2_with fail
      go_ret
      exact ⟨rfl, (Below.refl _ _).alloc (Nat.le_refl _) _⟩
theorem rd4_none' (w : World) : Rd4 w none 0 0 [] := Rd4.none w
/-- Two numbers brought to one power of 2. -/
def LevelOf (mx : Nat) (ex : Int) (my : Nat) (ey : Int) (A B : Nat) (e : Int) : Prop :=
  (mx = 0 ∧ A = 0 ∧ B = my ∧ e = ey) ∨ (mx ≠ 0 ∧ my = 0 ∧ A = mx ∧ B = 0 ∧ e = ex) ∨ (mx ≠ 0 ∧ my ≠ 0 ∧ e = min ex ey ∧ A = mx * 2 ^ (ex - e).toNat ∧ B = my * 2 ^ (ey - e).toNat)
def LevelRes (mx : Nat) (ex : Int) (my : Nat) (ey : Int) (w : World) (e' : Ending) (w' : World) : Prop :=
  ∃ a1 l1 c1 xs a2 l2 c2 ys A B e, e' = .returned (.tuple #[.slice a1 l1 c1, .slice a2 l2 c2, .int .i64 e]) ∧ Rd4 w' a1 l1 c1 xs ∧ Rd4 w' a2 l2 c2 ys ∧ Nm xs ∧ Nm ys ∧ dig xs = A ∧ dig ys = B ∧ LevelOf mx ex my ey A B e ∧ Below w.heap.size w w'
set_option maxRecDepth 100000 in
set_option maxHeartbeats 1000000 in
theorem level_any (v u : Value) (nx ny : Bool) (mx my : Nat) (ex ey : Int) (w : World) (hx : NumV w v nx mx ex) (hy : NumV w u ny my ey) (hex : -20000 ≤ ex ∧ ex ≤ 20000) (hey : -20000 ≤ ey ∧ ey ≤ 20000) (hbx : bl mx ≤ 100000) (hby : bl my ≤ 100000) :
    Calls Try.prog 70 #[v, u] w fun e' w' => LevelRes mx ex my ey w e' w' := by
  obtain ⟨ao, len, cap, xs, rfl, hr, hnm, hm⟩ := hx
  obtain ⟨bo, blen, bcap, ys, rfl, hr2, hnm2, hm2⟩ := hy
  have hz := len_zero hr.length hr.lt hnm
  have hz2 := len_zero hr2.length hr2.lt hnm2
  rw [hm] at hz
  rw [hm2] at hz2
  have hl : len ≤ 10000 := by have := len_bl hr.length hr.lt hnm; rw [hm] at this; omega
  have hl2 : blen ≤ 10000 := by have := len_bl hr2.length hr2.lt hnm2; rw [hm2] at this; omega
  have hbel : ∀ o1 o2 : Obj, Below w.heap.size w ((w.alloc o1).alloc o2) := fun o1 o2 => ((Below.refl _ _).alloc (Nat.le_refl _) _).alloc (by simp) _
  have HR : Hid _ := hr
  have HR2 : Hid _ := hr2
  have HB : Hid _ := hbel
  clear hr hr2 hbel
  by_cases h0 : mx = 0
  · have hl0 : len = 0 := hz.2 h0
    subst hl0
    clear hz hz2
    go_enter Try.func70, Try.ntmps70
    go_wp2_with fail
    go_region
    go_wp2_with fail
    go_ret3
    exact ⟨none, 0, 0, [], bo, blen, bcap, ys, 0, my, ey, rfl, rd4_none' _, HR2.out.later (HB.out _ _).drew, .inl rfl, hnm2, rfl, hm2, .inl ⟨h0, rfl, rfl, rfl⟩, (HB.out _ _).drew⟩
  · have hb0 : ((len : Int) == 0) = false := by rw [beq_eq_false_iff_ne]; omega
    by_cases h1 : my = 0
    · have hl0 : blen = 0 := hz2.2 h1
      subst hl0
      clear hz hz2
      go_enter Try.func70, Try.ntmps70
      go_wp2_with fail
      go_region
      go_wp2_with fail
      go_ret3
      exact ⟨ao, len, cap, xs, none, 0, 0, [], mx, 0, ex, rfl, HR.out.later (HB.out _ _).drew, rd4_none' _, hnm, .inl rfl, hm, rfl, .inr (.inl ⟨h0, h1, rfl, rfl, rfl⟩), (HB.out _ _).drew⟩
    · have hb1 : ((blen : Int) == 0) = false := by rw [beq_eq_false_iff_ne]; omega
      clear hz hz2
      have q0 : ((w.alloc (Obj.cells #[Value.bool nx, Value.slice ao len cap, Value.int IntKind.i64 ex] 115)).alloc (Obj.cells #[Value.bool ny, Value.slice bo blen bcap, Value.int IntKind.i64 ey] 115)).heap[w.heap.size]? = some (Obj.cells #[Value.bool nx, Value.slice ao len cap, Value.int IntKind.i64 ex] 115) := by rw [Below.heap_alloc _ _ _ (by simp)]; exact heap_alloc_new w _
      have q1 : ((w.alloc (Obj.cells #[Value.bool nx, Value.slice ao len cap, Value.int IntKind.i64 ex] 115)).alloc (Obj.cells #[Value.bool ny, Value.slice bo blen bcap, Value.int IntKind.i64 ey] 115)).heap[w.heap.size + 1]? = some (Obj.cells #[Value.bool ny, Value.slice bo blen bcap, Value.int IntKind.i64 ey] 115) := by
        have h := heap_alloc_new (w.alloc (Obj.cells #[Value.bool nx, Value.slice ao len cap, Value.int IntKind.i64 ex] 115)) (Obj.cells #[Value.bool ny, Value.slice bo blen bcap, Value.int IntKind.i64 ey] 115)
        rw [show (w.alloc (Obj.cells #[Value.bool nx, Value.slice ao len cap, Value.int IntKind.i64 ex] 115)).heap.size = w.heap.size + 1 by simp] at h
        exact h
      have HBW : Hid (Below w.heap.size w ((w.alloc (Obj.cells #[Value.bool nx, Value.slice ao len cap, Value.int IntKind.i64 ex] 115)).alloc (Obj.cells #[Value.bool ny, Value.slice bo blen bcap, Value.int IntKind.i64 ey] 115))) := HB.out _ _
      have HZ : Hid (((w.alloc (Obj.cells #[Value.bool nx, Value.slice ao len cap, Value.int IntKind.i64 ex] 115)).alloc (Obj.cells #[Value.bool ny, Value.slice bo blen bcap, Value.int IntKind.i64 ey] 115)).heap.size = w.heap.size + 2) := by unfold Hid; simp
      obtain ⟨x0, x1, x2⟩ := three_cells q0
      obtain ⟨y0, y1, y2⟩ := three_cells q1
      clear q0 q1 HB
      by_cases h2 : ey < ex
      · obtain ⟨d, hd⟩ : ∃ d : Nat, (ex - ey).toNat = d := ⟨_, rfl⟩
        have hdi : ex - ey = (d : Int) := by omega
        have hwr : IntKind.i64.wrap (d : Int) = (d : Int) := by rw [IntKind.wrap_i64]; omega
        go_enter Try.func70, Try.ntmps70
        go_wp2_with fail
        generalize ((w.alloc (Obj.cells #[Value.bool nx, Value.slice ao len cap, Value.int IntKind.i64 ex] 115)).alloc (Obj.cells #[Value.bool ny, Value.slice bo blen bcap, Value.int IntKind.i64 ey] 115)) = wa at *
        go_region_held3 (fun w' => w'.cell? ⟨w.heap.size, 1, none⟩ = some (.slice ao len cap) ∧ w'.cell? ⟨w.heap.size, 2, none⟩ = some (.int .i64 ex) ∧ w'.cell? ⟨w.heap.size + 1, 1, none⟩ = some (.slice bo blen bcap) ∧ w'.cell? ⟨w.heap.size + 1, 2, none⟩ = some (.int .i64 ey)) (go_keep)
          (first | (go_at_call 74; refine (left_any ao len cap xs d _ ?_ (by omega) hl).mono ?_; exact HR.out.later HBW.out.drew; rintro ee ww ⟨ao', k, cap', zs, rfl, hr3, hn3, hd3, hb3, hk3⟩; have z1 := (hb3.cell (p := ⟨w.heap.size, 1, none⟩) (by show w.heap.size < wa.heap.size; rw [HZ.out]; omega)).trans x1; have z2 := (hb3.cell (p := ⟨w.heap.size, 2, none⟩) (by show w.heap.size < wa.heap.size; rw [HZ.out]; omega)).trans x2; have z3 := (hb3.cell (p := ⟨w.heap.size + 1, 1, none⟩) (by show w.heap.size + 1 < wa.heap.size; rw [HZ.out]; omega)).trans y1; have z4 := (hb3.cell (p := ⟨w.heap.size + 1, 2, none⟩) (by show w.heap.size + 1 < wa.heap.size; rw [HZ.out]; omega)).trans y2; have HB3 : Hid _ := hb3; have HRD : Hid _ := hr3; clear hb3 hr3))
        all_goals go_wp2_with fail
        all_goals
          have HBF : Hid (Below w.heap.size w ww) := HBW.out.drew.trans (HB3.out.mono (by show w.heap.size ≤ wa.heap.size; rw [HZ.out]; omega))
          go_ret3
          exact ⟨ao', k, cap', zs, bo, blen, bcap, ys, _, my, ey, rfl, HRD.out, HR2.out.later HBF.out, hn3, hnm2, rfl, hm2, .inr (.inr ⟨h0, h1, by omega, by rw [hd3, hm, hd], by rw [show (ey - ey).toNat = 0 by omega, Nat.pow_zero, Nat.mul_one]⟩), HBF.out⟩
      · obtain ⟨d, hd⟩ : ∃ d : Nat, (ey - ex).toNat = d := ⟨_, rfl⟩
        have hdi : ey - ex = (d : Int) := by omega
        have hwr : IntKind.i64.wrap (d : Int) = (d : Int) := by rw [IntKind.wrap_i64]; omega
        go_enter Try.func70, Try.ntmps70
        go_wp2_with fail
        generalize ((w.alloc (Obj.cells #[Value.bool nx, Value.slice ao len cap, Value.int IntKind.i64 ex] 115)).alloc (Obj.cells #[Value.bool ny, Value.slice bo blen bcap, Value.int IntKind.i64 ey] 115)) = wa at *
        go_region_held3 (fun w' => w'.cell? ⟨w.heap.size, 1, none⟩ = some (.slice ao len cap) ∧ w'.cell? ⟨w.heap.size, 2, none⟩ = some (.int .i64 ex) ∧ w'.cell? ⟨w.heap.size + 1, 1, none⟩ = some (.slice bo blen bcap) ∧ w'.cell? ⟨w.heap.size + 1, 2, none⟩ = some (.int .i64 ey)) (go_keep)
          (first | (go_at_call 74; refine (left_any bo blen bcap ys d _ ?_ (by omega) hl2).mono ?_; exact HR2.out.later HBW.out.drew; rintro ee ww ⟨ao', k, cap', zs, rfl, hr3, hn3, hd3, hb3, hk3⟩; have z1 := (hb3.cell (p := ⟨w.heap.size, 1, none⟩) (by show w.heap.size < wa.heap.size; rw [HZ.out]; omega)).trans x1; have z2 := (hb3.cell (p := ⟨w.heap.size, 2, none⟩) (by show w.heap.size < wa.heap.size; rw [HZ.out]; omega)).trans x2; have z3 := (hb3.cell (p := ⟨w.heap.size + 1, 1, none⟩) (by show w.heap.size + 1 < wa.heap.size; rw [HZ.out]; omega)).trans y1; have z4 := (hb3.cell (p := ⟨w.heap.size + 1, 2, none⟩) (by show w.heap.size + 1 < wa.heap.size; rw [HZ.out]; omega)).trans y2; have HB3 : Hid _ := hb3; have HRD : Hid _ := hr3; clear hb3 hr3))
        all_goals go_wp2_with fail
        all_goals
          have HBF : Hid (Below w.heap.size w ww) := HBW.out.drew.trans (HB3.out.mono (by show w.heap.size ≤ wa.heap.size; rw [HZ.out]; omega))
          go_ret3
          exact ⟨ao, len, cap, xs, ao', k, cap', zs, mx, _, ex, rfl, HR.out.later HBF.out, HRD.out, hnm, hn3, hm, rfl, .inr (.inr ⟨h0, h1, by omega, by rw [show (ex - ex).toNat = 0 by omega, Nat.pow_zero, Nat.mul_one], by rw [hd3, hm2, hd]⟩), HBF.out⟩
/-- v is the real z 2^-s, below 2^T. -/
def NumZ (w : World) (v : Value) (s : Nat) (T : Int) (z : Int) : Prop := ∃ neg m e, NumV w v neg m e ∧ -(s : Int) ≤ e ∧ (bl m : Int) + e ≤ T ∧ zv s neg m e = z
theorem NumZ.later {w w' : World} {v : Value} {s : Nat} {T z : Int} (h : NumZ w v s T z) (hb : Below w.heap.size w w') : NumZ w' v s T z := by
  obtain ⟨neg, m, e, h1, h2⟩ := h
  exact ⟨neg, m, e, h1.later hb, h2⟩
theorem NumZ.mono {w : World} {v : Value} {s : Nat} {T T' z : Int} (h : NumZ w v s T z) (hT : T ≤ T') : NumZ w v s T' z := by
  obtain ⟨neg, m, e, h1, h2, h3, h4⟩ := h
  exact ⟨neg, m, e, h1, h2, by omega, h4⟩
/-- What a sum's parts are. -/
def PlusOk (nx : Bool) (mx : Nat) (ex : Int) (ny : Bool) (my : Nat) (ey : Int) (neg : Bool) (m : Nat) (e : Int) : Prop :=
  ∀ (s : Nat) (T : Int), -(s : Int) ≤ ex → -(s : Int) ≤ ey → (bl mx : Int) + ex ≤ T → (bl my : Int) + ey ≤ T → 0 ≤ T → -(s : Int) ≤ e ∧ (bl m : Int) + e ≤ T + 1 ∧ zv s neg m e = zv s nx mx ex + zv s ny my ey
theorem plus_left {nx : Bool} {mx : Nat} {ex : Int} {ny : Bool} {my : Nat} {ey : Int} (h : mx = 0) : PlusOk nx mx ex ny my ey ny my ey := by
  intro s T h1 h2 h3 h4 h5
  refine ⟨h2, by omega, ?_⟩
  rw [h, zv_zero, Int.zero_add]
theorem plus_right {nx : Bool} {mx : Nat} {ex : Int} {ny : Bool} {my : Nat} {ey : Int} (h : my = 0) : PlusOk nx mx ex ny my ey nx mx ex := by
  intro s T h1 h2 h3 h4 h5
  refine ⟨h1, by omega, ?_⟩
  rw [h, zv_zero, Int.add_zero]
theorem level_zv {mx : Nat} {ex : Int} {my : Nat} {ey : Int} {A B : Nat} {e : Int} (hL : LevelOf mx ex my ey A B e) (hx : mx ≠ 0) (hy : my ≠ 0) (s : Nat) (T : Int) (h1 : -(s : Int) ≤ ex) (h2 : -(s : Int) ≤ ey) (h3 : (bl mx : Int) + ex ≤ T) (h4 : (bl my : Int) + ey ≤ T) :
    -(s : Int) ≤ e ∧ (∀ g, zv s g mx ex = zv s g A e) ∧ (∀ g, zv s g my ey = zv s g B e) ∧ (bl A : Int) + e ≤ T ∧ (bl B : Int) + e ≤ T := by
  rcases hL with ⟨h, -⟩ | ⟨-, h, -⟩ | ⟨-, -, he, hA, hB⟩
  · exact absurd h hx
  · exact absurd h hy
  · have b1 := bl_mul_pow mx (ex - e).toNat
    have b2 := bl_mul_pow my (ey - e).toNat
    rw [← hA] at b1
    rw [← hB] at b2
    refine ⟨by omega, fun g => ?_, fun g => ?_, by omega, by omega⟩
    · rw [hA]; exact zv_down g mx (by omega) (by omega)
    · rw [hB]; exact zv_down g my (by omega) (by omega)
theorem plus_same {g : Bool} {mx : Nat} {ex : Int} {my : Nat} {ey : Int} {A B : Nat} {e : Int} (hL : LevelOf mx ex my ey A B e) (hx : mx ≠ 0) (hy : my ≠ 0) : PlusOk g mx ex g my ey g (A + B) e := by
  intro s T h1 h2 h3 h4 h5
  obtain ⟨k1, k2, k3, k4, k5⟩ := level_zv hL hx hy s T h1 h2 h3 h4
  have := bl_add A B
  exact ⟨k1, by omega, by rw [k2, k3, zv_add]⟩
theorem plus_ge {g : Bool} {mx : Nat} {ex : Int} {my : Nat} {ey : Int} {A B : Nat} {e : Int} (hL : LevelOf mx ex my ey A B e) (hx : mx ≠ 0) (hy : my ≠ 0) (hB : B ≤ A) : PlusOk g mx ex (!g) my ey g (A - B) e := by
  intro s T h1 h2 h3 h4 h5
  obtain ⟨k1, k2, k3, k4, k5⟩ := level_zv hL hx hy s T h1 h2 h3 h4
  have := bl_mono (show A - B ≤ A by omega)
  exact ⟨k1, by omega, by rw [k2, k3, zv_sub _ _ _ hB]⟩
theorem plus_lt {g : Bool} {mx : Nat} {ex : Int} {my : Nat} {ey : Int} {A B : Nat} {e : Int} (hL : LevelOf mx ex my ey A B e) (hx : mx ≠ 0) (hy : my ≠ 0) (hB : A ≤ B) : PlusOk g mx ex (!g) my ey (!g) (B - A) e := by
  intro s T h1 h2 h3 h4 h5
  obtain ⟨k1, k2, k3, k4, k5⟩ := level_zv hL hx hy s T h1 h2 h3 h4
  have := bl_mono (show B - A ≤ B by omega)
  exact ⟨k1, by omega, by rw [k2, k3, zv_sub _ _ _ hB, Bool.not_not, Int.add_comm]⟩
theorem plus_eq {g : Bool} {mx : Nat} {ex : Int} {my : Nat} {ey : Int} {A B : Nat} {e : Int} (hL : LevelOf mx ex my ey A B e) (hx : mx ≠ 0) (hy : my ≠ 0) (hB : A = B) : PlusOk g mx ex (!g) my ey false 0 0 := by
  intro s T h1 h2 h3 h4 h5
  obtain ⟨k1, k2, k3, k4, k5⟩ := level_zv hL hx hy s T h1 h2 h3 h4
  refine ⟨by omega, by rw [bl_zero]; omega, ?_⟩
  rw [k2, k3, hB, zv_zero, zv_not]; omega
theorem level_ne {mx : Nat} {ex : Int} {my : Nat} {ey : Int} {A B : Nat} {e : Int} (hL : LevelOf mx ex my ey A B e) (hx : mx ≠ 0) (hy : my ≠ 0) : 0 < A ∧ 0 < B := by
  rcases hL with ⟨h, -⟩ | ⟨-, h, -⟩ | ⟨-, -, he, hA, hB⟩
  · exact absurd h hx
  · exact absurd h hy
  · rw [hA, hB]; exact ⟨Nat.mul_pos (by omega) (Nat.two_pow_pos _), Nat.mul_pos (by omega) (Nat.two_pow_pos _)⟩
def PlusRes (nx : Bool) (mx : Nat) (ex : Int) (ny : Bool) (my : Nat) (ey : Int) (w : World) (e' : Ending) (w' : World) : Prop :=
  ∃ v' neg m e, e' = .returned v' ∧ NumV w' v' neg m e ∧ (PlusOk nx mx ex ny my ey neg m e ∧ (m = 0 → (mx = 0 → ex = 0) → (my = 0 → ey = 0) → e = 0)) ∧ Below w.heap.size w w'
theorem alloc3_facts (w : World) (o1 o2 o3 : Obj) : (((w.alloc o1).alloc o2).alloc o3).heap[w.heap.size]? = some o1 ∧ (((w.alloc o1).alloc o2).alloc o3).heap[w.heap.size + 1]? = some o2 ∧ (((w.alloc o1).alloc o2).alloc o3).heap[w.heap.size + 1 + 1]? = some o3 ∧ (((w.alloc o1).alloc o2).alloc o3).heap.size = w.heap.size + 3 ∧ Below w.heap.size w (((w.alloc o1).alloc o2).alloc o3) := by
  have e1 := heap_alloc_new w o1
  have e2 := heap_alloc_new (w.alloc o1) o2
  have e3 := heap_alloc_new ((w.alloc o1).alloc o2) o3
  rw [show (w.alloc o1).heap.size = w.heap.size + 1 by simp] at e2
  rw [show ((w.alloc o1).alloc o2).heap.size = w.heap.size + 1 + 1 by simp] at e3
  refine ⟨?_, ?_, e3, by simp, (((Below.refl _ _).alloc (Nat.le_refl _) _).alloc (by simp) _).alloc (by simp; omega) _⟩
  · rw [Below.heap_alloc _ _ _ (by simp; omega), Below.heap_alloc _ _ _ (by simp), e1]
  · rw [Below.heap_alloc _ _ _ (by simp), e2]
theorem level_bounds {mx : Nat} {ex : Int} {my : Nat} {ey : Int} {A B : Nat} {e : Int} (hL : LevelOf mx ex my ey A B e) (hex : -20000 ≤ ex ∧ ex ≤ 20000) (hey : -20000 ≤ ey ∧ ey ≤ 20000) (hbx : bl mx ≤ 40000) (hby : bl my ≤ 40000) :
    bl A ≤ 80000 ∧ bl B ≤ 80000 ∧ (mx = 0 → A = 0) ∧ (mx ≠ 0 → A ≠ 0) ∧ (mx ≠ 0 → my = 0 → B = 0) ∧ (mx ≠ 0 → my ≠ 0 → B ≠ 0) := by
  rcases hL with ⟨h, hA, hB, he⟩ | ⟨h, h2, hA, hB, he⟩ | ⟨h1, h2, he, hA, hB⟩
  · subst hA hB
    exact ⟨by rw [bl_zero]; omega, by omega, fun _ => rfl, fun c => absurd h c, fun c => absurd h c, fun c => absurd h c⟩
  · subst hA hB
    exact ⟨by omega, by rw [bl_zero]; omega, fun c => c, fun c => c, fun _ _ => rfl, fun _ c => absurd h2 c⟩
  · have b1 := bl_mul_pow mx (ex - e).toNat
    have b2 := bl_mul_pow my (ey - e).toNat
    rw [← hA] at b1
    rw [← hB] at b2
    refine ⟨by omega, by omega, fun c => absurd c h1, fun _ => ?_, fun _ c => absurd c h2, fun _ _ => ?_⟩
    · rw [hA]; exact Nat.mul_ne_zero h1 (by have := Nat.two_pow_pos (ex - e).toNat; omega)
    · rw [hB]; exact Nat.mul_ne_zero h2 (by have := Nat.two_pow_pos (ey - e).toNat; omega)
/-- What the last steps of a sum find in memory. -/
theorem out_facts {w w2 w4 : World} {nx : Bool} {e : Int} (M : Value) (hsz : w.heap.size + 3 ≤ w2.heap.size) (q2 : w2.heap[w.heap.size + 1 + 1]? = some (Obj.cells #[Value.bool false, Value.slice none 0 0, Value.int IntKind.i64 0] 115)) (hb4 : Below (w2.alloc (Obj.cells #[Value.bool nx, Value.slice none 0 0, Value.int IntKind.i64 e] 115)).heap.size (w2.alloc (Obj.cells #[Value.bool nx, Value.slice none 0 0, Value.int IntKind.i64 e] 115)) w4) :
    w4.heap[w2.heap.size]? = some (Obj.cells #[Value.bool nx, Value.slice none 0 0, Value.int IntKind.i64 e] 115) ∧ w4.heap[w.heap.size + 1 + 1]? = some (Obj.cells #[Value.bool false, Value.slice none 0 0, Value.int IntKind.i64 0] 115) ∧
    (w4.setCell ⟨w2.heap.size, 1, none⟩ M).heap[w2.heap.size]? = some (Obj.cells #[Value.bool nx, M, Value.int IntKind.i64 e] 115) ∧ (w4.setCell ⟨w2.heap.size, 1, none⟩ M).heap[w.heap.size + 1 + 1]? = some (Obj.cells #[Value.bool false, Value.slice none 0 0, Value.int IntKind.i64 0] 115) := by
  have h1 : w4.heap[w2.heap.size]? = some (Obj.cells #[Value.bool nx, Value.slice none 0 0, Value.int IntKind.i64 e] 115) := (hb4.block w2.heap.size (by simp)).trans (heap_alloc_new w2 _)
  have h2 : w4.heap[w.heap.size + 1 + 1]? = some (Obj.cells #[Value.bool false, Value.slice none 0 0, Value.int IntKind.i64 0] 115) := by
    rw [hb4.block (w.heap.size + 1 + 1) (by simp; omega), Below.heap_alloc _ _ _ (by omega)]; exact q2
  refine ⟨h1, h2, heap_setCell_same _ _ 1 _ _ M h1, ?_⟩
  rw [heap_setCell_other _ _ _ _ (by show w.heap.size + 1 + 1 ≠ w2.heap.size; omega)]; exact h2
set_option maxRecDepth 100000 in
set_option maxHeartbeats 1000000 in
theorem plusV_any (v u : Value) (nx ny : Bool) (mx my : Nat) (ex ey : Int) (w : World) (hx : NumV w v nx mx ex) (hy : NumV w u ny my ey) (hex : -20000 ≤ ex ∧ ex ≤ 20000) (hey : -20000 ≤ ey ∧ ey ≤ 20000) (hbx : bl mx ≤ 40000) (hby : bl my ≤ 40000) :
    Calls Try.prog 68 #[v, u] w fun e' w' => PlusRes nx mx ex ny my ey w e' w' := by
  obtain ⟨ao, len, cap, xs, rfl, hr, hnm, hm⟩ := hx
  obtain ⟨bo, blen, bcap, ys, rfl, hr2, hnm2, hm2⟩ := hy
  obtain ⟨p0, p1, p2, pz, pb⟩ := alloc3_facts w (Obj.cells #[Value.bool nx, Value.slice ao len cap, Value.int IntKind.i64 ex] 115) (Obj.cells #[Value.bool ny, Value.slice bo blen bcap, Value.int IntKind.i64 ey] 115) (Obj.cells #[Value.bool false, Value.slice none 0 0, Value.int IntKind.i64 0] 115)
  have P0 : Hid _ := p0
  have P1 : Hid _ := p1
  have P2 : Hid _ := p2
  have PZ : Hid _ := pz
  have PB : Hid _ := pb
  have HR : Hid _ := hr
  have HR2 : Hid _ := hr2
  clear p0 p1 p2 pz pb hr hr2
  go_enter Try.func68, Try.ntmps68
  go_wp2_with fail
  refine (level_any _ _ nx ny mx my ex ey _ ⟨ao, len, cap, xs, rfl, HR.out.later PB.out, hnm, hm⟩ ⟨bo, blen, bcap, ys, rfl, HR2.out.later PB.out, hnm2, hm2⟩ hex hey (by omega) (by omega)).mono ?_
  rintro e2 w2 ⟨a1, l1, c1, xs1, a2, l2, c2, ys1, A, B, e, rfl, r1, r2, n1, n2, d1, d2, hL, hb2⟩
  have q0 := (hb2.block w.heap.size (by rw [PZ.out]; omega)).trans P0.out
  have q1 := (hb2.block (w.heap.size + 1) (by rw [PZ.out]; omega)).trans P1.out
  have q2 := (hb2.block (w.heap.size + 1 + 1) (by rw [PZ.out]; omega)).trans P2.out
  have hsz : w.heap.size + 3 ≤ w2.heap.size := by have := hb2.size; rw [PZ.out] at this; exact this
  have HB2 : Hid (Below w.heap.size w w2) := PB.out.trans (hb2.mono (by rw [PZ.out]; omega))
  have R1 : Hid _ := r1
  have R2 : Hid _ := r2
  have HL : Hid (LevelOf mx ex my ey A B e) := hL
  obtain ⟨bA, bB, zA, nA, zB, nB⟩ := level_bounds hL hex hey hbx hby
  have hl1 : l1 ≤ 10000 := by have := len_bl r1.length r1.lt n1; rw [d1] at this; omega
  have hl2 : l2 ≤ 10000 := by have := len_bl r2.length r2.lt n2; rw [d2] at this; omega
  have lz1 := len_zero r1.length r1.lt n1
  have lz2 := len_zero r2.length r2.lt n2
  rw [d1] at lz1
  rw [d2] at lz2
  clear r1 r2 hL hb2
  have x0 := (three_cells q0).1
  have HB3 : Hid (Below w.heap.size w (w2.alloc (Obj.cells #[Value.bool nx, Value.slice none 0 0, Value.int IntKind.i64 e] 115))) := HB2.out.alloc HB2.out.size _
  have o0 : (w2.alloc (Obj.cells #[Value.bool nx, Value.slice none 0 0, Value.int IntKind.i64 e] 115)).heap[w.heap.size]? = some (Obj.cells #[Value.bool nx, Value.slice ao len cap, Value.int IntKind.i64 ex] 115) := by rw [Below.heap_alloc _ _ _ (by omega)]; exact q0
  have o1 : (w2.alloc (Obj.cells #[Value.bool nx, Value.slice none 0 0, Value.int IntKind.i64 e] 115)).heap[w.heap.size + 1]? = some (Obj.cells #[Value.bool ny, Value.slice bo blen bcap, Value.int IntKind.i64 ey] 115) := by rw [Below.heap_alloc _ _ _ (by omega)]; exact q1
  have o2 : (w2.alloc (Obj.cells #[Value.bool nx, Value.slice none 0 0, Value.int IntKind.i64 e] 115)).heap[w.heap.size + 1 + 1]? = some (Obj.cells #[Value.bool false, Value.slice none 0 0, Value.int IntKind.i64 0] 115) := by rw [Below.heap_alloc _ _ _ (by omega)]; exact q2
  obtain ⟨u0, u1, u2⟩ := three_cells o0
  obtain ⟨y0, y1, y2⟩ := three_cells o1
  obtain ⟨z0, z1, z2⟩ := three_cells o2
  have fz := fun j => frozen_of_row _ _ j _ _ o2
  have O2 : Hid _ := o2
  have hw2 : (w2.alloc (Obj.cells #[Value.bool nx, Value.slice none 0 0, Value.int IntKind.i64 e] 115)).heap.size = w2.heap.size + 1 := by simp
  have Q0 : Hid _ := q0
  have Q1 : Hid _ := q1
  have Q2 : Hid _ := q2
  clear q0 q1 q2 o0 o1 o2 P0 P1 P2 PZ PB
  by_cases h0 : mx = 0
  · have t1 : ((l1 : Int) == 0) = true := by rw [beq_iff_eq]; have := lz1.2 (zA h0); omega
    go_wp2_with fail
    refine bodyPost_ret (v := .agg #[.bool ny, .slice bo blen bcap, .int .i64 ey]) (res_num _ 4 (by kernel_rfl) _ _ (w.heap.size + 1 + 1) _ _ _ (by rfl) (set3_heap _ _ _ O2.out)) rfl ⟨_, ny, my, ey, rfl, ?_, ⟨plus_left h0, fun c _ hy => hy c⟩, ?_⟩
    · exact ⟨bo, blen, bcap, ys, rfl, rd4_set3 _ _ _ ⟨_, _, _, _, _, O2.out⟩ (HR2.out.later HB3.out), hnm2, hm2⟩
    · exact ((HB3.out.setCell (by show w.heap.size ≤ w.heap.size + 1 + 1; omega) _).setCell (by show w.heap.size ≤ w.heap.size + 1 + 1; omega) _).setCell (by show w.heap.size ≤ w.heap.size + 1 + 1; omega) _
  by_cases h1 : my = 0
  · have t1 : ((l1 : Int) == 0) = false := by rw [beq_eq_false_iff_ne]; have := nA h0; omega
    have t2 : ((l2 : Int) == 0) = true := by rw [beq_iff_eq]; have := lz2.2 (zB h0 h1); omega
    go_wp2_with fail
    refine bodyPost_ret (v := .agg #[.bool nx, .slice ao len cap, .int .i64 ex]) (res_num _ 4 (by kernel_rfl) _ _ (w.heap.size + 1 + 1) _ _ _ (by rfl) (set3_heap _ _ _ O2.out)) rfl ⟨_, nx, mx, ex, rfl, ?_, ⟨plus_right h1, fun c hx _ => hx c⟩, ?_⟩
    · exact ⟨ao, len, cap, xs, rfl, rd4_set3 _ _ _ ⟨_, _, _, _, _, O2.out⟩ (HR.out.later HB3.out), hnm, hm⟩
    · exact ((HB3.out.setCell (by show w.heap.size ≤ w.heap.size + 1 + 1; omega) _).setCell (by show w.heap.size ≤ w.heap.size + 1 + 1; omega) _).setCell (by show w.heap.size ≤ w.heap.size + 1 + 1; omega) _
  have t1 : ((l1 : Int) == 0) = false := by rw [beq_eq_false_iff_ne]; have := nA h0; omega
  have t2 : ((l2 : Int) == 0) = false := by rw [beq_eq_false_iff_ne]; have := nB h0 h1; omega
  have R1' : Hid _ := R1.out.later ((Below.refl _ _).alloc (Nat.le_refl _) (Obj.cells #[Value.bool nx, Value.slice none 0 0, Value.int IntKind.i64 e] 115))
  have R2' : Hid _ := R2.out.later ((Below.refl _ _).alloc (Nat.le_refl _) (Obj.cells #[Value.bool nx, Value.slice none 0 0, Value.int IntKind.i64 e] 115))
  by_cases hs : nx = ny
  · subst hs
    have t3 : (nx == nx) = true := by simp
    go_wp2_with fail
    refine (plus_any a1 l1 c1 xs1 a2 l2 c2 ys1 _ R1'.out R2'.out hl1 hl2).mono ?_
    rintro e4 w4 ⟨ao', k, cap', zs, rfl, r4, n4, d4, hb4, k4⟩
    have hk : ((k : Int) == 0) = false := by
      rw [beq_eq_false_iff_ne]; have := len_zero r4.length r4.lt n4; rw [d4, d1] at this; have := nA h0; omega
    obtain ⟨g1, g2, g3, g4⟩ := out_facts (Value.slice ao' k cap') hsz Q2.out hb4
    obtain ⟨c10, c11, c12⟩ := three_cells g1
    obtain ⟨c40, c41, c42⟩ := three_cells g4
    have f1 := fun j => frozen_of_row _ _ j _ _ g1
    obtain ⟨c30, c31, c32⟩ := three_cells g3
    have f4 := fun j => frozen_of_row _ _ j _ _ g4
    have HB5 : Hid (Below w.heap.size w (w4.setCell ⟨w2.heap.size, 1, none⟩ (Value.slice ao' k cap'))) := (HB3.out.trans (hb4.mono (by rw [hw2]; have := HB2.out.size; omega))).setCell (by show w.heap.size ≤ w2.heap.size; omega) _
    have R5 : Hid (Rd4 (w4.setCell ⟨w2.heap.size, 1, none⟩ (Value.slice ao' k cap')) ao' k cap' zs) := rd4_other (w := w4) (B := w2.heap.size) ⟨_, _, _, _, _, g1⟩ (fun b hb => heap_setCell_other _ _ _ _ hb) r4
    have G4 : Hid _ := g4
    clear g1 g2 g3 g4 r4 hb4
    go_wp2_with fail
    refine bodyPost_ret (v := .agg #[.bool nx, .slice ao' k cap', .int .i64 e]) (res_num _ 4 (by kernel_rfl) _ _ (w.heap.size + 1 + 1) _ _ _ (by rfl) (set3_heap _ _ _ G4.out)) rfl ⟨_, nx, A + B, e, rfl, ?_, ⟨plus_same HL.out h0 h1, fun c _ _ => absurd c (by have := level_ne HL.out h0 h1; omega)⟩, ?_⟩
    · exact ⟨ao', k, cap', zs, rfl, rd4_set3 _ _ _ ⟨_, _, _, _, _, G4.out⟩ R5.out, n4, by rw [d4, d1, d2]⟩
    · exact ((HB5.out.setCell (by show w.heap.size ≤ w.heap.size + 1 + 1; omega) _).setCell (by show w.heap.size ≤ w.heap.size + 1 + 1; omega) _).setCell (by show w.heap.size ≤ w.heap.size + 1 + 1; omega) _
  have hny : ny = !nx := by cases nx <;> cases ny <;> simp at hs ⊢
  subst hny
  have t3 : (nx == !nx) = false := by cases nx <;> rfl
  by_cases hAB : B ≤ A
  · have hc4 : 0 ≤ cmpN A B := by unfold cmpN; rw [if_neg (by omega)]; split <;> omega
    have hll : l2 ≤ l1 := by
      rcases Nat.lt_or_ge l1 l2 with h | h
      · have := shorter_lt R1.out.lt R2.out.lt n2 (by rw [R1.out.length, R2.out.length]; exact h); omega
      · exact h
    go_wp2_with fail
    refine (cmp_any a1 l1 c1 xs1 a2 l2 c2 ys1 _ R1'.out R2'.out n1 n2).mono ?_
    rintro e3 w3 ⟨rfl, hb3⟩
    rw [d1, d2]
    have R1'' : Hid _ := R1'.out.later hb3
    have R2'' : Hid _ := R2'.out.later hb3
    have hb3z := hb3.size
    have HBW : Hid _ := hb3
    clear hb3
    go_wp2_with fail
    refine (minus_any a1 l1 c1 xs1 a2 l2 c2 ys1 _ R1''.out R2''.out hl1 hll (by rw [d1, d2]; exact hAB)).mono ?_
    rintro e4 w4 ⟨ao', k, cap', zs, rfl, r4, n4, d4, hb4', k4⟩
    have hb4 : Below (w2.alloc (Obj.cells #[Value.bool nx, Value.slice none 0 0, Value.int IntKind.i64 e] 115)).heap.size (w2.alloc (Obj.cells #[Value.bool nx, Value.slice none 0 0, Value.int IntKind.i64 e] 115)) w4 := HBW.out.trans (hb4'.mono hb3z)
    clear hb4'
    have lz4 := len_zero r4.length r4.lt n4
    rw [d4, d1, d2] at lz4
    obtain ⟨g1, g2, g3, g4⟩ := out_facts (Value.slice ao' k cap') hsz Q2.out hb4
    obtain ⟨c10, c11, c12⟩ := three_cells g1
    obtain ⟨c40, c41, c42⟩ := three_cells g4
    have f1 := fun j => frozen_of_row _ _ j _ _ g1
    obtain ⟨c30, c31, c32⟩ := three_cells g3
    have f4 := fun j => frozen_of_row _ _ j _ _ g4
    have HB5 : Hid (Below w.heap.size w (w4.setCell ⟨w2.heap.size, 1, none⟩ (Value.slice ao' k cap'))) := (HB3.out.trans (hb4.mono (by rw [hw2]; have := HB2.out.size; omega))).setCell (by show w.heap.size ≤ w2.heap.size; omega) _
    have R5 : Hid (Rd4 (w4.setCell ⟨w2.heap.size, 1, none⟩ (Value.slice ao' k cap')) ao' k cap' zs) := rd4_other (w := w4) (B := w2.heap.size) ⟨_, _, _, _, _, g1⟩ (fun b hb => heap_setCell_other _ _ _ _ hb) r4
    have G4 : Hid _ := g4
    clear g1 g2 g3 g4 r4 hb4
    by_cases heq : A = B
    · have hk : ((k : Int) == 0) = true := by rw [beq_iff_eq]; omega
      go_wp2_with fail
      refine bodyPost_ret (v := .agg #[.bool false, .slice none 0 0, .int .i64 0]) (res_num _ 4 (by kernel_rfl) _ _ (w.heap.size + 1 + 1) _ _ _ (by rfl) (set3_heap _ _ _ G4.out)) rfl ⟨_, false, 0, 0, rfl, ?_, ⟨plus_eq HL.out h0 h1 heq, fun _ _ _ => rfl⟩, ?_⟩
      · exact ⟨none, 0, 0, [], rfl, rd4_none' _, .inl rfl, rfl⟩
      · exact ((HB5.out.setCell (by show w.heap.size ≤ w.heap.size + 1 + 1; omega) _).setCell (by show w.heap.size ≤ w.heap.size + 1 + 1; omega) _).setCell (by show w.heap.size ≤ w.heap.size + 1 + 1; omega) _
    · have hk : ((k : Int) == 0) = false := by rw [beq_eq_false_iff_ne]; omega
      go_wp2_with fail
      refine bodyPost_ret (v := .agg #[.bool nx, .slice ao' k cap', .int .i64 e]) (res_num _ 4 (by kernel_rfl) _ _ (w.heap.size + 1 + 1) _ _ _ (by rfl) (set3_heap _ _ _ G4.out)) rfl ⟨_, nx, A - B, e, rfl, ?_, ⟨plus_ge HL.out h0 h1 hAB, fun c _ _ => absurd c (by omega)⟩, ?_⟩
      · exact ⟨ao', k, cap', zs, rfl, rd4_set3 _ _ _ ⟨_, _, _, _, _, G4.out⟩ R5.out, n4, by rw [d4, d1, d2]⟩
      · exact ((HB5.out.setCell (by show w.heap.size ≤ w.heap.size + 1 + 1; omega) _).setCell (by show w.heap.size ≤ w.heap.size + 1 + 1; omega) _).setCell (by show w.heap.size ≤ w.heap.size + 1 + 1; omega) _
  · have hc4 : cmpN A B = -1 := by unfold cmpN; rw [if_pos (by omega)]
    have hll : l1 ≤ l2 := by
      rcases Nat.lt_or_ge l2 l1 with h | h
      · have := shorter_lt R2.out.lt R1.out.lt n1 (by rw [R1.out.length, R2.out.length]; exact h); omega
      · exact h
    go_wp2_with fail
    refine (cmp_any a1 l1 c1 xs1 a2 l2 c2 ys1 _ R1'.out R2'.out n1 n2).mono ?_
    rintro e3 w3 ⟨rfl, hb3⟩
    rw [d1, d2, hc4]
    have R1'' : Hid _ := R1'.out.later hb3
    have R2'' : Hid _ := R2'.out.later hb3
    have hb3z := hb3.size
    have HBW : Hid _ := hb3
    have s1 := (hb3.block w2.heap.size (by simp)).trans (heap_alloc_new w2 _)
    have s2 := (hb3.block (w.heap.size + 1) (by simp; omega)).trans ((Below.heap_alloc w2 _ _ (by omega)).trans Q1.out)
    obtain ⟨s10, s11, s12⟩ := three_cells s1
    obtain ⟨s20, s21, s22⟩ := three_cells s2
    have fs := fun j => frozen_of_row _ _ j _ _ s1
    have S3 : Hid ((w3.setCell ⟨w2.heap.size, 0, none⟩ (Value.bool (!nx))).heap[w2.heap.size]? = some (Obj.cells #[Value.bool (!nx), Value.slice none 0 0, Value.int IntKind.i64 e] 115)) := heap_setCell_same _ _ 0 _ _ _ s1
    have S1 : Hid _ := s1
    clear hb3 s1 s2
    have SB : Hid (Below w.heap.size w (w3.setCell ⟨w2.heap.size, 0, none⟩ (Value.bool (!nx)))) := (HB3.out.trans (HBW.out.mono (by rw [hw2]; have := HB2.out.size; omega))).setCell (by show w.heap.size ≤ w2.heap.size; omega) _
    have S4 : Hid ((w3.setCell ⟨w2.heap.size, 0, none⟩ (Value.bool (!nx))).heap[w.heap.size + 1 + 1]? = some (Obj.cells #[Value.bool false, Value.slice none 0 0, Value.int IntKind.i64 0] 115)) := by
      unfold Hid
      rw [heap_setCell_other _ _ _ _ (by show w.heap.size + 1 + 1 ≠ w2.heap.size; omega), HBW.out.block (w.heap.size + 1 + 1) (by simp; omega), Below.heap_alloc _ _ _ (by omega)]; exact Q2.out
    have T1 : Hid _ := rd4_other (w := w3) (w' := w3.setCell ⟨w2.heap.size, 0, none⟩ (Value.bool (!nx))) (B := w2.heap.size) ⟨_, _, _, _, _, S1.out⟩ (fun b hb => heap_setCell_other _ _ _ _ hb) R1''.out
    have T2 : Hid _ := rd4_other (w := w3) (w' := w3.setCell ⟨w2.heap.size, 0, none⟩ (Value.bool (!nx))) (B := w2.heap.size) ⟨_, _, _, _, _, S1.out⟩ (fun b hb => heap_setCell_other _ _ _ _ hb) R2''.out
    have hsz3 : (w3.setCell ⟨w2.heap.size, 0, none⟩ (Value.bool (!nx))).heap.size = w3.heap.size := by simp
    rw [hw2] at hb3z
    go_wp2_with fail
    refine (minus_any a2 l2 c2 ys1 a1 l1 c1 xs1 _ T2.out T1.out hl2 hll (by rw [d1, d2]; omega)).mono ?_
    rintro e4 w4 ⟨ao', k, cap', zs, rfl, r4, n4, d4, hb4, k4⟩
    have lz4 := len_zero r4.length r4.lt n4
    rw [d4, d1, d2] at lz4
    have hk : ((k : Int) == 0) = false := by rw [beq_eq_false_iff_ne]; omega
    have g1 := (hb4.block w2.heap.size (by rw [hsz3]; omega)).trans S3.out
    have g2 := (hb4.block (w.heap.size + 1 + 1) (by rw [hsz3]; omega)).trans S4.out
    have g3 := heap_setCell_same _ _ 1 _ _ (Value.slice ao' k cap') g1
    have g4 : (w4.setCell ⟨w2.heap.size, 1, none⟩ (Value.slice ao' k cap')).heap[w.heap.size + 1 + 1]? = _ := (heap_setCell_other w4 ⟨w2.heap.size, 1, none⟩ (w.heap.size + 1 + 1) (Value.slice ao' k cap') (by show w.heap.size + 1 + 1 ≠ w2.heap.size; omega)).trans g2
    obtain ⟨c10, c11, c12⟩ := three_cells g1
    obtain ⟨c40, c41, c42⟩ := three_cells g4
    have f1 := fun j => frozen_of_row _ _ j _ _ g1
    have g3' : (w4.setCell ⟨w2.heap.size, 1, none⟩ (Value.slice ao' k cap')).heap[w2.heap.size]? = some (Obj.cells #[Value.bool (!nx), Value.slice ao' k cap', Value.int IntKind.i64 e] 115) := g3
    obtain ⟨c30, c31, c32⟩ := three_cells g3'
    have f4 := fun j => frozen_of_row _ _ j _ _ g4
    have HB5 : Hid (Below w.heap.size w (w4.setCell ⟨w2.heap.size, 1, none⟩ (Value.slice ao' k cap'))) := (SB.out.trans (hb4.mono (by rw [hsz3]; omega))).setCell (by show w.heap.size ≤ w2.heap.size; omega) _
    have R5 : Hid (Rd4 (w4.setCell ⟨w2.heap.size, 1, none⟩ (Value.slice ao' k cap')) ao' k cap' zs) := rd4_other (w := w4) (B := w2.heap.size) ⟨_, _, _, _, _, g1⟩ (fun b hb => heap_setCell_other _ _ _ _ hb) r4
    have G4 : Hid _ := g4
    clear g1 g2 g3 g3' g4 r4 hb4
    go_wp2_with fail
    refine bodyPost_ret (v := .agg #[.bool (!nx), .slice ao' k cap', .int .i64 e]) (res_num _ 4 (by kernel_rfl) _ _ (w.heap.size + 1 + 1) _ _ _ (by rfl) (set3_heap _ _ _ G4.out)) rfl ⟨_, !nx, B - A, e, rfl, ?_, ⟨plus_lt HL.out h0 h1 (by omega), fun c _ _ => absurd c (by omega)⟩, ?_⟩
    · exact ⟨ao', k, cap', zs, rfl, rd4_set3 _ _ _ ⟨_, _, _, _, _, G4.out⟩ R5.out, n4, by rw [d4, d1, d2]⟩
    · exact ((HB5.out.setCell (by show w.heap.size ≤ w.heap.size + 1 + 1; omega) _).setCell (by show w.heap.size ≤ w.heap.size + 1 + 1; omega) _).setCell (by show w.heap.size ≤ w.heap.size + 1 + 1; omega) _
theorem plusZ_any (v u : Value) (s : Nat) (T x y : Int) (w : World) (hx : NumZ w v s T x) (hy : NumZ w u s T y) (hs : s ≤ 20000) (hT : 0 ≤ T ∧ T ≤ 20000) :
    Calls Try.prog 68 #[v, u] w fun e' w' => ∃ v', e' = .returned v' ∧ NumZ w' v' s (T + 1) (x + y) ∧ Below w.heap.size w w' := by
  obtain ⟨nx, mx, ex, h1, h2, h3, h4⟩ := hx
  obtain ⟨ny, my, ey, k1, k2, k3, k4⟩ := hy
  refine (plusV_any v u nx ny mx my ex ey w h1 k1 (by omega) (by omega) (by omega) (by omega)).mono ?_
  rintro e' w' ⟨v', neg, m, e, rfl, hN, hP, hB⟩
  obtain ⟨p1, p2, p3⟩ := hP.1 s T h2 k2 h3 k3 hT.1
  exact ⟨v', rfl, ⟨neg, m, e, hN, p1, p2, by rw [p3, h4, k4]⟩, hB⟩
theorem NumZ.set3 {w : World} {B : Nat} (x y z : Value) (hB : NumB w B) {v : Value} {s : Nat} {T r : Int} (h : NumZ w v s T r) : NumZ (((w.setCell ⟨B, 0, none⟩ x).setCell ⟨B, 1, none⟩ y).setCell ⟨B, 2, none⟩ z) v s T r := by
  obtain ⟨neg, m, e, ⟨ao, len, cap, xs, h1, h2, h3⟩, h4⟩ := h
  exact ⟨neg, m, e, ⟨ao, len, cap, xs, h1, rd4_set3 x y z hB h2, h3⟩, h4⟩
theorem below_set3 {w0 w : World} {base B : Nat} (x y z : Value) (h : Below base w0 w) (hB : base ≤ B) : Below base w0 (((w.setCell ⟨B, 0, none⟩ x).setCell ⟨B, 1, none⟩ y).setCell ⟨B, 2, none⟩ z) :=
  ((h.setCell (p := ⟨B, 0, none⟩) hB x).setCell (p := ⟨B, 1, none⟩) hB y).setCell (p := ⟨B, 2, none⟩) hB z
theorem turnedZ_any (v : Value) (s : Nat) (T x : Int) (w : World) (hx : NumZ w v s T x) :
    Calls Try.prog 69 #[v] w fun e' w' => ∃ v', e' = .returned v' ∧ NumZ w' v' s T (-x) ∧ Below w.heap.size w w' := by
  obtain ⟨nx, mx, ex, h1, h2, h3, h4⟩ := hx
  refine (turned_any v nx mx ex w h1).mono ?_
  rintro e' w' ⟨v', rfl, hN, hB⟩
  refine ⟨v', rfl, ⟨_, mx, ex, hN, h2, h3, ?_⟩, hB⟩
  by_cases h0 : mx = 0
  · rw [← h4, h0, zv_zero, zv_zero]; rfl
  · rw [if_neg h0, zv_not, h4]
theorem signZ_any (v : Value) (s : Nat) (T x : Int) (w : World) (hx : NumZ w v s T x) :
    Calls Try.prog 61 #[v] w fun e' w' => e' = .returned (.int .i64 (sgi x)) ∧ Below w.heap.size w w' := by
  obtain ⟨nx, mx, ex, h1, h2, h3, h4⟩ := hx
  refine (sign_any v nx mx ex w h1).mono ?_
  rintro e' w' ⟨rfl, hB⟩
  exact ⟨by rw [← h4, sgi_zv], hB⟩
set_option maxRecDepth 100000 in
theorem minusZ_any (v u : Value) (s : Nat) (T x y : Int) (w : World) (hx : NumZ w v s T x) (hy : NumZ w u s T y) (hs : s ≤ 20000) (hT : 0 ≤ T ∧ T ≤ 20000) :
    Calls Try.prog 67 #[v, u] w fun e' w' => ∃ v', e' = .returned v' ∧ NumZ w' v' s (T + 1) (x - y) ∧ Below w.heap.size w w' := by
  have HX : Hid (NumZ w v s T x) := hx
  have HY : Hid (NumZ w u s T y) := hy
  obtain ⟨nx, mx, ex, ⟨ao, len, cap, xs, rfl, -⟩, -⟩ := hx
  obtain ⟨ny, my, ey, ⟨bo, blen, bcap, ys, rfl, -⟩, -⟩ := hy
  obtain ⟨p0, p1, p2, pz, pb⟩ := alloc3_facts w (Obj.cells #[Value.bool nx, Value.slice ao len cap, Value.int IntKind.i64 ex] 115) (Obj.cells #[Value.bool ny, Value.slice bo blen bcap, Value.int IntKind.i64 ey] 115) (Obj.cells #[Value.bool false, Value.slice none 0 0, Value.int IntKind.i64 0] 115)
  have PZ : Hid _ := pz
  have PB : Hid _ := pb
  go_enter Try.func67, Try.ntmps67
  go_wp2_with fail
  generalize (((w.alloc (Obj.cells #[Value.bool nx, Value.slice ao len cap, Value.int IntKind.i64 ex] 115)).alloc (Obj.cells #[Value.bool ny, Value.slice bo blen bcap, Value.int IntKind.i64 ey] 115)).alloc (Obj.cells #[Value.bool false, Value.slice none 0 0, Value.int IntKind.i64 0] 115)) = wa at *
  have HY2 : Hid (NumZ wa.drew _ s T y) := NumZ.later HY.out PB.out.drew
  have P2 : Hid _ := p2
  obtain ⟨x0, x1, x2⟩ := three_cells p0
  obtain ⟨y0, y1, y2⟩ := three_cells p1
  have P0 : Hid _ := p0
  have P1 : Hid _ := p1
  clear p0 p1 p2 pz pb
  have hne1 : ¬ (w.heap.size + 1 + 1 = w.heap.size) := by omega
  have hne2 : ¬ (w.heap.size = w.heap.size + 1 + 1) := by omega
  go_region_held3 (fun w' => w'.cell? ⟨w.heap.size, 0, none⟩ = some (.bool nx) ∧ w'.cell? ⟨w.heap.size, 1, none⟩ = some (.slice ao len cap) ∧ w'.cell? ⟨w.heap.size, 2, none⟩ = some (.int .i64 ex) ∧ w'.cell? ⟨w.heap.size + 1, 0, none⟩ = some (.bool ny) ∧ w'.cell? ⟨w.heap.size + 1, 1, none⟩ = some (.slice bo blen bcap) ∧ w'.cell? ⟨w.heap.size + 1, 2, none⟩ = some (.int .i64 ey)) (go_keep)
    (first
      | (go_at_call 69; refine (turnedZ_any _ s T y _ HY2.out).mono ?_; rintro ee ww ⟨v1, rfl, hz1, hb1⟩; have b0 := (hb1.block w.heap.size (by show w.heap.size < wa.heap.size; rw [PZ.out]; omega)).trans P0.out; have b1 := (hb1.block (w.heap.size + 1) (by show w.heap.size + 1 < wa.heap.size; rw [PZ.out]; omega)).trans P1.out; have b2 := (hb1.block (w.heap.size + 1 + 1) (by show w.heap.size + 1 + 1 < wa.heap.size; rw [PZ.out]; omega)).trans P2.out; obtain ⟨a0, a1, a2⟩ := three_cells b0; obtain ⟨a3, a4, a5⟩ := three_cells b1; have HBB : Hid (Below w.heap.size w ww) := PB.out.drew.trans (hb1.mono (by show w.heap.size ≤ wa.heap.size; rw [PZ.out]; omega)); have HSZ : Hid (w.heap.size + 3 ≤ ww.heap.size) := Nat.le_trans (Nat.le_of_eq PZ.out.symm) hb1.size; have HZ1 : Hid (NumZ ww v1 s T (-y)) := hz1; have B0 : Hid _ := b0; have B1 : Hid _ := b1; have B2 : Hid _ := b2; clear hz1 hb1 b0 b1 b2)
      | (go_at_call 68; refine (plusZ_any _ _ s T x (-y) _ (NumZ.later HX.out HBB.out) HZ1.out hs hT).mono ?_; rintro ee ww2 ⟨v2, rfl, hz2, hb2⟩; have d0 := (hb2.block w.heap.size (by have := HSZ.out; omega)).trans B0.out; have d1 := (hb2.block (w.heap.size + 1) (by have := HSZ.out; omega)).trans B1.out; obtain ⟨i0, i1, i2⟩ := three_cells d0; obtain ⟨i3, i4, i5⟩ := three_cells d1; have d2 := (hb2.block (w.heap.size + 1 + 1) (by have := HSZ.out; omega)).trans B2.out; have HB3 : Hid (Below w.heap.size w ww2) := HBB.out.trans (hb2.mono HBB.out.size); obtain ⟨c0, c1, c2⟩ := three_cells d2; have fc := (fun j => frozen_of_row _ _ j _ _ d2); have D2 : Hid _ := d2; have HZ2 : Hid (NumZ ww2 v2 s (T + 1) (x + -y)) := hz2; obtain ⟨n3, m3, e3, ⟨a3, l3, c3, xs3, rfl, -⟩, -⟩ := hz2; clear hb2 d0 d1 d2))
  all_goals go_wp2_with fail
  all_goals
    refine bodyPost_ret (v := .agg #[.bool n3, .slice a3 l3 c3, .int .i64 e3]) (res_num _ 4 (by kernel_rfl) _ _ (w.heap.size + 1 + 1) _ _ _ (by rfl) (set3_heap _ _ _ D2.out)) rfl ⟨_, rfl, ?_, ?_⟩
    · rw [show x - y = x + -y by omega]; exact NumZ.set3 _ _ _ ⟨_, _, _, _, _, D2.out⟩ HZ2.out
    · exact below_set3 _ _ _ HB3.out (by omega)
theorem alloc2_facts (w : World) (o1 o2 : Obj) : ((w.alloc o1).alloc o2).heap[w.heap.size]? = some o1 ∧ ((w.alloc o1).alloc o2).heap[w.heap.size + 1]? = some o2 ∧ ((w.alloc o1).alloc o2).heap.size = w.heap.size + 2 ∧ Below w.heap.size w ((w.alloc o1).alloc o2) := by
  have e1 := heap_alloc_new w o1
  have e2 := heap_alloc_new (w.alloc o1) o2
  rw [show (w.alloc o1).heap.size = w.heap.size + 1 by simp] at e2
  exact ⟨by rw [Below.heap_alloc _ _ _ (by simp), e1], e2, by simp, ((Below.refl _ _).alloc (Nat.le_refl _) _).alloc (by simp) _⟩
set_option maxRecDepth 100000 in
theorem cmpZ_any (v u : Value) (s : Nat) (T x y : Int) (w : World) (hx : NumZ w v s T x) (hy : NumZ w u s T y) (hs : s ≤ 20000) (hT : 0 ≤ T ∧ T ≤ 20000) :
    Calls Try.prog 62 #[v, u] w fun e' w' => e' = .returned (.int .i64 (sgi (x - y))) ∧ Below w.heap.size w w' := by
  have HX : Hid (NumZ w v s T x) := hx
  have HY : Hid (NumZ w u s T y) := hy
  obtain ⟨nx, mx, ex, ⟨ao, len, cap, xs, rfl, -⟩, -⟩ := hx
  obtain ⟨ny, my, ey, ⟨bo, blen, bcap, ys, rfl, -⟩, -⟩ := hy
  obtain ⟨p0, p1, pz, pb⟩ := alloc2_facts w (Obj.cells #[Value.bool nx, Value.slice ao len cap, Value.int IntKind.i64 ex] 115) (Obj.cells #[Value.bool ny, Value.slice bo blen bcap, Value.int IntKind.i64 ey] 115)
  have PZ : Hid _ := pz
  have PB : Hid _ := pb
  go_enter Try.func62, Try.ntmps62
  go_wp2_with fail
  refine (minusZ_any _ _ s T x y _ (NumZ.later HX.out PB.out) (NumZ.later HY.out PB.out) hs hT).mono ?_
  rintro ee ww ⟨v1, rfl, hz1, hb1⟩
  have HB1 : Hid (Below w.heap.size w ww) := PB.out.trans (hb1.mono (by rw [PZ.out]; omega))
  have HZ1 : Hid (NumZ ww v1 s (T + 1) (x - y)) := hz1
  clear hz1 hb1
  go_wp2_with fail
  refine (signZ_any _ s (T + 1) (x - y) _ HZ1.out).mono ?_
  rintro ee w2 ⟨rfl, hb2⟩
  have HB2 : Hid (Below w.heap.size w w2) := HB1.out.trans (hb2.mono HB1.out.size)
  clear hb2
  go_wp2_with fail
  go_ret
  exact ⟨rfl, HB2.out⟩
theorem rd4_none (w : World) : Rd4 w none 0 0 [] := Rd4.none w
theorem alloc2_other (w : World) (o o' c : Obj) (b : Nat) (hb : b ≠ w.heap.size) : ((w.alloc o).alloc c).heap[b]? = ((w.alloc o').alloc c).heap[b]? := by
  rcases Nat.lt_or_ge b w.heap.size with h | h
  · rw [Below.heap_alloc _ _ _ (by simp; omega), Below.heap_alloc _ _ _ h, Below.heap_alloc _ _ _ (by simp; omega), Below.heap_alloc _ _ _ h]
  · by_cases h1 : b = w.heap.size + 1
    · subst h1
      have e1 := heap_alloc_new (w.alloc o) c
      have e2 := heap_alloc_new (w.alloc o') c
      rw [show (w.alloc o).heap.size = w.heap.size + 1 by simp] at e1
      rw [show (w.alloc o').heap.size = w.heap.size + 1 by simp] at e2
      rw [e1, e2]
    · rw [Array.getElem?_eq_none (by simp; omega), Array.getElem?_eq_none (by simp; omega)]
theorem alloc2_first (w : World) (o c : Obj) : ((w.alloc o).alloc c).heap[w.heap.size]? = some o := by
  rw [Below.heap_alloc _ _ _ (by simp)]; exact heap_alloc_new w o
def ofM (u : Nat) : Nat := if frung u < 4503599627370496 then frung u else 4503599627370496 + frung u % 4503599627370496
def ofE (u : Nat) : Int := if frung u < 4503599627370496 then -1074 else (frung u / 4503599627370496 : Nat) - 1075
theorem words2 {m : Nat} (hm : m < 18446744073709551616) : dig [m % 4294967296, m / 4294967296] = m ∧ U4 [m % 4294967296, m / 4294967296] := by
  refine ⟨?_, ?_⟩
  · simp only [dig]; omega
  · intro x hx
    simp only [List.mem_cons, List.mem_nil_iff, or_false] at hx
    rcases hx with rfl | rfl <;> omega
theorem rd4_fresh2 (w : World) (a b : Nat) (hu : U4 [a, b]) : Rd4 (w.alloc (.cells #[.int .u32 (a : Int), .int .u32 (b : Int)] 123)) (some ⟨w.heap.size, 0, none⟩) 2 2 [a, b] := by
  refine ⟨rfl, Nat.le_refl _, by decide, hu, (fun h => by cases h), .inr ⟨_, _, rfl, fun j hj => ?_⟩⟩
  rw [Nat.zero_add, cell_of_row _ w.heap.size j _ _ _ (heap_alloc_new w _)]
  match j, hj with
  | 0, _ => rfl
  | 1, _ => rfl
set_option maxRecDepth 100000 in
set_option maxHeartbeats 1000000 in
theorem of_any (u : Nat) (hu : u < 18446744073709551616) (w : World) :
    Calls Try.prog 60 #[.int .u64 u] w fun e' w' => ∃ v, e' = .returned (.tuple #[v, .bool (decide (Fin u))]) ∧ (∃ neg e, NumV w' v neg (if Fin u then ofM u else 0) e ∧ (Fin u → frung u ≠ 0 → neg = fneg u ∧ e = ofE u) ∧ -1074 ≤ e ∧ e ≤ 971) ∧ Below w.heap.size w w' := by
  obtain ⟨E, hE⟩ : ∃ E : Nat, u / 4503599627370496 % 2048 = E := ⟨_, rfl⟩
  obtain ⟨m, hm⟩ : ∃ m : Nat, u % 4503599627370496 = m := ⟨_, rfl⟩
  have fE : bits .and .u64 ((u : Int) / 4503599627370496) 2047 = (E : Int) := by
    have k := u64_and_nat (u / 4503599627370496) 2047 (by omega) (by decide)
    rw [show ((2047 : Nat) : Int) = 2047 from rfl] at k
    rw [show (u : Int) / 4503599627370496 = ((u / 4503599627370496 : Nat) : Int) by omega, k, and_2047, hE]
  have fm : bits .and .u64 (u : Int) 4503599627370495 = (m : Int) := by
    have k := u64_and_nat u 4503599627370495 hu (by decide)
    rw [show ((4503599627370495 : Nat) : Int) = 4503599627370495 from rfl] at k
    rw [k, show (4503599627370495 : Nat) = 2 ^ 52 - 1 by decide, Nat.and_two_pow_sub_one_eq_mod, show (2 : Nat) ^ 52 = 4503599627370496 by decide, hm]
  have hr : frung u = E * 4503599627370496 + m := by unfold frung; omega
  have hEb : E < 2048 := by omega
  have hmb : m < 4503599627370496 := by omega
  have hFin : Fin u ↔ E < 2047 := by unfold Fin infK; rw [hr]; omega
  by_cases h2047 : E = 2047
  · subst h2047
    have hd : decide (Fin u) = false := decide_eq_false (by rw [hFin]; omega)
    have hnf : ¬ Fin u := by rw [hFin]; omega
    rw [hd, if_neg hnf]
    have hz : ((2047 : Nat) : Int) = 2047 := rfl
    rw [hz] at fE
    go_enter Try.func60, Try.ntmps60
    go_wp2_with fail
    refine bodyPost_ret (v := .tuple #[.agg #[.bool false, .slice none 0 0, .int .i64 0], .bool false]) (res_num2 _ 2 3 (by kernel_rfl) _ _ w.heap.size _ _ _ _ (by rfl) (by rfl) (heap_alloc_new w _)) rfl ⟨_, rfl, ⟨false, 0, ⟨none, 0, 0, [], rfl, rd4_none _, .inl rfl, rfl⟩, fun h => absurd h hnf, by omega, by omega⟩, (Below.refl _ _).alloc (Nat.le_refl _) _⟩
  · have hf : Fin u := hFin.2 (by omega)
    have hd : decide (Fin u) = true := decide_eq_true hf
    rw [hd, if_pos hf]
    have hEi : ((E : Int) == 2047) = false := by rw [beq_eq_false_iff_ne]; omega
    have hsgb : ((u : Int) / 9223372036854775808 == 1) = fneg u := by
      unfold fneg
      have h6 : u / 9223372036854775808 = 0 ∨ u / 9223372036854775808 = 1 := by omega
      rcases h6 with h6 | h6
      · rw [show (u : Int) / 9223372036854775808 = 0 by omega, h6]; rfl
      · rw [show (u : Int) / 9223372036854775808 = 1 by omega, h6]; rfl
    clear hFin
    by_cases h0 : E = 0 ∧ m = 0
    · obtain ⟨rfl, rfl⟩ := h0
      have hM : ofM u = 0 := by unfold ofM; rw [hr]; rfl
      have hr0 : frung u = 0 := by rw [hr]
      rw [hM]
      have hz : ((0 : Nat) : Int) = 0 := rfl
      rw [hz] at fE fm
      go_enter Try.func60, Try.ntmps60
      go_wp2_with fail
      refine bodyPost_ret (v := .tuple #[.agg #[.bool false, .slice none 0 0, .int .i64 0], .bool true]) (res_num2 _ 2 3 (by kernel_rfl) _ _ w.heap.size _ _ _ _ (by rfl) (by rfl) (heap_alloc_new w _)) rfl ⟨_, rfl, ⟨false, 0, ⟨none, 0, 0, [], rfl, rd4_none _, .inl rfl, rfl⟩, fun _ h => absurd hr0 h, by omega, by omega⟩, (Below.refl _ _).alloc (Nat.le_refl _) _⟩
    · obtain ⟨m2, e2, hm2, he2⟩ : ∃ (m2 : Nat) (e2 : Int), m2 = (if E = 0 then m else 4503599627370496 + m) ∧ e2 = (if E = 0 then -1074 else (E : Int) - 1075) := ⟨_, _, rfl, rfl⟩
      have hM : ofM u = m2 := by
        unfold ofM; rw [hr, hm2]
        by_cases hE0 : E = 0
        · rw [if_pos (by omega), if_pos hE0]; omega
        · rw [if_neg (by omega), if_neg hE0]; omega
      have hEE : ofE u = e2 := by
        unfold ofE; rw [hr, he2]
        by_cases hE0 : E = 0
        · rw [if_pos (by omega), if_pos hE0]
        · rw [if_neg (by omega), if_neg hE0]; omega
      rw [hM, hEE]
      have hm2b : 0 < m2 ∧ m2 < 9007199254740992 := by rw [hm2]; split <;> omega
      obtain ⟨hm20, hm2l⟩ := hm2b
      have hw2 := words2 (m := m2) (by omega)
      have HW : Hid _ := hw2
      have hor : bits .or .u64 (m : Int) 4503599627370496 = ((4503599627370496 + m : Nat) : Int) := by
        have k := u64_or_nat m 4503599627370496 (by omega) (by decide)
        rw [show ((4503599627370496 : Nat) : Int) = 4503599627370496 from rfl] at k
        have k2 := Nat.two_pow_add_eq_or_of_lt (i := 52) (b := m) (by omega) 1
        rw [show (2 : Nat) ^ 52 = 4503599627370496 by decide, Nat.mul_one] at k2
        rw [k, Nat.or_comm, ← k2]
      obtain ⟨lo, hlo⟩ : ∃ lo : Nat, m2 % 4294967296 = lo := ⟨_, rfl⟩
      obtain ⟨hi, hhi⟩ : ∃ hi : Nat, m2 / 4294967296 = hi := ⟨_, rfl⟩
      have hmod : (m2 : Int) % 4294967296 = (lo : Int) := by omega
      have hdiv : (m2 : Int) / 4294967296 = (hi : Int) := by omega
      have hlb : lo < 4294967296 := by omega
      have hib : hi < 4294967296 := by omega
      rw [hlo, hhi] at HW
      clear hlo hhi
      have hrd : Rd4 ((w.alloc (Obj.cells #[Value.bool false, Value.slice none 0 0, Value.int IntKind.i64 0] 115)).alloc (Obj.cells #[Value.int IntKind.u32 (lo : Int), Value.int IntKind.u32 (hi : Int)] 123)) (some ⟨w.heap.size + 1, 0, none⟩) 2 2 [lo, hi] := by
        have h := rd4_fresh2 (w.alloc (Obj.cells #[Value.bool false, Value.slice none 0 0, Value.int IntKind.i64 0] 115)) lo hi HW.out.2
        rw [show (w.alloc (Obj.cells #[Value.bool false, Value.slice none 0 0, Value.int IntKind.i64 0] 115)).heap.size = w.heap.size + 1 by simp] at h
        exact h
      have HRD : Hid _ := hrd
      clear hrd
      have hb0 : ∀ o1 o2, Below w.heap.size w ((w.alloc o1).alloc o2) := fun o1 o2 => ((Below.refl _ _).alloc (Nat.le_refl _) _).alloc (by simp) _
      clear hw2 hM hEE hE hm hr
      by_cases hE0 : E = 0
      · rw [if_pos hE0] at hm2 he2
        subst hm2 he2 hE0
        have hz : ((0 : Nat) : Int) = 0 := rfl
        rw [hz] at fE
        clear hor
        go_enter Try.func60, Try.ntmps60
        go_wp2_with fail
        refine (trim_any _ 2 2 [lo, hi] _ HRD.out).mono ?_
        rintro ee ww ⟨ao', n, rfl, rfl, hr', hn', hnm, hdg⟩
        go_wp2_with fail
        refine bodyPost_ret (v := .tuple #[.agg #[.bool (fneg u), .slice ao' n 2, .int .i64 (-1074)], .bool true]) (res_num2 _ 2 3 (by kernel_rfl) _ _ w.heap.size _ _ _ _ (by rfl) (by rfl) (alloc2_first w _ _)) rfl ⟨_, rfl, ⟨fneg u, -1074, ⟨ao', n, 2, _, rfl, rd4_other ⟨_, _, _, _, _, alloc2_first w _ _⟩ (fun b hb => alloc2_other w _ _ _ b hb) hr', hnm, by rw [hdg]; exact HW.out.1⟩, fun _ _ => ⟨rfl, rfl⟩, by omega, by omega⟩, hb0 _ _⟩
      · rw [if_neg hE0] at hm2 he2
        subst hm2 he2
        have hEp : 0 < E := by omega
        have hE0i : ((E : Int) == 0) = false := by rw [beq_eq_false_iff_ne]; omega
        generalize hmm : 4503599627370496 + m = m2 at *
        go_enter Try.func60, Try.ntmps60
        go_wp2_with fail
        refine (trim_any _ 2 2 [lo, hi] _ HRD.out).mono ?_
        rintro ee ww ⟨ao', n, rfl, rfl, hr', hn', hnm, hdg⟩
        go_wp2_with fail
        refine bodyPost_ret (v := .tuple #[.agg #[.bool (fneg u), .slice ao' n 2, .int .i64 ((E : Int) - 1075)], .bool true]) (res_num2 _ 2 3 (by kernel_rfl) _ _ w.heap.size _ _ _ _ (by rfl) (by rfl) (alloc2_first w _ _)) rfl ⟨_, rfl, ⟨fneg u, (E : Int) - 1075, ⟨ao', n, 2, _, rfl, rd4_other ⟨_, _, _, _, _, alloc2_first w _ _⟩ (fun b hb => alloc2_other w _ _ _ b hb) hr', hnm, by rw [hdg]; exact HW.out.1⟩, fun _ _ => ⟨rfl, rfl⟩, by omega, by omega⟩, hb0 _ _⟩
theorem ofM_val {u : Nat} (hf : Fin u) : ofM u * 2 ^ (ofE u + 1074).toNat = rmag (frung u) ∧ -1074 ≤ ofE u ∧ ofE u ≤ 971 ∧ bl (ofM u) ≤ 53 ∧ (ofM u = 0 ↔ frung u = 0) := by
  unfold Fin infK at hf
  have hbl : ∀ m : Nat, m < 9007199254740992 → bl m ≤ 53 := by
    intro m hm
    rcases Nat.eq_zero_or_pos m with h0 | h0
    · rw [h0, bl_zero]; omega
    · have h3 := bl_spec (m := m) (by omega)
      rcases Nat.lt_or_ge 53 (bl m) with h4 | h4
      · have : 2 ^ 53 ≤ 2 ^ (bl m - 1) := Nat.pow_le_pow_right (by omega) (by omega)
        have h53 : (2 : Nat) ^ 53 = 9007199254740992 := by decide
        omega
      · exact h4
  unfold ofM ofE
  by_cases h : frung u < 4503599627370496
  · rw [if_pos h, if_pos h]
    refine ⟨?_, by omega, by omega, hbl _ (by omega), Iff.rfl⟩
    unfold rmag; rw [if_pos h, show ((-1074 : Int) + 1074).toNat = 0 from rfl, Nat.pow_zero, Nat.mul_one]
  · rw [if_neg h, if_neg h]
    refine ⟨?_, by omega, by omega, hbl _ (by omega), by omega⟩
    unfold rmag; rw [if_neg h]; congr 2; omega
theorem ofZ_any (u : Nat) (hu : u < 18446744073709551616) (w : World) (E : Nat) (hE : E = 1074) :
    Calls Try.prog 60 #[.int .u64 u] w fun e' w' => ∃ v, e' = .returned (.tuple #[v, .bool (decide (Fin u))]) ∧ (∃ z, NumZ w' v E 1024 z ∧ (Fin u → z = fval u)) ∧ Below w.heap.size w w' := by
  refine (of_any u hu w).mono ?_
  rintro e' w' ⟨v, rfl, ⟨neg, e, hN, hne, h1, h2⟩, hB⟩
  refine ⟨v, rfl, ⟨_, ⟨neg, _, e, hN, by omega, ?_, rfl⟩, ?_⟩, hB⟩
  · by_cases hf : Fin u
    · rw [if_pos hf]
      have hv := ofM_val hf
      have := hv.2.2.2.1
      omega
    · rw [if_neg hf, bl_zero]; omega
  · intro hf
    rw [if_pos hf]
    have hv := ofM_val hf
    by_cases h0 : frung u = 0
    · rw [hv.2.2.2.2.2 h0, zv_zero]; unfold fval; rw [h0, rmag_zero]; split <;> rfl
    · obtain ⟨rfl, rfl⟩ := hne hf h0
      unfold zv sv fval
      rw [hE, ← hv.1]
      split
      · rw [Int.natCast_mul, Int.neg_mul]; rfl
      · rw [Int.natCast_mul]; rfl
set_option maxRecDepth 100000 in
theorem numberRef_any (u : Nat) (hu : u < 18446744073709551616) (w : World) : Calls Try.prog 59 #[.int .u64 (u : Int)] w fun e w' => e = .returned (.bool (decide (Fin u))) ∧ w' = w := by
  obtain ⟨E, hE⟩ : ∃ E : Nat, u / 4503599627370496 % 2048 = E := ⟨_, rfl⟩
  have fE : bits .and .u64 ((u : Int) / 4503599627370496) 2047 = (E : Int) := by
    have k := u64_and_nat (u / 4503599627370496) 2047 (by omega) (by decide)
    rw [show ((2047 : Nat) : Int) = 2047 from rfl] at k
    rw [show (u : Int) / 4503599627370496 = ((u / 4503599627370496 : Nat) : Int) by omega, k, show (2047 : Nat) = 2 ^ 11 - 1 by decide, Nat.and_two_pow_sub_one_eq_mod, ← hE]
  have hFin : Fin u ↔ E < 2047 := by unfold Fin infK frung; omega
  have HX : Hid (((E : Int) != 2047) = decide (Fin u)) := by
    unfold Hid
    by_cases h : E < 2047
    · rw [decide_eq_true (hFin.2 h)]; simp; omega
    · rw [decide_eq_false (fun c => h (hFin.1 c))]; simp; omega
  clear hE hFin
  go_enter Try.func59, Try.ntmps59
  go_wp2_with fail
  go_ret
  exact ⟨congrArg (fun b => Ending.returned (.bool b)) HX.out, rfl⟩
end Go.Proofs.Ytokglpemefkmjaa
