import Derived.Test.YthmhgpadinecfaaGreatTDa
import Derived.Test.YthmhgpadinecfaaGreatShelfB
import Ieee.Arith
import Derived.Test.YthmhgpadinecfaaGreatChecked
import Derived.WalkKit
import Derived.WalkSmall
import Derived.WalkLawsBesides
import Derived.Lib.EndianBits
import Derived.Laws.Bits128
import Derived.Laws.BitsAll
import Derived.BigQuiet
import Derived.Deep.WholeRow
import Derived.Deep.MidRow
import Derived.Laws.CopyOwn
import Derived.Deep.RegionHeld3
import Derived.Laws.OwnMore
import Derived.OneCell
import Derived.Deep.RegionWith
import Derived.Deep.DeepCutAuto
import Derived.BigRegion
import Derived.BigGuard
import Derived.Deep.QuietTactic
import Derived.Shelf.Abstract
import Derived.ArgAppend
import Derived.OwnWalk
import Derived.Orders
import Derived.RegionTactic
import Derived.Below
import Derived.Deep.CutRange
import Derived.Laws.AppendOwnNone
set_option maxRecDepth 100000
set_option maxHeartbeats 4000000
set_option linter.unusedVariables false
set_option linter.unusedSimpArgs false
namespace Go.Proofs.YthmhgpadinecfaaGreat
def U4 (xs : List Nat) : Prop := ∀ x ∈ xs, x < 4294967296
def dig : List Nat -> Nat
 | [] => 0
 | x :: xs => x + 4294967296 * dig xs
def Nm (xs : List Nat) : Prop := xs = [] \/ xs[xs.length - 1]?.getD 0 ≠ 0
def bl (m : Nat) : Nat := if m = 0 then 0 else m.log2 + 1
def wd (k : Nat) : Nat := 2 ^ (32 * k)
theorem wd_zero : wd 0 = 1 := rfl
theorem wd_succ (k : Nat) : wd (k + 1) = 4294967296 * wd k := by
 unfold wd; rw [Nat.mul_add, Nat.mul_one, Nat.pow_add, Nat.mul_comm]
theorem wd_pos (k : Nat) : 0 < wd k := Nat.two_pow_pos _
theorem wd_add (a b : Nat) : wd (a + b) = wd a * wd b := by unfold wd; rw [Nat.mul_add, Nat.pow_add]
theorem U4.tail {x : Nat} {xs : List Nat} (h : U4 (x :: xs)) : x < 4294967296 /\ U4 xs := ⟨h x (by simp), fun y hy => h y (by simp [hy])⟩
theorem U4.at {xs : List Nat} (h : U4 xs) (j : Nat) : xs[j]?.getD 0 < 4294967296 := by
 by_cases hj : j < xs.length
 ·rw [List.getElem?_eq_getElem hj]; exact h _ (List.getElem_mem hj)
 ·rw [List.getElem?_eq_none (by omega)]; simp
theorem U4.take {xs : List Nat} (h : U4 xs) (n : Nat) : U4 (xs.take n) := fun y hy => h y (List.mem_of_mem_take hy)
theorem U4.drop {xs : List Nat} (h : U4 xs) (n : Nat) : U4 (xs.drop n) := fun y hy => h y (List.mem_of_mem_drop hy)
theorem U4.set {xs : List Nat} (h : U4 xs) (k v : Nat) (hv : v < 4294967296) : U4 (xs.set k v) := by
 intro y hy
 rcases List.mem_or_eq_of_mem_set hy with h1 | h1
 ·exact h y h1
 ·omega
theorem dig_lt {xs : List Nat} (h : U4 xs) : dig xs < wd xs.length := by
 induction xs with
 | nil => simp [dig, wd]
 | cons x xs ih =>
  have h1 := h.tail
  have := ih h1.2
  rw [List.length_cons, wd_succ]
  show x + 4294967296 * dig xs < _
  omega
theorem dig_append (xs ys : List Nat) : dig (xs ++ ys) = dig xs + wd xs.length * dig ys := by
 induction xs with
 | nil => simp [dig, wd]
 | cons x xs ih =>
  show x + 4294967296 * dig (xs ++ ys) = x + 4294967296 * dig xs + _
  rw [ih, List.length_cons, wd_succ, Nat.mul_add, Nat.mul_assoc]; omega
theorem dig_split (xs : List Nat) (k : Nat) : dig xs = dig (xs.take k) + wd (xs.take k).length * dig (xs.drop k) := by
 rw [<- dig_append, List.take_append_drop]
theorem dig_take_succ {xs : List Nat} {k : Nat} (hk : k < xs.length) : dig (xs.take (k + 1)) = dig (xs.take k) + wd k * xs[k]?.getD 0 := by
 rw [List.take_succ_eq_append_getElem hk, dig_append, List.length_take, Nat.min_eq_left (by omega), List.getElem?_eq_getElem hk]
 simp [dig]
theorem dig_set {xs : List Nat} {k v : Nat} (hk : k < xs.length) : dig (xs.set k v) + wd k * xs[k]?.getD 0 = dig xs + wd k * v := by
 induction xs generalizing k with
 | nil => simp at hk
 | cons x xs ih =>
  cases k with
  | zero => simp [dig, wd_zero]; omega
  | succ k =>
   have := ih (k := k) (by simpa using hk)
   simp only [List.set_cons_succ, dig, List.getElem?_cons_succ, wd_succ]
   have e1 : 4294967296 * wd k * xs[k]?.getD 0 = 4294967296 * (wd k * xs[k]?.getD 0) := Nat.mul_assoc ..
   have e2 : 4294967296 * wd k * v = 4294967296 * (wd k * v) := Nat.mul_assoc ..
   omega
theorem dig_zeros (n : Nat) : dig (List.replicate n 0) = 0 := by
 induction n with
 | zero => rfl
 | succ n ih => rw [List.replicate_succ]; simp [dig, ih]
theorem bl_zero : bl 0 = 0 := rfl
theorem bl_spec {m : Nat} (h : m ≠ 0) : 2 ^ (bl m - 1) <= m /\ m < 2 ^ bl m /\ 1 <= bl m := by
 unfold bl; rw [if_neg h]
 exact ⟨Nat.log2_self_le h, Nat.lt_log2_self, by omega⟩
theorem bl_uniq {m k : Nat} (h1 : 2 ^ k <= m) (h2 : m < 2 ^ (k + 1)) : bl m = k + 1 := by
 have hm : m ≠ 0 := by have := Nat.two_pow_pos k; omega
 unfold bl; rw [if_neg hm]
 have := (Nat.log2_eq_iff hm).2 ⟨h1, h2⟩
 omega
theorem bl_half {m : Nat} (h : m ≠ 0) : bl (m / 2) + 1 = bl m := by
 by_cases h1 : m / 2 = 0
 ·have : m = 1 := by omega
  subst this; rfl
 ·have := bl_spec h1
  obtain ⟨k, hk⟩ : ∃ k, bl (m / 2) = k + 1 := ⟨bl (m / 2) - 1, by omega⟩
  rw [hk] at this
  simp only [Nat.add_sub_cancel] at this
  have e := bl_uniq (m := m) (k := k + 1) (by rw [Nat.pow_succ]; omega) (by rw [Nat.pow_succ]; omega)
  omega
theorem bl_dig {xs : List Nat} (h : U4 xs) (hn : Nm xs) (h0 : xs ≠ []) : bl (dig xs) = 32 * (xs.length - 1) + bl (xs[xs.length - 1]?.getD 0) /\ dig xs ≠ 0 := by
 have hl : 0 < xs.length := List.length_pos_iff.2 h0
 have ht : xs[xs.length - 1]?.getD 0 ≠ 0 := by
  rcases hn with h1 | h1
  ·exact absurd h1 h0
  ·exact h1
 have e := dig_take_succ (xs := xs) (k := xs.length - 1) (by omega)
 rw [show xs.length - 1 + 1 = xs.length by omega, List.take_length] at e
 have hlow := dig_lt (h.take (xs.length - 1))
 rw [List.length_take, Nat.min_eq_left (by omega)] at hlow
 have ht2 := h.at (xs.length - 1)
 generalize xs[xs.length - 1]?.getD 0 = t at *
 generalize dig (xs.take (xs.length - 1)) = lo at *
 generalize xs.length - 1 = L at *
 have hb := bl_spec ht
 have hw := wd_pos L
 have hm : dig xs ≠ 0 := by
  have : wd L * 1 <= wd L * t := Nat.mul_le_mul_left _ (by omega)
  omega
 refine ⟨?_, hm⟩
 obtain ⟨k, hk⟩ : ∃ k, bl t = k + 1 := ⟨bl t - 1, by omega⟩
 rw [hk] at hb ⊢
 simp only [Nat.add_sub_cancel] at hb
 rw [e, show 32 * L + (k + 1) = (32 * L + k) + 1 from rfl]
 refine bl_uniq ?_ ?_
 ·rw [Nat.pow_add]; have := Nat.mul_le_mul_left (wd L) hb.1; unfold wd at *; omega
 ·rw [show 32 * L + k + 1 = 32 * L + (k + 1) from rfl, Nat.pow_add]
  have h1 : wd L * t + wd L <= wd L * 2 ^ (k + 1) := by
   rw [<- Nat.mul_succ]; exact Nat.mul_le_mul_left _ hb.2.1
  unfold wd at *; omega
theorem left_step {zs : List Nat} {k s x T N D : Nat} (hs : s < 32) (hx : x < 4294967296) (hk : k + 1 < zs.length) (hu : U4 zs) (hz : ∀ j, k < j -> zs[j]?.getD 0 = 0) (hlo : zs[k]?.getD 0 < 2 ^ s) (hD : dig zs = D * T) (hT : T * wd 0 = T) :
  U4 ((zs.set k (zs[k]?.getD 0 + x * 2 ^ s % 4294967296)).set (k + 1) (x * 2 ^ s / 4294967296)) ∧
  dig ((zs.set k (zs[k]?.getD 0 + x * 2 ^ s % 4294967296)).set (k + 1) (x * 2 ^ s / 4294967296)) = dig zs + wd k * (x * 2 ^ s) ∧
  (∀ j, k + 1 < j -> ((zs.set k (zs[k]?.getD 0 + x * 2 ^ s % 4294967296)).set (k + 1) (x * 2 ^ s / 4294967296))[j]?.getD 0 = 0) ∧
  ((zs.set k (zs[k]?.getD 0 + x * 2 ^ s % 4294967296)).set (k + 1) (x * 2 ^ s / 4294967296))[k + 1]?.getD 0 < 2 ^ s /\ zs[k]?.getD 0 + x * 2 ^ s % 4294967296 < 4294967296 /\ x * 2 ^ s / 4294967296 < 4294967296 := by
 have hd : (2 ^ s : Nat) ∣ x * 2 ^ s % 4294967296 := by
  rw [show (4294967296 : Nat) = 2 ^ (32 - s) * 2 ^ s by rw [<- Nat.pow_add, show 32 - s + s = 32 by omega]]
  rw [Nat.mul_mod_mul_right]; exact Nat.dvd_mul_left ..
 have hp := Nat.two_pow_pos s
 have hps : (2 : Nat) ^ s <= 2 ^ 31 := Nat.pow_le_pow_right (by omega) (by omega)
 have h31 : (2 : Nat) ^ 31 = 2147483648 := by decide
 have hsum : zs[k]?.getD 0 + x * 2 ^ s % 4294967296 < 4294967296 := by
  obtain ⟨c, hc⟩ := hd
  have hm : x * 2 ^ s % 4294967296 < 4294967296 := Nat.mod_lt _ (by decide)
  have h32 : (4294967296 : Nat) = 2 ^ s * 2 ^ (32 - s) := by rw [<- Nat.pow_add, show s + (32 - s) = 32 by omega]
  rw [hc, h32] at hm ⊢
  have h1 : c < 2 ^ (32 - s) := Nat.lt_of_mul_lt_mul_left hm
  have h2 : 2 ^ s * (c + 1) <= 2 ^ s * 2 ^ (32 - s) := Nat.mul_le_mul_left _ h1
  rw [Nat.mul_add, Nat.mul_one] at h2
  omega
 have hhi : x * 2 ^ s / 4294967296 < 2 ^ s := by
  rw [Nat.div_lt_iff_lt_mul (by decide), Nat.mul_comm (2 ^ s)]
  exact Nat.mul_lt_mul_of_pos_right hx hp
 have hhi' : x * 2 ^ s / 4294967296 < 4294967296 := by omega
 have hl1 : (zs.set k (zs[k]?.getD 0 + x * 2 ^ s % 4294967296)).length = zs.length := List.length_set
 refine ⟨(hu.set k _ hsum).set _ _ hhi', ?_, ?_, ?_, hsum, hhi'⟩
 ·have e1 := dig_set (xs := zs) (k := k) (v := zs[k]?.getD 0 + x * 2 ^ s % 4294967296) (by omega)
  have e2 := dig_set (xs := zs.set k (zs[k]?.getD 0 + x * 2 ^ s % 4294967296)) (k := k + 1) (v := x * 2 ^ s / 4294967296) (by rw [hl1]; exact hk)
  rw [List.getElem?_set, if_neg (by omega), hz (k + 1) (by omega), Nat.mul_zero, Nat.add_zero] at e2
  rw [Nat.mul_add] at e1
  have hdm := Nat.div_add_mod (x * 2 ^ s) 4294967296
  have : wd k * (x * 2 ^ s) = wd k * (x * 2 ^ s % 4294967296) + wd (k + 1) * (x * 2 ^ s / 4294967296) := by
   rw [wd_succ, Nat.mul_comm 4294967296, Nat.mul_assoc, <- Nat.mul_add]; congr 1; omega
  omega
 ·intro j hj
  rw [List.getElem?_set, if_neg (by omega), List.getElem?_set, if_neg (by omega)]
  exact hz j (by omega)
 ·rw [List.getElem?_set, if_pos rfl, if_pos (by rw [hl1]; exact hk)]
  exact hhi
def shr (s : Nat) : List Nat -> List Nat
 | [] => []
 | d :: ds => ((d + 4294967296 * (ds[0]?.getD 0)) / 2 ^ s % 4294967296) :: shr s ds
theorem shr_len (s : Nat) (ds : List Nat) : (shr s ds).length = ds.length := by
 induction ds with
 | nil => rfl
 | cons d ds ih => simp [shr, ih]
theorem shr_at (s : Nat) (ds : List Nat) (j : Nat) (hj : j < ds.length) : (shr s ds)[j]?.getD 0 = (ds[j]?.getD 0 + 4294967296 * (ds[j + 1]?.getD 0)) / 2 ^ s % 4294967296 := by
 induction ds generalizing j with
 | nil => simp at hj
 | cons d ds ih =>
  cases j with
  | zero => simp [shr]
  | succ j => simp only [shr, List.getElem?_cons_succ]; exact ih j (by simpa using hj)
theorem dig_head (ds : List Nat) : dig ds = ds[0]?.getD 0 + 4294967296 * dig (ds.drop 1) := by
 cases ds with
 | nil => rfl
 | cons d ds => rfl
theorem p32 {s : Nat} (hs : s < 32) : (4294967296 : Nat) = 2 ^ s * 2 ^ (32 - s) := by rw [<- Nat.pow_add, show s + (32 - s) = 32 by omega]
theorem dig_shr {s : Nat} (hs : s < 32) {ds : List Nat} (h : U4 ds) : dig (shr s ds) = dig ds / 2 ^ s := by
 induction ds with
 | nil => simp [shr, dig]
 | cons d ds ih =>
  have h1 := h.tail
  show (d + 4294967296 * (ds[0]?.getD 0)) / 2 ^ s % 4294967296 + 4294967296 * dig (shr s ds) = (d + 4294967296 * dig ds) / 2 ^ s
  rw [ih h1.2]
  have hp := Nat.two_pow_pos s
  have hh := dig_head ds
  generalize ds[0]?.getD 0 = hd at *
  have hR : dig ds % 2 ^ s = hd % 2 ^ s := by
   rw [hh, p32 hs, Nat.mul_assoc, Nat.add_mul_mod_self_left]
  have e1 := Nat.div_add_mod (dig ds) (2 ^ s)
  have e2 := Nat.div_add_mod hd (2 ^ s)
  rw [hR] at e1
  have hRl := Nat.mod_lt hd hp
  generalize hd % 2 ^ s = R at *
  generalize dig ds / 2 ^ s = Q at *
  generalize hd / 2 ^ s = Qh at *
  have key : ∀ q, (d + 4294967296 * (2 ^ s * q + R)) / 2 ^ s = (d + 4294967296 * R) / 2 ^ s + 4294967296 * q := by
   intro q
   rw [Nat.mul_add, show d + (4294967296 * (2 ^ s * q) + 4294967296 * R) = d + 4294967296 * R + 2 ^ s * (4294967296 * q) by rw [Nat.mul_left_comm]; omega, Nat.add_mul_div_left _ _ hp]
  have hlt : (d + 4294967296 * R) / 2 ^ s < 4294967296 := by
   rw [Nat.div_lt_iff_lt_mul hp]
   have : 4294967296 * (R + 1) <= 4294967296 * 2 ^ s := Nat.mul_le_mul_left _ hRl
   omega
  rw [<- e1, <- e2, key, key, Nat.add_mul_mod_self_left, Nat.mod_eq_of_lt hlt]
theorem cut_words {xs : List Nat} (h : U4 xs) {q s n : Nat} (hn : n = 32 * q + s) (hq : q <= xs.length) : dig xs / 2 ^ n = dig (xs.drop q) / 2 ^ s /\ dig xs % 2 ^ n = dig (xs.take q) + wd q * (dig (xs.drop q) % 2 ^ s) := by
 have hd := dig_split xs q
 have hl : (xs.take q).length = q := by rw [List.length_take]; omega
 rw [hl] at hd
 have hlo := dig_lt (h.take q)
 rw [hl] at hlo
 have hp : (2 : Nat) ^ n = wd q * 2 ^ s := by rw [hn, Nat.pow_add]; rfl
 have hw := wd_pos q
 rw [hp, hd]
 generalize dig (xs.take q) = lo at *
 generalize dig (xs.drop q) = hi at *
 constructor
 ·rw [<- Nat.div_div_eq_div_mul, Nat.add_mul_div_left _ _ hw, Nat.div_eq_of_lt hlo, Nat.zero_add]
 ·rw [Nat.mod_mul, Nat.add_mul_mod_self_left, Nat.mod_eq_of_lt hlo, Nat.add_mul_div_left _ _ hw, Nat.div_eq_of_lt hlo, Nat.zero_add]
theorem low_bits {xs : List Nat} {q s : Nat} (hs : s < 32) : dig (xs.drop q) % 2 ^ s = xs[q]?.getD 0 % 2 ^ s := by
 rw [dig_head, p32 hs, Nat.mul_assoc, Nat.add_mul_mod_self_left, List.getElem?_drop, Nat.add_zero]
def rmag (r : Nat) : Nat := if r < 4503599627370496 then r else (4503599627370496 + r % 4503599627370496) * 2 ^ (r / 4503599627370496 - 1)
theorem rmag_form (e k : Nat) (h : e = 0 \/ 4503599627370496 <= k) (hk : k <= 9007199254740992) : rmag (e * 4503599627370496 + k) = k * 2 ^ e := by
 unfold rmag
 by_cases h1 : k < 4503599627370496
 ·have he : e = 0 := by omega
  subst he
  rw [if_pos (by omega)]; simp
 ·rw [if_neg (by omega)]
  by_cases h2 : k = 9007199254740992
  ·have a1 : (e * 4503599627370496 + k) / 4503599627370496 = e + 2 := by omega
   have a2 : (e * 4503599627370496 + k) % 4503599627370496 = 0 := by omega
   rw [a1, a2, show e + 2 - 1 = e + 1 from rfl, Nat.pow_succ, h2]
   rw [Nat.mul_comm (2 ^ e) 2, <- Nat.mul_assoc]
  ·have a1 : (e * 4503599627370496 + k) / 4503599627370496 = e + 1 := by omega
   have a2 : (e * 4503599627370496 + k) % 4503599627370496 = k - 4503599627370496 := by omega
   rw [a1, a2, show e + 1 - 1 = e from rfl, show 4503599627370496 + (k - 4503599627370496) = k by omega]
theorem rmag_parts (r : Nat) : ∃ e k, r = e * 4503599627370496 + k /\ (e = 0 \/ 4503599627370496 <= k) /\ k < 9007199254740992 /\ e = r / 4503599627370496 - 1 := by
 by_cases h : r < 4503599627370496
 ·exact ⟨0, r, by omega, .inl rfl, by omega, by omega⟩
 ·exact ⟨r / 4503599627370496 - 1, r - (r / 4503599627370496 - 1) * 4503599627370496, by omega, .inr (by omega), by omega, rfl⟩
theorem rmag_succ (r : Nat) : rmag (r + 1) = rmag r + 2 ^ (r / 4503599627370496 - 1) := by
 obtain ⟨e, k, hr, h, hk, he⟩ := rmag_parts r
 rw [<- he, hr, Nat.add_assoc, rmag_form e k h (by omega), rmag_form e (k + 1) (by omega) (by omega), Nat.add_mul, Nat.one_mul]
theorem rmag_lt_succ (r : Nat) : rmag r < rmag (r + 1) := by
 rw [rmag_succ]; have := Nat.two_pow_pos (r / 4503599627370496 - 1); omega
theorem rmag_lt {r s : Nat} (h : r < s) : rmag r < rmag s := by
 induction s with
 | zero => omega
 | succ s ih =>
  have := rmag_lt_succ s
  by_cases h1 : r = s
  ·subst h1; exact this
  ·have := ih (by omega); omega
theorem rmag_le {r s : Nat} (h : r <= s) : rmag r <= rmag s := by
 rcases Nat.lt_or_eq_of_le h with h | h
 ·exact Nat.le_of_lt (rmag_lt h)
 ·rw [h]; exact Nat.le_refl _
theorem lt_of_rmag {r s : Nat} (h : rmag r < rmag s) : r < s := by
 rcases Nat.lt_or_ge r s with h1 | h1
 ·exact h1
 ·have := rmag_le h1; omega
theorem rmag_zero : rmag 0 = 0 := rfl
theorem le_rmag (r : Nat) : r <= rmag r := by
 induction r with
 | zero => omega
 | succ r ih => have := rmag_lt_succ r; omega
def Fl (n D R : Nat) : Prop := rmag R * D <= n /\ n < rmag (R + 1) * D
theorem Fl.uniq {n D R S : Nat} (h : Fl n D R) (h' : Fl n D S) : R = S := by
 have a : rmag R * D < rmag (S + 1) * D := Nat.lt_of_le_of_lt h.1 h'.2
 have b : rmag S * D < rmag (R + 1) * D := Nat.lt_of_le_of_lt h'.1 h.2
 have := lt_of_rmag (Nat.lt_of_mul_lt_mul_right a)
 have := lt_of_rmag (Nat.lt_of_mul_lt_mul_right b)
 omega
theorem Fl.scale {n D R : Nat} (h : Fl n D R) (c : Nat) (hc : 0 < c) : Fl (n * c) (D * c) R := by
 refine ⟨?_, ?_⟩
 ·rw [<- Nat.mul_assoc]; exact Nat.mul_le_mul_right c h.1
 ·rw [<- Nat.mul_assoc]; exact Nat.mul_lt_mul_of_pos_right h.2 hc
theorem Fl.unscale {n D R : Nat} (c : Nat) (h : Fl (n * c) (D * c) R) : Fl n D R := by
 have hc : 0 < c := by
  rcases Nat.eq_zero_or_pos c with h0 | h0
  ·subst h0; have := h.2; simp at this
  ·exact h0
 refine ⟨?_, ?_⟩
 ·have := h.1; rw [<- Nat.mul_assoc] at this; exact Nat.le_of_mul_le_mul_right this hc
 ·have := h.2; rw [<- Nat.mul_assoc] at this; exact Nat.lt_of_mul_lt_mul_right this
theorem Fl.pos {n D R : Nat} (h : Fl n D R) : 0 < D := by
 rcases Nat.eq_zero_or_pos D with h0 | h0
 ·subst h0; have := h.2; simp at this
 ·exact h0
theorem Fl.some (n D : Nat) (hD : 0 < D) : ∃ R, Fl n D R := by
 have key : ∀ m, n < rmag m * D -> ∃ R, Fl n D R := by
  intro m
  induction m with
  | zero => intro h; simp [rmag_zero] at h
  | succ m ih =>
   intro h
   by_cases h1 : n < rmag m * D
   ·exact ih h1
   ·exact ⟨m, by omega, h⟩
 refine key (n + 1) ?_
 have h1 := le_rmag (n + 1)
 have h2 : n + 1 <= (n + 1) * D := Nat.le_mul_of_pos_right _ hD
 have h3 : (n + 1) * D <= rmag (n + 1) * D := Nat.mul_le_mul_right _ h1
 omega
theorem Fl.mono {n D R m E S : Nat} (h : Fl n D R) (h' : Fl m E S) (hle : n * E <= m * D) : R <= S := by
 have a : rmag R * D * E <= n * E := Nat.mul_le_mul_right _ h.1
 have b : m * D < rmag (S + 1) * E * D := Nat.mul_lt_mul_of_pos_right h'.2 h.pos
 have c : rmag R * (D * E) < rmag (S + 1) * (D * E) := by
  have e1 : rmag R * D * E = rmag R * (D * E) := Nat.mul_assoc ..
  have e2 : rmag (S + 1) * E * D = rmag (S + 1) * (D * E) := by rw [Nat.mul_assoc, Nat.mul_comm E D]
  omega
 have := lt_of_rmag (Nat.lt_of_mul_lt_mul_right c)
 omega
def nearK (n D R : Nat) : Nat := if 2 * n < (rmag R + rmag (R + 1)) * D \/ (2 * n = (rmag R + rmag (R + 1)) * D /\ R % 2 = 0) then R else R + 1
def upK (n D R : Nat) : Nat := if n = rmag R * D then R else R + 1
theorem nearK_scale (n D R c : Nat) (hc : 0 < c) : nearK (n * c) (D * c) R = nearK n D R := by
 unfold nearK
 have e1 : 2 * (n * c) = (2 * n) * c := (Nat.mul_assoc ..).symm
 have e2 : (rmag R + rmag (R + 1)) * (D * c) = ((rmag R + rmag (R + 1)) * D) * c := (Nat.mul_assoc ..).symm
 rw [e1, e2]
 have i1 : (2 * n) * c < ((rmag R + rmag (R + 1)) * D) * c ↔ 2 * n < (rmag R + rmag (R + 1)) * D := Nat.mul_lt_mul_right hc
 have i2 : (2 * n) * c = ((rmag R + rmag (R + 1)) * D) * c ↔ 2 * n = (rmag R + rmag (R + 1)) * D := Nat.mul_left_inj (by omega)
 simp only [i1, i2]
theorem upK_scale (n D R c : Nat) (hc : 0 < c) : upK (n * c) (D * c) R = upK n D R := by
 unfold upK
 have e2 : rmag R * (D * c) = (rmag R * D) * c := (Nat.mul_assoc ..).symm
 rw [e2]
 have i2 : n * c = (rmag R * D) * c ↔ n = rmag R * D := Nat.mul_left_inj (by omega)
 simp only [i2]
def infK : Nat := 9218868437227405312
def sgnK (neg : Bool) (k : Nat) : Nat := if neg = true /\ 0 < k then 9223372036854775808 + k else k
def tellK (d : Int) (neg : Bool) (n D R : Nat) : Nat × Bool :=
 if d = 0 then (if nearK n D R < infK then (sgnK neg (nearK n D R), true) else (0, false))
 else if d = 1 /\ neg = false \/ d = 2 /\ neg = true then (if upK n D R < infK then (sgnK neg (upK n D R), true) else (0, false))
 else if d = 1 \/ d = 2 then (sgnK neg (min R (infK - 1)), true)
 else (0, false)
def Rnd (d : Int) (neg : Bool) (n D : Nat) (p : Nat × Bool) : Prop := ∃ R, Fl n D R /\ p = tellK d neg n D R
theorem Rnd.uniq {d : Int} {neg : Bool} {n D : Nat} {p q : Nat × Bool} (h : Rnd d neg n D p) (h' : Rnd d neg n D q) : p = q := by
 obtain ⟨R, h1, rfl⟩ := h
 obtain ⟨S, h2, rfl⟩ := h'
 rw [h1.uniq h2]
theorem tellK_scale (d : Int) (neg : Bool) (n D R c : Nat) (hc : 0 < c) : tellK d neg (n * c) (D * c) R = tellK d neg n D R := by
 unfold tellK; rw [nearK_scale _ _ _ _ hc, upK_scale _ _ _ _ hc]
theorem Rnd.scale {d : Int} {neg : Bool} {n D : Nat} {p : Nat × Bool} (h : Rnd d neg n D p) (c : Nat) (hc : 0 < c) : Rnd d neg (n * c) (D * c) p := by
 obtain ⟨R, h1, rfl⟩ := h
 exact ⟨R, h1.scale c hc, (tellK_scale d neg n D R c hc).symm⟩
open Ieee
theorem dbl_sign : double.signWeight = 9223372036854775808 := by decide
def fneg (x : Nat) : Bool := x / 9223372036854775808 % 2 == 1
def frung (x : Nat) : Nat := x % 9223372036854775808
theorem rung_of (m e drop c n D K : Nat) (hn : n = m * c) (hc : 0 < c) (hD : 2 ^ e * D = 2 ^ drop * c) (hK : K = m / 2 ^ drop) (h : e = 0 \/ 4503599627370496 <= K) (hk : K < 9007199254740992) :
  Fl n D (e * 4503599627370496 + K) /\ nearK n D (e * 4503599627370496 + K) = e * 4503599627370496 + (K + (if 2 * (m % 2 ^ drop) < 2 ^ drop \/ (2 * (m % 2 ^ drop) = 2 ^ drop /\ K % 2 = 0) then 0 else 1)) /\ upK n D (e * 4503599627370496 + K) = e * 4503599627370496 + (K + if m % 2 ^ drop = 0 then 0 else 1) := by
 have r0 := rmag_form e K h (by omega)
 have r1 := rmag_form e (K + 1) (by omega) (by omega)
 rw [<- Nat.add_assoc] at r1
 have hdm := Nat.div_add_mod m (2 ^ drop)
 rw [<- hK] at hdm
 have hlt := Nat.mod_lt m (Nat.two_pow_pos drop)
 generalize m % 2 ^ drop = rest at *
 have e0 : K * 2 ^ e * D = (2 ^ drop * K) * c := by rw [Nat.mul_assoc, hD, <- Nat.mul_assoc, Nat.mul_comm K]
 have e1 : (K + 1) * 2 ^ e * D = (2 ^ drop * K + 2 ^ drop) * c := by rw [Nat.mul_assoc, hD, <- Nat.mul_assoc, Nat.mul_comm (K + 1), Nat.mul_add, Nat.mul_one]
 refine ⟨⟨?_, ?_⟩, ?_, ?_⟩
 ·rw [r0, e0, hn]; exact Nat.mul_le_mul_right _ (by omega)
 ·rw [r1, e1, hn]; exact Nat.mul_lt_mul_of_pos_right (by omega) hc
 ·unfold nearK
  rw [r0, r1, Nat.add_mul, e0, e1, <- Nat.add_mul, hn, <- Nat.mul_assoc]
  have i1 : 2 * m * c < (2 ^ drop * K + (2 ^ drop * K + 2 ^ drop)) * c ↔ 2 * m < 2 ^ drop * K + (2 ^ drop * K + 2 ^ drop) := Nat.mul_lt_mul_right hc
  have i2 : 2 * m * c = (2 ^ drop * K + (2 ^ drop * K + 2 ^ drop)) * c ↔ 2 * m = 2 ^ drop * K + (2 ^ drop * K + 2 ^ drop) := Nat.mul_left_inj (by omega)
  simp only [i1, i2]
  by_cases a : 2 * rest < 2 ^ drop \/ (2 * rest = 2 ^ drop /\ K % 2 = 0)
  ·rw [if_pos a, if_pos (by omega)]; omega
  ·rw [if_neg a, if_neg (by omega)]; omega
 ·unfold upK
  rw [r0, e0, hn]
  have i2 : m * c = (2 ^ drop * K) * c ↔ m = 2 ^ drop * K := Nat.mul_left_inj (by omega)
  simp only [i2]
  by_cases a : rest = 0
  ·rw [if_pos a, if_pos (by omega)]; omega
  ·rw [if_neg a, if_neg (by omega)]; omega
def nume (m : Nat) (p : Int) : Nat := m * 2 ^ (p + 1074).toNat
def deno (p : Int) : Nat := 2 ^ (-(p + 1074)).toNat
theorem place_log (m : Nat) (p : Int) (hm : m ≠ 0) : ∃ e drop K : Nat, ((e : Int) = max (p + m.log2 - 52) (-1074) + 1074) /\ K = (m * 2 ^ (p + 1074 - e).toNat) / 2 ^ drop /\ (e : Int) = (p + 1074) + drop - ((p + 1074 - e).toNat : Nat) /\ drop = (e - (p + 1074)).toNat /\ (e = 0 \/ 4503599627370496 <= K) /\ K < 9007199254740992 := by
 have h1 : 2 ^ m.log2 <= m := Nat.log2_self_le hm
 have h2 : m < 2 ^ (m.log2 + 1) := Nat.lt_log2_self
 obtain ⟨e, he⟩ : ∃ e : Nat, (e : Int) = max (p + m.log2 - 52) (-1074) + 1074 := ⟨(max (p + m.log2 - 52) (-1074) + 1074).toNat, by omega⟩
 refine ⟨e, (e - (p + 1074)).toNat, _, he, rfl, by omega, rfl, ?_⟩
 generalize m.log2 = L at *
 by_cases hs : (e : Int) <= p + 1074
 ·have hd : ((e : Int) - (p + 1074)).toNat = 0 := by omega
  rw [hd, Nat.pow_zero, Nat.div_one]
  obtain ⟨s, hs⟩ : ∃ s : Nat, (p + 1074 - e).toNat = s := ⟨_, rfl⟩
  rw [hs]
  have hsl : s + L <= 52 := by omega
  constructor
  ·by_cases h0 : e = 0
   ·exact .inl h0
   ·right
    have : s + L = 52 := by omega
    have h3 : 2 ^ 52 <= m * 2 ^ s := by rw [<- this, Nat.add_comm, Nat.pow_add]; exact Nat.mul_le_mul_right _ h1
    exact h3
  ·have h3 : m * 2 ^ s < 2 ^ (L + 1) * 2 ^ s := Nat.mul_lt_mul_of_pos_right h2 (Nat.two_pow_pos s)
   rw [<- Nat.pow_add] at h3
   have h4 : 2 ^ (L + 1 + s) <= 2 ^ 53 := Nat.pow_le_pow_right (by omega) (by omega)
   exact Nat.lt_of_lt_of_le h3 h4
 ·have hd : (p + 1074 - (e : Int)).toNat = 0 := by omega
  rw [hd, Nat.pow_zero, Nat.mul_one]
  obtain ⟨s, hs⟩ : ∃ s : Nat, (e - (p + 1074)).toNat = s := ⟨_, rfl⟩
  rw [hs]
  have hb : L <= s + 52 := by omega
  constructor
  ·by_cases h0 : e = 0
   ·exact .inl h0
   ·right
    have hLs : L = 52 + s := by omega
    rw [Nat.le_div_iff_mul_le (Nat.two_pow_pos s)]
    rw [hLs, Nat.pow_add] at h1
    exact h1
  ·rw [Nat.div_lt_iff_lt_mul (Nat.two_pow_pos s)]
   have h4 : 2 ^ (L + 1) <= 2 ^ (53 + s) := Nat.pow_le_pow_right (by omega) (by omega)
   rw [Nat.pow_add 2 53 s] at h4
   exact Nat.lt_of_lt_of_le h2 h4
def Fin (x : Nat) : Prop := frung x < infK
theorem heap_at (w : World) (o : Obj) (B : Nat) (h : w.heap.size = B) : (w.alloc o).heap[B]? = some o := h ▸ heap_alloc_new w o
instance (x : Nat) : Decidable (Fin x) := inferInstanceAs (Decidable (_ < _))
def fval (x : Nat) : Int := if fneg x then -(rmag (frung x) : Int) else rmag (frung x)
def Rn (neg : Bool) (n D : Nat) (r : Nat) : Prop := ∃ R, Fl n D R /\ r = double.word neg (min (nearK n D R) infK)
theorem word_rung (neg : Bool) {k : Nat} (h : k < 9223372036854775808) : frung (double.word neg k) = k /\ fneg (double.word neg k) = neg /\ double.word neg k < 18446744073709551616 := by
 unfold frung fneg Format.word
 rw [dbl_sign]
 cases neg
 ·simp only [Bool.false_eq_true, if_false]
  refine ⟨by omega, ?_, by omega⟩
  rw [show k / 9223372036854775808 = 0 by omega]; rfl
 ·simp only [if_true]
  refine ⟨by omega, ?_, by omega⟩
  rw [show (9223372036854775808 + k) / 9223372036854775808 = 1 by omega]; rfl
theorem min_inf_lt (k : Nat) : min k infK < 9223372036854775808 := by
 have : infK = 9218868437227405312 := rfl
 omega
theorem Rn.rung {neg : Bool} {n D r : Nat} (h : Rn neg n D r) : ∃ R, Fl n D R /\ frung r = min (nearK n D R) infK /\ fneg r = neg /\ r < 18446744073709551616 := by
 obtain ⟨R, h1, rfl⟩ := h
 have := word_rung neg (min_inf_lt (nearK n D R))
 exact ⟨R, h1, this⟩
theorem word_parts {x : Nat} (h : x < 18446744073709551616) : x = double.word (fneg x) (frung x) := by
 unfold frung fneg Format.word
 rw [dbl_sign]
 by_cases h1 : x / 9223372036854775808 % 2 = 1
 ·rw [h1]; simp only [beq_self_eq_true, if_true]; omega
 ·have : (x / 9223372036854775808 % 2 == 1) = false := by simp [h1]
  rw [this]; simp only [Bool.false_eq_true, if_false]; omega
theorem Rn.scale {neg : Bool} {n D r : Nat} (c : Nat) (hc : 0 < c) (h : Rn neg n D r) : Rn neg (n * c) (D * c) r := by
 obtain ⟨R, h1, rfl⟩ := h
 exact ⟨R, h1.scale c hc, by rw [nearK_scale _ _ _ _ hc]⟩
theorem Rn.unscale {neg : Bool} {n D r : Nat} (c : Nat) (h : Rn neg (n * c) (D * c) r) : Rn neg n D r := by
 obtain ⟨R, h1, rfl⟩ := h
 have hc : 0 < c := by
  rcases Nat.eq_zero_or_pos c with h0 | h0
  ·subst h0; have := h1.2; simp at this
  ·exact h0
 exact ⟨R, h1.unscale c, by rw [nearK_scale _ _ _ _ hc]⟩
theorem Rn.of_eq {neg : Bool} {n D n' D' r : Nat} (h : Rn neg n D r) (hD : 0 < D) (hD' : 0 < D') (he : n * D' = n' * D) : Rn neg n' D' r := by
 have h1 := h.scale D' hD'
 rw [he, Nat.mul_comm D D'] at h1
 exact h1.unscale D
theorem Rn.uniq {neg : Bool} {n D r s : Nat} (h : Rn neg n D r) (h' : Rn neg n D s) : r = s := by
 obtain ⟨R, h1, rfl⟩ := h
 obtain ⟨S, h2, rfl⟩ := h'
 rw [h1.uniq h2]
theorem nearK_exact {n D R : Nat} (h : n = rmag R * D) (hD : 0 < D) : nearK n D R = R := by
 unfold nearK
 have := rmag_lt_succ R
 rw [if_pos]
 left
 rw [h, <- Nat.mul_assoc]
 exact Nat.mul_lt_mul_of_pos_right (by omega) hD
theorem Fl.exact (k D : Nat) (hD : 0 < D) : Fl (rmag k * D) D k := ⟨Nat.le_refl _, Nat.mul_lt_mul_of_pos_right (rmag_lt_succ k) hD⟩
theorem Rn.exact (neg : Bool) (k D : Nat) (hD : 0 < D) : Rn neg (rmag k * D) D (double.word neg (min k infK)) := ⟨k, Fl.exact k D hD, by rw [nearK_exact rfl hD]⟩
theorem shifted (m : Nat) (i b : Int) (hb : b <= i) (hi : -1074 <= b) : m * 2 ^ (i + 1074).toNat = m * 2 ^ (i - b).toNat * 2 ^ (b + 1074).toNat := by
 rw [Nat.mul_assoc, <- Nat.pow_add]; congr 2; omega
def srung (x : Nat) : Int := if fneg x then -(frung x : Int) else frung x
def plainM (a : Nat) : Nat := if srung a = 0 then 0 else a
theorem plain_word {neg : Bool} {k : Nat} (h : k < infK) : plainM (double.word neg k) = sgnK neg k := by
 have : infK = 9218868437227405312 := rfl
 have hw := word_rung neg (k := k) (by omega)
 unfold plainM srung sgnK
 rw [hw.1, hw.2.1]
 unfold Format.word
 rw [dbl_sign]
 cases neg
 ·simp only [Bool.false_eq_true, if_false, false_and]
  by_cases h0 : k = 0
  ·rw [if_pos (by omega), h0]
  ·rw [if_neg (by omega)]
 ·simp only [if_true, true_and]
  by_cases h0 : k = 0
  ·rw [if_pos (by omega), if_neg (by omega), h0]
  ·rw [if_neg (by omega), if_pos (by omega)]
theorem fval_abs (x : Nat) : (fval x).natAbs = rmag (frung x) := by
 unfold fval; cases fneg x <;> simp
theorem frung_pos_rmag {k : Nat} (h : k ≠ 0) : 0 < rmag k := by have := le_rmag k; omega
end Go.Proofs.YthmhgpadinecfaaGreat
namespace Go.Proofs.YthmhgpadinecfaaGreat
def RndZ (d : Int) (V : Int) (D : Nat) (p : Nat × Bool) : Prop := Rnd d (decide (V < 0)) V.natAbs D p
theorem fl_zero {D R : Nat} (h : Fl 0 D R) : R = 0 := by
 have h1 := h.1
 have h2 := le_rmag R
 rcases Nat.eq_zero_or_pos R with h0 | h0
 ·exact h0
 ·have : 0 < rmag R * D := Nat.mul_pos (by omega) h.pos
  omega
theorem tell_zero (d : Int) (g g' : Bool) (D : Nat) (hD : 0 < D) : tellK d g 0 D 0 = tellK d g' 0 D 0 := by
 have h1 : nearK 0 D 0 = 0 := nearK_exact (by rw [rmag_zero, Nat.zero_mul]) hD
 have h2 : upK 0 D 0 = 0 := by unfold upK; rw [rmag_zero, Nat.zero_mul, if_pos rfl]
 have h3 : ∀ g, sgnK g 0 = 0 := fun g => by unfold sgnK; simp
 have h4 : min 0 (infK - 1) = 0 := Nat.zero_min _
 have h5 : 0 < infK := by decide
 unfold tellK
 rw [h1, h2, h4, h3, h3, if_pos h5]
 by_cases e0 : d = 0
 ·simp [e0]
 ·by_cases e1 : d = 1
  ·subst e1; cases g <;> cases g' <;> simp
  ·by_cases e2 : d = 2
   ·subst e2; cases g <;> cases g' <;> simp
   ·simp [e0, e1, e2]
theorem Rnd.toZ {d : Int} {g : Bool} {V : Int} {D : Nat} {p : Nat × Bool} (h : Rnd d g V.natAbs D p) (hg : V ≠ 0 -> g = decide (V < 0)) : RndZ d V D p := by
 by_cases h0 : V = 0
 ·subst h0
  obtain ⟨R, h1, rfl⟩ := h
  have hz : Int.natAbs 0 = 0 := rfl
  rw [hz] at h1 ⊢
  have := fl_zero h1
  subst this
  exact ⟨0, h1, tell_zero _ _ _ _ h1.pos⟩
 ·rw [hg h0] at h; exact h
theorem RndZ.uniq {d : Int} {V : Int} {D : Nat} {p q : Nat × Bool} (h : RndZ d V D p) (h' : RndZ d V D q) : p = q := Rnd.uniq h h'
theorem sgn_parts (neg : Bool) {k : Nat} (h : k < infK) : frung (sgnK neg k) = k /\ sgnK neg k < 18446744073709551616 /\ (k ≠ 0 -> fneg (sgnK neg k) = neg) /\ srung (sgnK neg k) = (if neg then -(k : Int) else k) := by
 have hi : infK = 9218868437227405312 := rfl
 by_cases h0 : k = 0
 ·subst h0
  have : sgnK neg 0 = 0 := by unfold sgnK; simp
  rw [this]
  refine ⟨rfl, by decide, fun h => absurd rfl h, ?_⟩
  cases neg <;> rfl
 ·have hw := word_rung neg (k := k) (by omega)
  have e : sgnK neg k = Ieee.double.word neg k := by
   unfold sgnK Ieee.Format.word
   rw [dbl_sign]
   cases neg <;> simp
   omega
  rw [e]
  refine ⟨hw.1, hw.2.2, fun _ => hw.2.1, ?_⟩
  unfold srung; rw [hw.1, hw.2.1]
theorem tell_fin {d : Int} {neg : Bool} {n D : Nat} {p : Nat × Bool} (h : Rnd d neg n D p) : Fin p.1 /\ p.1 < 18446744073709551616 := by
 obtain ⟨R, hR, rfl⟩ := h
 have h0 : Fin 0 /\ 0 < 18446744073709551616 := by decide
 have hk : ∀ k, k < infK -> Fin (sgnK neg k) /\ sgnK neg k < 18446744073709551616 := fun k hk => by
  have := sgn_parts neg hk
  exact ⟨by unfold Fin; rw [this.1]; exact hk, this.2.1⟩
 have hi : 0 < infK := by decide
 unfold tellK
 split
 ·split
  ·exact hk _ (by assumption)
  ·exact h0
 ·split
  ·split
   ·exact hk _ (by assumption)
   ·exact h0
  ·split
   ·exact hk _ (by omega)
   ·exact h0
theorem rnd_exact {d : Int} {neg : Bool} {k D : Nat} {p : Nat × Bool} (hk : k < infK) (h : Rnd d neg (rmag k * D) D p) : p = if d = 0 \/ d = 1 \/ d = 2 then (sgnK neg k, true) else (0, false) := by
 obtain ⟨R, hR, rfl⟩ := h
 have hD := hR.pos
 have hRk := hR.uniq (Fl.exact k D hD)
 rw [hRk]
 have h1 : nearK (rmag k * D) D k = k := nearK_exact rfl hD
 have h2 : upK (rmag k * D) D k = k := by unfold upK; rw [if_pos rfl]
 unfold tellK
 rw [h1, h2, if_pos hk, Nat.min_eq_left (by omega)]
 by_cases e0 : d = 0
 ·simp [e0]
 ·by_cases e1 : d = 1
  ·subst e1; cases neg <;> simp
  ·by_cases e2 : d = 2
   ·subst e2; cases neg <;> simp
   ·simp [e0, e1, e2]
theorem rnd_none (d : Int) (neg : Bool) (n D : Nat) (hD : 0 < D) (hd : ¬ (d = 0 \/ d = 1 \/ d = 2)) : Rnd d neg n D (0, false) := by
 obtain ⟨R, hR⟩ := Fl.some n D hD
 refine ⟨R, hR, ?_⟩
 unfold tellK
 rw [if_neg (fun c => hd (.inl c)), if_neg (by omega), if_neg (by omega)]
theorem rnd_nought (d : Int) (neg : Bool) (D : Nat) (hD : 0 < D) (hd : d = 0 \/ d = 1 \/ d = 2) : Rnd d neg 0 D (0, true) := by
 have hf : Fl 0 D 0 := by have := Fl.exact 0 D hD; rw [rmag_zero, Nat.zero_mul] at this; exact this
 have := rnd_exact (d := d) (neg := neg) (k := 0) (D := D) (by decide) (p := tellK d neg 0 D 0) ⟨0, by rw [rmag_zero, Nat.zero_mul]; exact hf, by rw [rmag_zero, Nat.zero_mul]⟩
 rw [if_pos hd, show sgnK neg 0 = 0 by unfold sgnK; simp] at this
 exact ⟨0, hf, this.symm⟩
theorem Rnd.of_eq {d : Int} {neg : Bool} {n D n' D' : Nat} {p : Nat × Bool} (h : Rnd d neg n D p) (hD' : 0 < D') (he : n * D' = n' * D) : Rnd d neg n' D' p := by
 obtain ⟨R, hR, rfl⟩ := h
 have hD := hR.pos
 have h1 := hR.scale D' hD'
 rw [he, Nat.mul_comm D D'] at h1
 refine ⟨R, h1.unscale D, ?_⟩
 rw [<- tellK_scale d neg n D R D' hD', he, Nat.mul_comm D D', tellK_scale _ _ _ _ _ _ hD]
theorem srung_sgn (neg : Bool) {k : Nat} (h : k < infK) : srung (sgnK neg k) = (if neg then -(k : Int) else k) := (sgn_parts neg h).2.2.2
def sv (neg : Bool) (m : Nat) : Int := if neg then -(m : Int) else (m : Int)
def zv (s : Nat) (neg : Bool) (m : Nat) (e : Int) : Int := sv neg m * ((2 ^ (e + s).toNat : Nat) : Int)
def sgi (z : Int) : Int := if z < 0 then -1 else if z = 0 then 0 else 1
theorem sv_zero (neg : Bool) : sv neg 0 = 0 := by unfold sv; split <;> rfl
theorem sv_mul (neg : Bool) (a b : Nat) : sv neg (a * b) = sv neg a * (b : Int) := by
 unfold sv; split
 ·rw [Int.natCast_mul, Int.neg_mul]
 ·rw [Int.natCast_mul]
theorem sv_not (neg : Bool) (m : Nat) : sv (!neg) m = -sv neg m := by cases neg <;> simp [sv]
theorem sv_abs (neg : Bool) (m : Nat) : (sv neg m).natAbs = m := by unfold sv; split <;> simp
theorem sv_add (g : Bool) (a b : Nat) : sv g (a + b) = sv g a + sv g b := by unfold sv; split <;> omega
theorem sv_sub (g : Bool) {a b : Nat} (h : b <= a) : sv g (a - b) = sv g a + sv (!g) b := by
 rw [sv_not]; unfold sv; split <;> omega
theorem zv_zero (s : Nat) (neg : Bool) (e : Int) : zv s neg 0 e = 0 := by unfold zv; rw [sv_zero, Int.zero_mul]
theorem zv_not (s : Nat) (neg : Bool) (m : Nat) (e : Int) : zv s (!neg) m e = -zv s neg m e := by unfold zv; rw [sv_not, Int.neg_mul]
theorem zv_add (s : Nat) (g : Bool) (a b : Nat) (e : Int) : zv s g (a + b) e = zv s g a e + zv s g b e := by unfold zv; rw [sv_add, Int.add_mul]
theorem zv_sub (s : Nat) (g : Bool) {a b : Nat} (e : Int) (h : b <= a) : zv s g (a - b) e = zv s g a e + zv s (!g) b e := by unfold zv; rw [sv_sub g h, Int.add_mul]
theorem zv_abs (s : Nat) (neg : Bool) (m : Nat) (e : Int) : (zv s neg m e).natAbs = m * 2 ^ (e + s).toNat := by
 unfold zv; rw [Int.natAbs_mul, sv_abs, Int.natAbs_natCast]
theorem zv_down {s : Nat} {e e' : Int} (neg : Bool) (m : Nat) (h : e' <= e) (h0 : -(s : Int) <= e') : zv s neg m e = zv s neg (m * 2 ^ (e - e').toNat) e' := by
 unfold zv; rw [sv_mul, Int.mul_assoc, <- Int.natCast_mul, <- Nat.pow_add]
 congr 3; congr 1; omega
theorem zv_more {s : Nat} {e : Int} (k : Nat) (neg : Bool) (m : Nat) (h : -(s : Int) <= e) : zv (s + k) neg m e = zv s neg m e * ((2 ^ k : Nat) : Int) := by
 unfold zv; rw [Int.mul_assoc, <- Int.natCast_mul, <- Nat.pow_add]
 congr 3; congr 1; omega
theorem sgi_zv (s : Nat) (neg : Bool) (m : Nat) (e : Int) : sgi (zv s neg m e) = if m = 0 then 0 else if neg then -1 else 1 := by
 have hp : (0 : Int) < ((2 ^ (e + s).toNat : Nat) : Int) := by have := Nat.two_pow_pos (e + s).toNat; omega
 by_cases h : m = 0
 ·rw [h, zv_zero, if_pos rfl]; rfl
 ·rw [if_neg h]
  have hm : (0 : Int) < (m : Int) := by omega
  have hq := Int.mul_pos hm hp
  unfold zv sv
  cases neg
  ·simp only [Bool.false_eq_true, if_false]
   unfold sgi; rw [if_neg (by omega), if_neg (by omega)]
  ·simp only [if_true]
   rw [Int.neg_mul]
   unfold sgi; rw [if_pos (by omega)]
theorem zv_lt {s : Nat} {neg : Bool} {m : Nat} {e : Int} (h : zv s neg m e ≠ 0) : neg = decide (zv s neg m e < 0) := by
 have h1 := sgi_zv s neg m e
 by_cases hm : m = 0
 ·rw [hm, zv_zero] at h; exact absurd rfl h
 ·rw [if_neg hm] at h1
  unfold sgi at h1
  cases neg
  ·by_cases h2 : zv s false m e < 0
   ·rw [if_pos h2] at h1; simp at h1
   ·simp [h2]
  ·by_cases h2 : zv s true m e < 0
   ·simp [h2]
   ·rw [if_neg h2, if_neg h] at h1; simp at h1
theorem bl_le_of_lt {m k : Nat} (h : m < 2 ^ k) : bl m <= k := by
 rcases Nat.eq_zero_or_pos m with h0 | h0
 ·rw [h0, bl_zero]; omega
 ·have h3 := bl_spec (m := m) (by omega)
  rcases Nat.lt_or_ge k (bl m) with h4 | h4
  ·have : 2 ^ k <= 2 ^ (bl m - 1) := Nat.pow_le_pow_right (by omega) (by omega)
   omega
  ·exact h4
theorem lt_bl (m : Nat) : m < 2 ^ bl m := by
 rcases Nat.eq_zero_or_pos m with h0 | h0
 ·rw [h0]; exact Nat.two_pow_pos _
 ·exact (bl_spec (by omega)).2.1
theorem bl_mono {a b : Nat} (h : a <= b) : bl a <= bl b := bl_le_of_lt (Nat.lt_of_le_of_lt h (lt_bl b))
theorem bl_mul_pow (m k : Nat) : bl (m * 2 ^ k) <= bl m + k := by
 refine bl_le_of_lt ?_
 rw [Nat.pow_add]; exact Nat.mul_lt_mul_of_pos_right (lt_bl m) (Nat.two_pow_pos k)
theorem bl_add (a b : Nat) : bl (a + b) <= max (bl a) (bl b) + 1 := by
 refine bl_le_of_lt ?_
 have h1 := lt_bl a
 have h2 := lt_bl b
 have h3 : 2 ^ bl a <= 2 ^ max (bl a) (bl b) := Nat.pow_le_pow_right (by omega) (by omega)
 have h4 : 2 ^ bl b <= 2 ^ max (bl a) (bl b) := Nat.pow_le_pow_right (by omega) (by omega)
 rw [Nat.pow_succ]; omega
open Ieee
theorem rmag_inf {e : Nat} (he : e = 2046) : rmag infK = 4503599627370496 * 2 ^ e := by
 have h := rmag_form e 4503599627370496 (.inr (Nat.le_refl _)) (by omega)
 rw [show e * 4503599627370496 + 4503599627370496 = infK by unfold infK; omega] at h
 exact h
theorem or_field {s k f : Nat} (hs : s < 2) (hk : k < 2048) (hf : f < 4503599627370496) : (s * 9223372036854775808 + f) ||| (k * 4503599627370496) = s * 9223372036854775808 + k * 4503599627370496 + f := by
 have hp : (2 : Nat) ^ 52 = 4503599627370496 := by decide
 have h1 : ((s * 9223372036854775808 + f) ||| (k * 4503599627370496)) % 2 ^ 52 = f := by
  rw [Nat.or_mod_two_pow, hp, show (s * 9223372036854775808 + f) % 4503599627370496 = f by omega, show k * 4503599627370496 % 4503599627370496 = 0 by omega, Nat.or_zero]
 have h2 : ((s * 9223372036854775808 + f) ||| (k * 4503599627370496)) / 2 ^ 52 = s * 2048 + k := by
  rw [Nat.or_div_two_pow, hp, show (s * 9223372036854775808 + f) / 4503599627370496 = s * 2048 by omega, show k * 4503599627370496 / 4503599627370496 = k by omega]
  have := Nat.two_pow_add_eq_or_of_lt (i := 11) (b := k) (by omega) s
  rw [show (2 : Nat) ^ 11 = 2048 by decide] at this
  rw [Nat.mul_comm]
  omega
 rw [hp] at h1 h2
 omega
theorem and_2047 {y : Nat} : y &&& 2047 = y % 2048 := by
 have := Nat.and_two_pow_sub_one_eq_mod y 11
 rw [show (2 : Nat) ^ 11 - 1 = 2047 by decide, show (2 : Nat) ^ 11 = 2048 by decide] at this
 exact this
structure Norm (x y ee Eb f : Nat) : Prop where
 lt : y < 18446744073709551616
 sgn : fneg y = fneg x
 word : frung y = Eb * 4503599627370496 + f
 eb0 : 1 <= Eb
 eb1 : Eb <= 2046
 f1 : f < 4503599627370496
 val : rmag (frung x) * 2 ^ ee = (4503599627370496 + f) * 2 ^ (Eb - 1)
 e52 : ee = 0 \/ ee = 52
theorem norm_frac {x y ee Eb f : Nat} (h : Norm x y ee Eb f) (n X : Int) (hX : X = n - ee + Eb - 1) :
  ((4503599627370496 + f) * 2 ^ X.toNat) * 2 ^ (-n).toNat = (rmag (frung x) * 2 ^ n.toNat) * 2 ^ (-X).toNat := by
 have hv := h.val
 have he := h.eb0
 refine Nat.eq_of_mul_eq_mul_right (Nat.two_pow_pos ee) ?_
 rw [show rmag (frung x) * 2 ^ n.toNat * 2 ^ (-X).toNat * 2 ^ ee = (rmag (frung x) * 2 ^ ee) * (2 ^ n.toNat * 2 ^ (-X).toNat) by
  rw [Nat.mul_assoc, Nat.mul_assoc, Nat.mul_assoc]; congr 1; rw [<- Nat.mul_assoc, Nat.mul_comm]]
 rw [hv, Nat.mul_assoc, Nat.mul_assoc, Nat.mul_assoc, <- Nat.pow_add, <- Nat.pow_add, <- Nat.pow_add, <- Nat.pow_add]
 congr 2
 omega
def Pow (x : Nat) (n : Int) (r : Nat) : Prop := Rn (fneg x) (rmag (frung x) * 2 ^ n.toNat) (2 ^ (-n).toNat) r
theorem Pow.of {x y ee Eb f : Nat} (h : Norm x y ee Eb f) {n X : Int} (hX : X = n - ee + Eb - 1) {r : Nat} (hr : Rn (fneg x) ((4503599627370496 + f) * 2 ^ X.toNat) (2 ^ (-X).toNat) r) : Pow x n r :=
 hr.of_eq (Nat.two_pow_pos _) (Nat.two_pow_pos _) (norm_frac h n X hX)
theorem pow_zero {x : Nat} (hx : x < 18446744073709551616) (h : frung x = 0) (n : Int) : Pow x n x := by
 unfold Pow
 rw [h, rmag_zero, Nat.zero_mul]
 have := Rn.exact (fneg x) 0 (2 ^ (-n).toNat) (Nat.two_pow_pos _)
 rw [rmag_zero, Nat.zero_mul, Nat.zero_min] at this
 have e := word_parts hx
 rw [h] at e
 rw [<- e] at this
 exact this
end Go.Proofs.YthmhgpadinecfaaGreat
namespace Go.Proofs.YthmhgpadinecfaaGreat
theorem plain_canon {r : Nat} (hr : r < 18446744073709551616) (hf : Fin r) : plainM r = sgnK (decide (fval r < 0)) (frung r) := by
 have h := word_parts hr
 have hp := plain_word (neg := fneg r) (k := frung r) hf
 rw [<- h] at hp
 rw [hp]
 by_cases h0 : frung r = 0
 ·rw [h0]; unfold sgnK; simp
 ·congr 1
  have hpos := frung_pos_rmag h0
  unfold fval
  cases fneg r
  ·simp only [Bool.false_eq_true, if_false]; exact (decide_eq_false (by omega)).symm
  ·simp only [if_true]; exact (decide_eq_true (by omega)).symm
theorem canon_rnd {d : Int} {r D : Nat} {p : Nat × Bool} (hr : r < 18446744073709551616) (hf : Fin r) (hD : 0 < D) (hd : d = 0 \/ d = 1 \/ d = 2) (h : RndZ d (fval r * D) D p) : p = (plainM r, true) := by
 have hD' : (0 : Int) < D := by omega
 unfold RndZ at h
 have hs : decide (fval r * D < 0) = decide (fval r < 0) := by
  by_cases c : fval r < 0
  ·rw [decide_eq_true c]; exact decide_eq_true (Int.mul_neg_of_neg_of_pos c hD')
  ·rw [decide_eq_false c]; exact decide_eq_false (by have := Int.mul_nonneg (show 0 <= fval r by omega) (show (0 : Int) <= D by omega); omega)
 rw [hs, Int.natAbs_mul, fval_abs, Int.natAbs_natCast] at h
 rw [rnd_exact hf h, if_pos hd, plain_canon hr hf]
open Ieee
end Go.Proofs.YthmhgpadinecfaaGreat
namespace Go.Proofs.YthmhgpadinecfaaGreat
def Canon (x : Nat) : Prop := x = sgnK (decide (srung x < 0)) (srung x).natAbs
theorem sgn_canon (neg : Bool) {k : Nat} (h : k < infK) : Canon (sgnK neg k) := by
 unfold Canon
 rw [srung_sgn neg h]
 by_cases h0 : k = 0
 ·subst h0; cases neg <;> rfl
 ·cases neg
  ·simp only [Bool.false_eq_true, if_false]
   rw [show decide ((k : Int) < 0) = false from decide_eq_false (by omega), Int.natAbs_natCast]
  ·simp only [if_true]
   rw [show decide (-(k : Int) < 0) = true from decide_eq_true (by omega), Int.natAbs_neg, Int.natAbs_natCast]
theorem rz_canon {d : Int} {V : Int} {D : Nat} {p : Nat × Bool} (h : RndZ d V D p) : Fin p.1 /\ p.1 < 18446744073709551616 /\ Canon p.1 := by
 refine ⟨(tell_fin h).1, (tell_fin h).2, ?_⟩
 obtain ⟨R, hR, rfl⟩ := h
 have h0 : Canon 0 := by unfold Canon; decide
 have hi : 0 < infK := by decide
 unfold tellK
 split
 ·split
  ·exact sgn_canon _ (by assumption)
  ·exact h0
 ·split
  ·split
   ·exact sgn_canon _ (by assumption)
   ·exact h0
  ·split
   ·exact sgn_canon _ (by omega)
   ·exact h0
structure RndB (d V : Int) (D : Nat) (p : Nat × Bool) : Prop where
 rnd : ∃ q, RndZ d V D q /\ p.2 = q.2 /\ (p.2 = true -> p.1 = q.1)
 fin : Fin p.1
 lt : p.1 < 18446744073709551616
 can : Canon p.1
theorem RndZ.b {d V : Int} {D : Nat} {p : Nat × Bool} (h : RndZ d V D p) : RndB d V D p :=
 ⟨⟨p, h, rfl, fun _ => rfl⟩, (rz_canon h).1, (rz_canon h).2.1, (rz_canon h).2.2⟩
theorem RndZ.exact {d : Int} {r : Nat} {p : Nat × Bool} (hr : r < 18446744073709551616) (hf : Fin r) (hd : d = 0 \/ d = 1 \/ d = 2) (h : RndZ d (fval r) 1 p) : p = (plainM r, true) :=
 canon_rnd (D := 1) hr hf (by decide) hd (by rw [show ((1 : Nat) : Int) = 1 from rfl, Int.mul_one]; exact h)
open Go.RowKit
theorem call_bits (u : Nat) (w : World) : (callFunc 71 #[.float .f64 u]).run Tryz.prog w = .ok (.value (.int .u64 u)) w := by kernel_rfl
structure RdF (w : World) (ao : Option Addr) (len cap : Nat) (us : List Nat) : Prop where
 length : us.length = len
 max : len <= maxLen
 lt : ∀ u ∈ us, u < 18446744073709551616
 cells : len = 0 \/ ∃ b off, ao = some ⟨b, off, none⟩ /\ ∀ j, j < len -> w.cell? ⟨b, off + j, none⟩ = some (.float .f64 (us[j]?.getD 0))
theorem RdF.later {w w' : World} {ao : Option Addr} {len cap : Nat} {us : List Nat} (h : RdF w ao len cap us) (hb : Below w.heap.size w w') : RdF w' ao len cap us := by
 refine ⟨h.length, h.max, h.lt, ?_⟩
 rcases h.cells with h0 | ⟨b, off, ha, hc⟩
 ·exact .inl h0
 ·refine .inr ⟨b, off, ha, fun j hj => ?_⟩
  have hlt := World.block_lt_of_cell? w _ (hc j hj)
  rw [hb.cell (p := ⟨b, off + j, none⟩) hlt]
  exact hc j hj
theorem getD_mem {us : List Nat} {j : Nat} (h : j < us.length) : us[j]?.getD 0 ∈ us := by
 rw [List.getElem?_eq_getElem h]; exact List.getElem_mem h
def numsB (us : List Nat) : Bool := us.all fun u => decide (Fin u)
theorem maxLen_le : maxLen <= 9223372036854775807 := by decide
theorem cellAtJ {W : World} {B : Nat} {c : Array Value} {t : TypeId} (h : W.heap[B]? = some (.cells c t)) (o : Nat) (v : Value) (hv : c[o]? = some v) : W.cell? ⟨B, o, none⟩ = some v := (cell_of_row _ _ o _ _ _ h).trans hv
structure RdIs (w : World) (ao : Option Addr) (len cap : Nat) (is : List Int) : Prop where
 length : is.length = len
 max : len <= maxLen
 cells : len = 0 \/ ∃ b off, ao = some ⟨b, off, none⟩ /\ ∀ j, j < len -> w.cell? ⟨b, off + j, none⟩ = some (.int .i64 (is[j]?.getD 0))
theorem RdIs.later {w w' : World} {ao : Option Addr} {len cap : Nat} {is : List Int} (h : RdIs w ao len cap is) (hb : Below w.heap.size w w') : RdIs w' ao len cap is := by
 refine ⟨h.length, h.max, ?_⟩
 rcases h.cells with h0 | ⟨b, off, ha, hc⟩
 ·exact .inl h0
 ·refine .inr ⟨b, off, ha, fun j hj => ?_⟩
  rw [hb.cell (p := ⟨b, off + j, none⟩) (World.block_lt_of_cell? w _ (hc j hj))]
  exact hc j hj
structure RdGs (w : World) (ao : Option Addr) (len cap : Nat) (gv : Nat -> Option Addr × Nat × Nat) (gs : List (List Nat)) : Prop where
 length : gs.length = len
 max : len <= maxLen
 cells : len = 0 \/ ∃ b off, ao = some ⟨b, off, none⟩ /\ ∀ j, j < len -> w.cell? ⟨b, off + j, none⟩ = some (.slice (gv j).1 (gv j).2.1 (gv j).2.2)
 each : ∀ j, j < len -> RdF w (gv j).1 (gv j).2.1 (gv j).2.2 (gs[j]?.getD [])
theorem RdGs.later {w w' : World} {ao : Option Addr} {len cap : Nat} {gv : Nat -> Option Addr × Nat × Nat} {gs : List (List Nat)} (h : RdGs w ao len cap gv gs) (hb : Below w.heap.size w w') : RdGs w' ao len cap gv gs := by
 refine ⟨h.length, h.max, ?_, fun j hj => (h.each j hj).later hb⟩
 rcases h.cells with h0 | ⟨b, off, ha, hc⟩
 ·exact .inl h0
 ·refine .inr ⟨b, off, ha, fun j hj => ?_⟩
  rw [hb.cell (p := ⟨b, off + j, none⟩) (World.block_lt_of_cell? w _ (hc j hj))]
  exact hc j hj
structure ZD where
 N : Int
 co : Option Addr
 cn : Nat
 cc : Nat
 io : Option Addr
 dn : Nat
 dc : Nat
 go : Option Addr
 gn : Nat
 gc : Nat
 ro : Option Addr
 rn : Nat
 rc : Nat
 bad : Bool
 cs : List Nat
 ids : List Int
 gv : Nat -> Option Addr × Nat × Nat
 gs : List (List Nat)
 rs : List Nat
structure ZR (w : World) (z : ZD) : Prop where
 c : RdF w z.co z.cn z.cc z.cs
 i : RdIs w z.io z.dn z.dc z.ids
 g : RdGs w z.go z.gn z.gc z.gv z.gs
 r : RdF w z.ro z.rn z.rc z.rs
theorem ZR.later {w w' : World} {z : ZD} (h : ZR w z) (hb : Below w.heap.size w w') : ZR w' z := ⟨h.c.later hb, h.i.later hb, h.g.later hb, h.r.later hb⟩
def numN (us : List Nat) (n : Int) : Bool := decide ((us.length : Int) = n) && numsB us
open Go.RowKit Go.Shelf
def bareB (z : ZD) : Bool := decide (0 <= z.N) && decide (z.N <= 256) && decide (z.cn = 0) && decide (z.dn = 0) && decide (z.gn = 0) && decide (z.rn = 0)
attribute [local go_sem] Oper.semAt_some
def idZ (z : ZD) (k : _root_.Fin z.dn) : Int := z.ids[k.val]?.getD 0
def colOk (z : ZD) (last : Int) (k : _root_.Fin z.dn) : Bool := decide (last < idZ z k) && decide (idZ z k <= 1073741824) && numN (z.gs[k.val]?.getD []) z.N
def colsB (z : ZD) : Int -> List (_root_.Fin z.dn) -> Bool
 | _, [] => true
 | last, k :: ks => colOk z last k && colsB z (idZ z k) ks
def posB (rs : List Nat) : Bool := rs.all fun u => decide (¬ srung u < 0)
def wholeB (z : ZD) : Bool := decide (1 <= z.N) && decide (z.N <= 256) && numN z.cs z.N && numN z.rs z.N && decide (z.dn = z.gn) && posB z.rs && colsB z (-1) (List.finRange z.dn)
end Go.Proofs.YthmhgpadinecfaaGreat
namespace Go.Proofs.YthmhgpadinecfaaGreat
open Go.RowKit
def checkB (z : ZD) : Bool := if z.bad then bareB z else wholeB z
theorem cells6 {W : World} {B : Nat} {v0 v1 v2 v3 v4 v5 : Value} {t : TypeId} (h : W.heap[B]? = some (.cells #[v0, v1, v2, v3, v4, v5] t)) :
  W.cell? ⟨B, 0, none⟩ = some v0 /\ W.cell? ⟨B, 1, none⟩ = some v1 /\ W.cell? ⟨B, 2, none⟩ = some v2 /\ W.cell? ⟨B, 3, none⟩ = some v3 /\ W.cell? ⟨B, 4, none⟩ = some v4 /\ W.cell? ⟨B, 5, none⟩ = some v5 :=
 ⟨cellAtJ h 0 _ rfl, cellAtJ h 1 _ rfl, cellAtJ h 2 _ rfl, cellAtJ h 3 _ rfl, cellAtJ h 4 _ rfl, cellAtJ h 5 _ rfl⟩
theorem blk_lt {w : World} {B : Nat} {o : Obj} (h : w.heap[B]? = some o) : B < w.heap.size := (Array.getElem?_eq_some_iff.1 h).1
theorem kept {X w1 : World} {B : Nat} {o : Obj} (hb : Below X.heap.size X w1) (h : X.heap[B]? = some o) : w1.heap[B]? = some o := (hb.block B (blk_lt h)).trans h
theorem alloc_kept {w : World} {B : Nat} {o : Obj} (h : w.heap[B]? = some o) (o' : Obj) : (w.alloc o').heap[B]? = some o := by rw [Below.heap_alloc w o' B (blk_lt h)]; exact h
theorem alloc_size (w : World) (o : Obj) : (w.alloc o).heap.size = w.heap.size + 1 := Array.size_push ..
theorem cells3 {W : World} {B : Nat} {v0 v1 v2 : Value} {t : TypeId} (h : W.heap[B]? = some (.cells #[v0, v1, v2] t)) :
  W.cell? ⟨B, 0, none⟩ = some v0 /\ W.cell? ⟨B, 1, none⟩ = some v1 /\ W.cell? ⟨B, 2, none⟩ = some v2 :=
 ⟨cell_of_row _ _ 0 _ _ _ h, cell_of_row _ _ 1 _ _ _ h, cell_of_row _ _ 2 _ _ _ h⟩
theorem wpList_store_row {P : Program} {ops : Array Oper} {rest : List Oper} {op : Oper} {a : Act} {w : World} {Q : Exit -> Act -> World -> Prop} (hgd : op.guard = none) (ty : TypeId) (x y : Operand) (ho : op.op = .store ty x y)
  (w0 : World) (base B : Nat) (c cur : Array Value) (hx : a.eval x = .pointer (some ⟨B, 0, none⟩)) (hy : a.eval y = .agg c) (hB : w.heap[B]? = some (.cells cur ty)) (hb : Below base w0 w) (hbB : base <= B)
  (n : Nat) (hi : (P.info? ty).map (·.size) = some n) (hn : c.size = n) (hc : cur.size = n) (h1 : c.all (·.oneCell') = true)
  (h : ∀ W, W.heap[B]? = some (.cells c ty) -> Below base w0 W -> W.heap.size = w.heap.size -> (∀ k, k ≠ B -> W.heap[k]? = w.heap[k]?) -> wpList P ops Q rest (a.put op.dst undef) W) : wpList P ops Q (op :: rest) a w := by
 refine wpList_plain hgd fun K hK => ?_
 have hs := run_storeVar_row (P := P) _ _ ty ty cur c hB (hn ▸ hi) (hc.trans hn.symm) h1
 unfold Oper.wp execOp
 simp only [ho, hx, hy, Instr.storeAt, Instr.sureAddr, Sem.run_bind, Sem.run_pure, Result.andThen_ok, hs]
 exact hK _ _ (h _ (setRow_heap w B _ _ ty _ hB) (below_setRow hb hbB _) (by simp [World.setRow]) (fun k hk => setRow_other w B k _ hk))
theorem wpList_store_at {P : Program} {ops : Array Oper} {rest : List Oper} {op : Oper} {a : Act} {w : World} {Q : Exit -> Act -> World -> Prop} (hgd : op.guard = none) (ty : TypeId) (x y : Operand) (ho : op.op = .store ty x y)
  (w0 : World) (base B o : Nat) (v : Value) (cur c : Array Value) (t : TypeId) (hx : a.eval x = .pointer (some ⟨B, o, none⟩)) (hy : a.eval y = v) (hB : w.heap[B]? = some (.cells cur t)) (hb : Below base w0 w) (hbB : base <= B)
  (n : Nat) (hi : (P.info? ty).map (·.size) = some n) (hn : v.cells.size = n) (hl : o + n <= cur.size) (h1 : ∀ u ∈ v.cells.toList, u.oneCell' = true)
  (hc : (cur.toList.take o ++ v.cells.toList ++ cur.toList.drop (o + n)).toArray = c)
  (h : ∀ W, W.heap[B]? = some (.cells c t) -> Below base w0 W -> W.heap.size = w.heap.size -> (∀ k, k ≠ B -> W.heap[k]? = w.heap[k]?) -> wpList P ops Q rest (a.put op.dst undef) W) : wpList P ops Q (op :: rest) a w := by
 refine wpList_plain hgd fun K hK => ?_
 have hs := run_storeCells_at (P := P) B o t v.cells.toList 0 cur w hB (by simp [hn]; omega) h1
 simp only [Nat.add_zero, Array.length_toList, hn] at hs
 rw [hc] at hs
 have hs2 : (storeVar ty ⟨B, o, none⟩ v).run P w = .ok () (w.setRow B c) := by
  cases hq : P.info? ty with
  | none => simp [hq] at hi
  | some i =>
   have hz : v.cells.size = i.size := by simp [hq] at hi; omega
   simp [storeVar, sizeOf, typeInfo, hq, hz, hs]
 unfold Oper.wp execOp
 simp only [ho, hx, hy, Instr.storeAt, Instr.sureAddr, Sem.run_bind, Sem.run_pure, Result.andThen_ok, hs2]
 exact hK _ _ (h _ (setRow_heap w B _ _ t _ hB) (below_setRow hb hbB _) (by simp [World.setRow]) (fun k hk => setRow_other w B k _ hk))
theorem wpList_load_row {P : Program} {ops : Array Oper} {rest : List Oper} {op : Oper} {a : Act} {w : World} {Q : Exit -> Act -> World -> Prop} (hgd : op.guard = none) (ty : TypeId) (x : Operand) (ho : op.op = .load ty x)
  (B : Nat) (c : Array Value) (hx : a.eval x = .pointer (some ⟨B, 0, none⟩)) (hB : w.heap[B]? = some (.cells c ty)) (d : TypeDesc) (hu : P.underlying ty = some d) (hd : d.isRow = true)
  (n : Nat) (hi : (P.info? ty).map (·.size) = some n) (hn : c.size = n)
  (h : wpList P ops Q rest (a.put op.dst (.agg c)) w) : wpList P ops Q (op :: rest) a w := by
 have hr : w.rangeAt B 0 c.toList := by
  have := World.rangeAt_of_block hB 0 c.size
  simpa using this
 refine wpList_load_mid hgd ty x ho B 0 hx c.toList d hr hu hd (by simpa [hn] using hi) ?_
 simpa using h
theorem hopV {P : Program} {ops : Array Oper} {Q : Exit -> Act -> World -> Prop} {i : Nat} {o : Oper} {K : Act -> World -> Prop} {a : Act} {w w' : World} (d : Nat) {v : Value} (ho : ops[i]? = some o) (hg : o.guard = none) (hd : o.dst = some d) (hr : (execOp a.eval o).run P w = .ok (.value v) w') (h : K (a.put (some d) v) w') : wpOp P ops Q i K a w :=
 wpOp_step ho fun K' hK => by
  rw [if_pos (by simp [Region.wanted, hg])]
  unfold Oper.wp
  rw [hr]
  rw [<- hd] at h
  exact hK _ _ h
theorem hopCd {P : Program} {ops : Array Oper} {Q : Exit -> Act -> World -> Prop} {i : Nat} {o : Oper} {K : Act -> World -> Prop} {a : Act} {w : World} {f : FuncId} {args : Array Value} (d : Nat) (ho : ops[i]? = some o) (hw : Region.wanted o (yielded ops a.tmps) = true) (hd : o.dst = some d) (hr : (execOp a.eval o).run P w = .ok (.enter f args) w) (hc : Calls P f args w fun e w'' => ∃ v, e = .returned v /\ K (a.put (some d) v) w'') : wpOp P ops Q i K a w :=
 wpOp_step ho fun K' hK => by
  rw [if_pos hw]
  unfold Oper.wp
  rw [hr, Oper.upon_enter]
  refine Calls.mono hc ?_
  rintro e w'' ⟨v, rfl, h⟩
  rw [<- hd] at h
  exact hK _ _ h
theorem consH {P : Program} {md : Region.Mode} {ops : Array Oper} {Q : Exit -> Act -> World -> Prop} {S : World -> Prop} {fuel : Nat} {listed : Array Bool} {a : Act} {w : World} {i : Nat} {rs : List Nat} (l' : Array Bool) (hl : listed.setIfInBounds i true = l')
  (h : wpOp P ops Q i (fun a' w' => S w' /\ wpAnyH P md ops Q S fuel l' a' w') a w) (hs : AllReadyH P md ops Q S fuel listed a w rs) : AllReadyH P md ops Q S fuel listed a w (i :: rs) := by
 subst hl
 intro j hj
 rcases List.mem_cons.1 hj with rfl | hj
 ·exact h
 ·exact hs j hj
theorem takeH {P : Program} {md : Region.Mode} {ops : Array Oper} {Q : Exit -> Act -> World -> Prop} {S : World -> Prop} (d : Nat) {i : Nat} {oi : Oper} {v : Value} {fuel : Nat} {listed : Array Bool} {a : Act} {w : World} (hi : ops[i]? = some oi) (hd : oi.dst = some d)
  (hs : Region.noSelect ops = true) (hf : Region.free md ops listed i = true) (hr : (Region.ready md ops listed).contains i = true)
  (hQ : ∀ c a w, Q (.panic c) (a.put (some d) v) w -> Q (.panic c) a w) (hy : YieldsIf P ops S oi v a) (hS : S w)
  (h : wpAnyH P md ops Q S fuel (listed.setIfInBounds i true) (a.put (some d) v) w) : wpAnyH P md ops Q S (fuel + 1) listed a w :=
 wpAnyH_take hi hs hf hr (by rw [hd]; exact hQ) hy hS (by rw [hd]; exact h)
theorem tzH {P : Program} {md : Region.Mode} {ops : Array Oper} {Q : Exit -> Act -> World -> Prop} {S : World -> Prop} (d i : Nat) (v : Value) {oi : Oper} {fuel : Nat} {listed : Array Bool} {a : Act} {w : World} (hy : YieldsIf P ops S oi v a) (hS : S w) (h : wpAnyH P md ops Q S fuel (listed.setIfInBounds i true) (a.put (some d) v) w)
    (hi : ops[i]? = some oi := by rfl) (hd : oi.dst = some d := by rfl) (hs : Region.noSelect ops = true := by kernel_rfl) (hf : Region.free md ops listed i = true := by kernel_rfl) (hr : (Region.ready md ops listed).contains i = true := by kernel_rfl) (hQ : ∀ c a w, Q (.panic c) (a.put (some d) v) w -> Q (.panic c) a w := by exact fun _ _ _ h => h) : wpAnyH P md ops Q S (fuel + 1) listed a w := takeH d hi hd hs hf hr hQ hy hS h
theorem tzI {P : Program} {md : Region.Mode} {ops : Array Oper} {Q : Exit -> Act -> World -> Prop} {S : World -> Prop} (d i : Nat) (v : Value) {oi : Oper} {fuel : Nat} {listed : Array Bool} {a : Act} {w : World} (hz : ∀ w, S w -> (execOp a.eval oi).run P w = .ok (.value v) w) (hS : S w) (h : wpAnyH P md ops Q S fuel (listed.setIfInBounds i true) (a.put (some d) v) w)
    (hi : ops[i]? = some oi := by rfl) (hd : oi.dst = some d := by rfl) (hs : Region.noSelect ops = true := by kernel_rfl) (hf : Region.free md ops listed i = true := by kernel_rfl) (hr : (Region.ready md ops listed).contains i = true := by kernel_rfl) (hQ : ∀ c a w, Q (.panic c) (a.put (some d) v) w -> Q (.panic c) a w := by exact fun _ _ _ h => h) (hw : Region.wanted oi (yielded ops a.tmps) = true := by kernel_rfl) : wpAnyH P md ops Q S (fuel + 1) listed a w := takeH d hi hd hs hf hr hQ (Or.inl ⟨hw, hz⟩) hS h
theorem rzH {P : Program} {md : Region.Mode} {ops : Array Oper} {Q : Exit -> Act -> World -> Prop} {S : World -> Prop} (rs : List Nat) {fuel : Nat} {listed : Array Bool} {a : Act} {w : World} (h : AllReadyH P md ops Q S fuel listed a w rs) (hr : Region.ready md ops listed = rs := by kernel_rfl) (hne : rs ≠ [] := by simp) : wpAnyH P md ops Q S (fuel + 1) listed a w := wpAnyH_ready hr hne h
theorem hzC {P : Program} {ops : Array Oper} {Q : Exit -> Act -> World -> Prop} {i : Nat} {o : Oper} {K : Act -> World -> Prop} {a : Act} {w : World} {f : FuncId} {args : Array Value} (d : Nat) (hc : Calls P f args w fun e w'' => ∃ v, e = .returned v /\ K (a.put (some d) v) w'') (ho : ops[i]? = some o := by rfl) (hw : Region.wanted o (yielded ops a.tmps) = true := by kernel_rfl) (hd : o.dst = some d := by rfl) (hr : (execOp a.eval o).run P w = .ok (.enter f args) w := by kernel_rfl) : wpOp P ops Q i K a w := hopCd d ho hw hd hr hc
def QK (Q : Exit -> Act -> World -> Prop) (K : Act -> World -> Prop) : Exit -> Act -> World -> Prop
 | .normal => K
 | .exit i => Q (.exit i)
 | .goto l => Q (.goto l)
 | .ret => Q .ret
 | .panic c => Q (.panic c)
 | .outgrown => Q .outgrown
theorem upon_QK {P : Program} {o : Oper} {a : Act} {next : Act -> World -> Prop} {Q : Exit -> Act -> World -> Prop} {K : Act -> World -> Prop} (r : Result Next) (h : o.upon P a next (QK Q K) r) : o.upon P a next Q r := by
 cases r with
 | ok n w => cases n <;> exact h
 | halt s w => cases s <;> exact h
theorem hopL {P : Program} {ops : Array Oper} {Q : Exit -> Act -> World -> Prop} {i : Nat} {o : Oper} {K : Act -> World -> Prop} {a : Act} {w : World} (ho : ops[i]? = some o) (h : wpList P ops (QK Q K) [o] a w) : wpOp P ops Q i K a w := by
 unfold wpOp
 rw [ho]
 unfold wpList at h
 show if Region.wanted o (yielded ops a.tmps) = true then _ else _
 split
 ·rename_i hw
  rw [if_pos hw] at h
  rcases h with h | h
  ·exact .inl (upon_QK _ h)
  ·exact .inr ⟨h.1, h.2⟩
 ·rename_i hw
  rw [if_neg hw] at h
  exact h
theorem ex_alloc {P : Program} {ρ : Operand -> Value} (o : Oper) (t : TypeId) (ho : o.op = .alloc t) (v : Value) (w w' : World) (h : (Instr.alloc t true (.tuple #[])).run P w = .ok v w') : (execOp ρ o).run P w = .ok (.value v) w' := by
 unfold execOp
 simp only [ho, h, Sem.run_bind, Sem.run_pure, Result.andThen_ok]
theorem oneZ (N : Int) (a b c d : Value) (h1 : a.oneCell' = true) (h2 : b.oneCell' = true) (h3 : c.oneCell' = true) (h4 : d.oneCell' = true) (x : Bool) : (#[.int .i64 N, a, b, c, d, .bool x] : Array Value).all (·.oneCell') = true := by
 simp only [Array.all_eq_true_iff_forall_mem]
 intro v hv
 simp only [List.mem_toArray, List.mem_cons, List.not_mem_nil, or_false] at hv
 rcases hv with rfl | rfl | rfl | rfl | rfl | rfl <;> first | rfl | assumption
theorem res_oneJ (f : Func) (i : Nat) (ty : TypeId) (hf : f.results = #[ResultVar.cell i ty]) (tmps : Array Value) (W : World) (B : Nat) (c : Array Value) (hp : tmps[i]? = some (.pointer (some ⟨B, 0, none⟩)))
  (d : TypeDesc) (hu : Tryz.prog.underlying ty = some d) (hd : d.isRow = true) (n : Nat) (hi : (Tryz.prog.info? ty).map (·.size) = some n) (hc : c.size = n) (h : W.heap[B]? = some (.cells c ty)) : (results f tmps).run Tryz.prog W = .ok (.agg c) W := by
 have hr : W.rangeAt B 0 c.toList := by
  have := World.rangeAt_of_block h 0 c.size
  simpa using this
 have hl := run_loadVar_mid (P := Tryz.prog) W B 0 ty c.toList d hr hu hd (by rw [hi]; simp [hc])
 have hl2 : (loadVar ty ⟨B, 0, none⟩).run Tryz.prog W = .ok (.agg c) W := by simpa using hl
 simp [results, hf, hp, hl2, asAddr]
theorem Tryz.infoU32 : (Tryz.prog.info? 119).map (fun i => (i.zero, i.size, i.bytes)) = some (some (.int .u32 0), 1, 4) := by kernel_rfl
theorem Tryz.elemU32 : Tryz.prog.elem 63 = 119 := by kernel_rfl
theorem Tryz.sizeU32 (w : World) : (sizeOf 119).run Tryz.prog w = .ok 1 w := by kernel_rfl
structure Rd4 (w : World) (ao : Option Addr) (len cap : Nat) (xs : List Nat) : Prop where
 length : xs.length = len
 le : len <= cap
 max : cap <= 1000000
 lt : U4 xs
 nil : ao = none -> cap = 0
 cells : len = 0 \/ ∃ b off, ao = some ⟨b, off, none⟩ /\ ∀ j, j < len -> w.cell? ⟨b, off + j, none⟩ = some (.int .u32 ((xs[j]?.getD 0 : Nat) : Int))
theorem Rd4.later {w w' : World} {ao : Option Addr} {len cap : Nat} {xs : List Nat} (h : Rd4 w ao len cap xs) (hb : Below w.heap.size w w') : Rd4 w' ao len cap xs := by
 refine ⟨h.length, h.le, h.max, h.lt, h.nil, ?_⟩
 rcases h.cells with h0 | ⟨b, off, ha, hc⟩
 ·exact .inl h0
 ·refine .inr ⟨b, off, ha, fun j hj => ?_⟩
  have hl := World.block_lt_of_cell? w _ (hc j hj)
  rw [hb.cell (p := ⟨b, off + j, none⟩) hl]
  exact hc j hj
theorem Rd4.none (w : World) : Rd4 w none 0 0 [] := ⟨rfl, Nat.le_refl _, by decide, (fun _ h => by cases h), fun _ => rfl, .inl rfl⟩
theorem Rd4.cut {W : World} {ao : Option Addr} {len cap : Nat} {xs : List Nat} (hr : Rd4 W ao len cap xs) (q : Nat) (hq : q <= len) :
  Rd4 W (if cap = 0 then ao else ao.map (·.add (0 * 1))) q cap (xs.take q) := by
 have hl := hr.length
 refine ⟨by simp [hl]; omega, by have := hr.le; omega, hr.max, hr.lt.take q, ?_, ?_⟩
 ·intro h
  split at h
  ·assumption
  ·cases ao with
   | none => exact hr.nil rfl
   | some a => simp at h
 ·by_cases h0 : q = 0
  ·exact .inl h0
  ·right
   rcases hr.cells with h1 | ⟨b, off, rfl, hc⟩
   ·omega
   ·refine ⟨b, off, ?_, fun j hj => ?_⟩
    ·have := hr.le; rw [if_neg (by omega), Option.map_some, Addr.add_lit, Nat.zero_mul, Nat.add_zero]
    ·rw [hc j (by omega), List.getElem?_take, if_pos (by omega)]
theorem cut4 {W : World} {ao : Option Addr} {len cap : Nat} {xs : List Nat} (hr : Rd4 W ao len cap xs) (q : Nat) (hq : q <= len) :
  ∃ ao', (∀ w, (Instr.slice 63 (.slice ao len cap) none (some (.int .i64 q)) none).run Tryz.prog w = .ok (.slice ao' q cap) w) /\ Rd4 W ao' q cap (xs.take q) := by
 refine ⟨_, fun w => ?_, hr.cut q hq⟩
 have hle := hr.le
 rw [run_slice_h w _ _ _ _ (by rw [Tryz.elemU32]; exact Tryz.underlying63) .i64 q (by omega) (by omega), Tryz.elemU32, Tryz.sizeU32]
 simp [Result.andThen, sliced]
theorem trim_any (ao : Option Addr) (len cap : Nat) (xs : List Nat) (w : World) (hr : Rd4 w ao len cap xs) :
  Calls Tryz.prog 76 #[.slice ao len cap] w fun e w' => ∃ ao' n, e = .returned (.slice ao' n cap) /\ w' = w /\ Rd4 w ao' n cap (xs.take n) /\ n <= len /\ Nm (xs.take n) /\ dig (xs.take n) = dig xs := by
 have HR : Hid _ := hr
 have HL : Hid (xs.length = len) := hr.length
 have hle := hr.le
 have hmx := hr.max
 have hcl := hr.cells
 have HLT : Hid (U4 xs) := hr.lt
 clear hr
 go_enter Tryz.func76, Tryz.ntmps76
 go_wp2_with fail
 go_loop [3] (fun i => ∃ k : Nat, k <= len /\ i = .int .i64 k /\ Hid (dig (xs.take k) = dig xs)) (fun i => (intOf i).toNat)
 case atStart => exact ⟨len, by omega, rfl, by unfold Hid; rw [<- HL.out, List.take_length]⟩
 case round =>
  obtain ⟨k, hk, rfl, hD⟩ := hrel
  cases k with
  | zero =>
   obtain ⟨ao', hcut, hr'⟩ := cut4 HR.out 0 (by omega)
   have HR' : Hid _ := hr'
   clear hr'
   have hz : ((0 : Nat) : Int) = 0 := rfl
   rw [hz] at hcut ⊢
   go_wp2
   go_ret
   exact ⟨ao', 0, rfl, rfl, HR'.out, by omega, .inl (by simp), hD.out⟩
  | succ k =>
   rcases hcl with h0 | ⟨b, off, rfl, hc⟩
   ·omega
   have g := hc k (by omega)
   have hkl : k < xs.length := by rw [HL.out]; omega
   have hlt := HLT.out.at k
   have HDS : Hid _ := dig_take_succ hkl
   have HX : Hid (xs[k]?.getD 0 = (xs.take (k + 1))[(xs.take (k + 1)).length - 1]?.getD 0) := by
    unfold Hid; rw [List.length_take, Nat.min_eq_left (by omega), show k + 1 - 1 = k from rfl, List.getElem?_take, if_pos (by omega)]
   obtain ⟨ao', hcut, hr'⟩ := cut4 HR.out (k + 1) (by omega)
   have HR' : Hid _ := hr'
   clear hr' hc hkl
   have hz : ((k + 1 : Nat) : Int) = (k : Int) + 1 := rfl
   rw [hz] at hcut ⊢
   by_cases hx : xs[k]?.getD 0 = 0
   ·rw [hx] at g
    have g' : w.cell? ⟨b, off + k, none⟩ = some (.int .u32 0) := g
    clear g hcut
    go_wp2
    go_round
    case rel => exact ⟨k, by omega, by go_num, by unfold Hid; have h1 := HDS.out; have h2 := hD.out; rw [hx, Nat.mul_zero] at h1; omega⟩
    case measure => show ((k : Int)).toNat < ((k : Int) + 1).toNat; omega
   ·generalize hxe : xs[k]?.getD 0 = x at *
    go_wp2
    go_ret
    exact ⟨ao', k + 1, rfl, rfl, HR'.out, by omega, .inr (by rw [<- HX.out]; exact hx), hD.out⟩
theorem length_any (ao : Option Addr) (len cap : Nat) (xs : List Nat) (w : World) (hr : Rd4 w ao len cap xs) (hn : Nm xs) :
  Calls Tryz.prog 52 #[.slice ao len cap] w fun e w' => e = .returned (.int .i64 (bl (dig xs) : Nat)) /\ w' = w := by
 have hle := hr.le
 have hmx := hr.max
 by_cases h0 : len = 0
 ·subst h0
  have hx : xs = [] := List.eq_nil_of_length_eq_zero hr.length
  subst hx
  clear hr
  go_enter Tryz.func52, Tryz.ntmps52
  go_wp2
  go_ret
  exact ⟨rfl, rfl⟩
 ·have hne : xs ≠ [] := by intro h; rw [h] at hr; exact h0 hr.length.symm
  have HB : Hid _ := (bl_dig hr.lt hn hne).1
  have hlen := hr.length
  rcases hr.cells with h1 | ⟨b, off, rfl, hc⟩
  ·omega
  have g := hc (len - 1) (by omega)
  have ht := hr.lt.at (len - 1)
  have htb : bl (xs[len - 1]?.getD 0) <= 32 := by
   by_cases hz : xs[len - 1]?.getD 0 = 0
   ·rw [hz, bl_zero]; omega
   ·have hb := bl_spec hz
    rcases Nat.lt_or_ge 32 (bl (xs[len - 1]?.getD 0)) with h | h
    ·have : 2 ^ 32 <= 2 ^ (bl (xs[len - 1]?.getD 0) - 1) := Nat.pow_le_pow_right (by omega) (by omega)
     have h32 : (2 : Nat) ^ 32 = 4294967296 := by decide
     omega
    ·exact h
  rw [hlen] at HB
  clear hc hr hlen
  generalize xs[len - 1]?.getD 0 = t at *
  have HBL : Hid (bl (dig xs) = 32 * (len - 1) + bl t) := HB
  clear HB
  generalize hbt : bl t = B at *
  obtain ⟨L, rfl⟩ : ∃ L, len = L + 1 := ⟨len - 1, by omega⟩
  rw [show L + 1 - 1 = L from rfl] at g HBL
  have hz : ((L + 1 : Nat) : Int) = (L : Int) + 1 := rfl
  have hb0 : ((L : Int) + 1 == 0) = false := by rw [beq_eq_false_iff_ne]; omega
  go_enter Tryz.func52, Tryz.ntmps52
  go_wp2_with fail
  go_loop [3, 4] (fun n x => ∃ (c y : Nat), x = .int .u32 y /\ y < 4294967296 /\ n = .int .i64 (32 * (L : Int) + c) /\ Hid (c + bl y = B) /\ c <= 32) (fun _ x => (intOf x).toNat)
  case atStart => exact ⟨0, t, rfl, ht, by simp, by unfold Hid; omega, by omega⟩
  case round =>
   obtain ⟨c, y, rfl, hy, rfl, hB, hc⟩ := hrel
   by_cases hy0 : y = 0
   ·subst hy0
    have hcB : c = B := by have := hB.out; rw [bl_zero] at this; omega
    have hz0 : ((0 : Nat) : Int) = 0 := rfl
    rw [hz0]
    go_wp2
    go_ret
    refine ⟨?_, rfl⟩
    rw [HBL.out, show ((32 * L + B : Nat) : Int) = 32 * (L : Int) + B by omega]
    rfl
   ·have hh := bl_half hy0
    have HH : Hid (c + 1 + bl (y / 2) = B) := by unfold Hid; have := hB.out; omega
    have hcl : c + 1 <= 32 := by have := HH.out; omega
    clear hh
    go_wp2
    go_round
    case rel => exact ⟨c + 1, y / 2, by go_num, by omega, by go_num, HH, hcl⟩
    case measure => show (((y : Int) / 2)).toNat < ((y : Int)).toNat; omega
def v4 (x : Nat) : Value := .int .u32 (x : Int)
def Own4 (w : World) (base g n : Nat) (xs : List Nat) : Prop := xs.length = n /\ w.ownsRow base 119 1 (.slice (some ⟨g, 0, none⟩) n n) n (xs.map v4)
theorem Own4.cell {w : World} {base g n : Nat} {xs : List Nat} (h : Own4 w base g n xs) (j : Nat) (hj : j < n) : w.cell? ⟨g, j, none⟩ = some (.int .u32 ((xs[j]?.getD 0 : Nat) : Int)) := by
 rw [World.ownsRow.cellAt h.2 j (by omega), List.getElem?_map, List.getElem?_eq_getElem (by rw [h.1]; exact hj)]
 rfl
theorem Own4.frozen {w : World} {base g n : Nat} {xs : List Nat} (h : Own4 w base g n xs) (j : Nat) : w.frozen? ⟨g, j, none⟩ = false := World.ownsRow.frozenAt h.2 j
theorem Own4.set {w : World} {base g n : Nat} {xs : List Nat} (h : Own4 w base g n xs) (j x : Nat) : Own4 (w.setCell ⟨g, j, none⟩ (.int .u32 (x : Int))) base g n (xs.set j x) := by
 refine ⟨by rw [List.length_set]; exact h.1, ?_⟩
 rw [List.map_set]
 exact (World.ownsRow.stored h.2 j (v4 x)).1
theorem Own4.base {w : World} {base g n : Nat} {xs : List Nat} (h : Own4 w base g n xs) : base <= g := by
 rcases h.2.2 with ⟨h1, _⟩ | ⟨g2, cap2, cur2, hv, hg2, _⟩
 ·simp at h1
 ·simp only [Value.slice.injEq, Option.some.injEq, Addr.mk.injEq, and_true, true_and] at hv
  obtain ⟨rfl, rfl⟩ := hv
  exact hg2
theorem Own4.rd {w : World} {base g n : Nat} {xs : List Nat} (h : Own4 w base g n xs) (hu : U4 xs) (hn : n <= 1000000) : Rd4 w (some ⟨g, 0, none⟩) n n xs :=
 ⟨h.1, Nat.le_refl _, hn, hu, (fun h => by cases h), .inr ⟨g, 0, rfl, fun j hj => by rw [Nat.zero_add]; exact h.cell j hj⟩⟩
theorem below_set {w0 w : World} {base g j : Nat} {v : Value} (h : Below base w0 w) (hg : base <= g) : Below base w0 (w.setCell ⟨g, j, none⟩ v) := h.setCell (p := ⟨g, j, none⟩) hg v
theorem make4 (w : World) (n : Nat) (hn : n <= 1000000) : ∃ w', (∀ z : Int, z = n -> (Instr.makeSlice 63 (.int .i64 z) (.int .i64 z)).run Tryz.prog w = .ok (.slice (some ⟨w.heap.size, 0, none⟩) n n) w') /\ Own4 w' w.heap.size w.heap.size n (List.replicate n 0) /\ Below w.heap.size w w' := by
 obtain ⟨i0, hi, hz0, hz1, hz2⟩ := info_parts Tryz.infoU32
 obtain ⟨w', h1, h2, h3⟩ := run_make_full (P := Tryz.prog) w w.heap.size 63 119 i0 (.int .u32 0) 1 Tryz.underlying63 hi hz0 hz1 .i64 .i64 n (by rw [hz2]; omega) (by simp only [maxLen]; omega) (Nat.le_refl _)
 refine ⟨w', fun z hz => by rw [hz]; exact h1, ⟨List.length_replicate, ?_⟩, ?_⟩
 ·have e : (madeCells (Value.int IntKind.u32 0).cells (n * 1)).toList = (List.replicate n 0).map v4 := by
   rw [List.map_replicate, Nat.mul_one]
   exact toList_madeCells_one _ _
  rw [e] at h2
  exact h2
 ·exact (Below.refl _ _).grown h3 (Nat.le_refl _) (fun k hk => by cases hk)
theorem left_any (ao : Option Addr) (len cap : Nat) (xs : List Nat) (n : Nat) (w : World) (hr : Rd4 w ao len cap xs) (hn : n <= 100000) (hl : len <= 10000) :
  Calls Tryz.prog 77 #[.slice ao len cap, .int .i64 n] w fun e w' => ∃ ao' k cap' zs, e = .returned (.slice ao' k cap') /\ Rd4 w' ao' k cap' zs /\ Nm zs /\ dig zs = dig xs * 2 ^ n /\ Below w.heap.size w w' /\ k <= len + n / 32 + 1 := by
 have hle := hr.le
 have hmx := hr.max
 by_cases h0 : len = 0
 ·subst h0
  have hx : xs = [] := List.eq_nil_of_length_eq_zero hr.length
  subst hx
  clear hr
  go_enter Tryz.func77, Tryz.ntmps77
  go_wp2
  go_ret
  exact ⟨none, 0, 0, [], rfl, Rd4.none _, .inl rfl, by simp [dig], Below.refl _ _, by omega⟩
 ·have hb0 : ((len : Int) == 0) = false := by rw [beq_eq_false_iff_ne]; omega
  obtain ⟨q, hq⟩ : ∃ q : Nat, n / 32 = q := ⟨_, rfl⟩
  obtain ⟨s, hs⟩ : ∃ s : Nat, n % 32 = s := ⟨_, rfl⟩
  have hqi : (n : Int) / 32 = q := by omega
  have hsi : (n : Int) % 32 = s := by omega
  have hs32 : s < 32 := by omega
  have hqb : q <= 3200 := by omega
  obtain ⟨w1, hmk, hO, hB1⟩ := make4 w (len + q + 1) (by omega)
  have hmk' := hmk ((len : Int) + q + 1) (by omega)
  have HR : Hid _ := hr
  have HN : Hid (n = 32 * q + s) := by unfold Hid; omega
  have HO : Hid _ := hO
  have HB1 : Hid _ := hB1
  clear hmk hr hq hs hO hB1
  go_enter Tryz.func77, Tryz.ntmps77
  go_wp2_with fail
  go_loopg [6] len (fun gg i wx => ∃ (k : Nat) (zs : List Nat), k <= len /\ i = .int .i64 k /\ Hid (Own4 wx w.heap.size w.heap.size (len + q + 1) zs) /\ Hid (Below w.heap.size w wx) /\ Hid (U4 zs) /\ Hid (dig zs = dig (xs.take k) * 2 ^ n) /\ Hid (∀ j, k + q < j -> zs[j]?.getD 0 = 0) /\ Hid (zs[k + q]?.getD 0 < 2 ^ s) /\ len <= k + gg)
  case atStart =>
   refine ⟨0, List.replicate (len + q + 1) 0, by omega, rfl, HO, HB1, ?_, ?_, ?_, ?_, by omega⟩
   ·intro x hx; rw [List.eq_of_mem_replicate hx]; decide
   ·unfold Hid; rw [dig_zeros]; simp [dig]
   ·intro j _; by_cases hj : j < len + q + 1 <;> simp [hj]
   ·unfold Hid; rw [List.getElem?_replicate, if_pos (by omega)]; exact Nat.two_pow_pos s
  case round =>
   obtain ⟨k, zs, hk, rfl, HOz, HBz, HUz, HDz, HZz, HLz, hfu⟩ := hrel
   by_cases hlt : k < len
   ·obtain ⟨fu, rfl⟩ : ∃ g, gk = g + 1 := ⟨gk - 1, by omega⟩
    rcases HR.out.cells with h1 | ⟨b, off, rfl, hc⟩
    ·omega
    have g := (HBz.out.cell (World.block_lt_of_cell? w _ (hc k hlt))).trans (hc k hlt)
    have hx := HR.out.lt.at k
    have gz := HOz.out.cell (k + q) (by omega)
    have gf := HOz.out.frozen
    have hz1 := HOz.out.set (k + q)
    have hzb := HUz.out.at (k + q)
    clear hc
    have hkl : k < xs.length := by rw [HR.out.length]; exact hlt
    have HTS : Hid _ := dig_take_succ hkl
    have hst := left_step (T := 2 ^ n) (D := dig (xs.take k)) (N := 0) hs32 hx (by rw [HOz.out.1]; omega) HUz.out HZz.out HLz.out HDz.out (Nat.mul_one _)
    have HST : Hid _ := hst
    have hV1 := hst.2.2.2.2.1
    have hV2 := hst.2.2.2.2.2
    clear hst hkl
    generalize hxe : xs[k]?.getD 0 = x at *
    generalize hze : zs[k + q]?.getD 0 = z at *
    have hXb : x * 2 ^ s < 9223372036854775808 := by
     have h2 : (2 : Nat) ^ s <= 2 ^ 31 := Nat.pow_le_pow_right (by omega) (by omega)
     have h31 : (2 : Nat) ^ 31 = 2147483648 := by decide
     have h3 : x * 2 ^ s <= x * 2147483648 := Nat.mul_le_mul_left _ (by omega)
     omega
    have hsh : IntKind.u64.wrap ((x : Int) * 2 ^ s) = ((x * 2 ^ s : Nat) : Int) := by
     rw [show (x : Int) * 2 ^ s = ((x * 2 ^ s : Nat) : Int) by rw [Int.natCast_mul, Int.natCast_pow]; rfl, IntKind.wrap_u64]
     omega
    have hor1 : bits .or .u32 (z : Int) (((x * 2 ^ s : Nat) : Int) % 4294967296) = ((z + x * 2 ^ s % 4294967296 : Nat) : Int) := by
     rw [show ((x * 2 ^ s : Nat) : Int) % 4294967296 = ((x * 2 ^ s % 4294967296 : Nat) : Int) by omega, u32_or_nat _ _ hzb (Nat.mod_lt _ (by decide))]
     congr 1
     have hd : (2 ^ s : Nat) ∣ x * 2 ^ s % 4294967296 := by
      rw [show (4294967296 : Nat) = 2 ^ (32 - s) * 2 ^ s by rw [<- Nat.pow_add, show 32 - s + s = 32 by omega]]
      rw [Nat.mul_mod_mul_right]; exact Nat.dvd_mul_left ..
     obtain ⟨c, hc⟩ := hd
     rw [hc, Nat.or_comm, <- Nat.two_pow_add_eq_or_of_lt HLz.out, Nat.add_comm]
    have hor2 : bits .or .u32 0 (((x * 2 ^ s : Nat) : Int) / 4294967296) = ((x * 2 ^ s / 4294967296 : Nat) : Int) := by
     rw [show ((x * 2 ^ s : Nat) : Int) / 4294967296 = ((x * 2 ^ s / 4294967296 : Nat) : Int) by omega, show (0 : Int) = ((0 : Nat) : Int) from rfl, u32_or_nat _ _ (by decide) hV2, Nat.zero_or]
    have O1 := hz1 (z + x * 2 ^ s % 4294967296)
    have gz2 := O1.cell (k + q + 1) (by omega)
    rw [List.getElem?_set, if_neg (by omega), HZz.out (k + q + 1) (by omega)] at gz2
    have gf2 := O1.frozen
    have HO2 : Hid _ := O1.set (k + q + 1) (x * 2 ^ s / 4294967296)
    clear O1 hz1
    generalize hXe : x * 2 ^ s = X at *
    generalize hV1e : z + X % 4294967296 = V1 at *
    generalize hV2e : X / 4294967296 = V2 at *
    have gz2' : (wr.setCell ⟨w.heap.size, k + q, none⟩ (.int .u32 V1)).cell? ⟨w.heap.size, k + q + 1, none⟩ = some (.int .u32 0) := gz2
    clear gz2
    go_wp2_with fail
    go_roundg fu
    case rel =>
     refine ⟨k + 1, _, by omega, by go_num, HO2, ?_, HST.out.1, ?_, ?_, ?_, by omega⟩
     ·exact below_set (below_set HBz.out (Nat.le_refl _)) (Nat.le_refl _)
     ·unfold Hid
      rw [HST.out.2.1, HDz.out, HTS.out, Nat.add_mul, HN.out, Nat.pow_add, <- hXe]
      congr 1
      show wd (k + q) * (x * 2 ^ s) = wd k * x * (wd q * 2 ^ s)
      rw [wd_add, Nat.mul_mul_mul_comm]
     ·unfold Hid; rw [show k + 1 + q = k + q + 1 by omega]; exact HST.out.2.2.1
     ·unfold Hid; rw [show k + 1 + q = k + q + 1 by omega]; exact HST.out.2.2.2.1
    case measure => omega
   ·obtain rfl : k = len := by omega
    have HTL : Hid (xs.take k = xs) := by unfold Hid; exact List.take_of_length_le (by rw [HR.out.length]; omega)
    go_wp2_with (go_at_call 76; refine (trim_any _ _ _ zs _ (HOz.out.rd HUz.out (by omega))).mono ?_; rintro e w' ⟨ao', m, rfl, rfl, hr', hm, hnm, hdg⟩)
    go_ret
    exact ⟨ao', m, _, _, rfl, hr', hnm, by rw [hdg, HDz.out, HTL.out], HBz.out, by have := HN.out; omega⟩
def nz (m : Nat) : Bool := m != 0
theorem nz_true {m : Nat} (h : m ≠ 0) : nz m = true := by unfold nz; rw [bne_iff_ne]; exact h
theorem right_any (ao : Option Addr) (len cap : Nat) (xs : List Nat) (n : Nat) (w : World) (hr : Rd4 w ao len cap xs) (hn : n <= 100000) (hl : len <= 10000) :
  Calls Tryz.prog 78 #[.slice ao len cap, .int .i64 n] w fun e w' => ∃ ao' k cap', e = .returned (.tuple #[.slice ao' k cap', .bool (nz (dig xs % 2 ^ n))]) /\ ∃ zs, Rd4 w' ao' k cap' zs /\ Nm zs /\ dig zs = dig xs / 2 ^ n /\ Below w.heap.size w w' /\ k <= len := by
 have hle := hr.le
 have hmx := hr.max
 obtain ⟨q, hq⟩ : ∃ q : Nat, n / 32 = q := ⟨_, rfl⟩
 obtain ⟨s, hs⟩ : ∃ s : Nat, n % 32 = s := ⟨_, rfl⟩
 have hqi : (n : Int) / 32 = q := by omega
 have hsi : (n : Int) % 32 = s := by omega
 have hs32 : s < 32 := by omega
 have hqb : q <= 3200 := by omega
 have HR : Hid _ := hr
 have HN : Hid (n = 32 * q + s) := by unfold Hid; omega
 clear hr hq hs
 go_enter Tryz.func78, Tryz.ntmps78
 go_wp2_with fail
 go_loop [6, 7] (fun r i => ∃ k : Nat, k <= len /\ k <= q /\ i = .int .i64 k /\ r = .bool (nz (dig (xs.take k)))) (fun _ i => len - (intOf i).toNat)
 case atStart => exact ⟨0, by omega, by omega, rfl, rfl⟩
 case round =>
  obtain ⟨k, hk, hkq, rfl, rfl⟩ := hrel
  by_cases hlt : k < len /\ k < q
  ·obtain ⟨hlt, hlq⟩ := hlt
   rcases HR.out.cells with h1 | ⟨b, off, rfl, hc⟩
   ·omega
   have g := hc k hlt
   have hx := HR.out.lt.at k
   have hkl : k < xs.length := by rw [HR.out.length]; exact hlt
   have HTS : Hid _ := dig_take_succ hkl
   have hwp := wd_pos k
   clear hc hkl
   generalize hxe : xs[k]?.getD 0 = x at *
   by_cases hd : dig (xs.take k) = 0
   ·have hd1 : nz (dig (xs.take k)) = false := by rw [hd]; rfl
    rw [hd1]
    have hres : nz (dig (xs.take (k + 1))) = ((x : Int) != 0) := by
     rw [HTS.out, hd, Nat.zero_add]
     by_cases hx0 : x = 0
     ·subst hx0; rfl
     ·have : ((x : Int) != 0) = true := by rw [bne_iff_ne]; omega
      rw [this]; exact nz_true (by have := Nat.mul_pos hwp (show 0 < x by omega); omega)
    go_wp2_with fail
    go_round
    case rel => exact ⟨k + 1, by omega, by omega, by go_num, by rw [hres]⟩
    case measure => show len - ((k : Int) + 1).toNat < len - (k : Int).toNat; omega
   ·have hd1 : nz (dig (xs.take k)) = true := nz_true hd
    rw [hd1]
    have hres : nz (dig (xs.take (k + 1))) = true := nz_true (by rw [HTS.out]; omega)
    go_wp2_with fail
    go_round
    case rel => exact ⟨k + 1, by omega, by omega, by go_num, by rw [hres]⟩
    case measure => show len - ((k : Int) + 1).toNat < len - (k : Int).toNat; omega
  ·by_cases hql : len <= q
   ·obtain rfl : k = len := by omega
    have HT : Hid (xs.take k = xs) := by unfold Hid; exact List.take_of_length_le (by rw [HR.out.length]; omega)
    have hlt2 := dig_lt HR.out.lt
    rw [HR.out.length] at hlt2
    have hw : wd k <= 2 ^ n := by unfold wd; exact Nat.pow_le_pow_right (by omega) (by have := HN.out; omega)
    have HM : Hid (dig xs % 2 ^ n = dig xs /\ dig xs / 2 ^ n = 0) := ⟨Nat.mod_eq_of_lt (by omega), Nat.div_eq_of_lt (by omega)⟩
    rw [HT.out]
    clear hlt2 hw
    go_wp2_with fail
    go_ret2
    refine ⟨Option.none, 0, 0, ?_, [], Rd4.none _, .inl rfl, by rw [HM.out.2]; rfl, Below.refl _ _, by omega⟩
    rw [HM.out.1]; rfl
   ·obtain rfl : k = q := by omega
    have hkl : k < len := by omega
    rcases HR.out.cells with h1 | ⟨b, off, rfl, hc⟩
    ·omega
    have g := hc k hkl
    have hx := HR.out.lt.at k
    have HC : Hid _ := hc
    have hcw := cut_words HR.out.lt HN.out (by rw [HR.out.length]; omega)
    have hlb := low_bits (xs := xs) (q := k) hs32
    rw [hlb] at hcw
    have HCW : Hid _ := hcw
    clear hc hcw hlb
    generalize hxe : xs[k]?.getD 0 = x at *
    have hwp := wd_pos k
    go_upto_region 8 with fail
    go_cut [6] (fun r wx => r = .bool (nz (dig xs % 2 ^ n)) /\ Below w.heap.size w wx /\ wx.heap.size = w.heap.size)
    case first =>
     by_cases hd : dig (xs.take k) = 0
     ·have hd1 : nz (dig (xs.take k)) = false := by rw [hd]; rfl
      rw [hd1]
      have hres : (bits .and .u32 (x : Int) ((2 ^ s - 1) % 4294967296) != 0) = nz (dig xs % 2 ^ n) := by
       rw [HCW.out.2, hd, Nat.zero_add]
       have hp : (2 : Nat) ^ s <= 2 ^ 31 := Nat.pow_le_pow_right (by omega) (by omega)
       have h31 : (2 : Nat) ^ 31 = 2147483648 := by decide
       have hp0 := Nat.two_pow_pos s
       have e1 : ((2 : Int) ^ s - 1) % 4294967296 = ((2 ^ s - 1 : Nat) : Int) := by
        have e0 : ((2 : Int) ^ s) = ((2 ^ s : Nat) : Int) := by rw [Int.natCast_pow]; rfl
        rw [e0]; omega
       rw [e1, u32_and_nat _ _ hx (by omega), Nat.and_two_pow_sub_one_eq_mod]
       by_cases hm : x % 2 ^ s = 0
       ·rw [hm]; rfl
       ·rw [nz_true (by have := Nat.mul_pos hwp (show 0 < x % 2 ^ s by omega); omega), bne_iff_ne]; omega
      go_region
      go_wp2_with fail
      go_meet
      exact ⟨rfl, (Below.refl _ _).drew, rfl⟩
     ·have hd1 : nz (dig (xs.take k)) = true := nz_true hd
      rw [hd1]
      go_region
      go_wp2_with fail
      go_meet
      exact ⟨by rw [HCW.out.2, nz_true (by omega)], (Below.refl _ _).drew, rfl⟩
    case rest =>
    obtain ⟨rfl, hBc, hsz⟩ := hcut
    obtain ⟨w1, hmk, hO, hB1⟩ := make4 wc (len - k) (by omega)
    have hmk' := hmk ((len : Int) - k) (by omega)
    rw [hsz] at hO hB1 hmk'
    have HO : Hid _ := hO
    have HB1 : Hid (Below w.heap.size w w1) := hBc.trans hB1
    have HDV : Hid (dig (shr s (xs.drop k)) = dig xs / 2 ^ n) := by unfold Hid; rw [HCW.out.1, dig_shr hs32 (HR.out.lt.drop k)]
    have HSL : Hid ((shr s (xs.drop k)).length = len - k) := by unfold Hid; rw [shr_len, List.length_drop, HR.out.length]
    have HU : Hid (U4 xs) := HR.out.lt
    have HLN : Hid (xs.length = len) := HR.out.length
    clear hmk hO hB1 hBc hsz g hwp HCW hx
    have hLn : k + (len - k) = len := by omega
    have hLi : (len : Int) - k = ((len - k : Nat) : Int) := by omega
    generalize hLe : len - k = L at *
    rw [hLi] at hmk'
    have HDR : Hid (∀ j, (xs.drop k)[j]?.getD 0 = xs[j + k]?.getD 0) := by intro j; rw [List.getElem?_drop, Nat.add_comm]
    have HDL : Hid ((xs.drop k).length = L) := by unfold Hid; rw [List.length_drop, HLN.out]; omega
    go_wp2_with fail
    go_loopg [9] L (fun gg i wx => ∃ (m : Nat) (zs : List Nat), m <= L /\ i = .int .i64 m /\ Hid (Own4 wx w.heap.size w.heap.size L zs) /\ Hid (Below w.heap.size w wx) /\ Hid (U4 zs) /\ Hid (∀ j, j < m -> zs[j]?.getD 0 = (shr s (xs.drop k))[j]?.getD 0) /\ L <= m + gg)
    case atStart =>
     refine ⟨0, List.replicate L 0, by omega, rfl, HO, HB1, ?_, ?_, by omega⟩
     ·intro x hx; rw [List.eq_of_mem_replicate hx]; decide
     ·intro j hj; omega
    case round =>
     obtain ⟨m, zs, hm, rfl, HOz, HBz, HUz, HZz, hfu⟩ := hrel
     by_cases hmL : m < L
     ·obtain ⟨fu, rfl⟩ : ∃ g, gk = g + 1 := ⟨gk - 1, by omega⟩
      have g1 := (HBz.out.cell (World.block_lt_of_cell? w _ (HC.out (m + k) (by omega)))).trans (HC.out (m + k) (by omega))
      have hd1 := HU.out.at (m + k)
      have gz := HOz.out.cell m hmL
      have gf := HOz.out.frozen m
      have hat := shr_at s (xs.drop k) m (by rw [HDL.out]; exact hmL)
      rw [HDR.out, HDR.out, show m + 1 + k = m + k + 1 by omega] at hat
      have hset := HOz.out.set m
      have hZ2 : ∀ v, v = (shr s (xs.drop k))[m]?.getD 0 -> ∀ j, j < m + 1 -> (zs.set m v)[j]?.getD 0 = (shr s (xs.drop k))[j]?.getD 0 := by
       intro v hv j hj
       rw [List.getElem?_set]
       by_cases e : m = j
       ·subst e; rw [if_pos rfl, if_pos (by rw [HOz.out.1]; exact hmL)]; exact hv
       ·rw [if_neg e]; exact HZz.out j (by omega)
      have HZ2 : Hid _ := hZ2
      have HSET : Hid _ := hset
      clear hZ2 hset
      by_cases hm2 : m + k + 1 < len
      ·have g2 := (HBz.out.cell (World.block_lt_of_cell? w _ (HC.out (m + k + 1) hm2))).trans (HC.out (m + k + 1) hm2)
       have hd2 := HU.out.at (m + k + 1)
       generalize xs[m + k]?.getD 0 = d1 at *
       generalize xs[m + k + 1]?.getD 0 = d2 at *
       have hor : bits .or .u64 (d1 : Int) ((d2 : Int) * 4294967296) = ((d1 + 4294967296 * d2 : Nat) : Int) := by
        rw [show (d2 : Int) * 4294967296 = ((4294967296 * d2 : Nat) : Int) by omega, u64_or_nat _ _ (by omega) (by omega)]
        congr 1
        have := Nat.two_pow_add_eq_or_of_lt (i := 32) (b := d1) (by omega) d2
        rw [show (2 : Nat) ^ 32 = 4294967296 by decide] at this
        rw [Nat.or_comm, <- this, Nat.add_comm]
       have hXb : d1 + 4294967296 * d2 < 18446744073709551616 := by omega
       generalize hX : d1 + 4294967296 * d2 = X at *
       go_wp2_with fail
       have hval : (X : Int) / 2 ^ s % 4294967296 = ((X / 2 ^ s % 4294967296 : Nat) : Int) := by
        rw [show ((2 : Int) ^ s) = ((2 ^ s : Nat) : Int) by rw [Int.natCast_pow]; rfl]
        rfl
       rw [hval]
       go_roundg fu
       case rel =>
        exact ⟨m + 1, _, by omega, by go_num, HSET.out _, below_set HBz.out (Nat.le_refl _), HUz.out.set m _ (Nat.mod_lt _ (by decide)), HZ2.out _ (by rw [hat]), by omega⟩
       case measure => omega
      ·have hd0 : xs[m + k + 1]?.getD 0 = 0 := by rw [List.getElem?_eq_none (by rw [HLN.out]; omega)]; rfl
       rw [hd0, Nat.mul_zero, Nat.add_zero] at hat
       generalize xs[m + k]?.getD 0 = X at *
       go_wp2_with fail
       have hval : (X : Int) / 2 ^ s % 4294967296 = ((X / 2 ^ s % 4294967296 : Nat) : Int) := by
        rw [show ((2 : Int) ^ s) = ((2 ^ s : Nat) : Int) by rw [Int.natCast_pow]; rfl]
        rfl
       rw [hval]
       go_roundg fu
       case rel =>
        exact ⟨m + 1, _, by omega, by go_num, HSET.out _, below_set HBz.out (Nat.le_refl _), HUz.out.set m _ (Nat.mod_lt _ (by decide)), HZ2.out _ (by rw [hat]), by omega⟩
       case measure => omega
     ·obtain rfl : m = L := by omega
      have HZE : Hid (zs = shr s (xs.drop k)) := by
       unfold Hid
       apply List.ext_getElem (by rw [HOz.out.1, HSL.out])
       intro j h1 h2
       have := HZz.out j (by rw [HOz.out.1] at h1; exact h1)
       rw [List.getElem?_eq_getElem h1, List.getElem?_eq_getElem h2] at this
       simpa using this
      go_wp2_with (go_at_call 76; refine (trim_any _ _ _ zs _ (HOz.out.rd HUz.out (by omega))).mono ?_; rintro e w' ⟨ao', mm, rfl, rfl, hr', hm', hnm, hdg⟩)
      all_goals (go_ret2; exact ⟨ao', mm, _, rfl, _, hr', hnm, by rw [hdg, HZE.out, HDV.out], HBz.out, by omega⟩)
def NumV (w : World) (v : Value) (neg : Bool) (m : Nat) (e : Int) : Prop := ∃ ao len cap xs, v = .agg #[.bool neg, .slice ao len cap, .int .i64 e] /\ Rd4 w ao len cap xs /\ Nm xs /\ dig xs = m
theorem NumV.later {w w' : World} {v : Value} {neg : Bool} {m : Nat} {e : Int} (h : NumV w v neg m e) (hb : Below w.heap.size w w') : NumV w' v neg m e := by
 obtain ⟨ao, len, cap, xs, h1, h2, h3, h4⟩ := h
 exact ⟨ao, len, cap, xs, h1, h2.later hb, h3, h4⟩
theorem len_zero {xs : List Nat} {len : Nat} (hl : xs.length = len) (hu : U4 xs) (hn : Nm xs) : (len = 0 ↔ dig xs = 0) := by
 constructor
 ·intro h; have : xs = [] := List.eq_nil_of_length_eq_zero (by omega)
  subst this; rfl
 ·intro h
  rcases Nat.eq_zero_or_pos len with h0 | h0
  ·exact h0
  ·exact absurd h (bl_dig hu hn (fun e => by rw [e] at hl; simp at hl; omega)).2
theorem len_bl {xs : List Nat} {len : Nat} (hl : xs.length = len) (hu : U4 xs) (hn : Nm xs) : 32 * len <= bl (dig xs) + 31 := by
 rcases Nat.eq_zero_or_pos len with h0 | h0
 ·omega
 ·have h := bl_dig hu hn (fun e => by rw [e] at hl; simp at hl; omega)
  have h1 : xs[xs.length - 1]?.getD 0 ≠ 0 := by
   rcases hn with e | e
   ·rw [e] at hl; simp at hl; omega
   ·exact e
  have := bl_spec h1
  rw [hl] at h this
  omega
theorem three_cells {W : World} {B : Nat} {v0 v1 v2 : Value} (h : W.heap[B]? = some (.cells #[v0, v1, v2] 65)) :
  W.cell? ⟨B, 0, none⟩ = some v0 /\ W.cell? ⟨B, 1, none⟩ = some v1 /\ W.cell? ⟨B, 2, none⟩ = some v2 :=
 ⟨cell_of_row _ _ 0 _ _ _ h, cell_of_row _ _ 1 _ _ _ h, cell_of_row _ _ 2 _ _ _ h⟩
theorem res_num (f : Func) (i : Nat) (hf : f.results = #[ResultVar.cell i 65]) (tmps : Array Value) (W : World) (B : Nat) (v0 v1 v2 : Value) (hp : tmps[i]? = some (.pointer (some ⟨B, 0, none⟩)))
  (h : W.heap[B]? = some (.cells #[v0, v1, v2] 65)) : (results f tmps).run Tryz.prog W = .ok (.agg #[v0, v1, v2]) W := by
 obtain ⟨h0, h1, h2⟩ := three_cells h
 simp [results, hf, go_sem, hp, h0, h1, h2]
theorem res_num2 (f : Func) (i j : Nat) (hf : f.results = #[ResultVar.cell i 65, ResultVar.tmp j]) (tmps : Array Value) (W : World) (B : Nat) (v0 v1 v2 u : Value) (hp : tmps[i]? = some (.pointer (some ⟨B, 0, none⟩))) (hq : tmps[j]? = some u)
  (h : W.heap[B]? = some (.cells #[v0, v1, v2] 65)) : (results f tmps).run Tryz.prog W = .ok (.tuple #[.agg #[v0, v1, v2], u]) W := by
 obtain ⟨h0, h1, h2⟩ := three_cells h
 simp [results, hf, go_sem, hp, hq, h0, h1, h2]
theorem size_any (v : Value) (neg : Bool) (m : Nat) (e : Int) (w : World) (h : NumV w v neg m e) :
  Calls Tryz.prog 29 #[v] w fun e' w' => ∃ v', e' = .returned v' /\ NumV w' v' false m e /\ Below w.heap.size w w' := by
 obtain ⟨ao, len, cap, xs, rfl, hr, hnm, hm⟩ := h
 have hbel : ∀ c1 c2 : Obj, Below w.heap.size w ((w.alloc c1).alloc c2) := fun c1 c2 => ((Below.refl _ _).alloc (Nat.le_refl _) _).alloc (by simp) _
 have HR : Hid _ := hr
 have HB : Hid _ := hbel
 clear hr hbel
 go_enter Tryz.func29, Tryz.ntmps29
 go_wp2_with fail
 refine bodyPost_ret (v := .agg #[.bool false, .slice ao len cap, .int .i64 e]) (res_num _ 2 (by kernel_rfl) _ _ (w.heap.size + 1) _ _ _ (by rfl) (by have := heap_alloc_new (w.alloc (Obj.cells #[Value.bool false, Value.slice ao len cap, Value.int IntKind.i64 e] 65)) (Obj.cells #[Value.bool false, Value.slice ao len cap, Value.int IntKind.i64 e] 65); simpa using this)) rfl ⟨_, rfl, ?_, HB.out _ _⟩
 exact ⟨ao, len, cap, xs, rfl, HR.out.later (HB.out _ _), hnm, hm⟩
def NumB (w : World) (B : Nat) : Prop := ∃ neg ao len cap e, w.heap[B]? = some (.cells #[.bool neg, .slice ao len cap, .int .i64 e] 65)
theorem NumB.not {w : World} {B : Nat} (h : NumB w B) (j : Nat) (x : Int) : w.cell? ⟨B, j, none⟩ ≠ some (.int .u32 x) := by
 obtain ⟨neg, ao, len, cap, e, h⟩ := h
 match j with
 | 0 => rw [(three_cells h).1]; simp
 | 1 => rw [(three_cells h).2.1]; simp
 | 2 => rw [(three_cells h).2.2]; simp
 | j + 3 => rw [cell_of_row _ _ _ _ _ _ h]; simp
theorem set3_heap {w : World} {B : Nat} {a b c : Value} (x y z : Value) (h : w.heap[B]? = some (.cells #[a, b, c] 65)) :
  (((w.setCell ⟨B, 0, none⟩ x).setCell ⟨B, 1, none⟩ y).setCell ⟨B, 2, none⟩ z).heap[B]? = some (.cells #[x, y, z] 65) := by
 have h1 := heap_setCell_same w B 0 _ _ x h
 have h2 := heap_setCell_same _ B 1 _ _ y h1
 exact heap_setCell_same _ B 2 _ _ z h2
theorem rd4_set3 {w : World} {B : Nat} (x y z : Value) (hB : NumB w B) {ao : Option Addr} {len cap : Nat} {xs : List Nat} (h : Rd4 w ao len cap xs) :
  Rd4 (((w.setCell ⟨B, 0, none⟩ x).setCell ⟨B, 1, none⟩ y).setCell ⟨B, 2, none⟩ z) ao len cap xs := by
 refine ⟨h.length, h.le, h.max, h.lt, h.nil, ?_⟩
 rcases h.cells with h0 | ⟨b, off, ha, hc⟩
 ·exact .inl h0
 ·refine .inr ⟨b, off, ha, fun j hj => ?_⟩
  have hne : b ≠ B := by rintro rfl; exact hB.not _ _ (hc j hj)
  rw [World.cell?_setCell_other _ _ _ _ (fun e => hne (by have := congrArg Addr.block e; first | exact this | exact this.symm)), World.cell?_setCell_other _ _ _ _ (fun e => hne (by have := congrArg Addr.block e; first | exact this | exact this.symm)), World.cell?_setCell_other _ _ _ _ (fun e => hne (by have := congrArg Addr.block e; first | exact this | exact this.symm))]
  exact hc j hj
theorem rd4_other {w w' : World} {B : Nat} (hB : NumB w B) (hs : ∀ b, b ≠ B -> w'.heap[b]? = w.heap[b]?) {ao : Option Addr} {len cap : Nat} {xs : List Nat} (h : Rd4 w ao len cap xs) : Rd4 w' ao len cap xs := by
 refine ⟨h.length, h.le, h.max, h.lt, h.nil, ?_⟩
 rcases h.cells with h0 | ⟨b, off, ha, hc⟩
 ·exact .inl h0
 ·refine .inr ⟨b, off, ha, fun j hj => ?_⟩
  have hne : b ≠ B := by rintro rfl; exact hB.not _ _ (hc j hj)
  rw [World.cell?_of_block (w := w) (w' := w') (a := ⟨b, off + j, none⟩) (hs b hne)]
  exact hc j hj
theorem dig_drop_pred {xs : List Nat} {k : Nat} : dig (xs.drop k) = xs[k]?.getD 0 + 4294967296 * dig (xs.drop (k + 1)) := by
 rw [dig_head, List.getElem?_drop, Nat.add_zero, List.drop_drop]
theorem word_any (ao : Option Addr) (len cap : Nat) (xs : List Nat) (w : World) (hr : Rd4 w ao len cap xs) (hl : len <= 2) :
  Calls Tryz.prog 55 #[.slice ao len cap] w fun e w' => e = .returned (.int .u64 (dig xs : Nat)) /\ w' = w := by
 have hle := hr.le
 have hmx := hr.max
 have HR : Hid _ := hr
 have HL : Hid (xs.length = len) := hr.length
 clear hr
 go_enter Tryz.func55, Tryz.ntmps55
 go_wp2_with fail
 go_loop [3, 4] (fun u i => ∃ k : Nat, k <= len /\ i = .int .i64 ((k : Int) - 1) /\ u = .int .u64 (dig (xs.drop k) : Nat)) (fun _ i => (intOf i + 1).toNat)
 case atStart => exact ⟨len, by omega, rfl, by rw [List.drop_of_length_le (by rw [HL.out]; omega)]; rfl⟩
 case round =>
  obtain ⟨k, hk, rfl, rfl⟩ := hrel
  cases k with
  | zero =>
   rw [List.drop_zero]
   have hz : ((0 : Nat) : Int) - 1 = -1 := rfl
   rw [hz]
   go_wp2
   go_ret
   exact ⟨rfl, rfl⟩
  | succ k =>
   rcases HR.out.cells with h0 | ⟨b, off, rfl, hc⟩
   ·omega
   have g := hc k (by omega)
   have hlt := HR.out.lt.at k
   have HD : Hid _ := dig_drop_pred (xs := xs) (k := k)
   have hdl := dig_lt (HR.out.lt.drop (k + 1))
   rw [List.length_drop, HL.out] at hdl
   have hdl2 : dig (xs.drop (k + 1)) < 4294967296 := by
    have : wd (len - (k + 1)) <= wd 1 := by unfold wd; exact Nat.pow_le_pow_right (by omega) (by omega)
    have h1 : wd 1 = 4294967296 := by decide
    omega
   clear hc hdl
   generalize hxe : xs[k]?.getD 0 = x at *
   generalize hDe : dig (xs.drop (k + 1)) = D at *
   have hz : ((k + 1 : Nat) : Int) - 1 = (k : Int) := by omega
   rw [hz]
   have hor : bits .or .u64 ((D : Int) * 4294967296) (x : Int) = ((x + 4294967296 * D : Nat) : Int) := by
    rw [show (D : Int) * 4294967296 = ((4294967296 * D : Nat) : Int) by omega, u64_or_nat _ _ (by omega) (by omega)]
    congr 1
    have := Nat.two_pow_add_eq_or_of_lt (i := 32) (b := x) (by omega) D
    rw [show (2 : Nat) ^ 32 = 4294967296 by decide] at this
    rw [<- this, Nat.add_comm]
   go_wp2_with fail
   go_round
   case rel => exact ⟨k, by omega, rfl, by rw [HD.out, Int.natCast_add, Int.natCast_mul]; rfl⟩
   case measure => show (((k : Int) - 1) + 1).toNat < ((k : Int) + 1).toNat; omega
theorem over2_any (v : Value) (neg : Bool) (m : Nat) (e n : Int) (he : -20000 <= e /\ e <= 20000) (hn : -20000 <= n /\ n <= 20000) (hb : bl m <= 100000) (w : World) (h : NumV w v neg m e) :
  Calls Tryz.prog 53 #[v, .int .i64 n] w fun e' w' => ∃ v', e' = .returned (.tuple #[v', .bool (if n <= e then false else nz (m % 2 ^ (n - e).toNat))]) /\ NumV w' v' false (if n <= e then m * 2 ^ (e - n).toNat else m / 2 ^ (n - e).toNat) 0 /\ Below w.heap.size w w' := by
 obtain ⟨ao, len, cap, xs, rfl, hr, hnm, hm⟩ := h
 have hl : len <= 10000 := by have := len_bl hr.length hr.lt hnm; rw [hm] at this; omega
 have HR : Hid _ := hr
 clear hr
 obtain ⟨d, hd⟩ : ∃ d : Nat, (if n <= e then (e - n).toNat else (n - e).toNat) = d := ⟨_, rfl⟩
 have hb0 : Below w.heap.size w ((w.alloc (Obj.cells #[Value.bool neg, Value.slice ao len cap, Value.int IntKind.i64 e] 65)).alloc (Obj.cells #[Value.bool false, Value.slice none 0 0, Value.int IntKind.i64 0] 65)) := ((Below.refl _ _).alloc (Nat.le_refl _) _).alloc (by simp) _
 have hg0 : ((w.alloc (Obj.cells #[Value.bool neg, Value.slice ao len cap, Value.int IntKind.i64 e] 65)).alloc (Obj.cells #[Value.bool false, Value.slice none 0 0, Value.int IntKind.i64 0] 65)).heap[w.heap.size + 1]? = some (Obj.cells #[Value.bool false, Value.slice none 0 0, Value.int IntKind.i64 0] 65) := by
  have := heap_alloc_new (w.alloc (Obj.cells #[Value.bool neg, Value.slice ao len cap, Value.int IntKind.i64 e] 65)) (Obj.cells #[Value.bool false, Value.slice none 0 0, Value.int IntKind.i64 0] 65); simpa using this
 have hz0 : ((w.alloc (Obj.cells #[Value.bool neg, Value.slice ao len cap, Value.int IntKind.i64 e] 65)).alloc (Obj.cells #[Value.bool false, Value.slice none 0 0, Value.int IntKind.i64 0] 65)).heap.size = w.heap.size + 2 := by simp
 have H0 : Hid _ := hb0
 have H1 : Hid _ := hg0
 have H2 : Hid _ := hz0
 clear hb0 hg0 hz0
 by_cases h0 : n <= e
 ·rw [if_pos h0] at hd
  rw [if_pos h0, if_pos h0, hd]
  have hdi : e - n = (d : Int) := by omega
  go_enter Tryz.func53, Tryz.ntmps53
  go_wp2_with fail
  refine (left_any ao len cap xs d _ (HR.out.later H0.out) (by omega) hl).mono ?_
  rintro e2 w2 ⟨ao', k, cap', zs, rfl, hr2, hn2, hd2, hb2, hk2⟩
  have hg1 := (hb2.block (w.heap.size + 1) (by rw [H2.out]; omega)).trans H1.out
  have hB2 : Below w.heap.size w w2 := H0.out.trans (hb2.mono (by rw [H2.out]; omega))
  obtain ⟨c0, c1, c2⟩ := three_cells hg1
  have f1 := fun j => frozen_of_row _ _ j _ _ hg1
  have HG1 : Hid _ := hg1
  have HB2 : Hid _ := hB2
  have HR2 : Hid _ := hr2
  clear hb2 hg1 hB2 hr2
  go_wp2_with fail
  refine bodyPost_ret (v := .tuple #[.agg #[.bool false, .slice ao' k cap', .int .i64 0], .bool false]) (res_num2 _ 4 5 (by kernel_rfl) _ _ (w.heap.size + 1) _ _ _ _ (by rfl) (by rfl) (set3_heap _ _ _ HG1.out)) rfl ⟨_, rfl, ?_, ?_⟩
  ·exact ⟨ao', k, cap', zs, rfl, rd4_set3 _ _ _ ⟨_, _, _, _, _, HG1.out⟩ HR2.out, hn2, by rw [hd2, hm]⟩
  ·exact ((HB2.out.setCell (Nat.le_succ _) _).setCell (Nat.le_succ _) _).setCell (Nat.le_succ _) _
 ·rw [if_neg h0] at hd
  rw [if_neg h0, if_neg h0, hd]
  have hdi : n - e = (d : Int) := by omega
  go_enter Tryz.func53, Tryz.ntmps53
  go_wp2_with fail
  refine (right_any ao len cap xs d _ (HR.out.later H0.out) (by omega) hl).mono ?_
  rintro e2 w2 ⟨ao', k, cap', rfl, zs, hr2, hn2, hd2, hb2, hk2⟩
  have hg1 := (hb2.block (w.heap.size + 1) (by rw [H2.out]; omega)).trans H1.out
  have hB2 : Below w.heap.size w w2 := H0.out.trans (hb2.mono (by rw [H2.out]; omega))
  obtain ⟨c0, c1, c2⟩ := three_cells hg1
  have f1 := fun j => frozen_of_row _ _ j _ _ hg1
  have HG1 : Hid _ := hg1
  have HB2 : Hid _ := hB2
  have HR2 : Hid _ := hr2
  clear hb2 hg1 hB2 hr2
  go_wp2_with fail
  refine bodyPost_ret (v := .tuple #[.agg #[.bool false, .slice ao' k cap', .int .i64 0], .bool (nz (m % 2 ^ d))]) (res_num2 _ 4 5 (by kernel_rfl) _ _ (w.heap.size + 1) _ _ _ _ (by rfl) (by rfl) (set3_heap _ _ _ HG1.out)) rfl ⟨_, rfl, ?_, ?_⟩
  ·exact ⟨ao', k, cap', zs, rfl, rd4_set3 _ _ _ ⟨_, _, _, _, _, HG1.out⟩ HR2.out, hn2, by rw [hd2, hm]⟩
  ·exact ((HB2.out.setCell (Nat.le_succ _) _).setCell (Nat.le_succ _) _).setCell (Nat.le_succ _) _
def moreR (d : Int) (neg rest : Bool) (h : Nat) : Bool := (d == 0 && decide (h % 2 = 1) && (rest || decide (h / 2 % 2 = 1))) || (((d == 1 && !neg) || (d == 2 && neg)) && (decide (h % 2 = 1) || rest))
theorem odd_bit (h : Nat) (hh : h < 18446744073709551616) : (bits .and .u64 (h : Int) 1 == 1) = decide (h % 2 = 1) := by
 have k := u64_and_nat h 1 hh (by decide)
 rw [show ((1 : Nat) : Int) = 1 from rfl] at k
 rw [k, Nat.and_one_is_mod]
 by_cases ho : h % 2 = 1
 ·rw [ho]; rfl
 ·have : h % 2 = 0 := by omega
  rw [this]; rfl
theorem rtold_any (d : Int) (neg rest : Bool) (h : Nat) (e : Int) (hd : d = 0 \/ d = 1 \/ d = 2) (hh : h < 18014398509481984) (he : -1074 <= e /\ e <= 100000) (hfm : e = -1074 \/ 4503599627370496 <= h / 2) (w : World) (p : Nat × Bool)
  (hp : p = if infK <= ((e + 1074).toNat * 4503599627370496 + h / 2 + (moreR d neg rest h).toNat) \/ 971 < e then (if d = 0 \/ moreR d neg rest h = true \/ (d = 1 /\ neg = false) \/ (d = 2 /\ neg = true) then (0, false) else (sgnK neg 9218868437227405311, true)) else (sgnK neg ((e + 1074).toNat * 4503599627370496 + h / 2 + (moreR d neg rest h).toNat), true)) :
  Calls Tryz.prog 54 #[.int .i64 d, .bool neg, .int .u64 h, .bool rest, .int .i64 e] w fun e' w' => e' = .returned (.tuple #[.int .u64 p.1, .bool p.2]) /\ w' = w := by
 have hb1 := odd_bit h (by omega)
 have hb2 := odd_bit (h / 2) (by omega)
 have hc : ((h / 2 : Nat) : Int) = (h : Int) / 2 := by omega
 rw [hc] at hb2
 have HP : Hid _ := hp
 clear hp
 go_enter Tryz.func54, Tryz.ntmps54
 go_upto_region 3 with fail
 go_cut [13, 14] (fun s13 r wx => r = .bool (moreR d neg rest h) /\ wx = w)
 case first =>
  clear HP
  by_cases ho : h % 2 = 1 <;> by_cases hq : h / 2 % 2 = 1
  all_goals
   simp only [ho, hq, decide_true, decide_false] at hb1 hb2
   rcases hd with rfl | rfl | rfl <;> cases neg <;> cases rest
  all_goals
   go_wp2_with fail
   go_meet
   exact ⟨by simp [moreR, ho, hq], rfl⟩
 case rest =>
 obtain ⟨rfl, rfl⟩ := hcut
 generalize hM : moreR d neg rest h = M at *
 clear hb1 hb2
 go_upto_if 55 with fail
 go_cut [12] (fun s12 wx => s12 = .int .u64 ((h / 2 + M.toNat : Nat) : Int) /\ wx = wc)
 case first =>
  cases M
  ·go_wp2_with fail
   go_meet
   exact ⟨by rw [<- hc]; rfl, rfl⟩
  ·go_wp2_with fail
   go_meet
   exact ⟨by rw [<- hc]; rfl, rfl⟩
 case rest =>
 obtain ⟨rfl, rfl⟩ := hcut
 have hQ : h / 2 + M.toNat <= 9007199254740992 := by have := Bool.toNat_le M; omega
 have hQ2 : e = -1074 \/ 4503599627370496 <= h / 2 + M.toNat := by omega
 rw [Nat.add_assoc] at HP
 generalize h / 2 + M.toNat = Q at *
 obtain ⟨e1, he1⟩ : ∃ e1 : Int, e1 = if Q = 9007199254740992 then e + 1 else e := ⟨_, rfl⟩
 obtain ⟨q1, hq1⟩ : ∃ q1 : Nat, q1 = if Q = 9007199254740992 then 4503599627370496 else Q := ⟨_, rfl⟩
 go_upto_if 59 with fail
 go_cut [4, 12] (fun s4 s12 wx => s4 = .int .i64 e1 /\ s12 = .int .u64 (q1 : Int) /\ wx = wc)
 case first =>
  by_cases h53 : Q = 9007199254740992
  ·rw [if_pos h53] at he1 hq1
   subst he1 hq1 h53
   go_wp2_with fail
   go_meet
   exact ⟨rfl, rfl, rfl⟩
  ·rw [if_neg h53] at he1 hq1
   subst he1 hq1
   have hne : ((q1 : Int) == 9007199254740992) = false := by rw [beq_eq_false_iff_ne]; omega
   rw [hne]
   go_wp2_with fail
   go_meet
   exact ⟨rfl, rfl, rfl⟩
 case rest =>
 obtain ⟨rfl, rfl, rfl⟩ := hcut
 have hq1b : q1 < 9007199254740992 := by rw [hq1]; split <;> omega
 have he1b : -1074 <= e1 /\ e1 <= 100001 := by rw [he1]; split <;> omega
 have hq1f : e1 = -1074 \/ 4503599627370496 <= q1 := by rw [he1, hq1]; split <;> omega
 have HRG : Hid ((e1 + 1074).toNat * 4503599627370496 + q1 = (e + 1074).toNat * 4503599627370496 + Q) := by unfold Hid; rw [he1, hq1]; split <;> omega
 have HOV : Hid ((infK <= (e + 1074).toNat * 4503599627370496 + Q \/ 971 < e) ↔ 971 < e1) := by
  unfold Hid infK; rw [he1]; split <;> omega
 clear hc hQ hQ2 hfm he1 hq1 he
 have hsgn : ∀ U : Nat, 0 < U -> U < 9223372036854775808 -> bits .or .u64 (U : Int) 9223372036854775808 = ((sgnK true U : Nat) : Int) := by
  intro U h0 h1
  have k := u64_or_nat U 9223372036854775808 (by omega) (by decide)
  rw [show ((9223372036854775808 : Nat) : Int) = 9223372036854775808 from rfl] at k
  have k2 := Nat.two_pow_add_eq_or_of_lt (i := 63) (b := U) (by omega) 1
  rw [show (2 : Nat) ^ 63 = 9223372036854775808 by decide, Nat.mul_one] at k2
  unfold sgnK
  rw [k, if_pos ⟨rfl, h0⟩, Nat.or_comm, <- k2]
 by_cases h971 : e1 <= 971
 ·have HPE : Hid (p = (sgnK neg ((e1 + 1074).toNat * 4503599627370496 + q1), true)) := by
   unfold Hid; rw [HP.out, if_neg (fun c => by have := HOV.out.1 c; omega), HRG.out]
  by_cases hb : 4503599627370496 <= q1
  ·obtain ⟨U, hU⟩ : ∃ U : Nat, U = (e1 + 1074).toNat * 4503599627370496 + q1 := ⟨_, rfl⟩
   have hand : bits .and .u64 (q1 : Int) 4503599627370495 = ((q1 - 4503599627370496 : Nat) : Int) := by
    have k := u64_and_nat q1 4503599627370495 (by omega) (by decide)
    rw [show ((4503599627370495 : Nat) : Int) = 4503599627370495 from rfl] at k
    rw [k, show (4503599627370495 : Nat) = 2 ^ 52 - 1 by decide, Nat.and_two_pow_sub_one_eq_mod, show (2 : Nat) ^ 52 = 4503599627370496 by decide]
    omega
   have hor : bits .or .u64 ((e1 + 1075) * 4503599627370496) ((q1 - 4503599627370496 : Nat) : Int) = (U : Int) := by
    rw [show (e1 + 1075) * 4503599627370496 = (((e1 + 1075).toNat * 4503599627370496 : Nat) : Int) by omega, u64_or_nat _ _ (by omega) (by omega)]
    have k := or_field (s := 0) (k := (e1 + 1075).toNat) (f := q1 - 4503599627370496) (by omega) (by omega) (by omega)
    rw [Nat.zero_mul, Nat.zero_add, Nat.zero_add] at k
    rw [Nat.or_comm, k, hU]
    omega
   generalize hq2 : q1 - 4503599627370496 = q2 at *
   have hU0 : 0 < U := by omega
   have hU1 : U < 9223372036854775808 := by omega
   have hs := hsgn U hU0 hU1
   rw [<- hU] at HPE
   clear hsgn HP HRG HOV hU hq2
   cases neg
   ·have hp : p = (U, true) := by have := HPE.out; unfold sgnK at this; simpa using this
    subst hp
    clear HPE
    go_wp2_with fail
    go_ret2
    exact ⟨rfl, rfl⟩
   ·have hp := HPE.out
    subst hp
    clear HPE
    go_wp2_with fail
    go_ret2
    exact ⟨rfl, rfl⟩
  ·have he0 : e1 = -1074 := by omega
   subst he0
   rw [show ((-1074 : Int) + 1074).toNat * 4503599627370496 + q1 = q1 by omega] at HPE
   have hs := hsgn q1
   clear hsgn HP HRG HOV
   cases neg
   ·have hp : p = (q1, true) := by have := HPE.out; unfold sgnK at this; simpa using this
    subst hp
    clear HPE
    go_wp2_with fail
    all_goals (go_ret2; exact ⟨rfl, rfl⟩)
   ·have hp := HPE.out
    subst hp
    clear HPE
    by_cases h0 : q1 = 0
    ·subst h0
     have hz : ((0 : Nat) : Int) = 0 := rfl
     rw [hz]
     clear hs
     go_wp2_with fail
     go_ret2
     exact ⟨rfl, rfl⟩
    ·have hs := hs (by omega) (by omega)
     go_wp2_with fail
     go_ret2
     exact ⟨rfl, rfl⟩
 ·have HPE : Hid (p = if d = 0 \/ M = true \/ (d = 1 /\ neg = false) \/ (d = 2 /\ neg = true) then (0, false) else (sgnK neg 9218868437227405311, true)) := by
   unfold Hid; rw [HP.out, if_pos (HOV.out.2 (by omega))]
  have hs := hsgn 9218868437227405311 (by decide) (by decide)
  rw [show ((9218868437227405311 : Nat) : Int) = 9218868437227405311 from rfl] at hs
  have hb : 4503599627370496 <= q1 := by omega
  clear hsgn HP HRG HOV hM
  rcases hd with rfl | rfl | rfl <;> cases neg <;> cases M
  all_goals
   have hp := HPE.out
   simp at hp
   subst hp
   clear HPE
   go_wp2_with fail
   go_ret2
   exact ⟨rfl, rfl⟩
theorem rd4_none (w : World) : Rd4 w none 0 0 [] := Rd4.none w
theorem alloc2_other (w : World) (o o' c : Obj) (b : Nat) (hb : b ≠ w.heap.size) : ((w.alloc o).alloc c).heap[b]? = ((w.alloc o').alloc c).heap[b]? := by
 rcases Nat.lt_or_ge b w.heap.size with h | h
 ·rw [Below.heap_alloc _ _ _ (by simp; omega), Below.heap_alloc _ _ _ h, Below.heap_alloc _ _ _ (by simp; omega), Below.heap_alloc _ _ _ h]
 ·by_cases h1 : b = w.heap.size + 1
  ·subst h1
   have e1 := heap_alloc_new (w.alloc o) c
   have e2 := heap_alloc_new (w.alloc o') c
   rw [show (w.alloc o).heap.size = w.heap.size + 1 by simp] at e1
   rw [show (w.alloc o').heap.size = w.heap.size + 1 by simp] at e2
   rw [e1, e2]
  ·rw [Array.getElem?_eq_none (by simp; omega), Array.getElem?_eq_none (by simp; omega)]
theorem alloc2_first (w : World) (o c : Obj) : ((w.alloc o).alloc c).heap[w.heap.size]? = some o := by
 rw [Below.heap_alloc _ _ _ (by simp)]; exact heap_alloc_new w o
def ofM (u : Nat) : Nat := if frung u < 4503599627370496 then frung u else 4503599627370496 + frung u % 4503599627370496
def ofE (u : Nat) : Int := if frung u < 4503599627370496 then -1074 else (frung u / 4503599627370496 : Nat) - 1075
theorem words2 {m : Nat} (hm : m < 18446744073709551616) : dig [m % 4294967296, m / 4294967296] = m /\ U4 [m % 4294967296, m / 4294967296] := by
 refine ⟨?_, ?_⟩
 ·simp only [dig]; omega
 ·intro x hx
  simp only [List.mem_cons, List.mem_nil_iff, or_false] at hx
  rcases hx with rfl | rfl <;> omega
theorem rd4_fresh2 (w : World) (a b : Nat) (hu : U4 [a, b]) : Rd4 (w.alloc (.cells #[.int .u32 (a : Int), .int .u32 (b : Int)] 119)) (some ⟨w.heap.size, 0, none⟩) 2 2 [a, b] := by
 refine ⟨rfl, Nat.le_refl _, by decide, hu, (fun h => by cases h), .inr ⟨_, _, rfl, fun j hj => ?_⟩⟩
 rw [Nat.zero_add, cell_of_row _ w.heap.size j _ _ _ (heap_alloc_new w _)]
 match j, hj with
 | 0, _ => rfl
 | 1, _ => rfl
theorem ofM_val {u : Nat} (hf : Fin u) : ofM u * 2 ^ (ofE u + 1074).toNat = rmag (frung u) /\ -1074 <= ofE u /\ ofE u <= 971 /\ bl (ofM u) <= 53 /\ (ofM u = 0 ↔ frung u = 0) := by
 unfold Fin infK at hf
 have hbl : ∀ m : Nat, m < 9007199254740992 -> bl m <= 53 := by
  intro m hm
  rcases Nat.eq_zero_or_pos m with h0 | h0
  ·rw [h0, bl_zero]; omega
  ·have h3 := bl_spec (m := m) (by omega)
   rcases Nat.lt_or_ge 53 (bl m) with h4 | h4
   ·have : 2 ^ 53 <= 2 ^ (bl m - 1) := Nat.pow_le_pow_right (by omega) (by omega)
    have h53 : (2 : Nat) ^ 53 = 9007199254740992 := by decide
    omega
   ·exact h4
 unfold ofM ofE
 by_cases h : frung u < 4503599627370496
 ·rw [if_pos h, if_pos h]
  refine ⟨?_, by omega, by omega, hbl _ (by omega), Iff.rfl⟩
  unfold rmag; rw [if_pos h, show ((-1074 : Int) + 1074).toNat = 0 from rfl, Nat.pow_zero, Nat.mul_one]
 ·rw [if_neg h, if_neg h]
  refine ⟨?_, by omega, by omega, hbl _ (by omega), by omega⟩
  unfold rmag; rw [if_neg h]; congr 2; omega
theorem cell_heapJ {w w' : World} {b : Nat} (h : w'.heap[b]? = w.heap[b]?) (o : Nat) : w'.cell? ⟨b, o, none⟩ = w.cell? ⟨b, o, none⟩ := by unfold World.cell?; simp only [h]
theorem dig_take_set {zs : List Nat} {k v : Nat} (hk : k < zs.length) : dig ((zs.set k v).take (k + 1)) = dig (zs.take k) + wd k * v := by
 rw [dig_take_succ (by rw [List.length_set]; exact hk), List.take_set_of_le (by omega), List.getElem?_set, if_pos rfl, if_pos hk]
 rfl
theorem dig_take_more {ys : List Nat} {k : Nat} : dig (ys.take (k + 1)) = dig (ys.take k) + wd k * ys[k]?.getD 0 := by
 by_cases h : k < ys.length
 ·exact dig_take_succ h
 ·rw [List.take_of_length_le (by omega), List.take_of_length_le (by omega), List.getElem?_eq_none (by omega)]; simp
theorem plus_core (ao : Option Addr) (len cap : Nat) (xs : List Nat) (bo : Option Addr) (blen bcap : Nat) (ys : List Nat) (w : World) (hx : Rd4 w ao len cap xs) (hy : Rd4 w bo blen bcap ys) (hl : len <= 10000) (hll : blen <= len) :
  Calls Tryz.prog 49 #[.slice ao len cap, .slice bo blen bcap] w fun e w' => ∃ ao' k cap' zs, e = .returned (.slice ao' k cap') /\ Rd4 w' ao' k cap' zs /\ Nm zs /\ dig zs = dig xs + dig ys /\ Below w.heap.size w w' /\ k <= len + 1 := by
 have hdl : decide (len < blen) = false := decide_eq_false (by omega)
 have h1 := hx.le
 have h2 := hx.max
 have h3 := hy.le
 have h4 := hy.max
 obtain ⟨w1, hmk, hO, hB1⟩ := make4 w (len + 1) (by omega)
 have hmk' := hmk ((len : Int) + 1) (by omega)
 have HX : Hid _ := hx
 have HY : Hid _ := hy
 have HO : Hid _ := hO
 have HB1 : Hid _ := hB1
 clear hmk hx hy hO hB1
 go_enter Tryz.func49, Tryz.ntmps49
 go_wp2_with fail
 go_loopg [6, 7] len (fun gg c i wx => ∃ (k cc : Nat) (zs : List Nat), k <= len /\ i = .int .i64 k /\ c = .int .u64 cc /\ cc <= 1 /\ Hid (Own4 wx w.heap.size w.heap.size (len + 1) zs) /\ Hid (Below w.heap.size w wx) /\ Hid (U4 zs) /\ Hid (dig (zs.take k) + wd k * cc = dig (xs.take k) + dig (ys.take k)) /\ len <= k + gg)
 case atStart =>
  refine ⟨0, 0, List.replicate (len + 1) 0, by omega, rfl, rfl, by omega, HO, HB1, ?_, ?_, by omega⟩
  ·intro x hx; rw [List.eq_of_mem_replicate hx]; decide
  ·unfold Hid; simp [dig]
 case round =>
  obtain ⟨k, cc, zs, hk, rfl, rfl, hcc, HOz, HBz, HUz, HDz, hfu⟩ := hrel
  by_cases hlt : k < len
  ·obtain ⟨fu, rfl⟩ : ∃ g, gk = g + 1 := ⟨gk - 1, by omega⟩
   rcases HX.out.cells with hh | ⟨b, off, rfl, hc⟩
   ·omega
   have g := (HBz.out.cell (World.block_lt_of_cell? w _ (hc k hlt))).trans (hc k hlt)
   have hxb := HX.out.lt.at k
   have gz := HOz.out.cell k (by omega)
   have gf := HOz.out.frozen k
   have HSET : Hid _ := HOz.out.set k
   have HTX : Hid _ := dig_take_more (ys := xs) (k := k)
   have HTY : Hid _ := dig_take_more (ys := ys) (k := k)
   clear hc
   generalize xs[k]?.getD 0 = x at *
   by_cases hkb : k < blen
   ·rcases HY.out.cells with hh | ⟨b2, off2, rfl, hc2⟩
    ·omega
    have g2 := (HBz.out.cell (World.block_lt_of_cell? w _ (hc2 k hkb))).trans (hc2 k hkb)
    have hyb := HY.out.lt.at k
    clear hc2
    generalize ys[k]?.getD 0 = y at *
    obtain ⟨S, hS⟩ : ∃ S : Nat, cc + x + y = S := ⟨_, rfl⟩
    have hSi : (cc : Int) + x + y = (S : Int) := by omega
    have hSb : S < 8589934592 := by omega
    ·have HS0 : Hid _ := hS
     clear hS
     have hS := HS0.out
     go_wp2_with fail
     go_roundg fu
     case rel =>
      refine ⟨k + 1, S / 4294967296, zs.set k (S % 4294967296), by omega, by go_num, by go_num, by omega, HSET.out _, below_set HBz.out (Nat.le_refl _), HUz.out.set k _ (Nat.mod_lt _ (by decide)), ?_, by omega⟩
      unfold Hid
      rw [dig_take_set (by rw [HOz.out.1]; omega), HTX.out, HTY.out, wd_succ]
      have hk0 := HDz.out
      have e1 := Nat.div_add_mod S 4294967296
      have e2 : wd k * S = wd k * cc + wd k * x + wd k * y := by rw [<- hS, Nat.mul_add, Nat.mul_add]
      have e3 : wd k * S = 4294967296 * wd k * (S / 4294967296) + wd k * (S % 4294967296) := by
       rw [Nat.mul_comm 4294967296, Nat.mul_assoc, <- Nat.mul_add, e1]
      omega
     case measure => omega
   ·have hy0 : ys[k]?.getD 0 = 0 := by rw [List.getElem?_eq_none (by rw [HY.out.length]; omega)]; rfl
    rw [hy0] at HTY
    obtain ⟨y, hy⟩ : ∃ y : Nat, y = 0 := ⟨_, rfl⟩
    rw [<- hy] at HTY
    obtain ⟨S, hS⟩ : ∃ S : Nat, cc + x + y = S := ⟨_, rfl⟩
    have hSi : (cc : Int) + x = (S : Int) := by omega
    have hSb : S < 8589934592 := by omega
    ·clear hy
     go_wp2_with fail
     go_roundg fu
     case rel =>
      refine ⟨k + 1, S / 4294967296, zs.set k (S % 4294967296), by omega, by go_num, by go_num, by omega, HSET.out _, below_set HBz.out (Nat.le_refl _), HUz.out.set k _ (Nat.mod_lt _ (by decide)), ?_, by omega⟩
      unfold Hid
      rw [dig_take_set (by rw [HOz.out.1]; omega), HTX.out, HTY.out, wd_succ]
      have hk0 := HDz.out
      have e1 := Nat.div_add_mod S 4294967296
      have e2 : wd k * S = wd k * cc + wd k * x + wd k * y := by rw [<- hS, Nat.mul_add, Nat.mul_add]
      have e3 : wd k * S = 4294967296 * wd k * (S / 4294967296) + wd k * (S % 4294967296) := by
       rw [Nat.mul_comm 4294967296, Nat.mul_assoc, <- Nat.mul_add, e1]
      omega
     case measure => omega
  ·obtain rfl : k = len := by omega
   have gz := HOz.out.cell k (by omega)
   have gf := HOz.out.frozen k
   have HSET : Hid _ := HOz.out.set k cc
   have HU2 : Hid (U4 (zs.set k cc)) := HUz.out.set k cc (by omega)
   have HDF : Hid (dig (zs.set k cc) = dig xs + dig ys) := by
    unfold Hid
    have e1 := dig_take_set (zs := zs) (k := k) (v := cc) (by rw [HOz.out.1]; omega)
    rw [List.take_of_length_le (by rw [List.length_set, HOz.out.1]; exact Nat.le_refl _)] at e1
    rw [e1, HDz.out, List.take_of_length_le (by rw [HX.out.length]; exact Nat.le_refl _), List.take_of_length_le (by rw [HY.out.length]; omega)]
   have hcm : (cc : Int) % 4294967296 = (cc : Int) := by omega
   go_wp2_with fail
   refine (trim_any _ _ _ (zs.set k cc) _ (Own4.rd HSET.out HU2.out (by omega))).mono ?_
   rintro e w' ⟨ao', m, rfl, rfl, hr', hm', hnm, hdg⟩
   go_wp2_with fail
   go_ret
   exact ⟨ao', m, _, _, rfl, hr', hnm, by rw [hdg, HDF.out], below_set HBz.out (Nat.le_refl _), by omega⟩
theorem plus_swap (ao : Option Addr) (len cap : Nat) (xs : List Nat) (bo : Option Addr) (blen bcap : Nat) (ys : List Nat) (w : World) (hx : Rd4 w ao len cap xs) (hy : Rd4 w bo blen bcap ys) (hl : len <= 10000) (hll : blen < len) :
  Calls Tryz.prog 49 #[.slice bo blen bcap, .slice ao len cap] w fun e w' => ∃ ao' k cap' zs, e = .returned (.slice ao' k cap') /\ Rd4 w' ao' k cap' zs /\ Nm zs /\ dig zs = dig xs + dig ys /\ Below w.heap.size w w' /\ k <= len + 1 := by
 have hdl : decide (blen < len) = true := decide_eq_true (by omega)
 have h1 := hx.le
 have h2 := hx.max
 have h3 := hy.le
 have h4 := hy.max
 obtain ⟨w1, hmk, hO, hB1⟩ := make4 w (len + 1) (by omega)
 have hmk' := hmk ((len : Int) + 1) (by omega)
 have HX : Hid _ := hx
 have HY : Hid _ := hy
 have HO : Hid _ := hO
 have HB1 : Hid _ := hB1
 clear hmk hx hy hO hB1
 go_enter Tryz.func49, Tryz.ntmps49
 go_wp2_with fail
 go_loopg [6, 7] len (fun gg c i wx => ∃ (k cc : Nat) (zs : List Nat), k <= len /\ i = .int .i64 k /\ c = .int .u64 cc /\ cc <= 1 /\ Hid (Own4 wx w.heap.size w.heap.size (len + 1) zs) /\ Hid (Below w.heap.size w wx) /\ Hid (U4 zs) /\ Hid (dig (zs.take k) + wd k * cc = dig (xs.take k) + dig (ys.take k)) /\ len <= k + gg)
 case atStart =>
  refine ⟨0, 0, List.replicate (len + 1) 0, by omega, rfl, rfl, by omega, HO, HB1, ?_, ?_, by omega⟩
  ·intro x hx; rw [List.eq_of_mem_replicate hx]; decide
  ·unfold Hid; simp [dig]
 case round =>
  obtain ⟨k, cc, zs, hk, rfl, rfl, hcc, HOz, HBz, HUz, HDz, hfu⟩ := hrel
  by_cases hlt : k < len
  ·obtain ⟨fu, rfl⟩ : ∃ g, gk = g + 1 := ⟨gk - 1, by omega⟩
   rcases HX.out.cells with hh | ⟨b, off, rfl, hc⟩
   ·omega
   have g := (HBz.out.cell (World.block_lt_of_cell? w _ (hc k hlt))).trans (hc k hlt)
   have hxb := HX.out.lt.at k
   have gz := HOz.out.cell k (by omega)
   have gf := HOz.out.frozen k
   have HSET : Hid _ := HOz.out.set k
   have HTX : Hid _ := dig_take_more (ys := xs) (k := k)
   have HTY : Hid _ := dig_take_more (ys := ys) (k := k)
   clear hc
   generalize xs[k]?.getD 0 = x at *
   by_cases hkb : k < blen
   ·rcases HY.out.cells with hh | ⟨b2, off2, rfl, hc2⟩
    ·omega
    have g2 := (HBz.out.cell (World.block_lt_of_cell? w _ (hc2 k hkb))).trans (hc2 k hkb)
    have hyb := HY.out.lt.at k
    clear hc2
    generalize ys[k]?.getD 0 = y at *
    obtain ⟨S, hS⟩ : ∃ S : Nat, cc + x + y = S := ⟨_, rfl⟩
    have hSi : (cc : Int) + x + y = (S : Int) := by omega
    have hSb : S < 8589934592 := by omega
    ·have HS0 : Hid _ := hS
     clear hS
     have hS := HS0.out
     go_wp2_with fail
     go_roundg fu
     case rel =>
      refine ⟨k + 1, S / 4294967296, zs.set k (S % 4294967296), by omega, by go_num, by go_num, by omega, HSET.out _, below_set HBz.out (Nat.le_refl _), HUz.out.set k _ (Nat.mod_lt _ (by decide)), ?_, by omega⟩
      unfold Hid
      rw [dig_take_set (by rw [HOz.out.1]; omega), HTX.out, HTY.out, wd_succ]
      have hk0 := HDz.out
      have e1 := Nat.div_add_mod S 4294967296
      have e2 : wd k * S = wd k * cc + wd k * x + wd k * y := by rw [<- hS, Nat.mul_add, Nat.mul_add]
      have e3 : wd k * S = 4294967296 * wd k * (S / 4294967296) + wd k * (S % 4294967296) := by
       rw [Nat.mul_comm 4294967296, Nat.mul_assoc, <- Nat.mul_add, e1]
      omega
     case measure => omega
   ·have hy0 : ys[k]?.getD 0 = 0 := by rw [List.getElem?_eq_none (by rw [HY.out.length]; omega)]; rfl
    rw [hy0] at HTY
    obtain ⟨y, hy⟩ : ∃ y : Nat, y = 0 := ⟨_, rfl⟩
    rw [<- hy] at HTY
    obtain ⟨S, hS⟩ : ∃ S : Nat, cc + x + y = S := ⟨_, rfl⟩
    have hSi : (cc : Int) + x = (S : Int) := by omega
    have hSb : S < 8589934592 := by omega
    ·clear hy
     go_wp2_with fail
     go_roundg fu
     case rel =>
      refine ⟨k + 1, S / 4294967296, zs.set k (S % 4294967296), by omega, by go_num, by go_num, by omega, HSET.out _, below_set HBz.out (Nat.le_refl _), HUz.out.set k _ (Nat.mod_lt _ (by decide)), ?_, by omega⟩
      unfold Hid
      rw [dig_take_set (by rw [HOz.out.1]; omega), HTX.out, HTY.out, wd_succ]
      have hk0 := HDz.out
      have e1 := Nat.div_add_mod S 4294967296
      have e2 : wd k * S = wd k * cc + wd k * x + wd k * y := by rw [<- hS, Nat.mul_add, Nat.mul_add]
      have e3 : wd k * S = 4294967296 * wd k * (S / 4294967296) + wd k * (S % 4294967296) := by
       rw [Nat.mul_comm 4294967296, Nat.mul_assoc, <- Nat.mul_add, e1]
      omega
     case measure => omega
  ·obtain rfl : k = len := by omega
   have gz := HOz.out.cell k (by omega)
   have gf := HOz.out.frozen k
   have HSET : Hid _ := HOz.out.set k cc
   have HU2 : Hid (U4 (zs.set k cc)) := HUz.out.set k cc (by omega)
   have HDF : Hid (dig (zs.set k cc) = dig xs + dig ys) := by
    unfold Hid
    have e1 := dig_take_set (zs := zs) (k := k) (v := cc) (by rw [HOz.out.1]; omega)
    rw [List.take_of_length_le (by rw [List.length_set, HOz.out.1]; exact Nat.le_refl _)] at e1
    rw [e1, HDz.out, List.take_of_length_le (by rw [HX.out.length]; exact Nat.le_refl _), List.take_of_length_le (by rw [HY.out.length]; omega)]
   have hcm : (cc : Int) % 4294967296 = (cc : Int) := by omega
   go_wp2_with fail
   refine (trim_any _ _ _ (zs.set k cc) _ (Own4.rd HSET.out HU2.out (by omega))).mono ?_
   rintro e w' ⟨ao', m, rfl, rfl, hr', hm', hnm, hdg⟩
   go_wp2_with fail
   go_ret
   exact ⟨ao', m, _, _, rfl, hr', hnm, by rw [hdg, HDF.out], below_set HBz.out (Nat.le_refl _), by omega⟩
theorem plus_any (ao : Option Addr) (len cap : Nat) (xs : List Nat) (bo : Option Addr) (blen bcap : Nat) (ys : List Nat) (w : World) (hx : Rd4 w ao len cap xs) (hy : Rd4 w bo blen bcap ys) (hl : len <= 10000) (hl2 : blen <= 10000) :
  Calls Tryz.prog 49 #[.slice ao len cap, .slice bo blen bcap] w fun e w' => ∃ ao' k cap' zs, e = .returned (.slice ao' k cap') /\ Rd4 w' ao' k cap' zs /\ Nm zs /\ dig zs = dig xs + dig ys /\ Below w.heap.size w w' /\ k <= max len blen + 1 := by
 by_cases h : blen <= len
 ·refine (plus_core ao len cap xs bo blen bcap ys w hx hy hl h).mono ?_
  rintro e w' ⟨ao', k, cap', zs, h1, h2, h3, h4, h5, h6⟩
  exact ⟨ao', k, cap', zs, h1, h2, h3, h4, h5, by omega⟩
 ·refine (plus_swap bo blen bcap ys ao len cap xs w hy hx hl2 (by omega)).mono ?_
  rintro e w' ⟨ao', k, cap', zs, h1, h2, h3, h4, h5, h6⟩
  exact ⟨ao', k, cap', zs, h1, h2, h3, by rw [h4, Nat.add_comm], h5, by omega⟩
theorem minus_any (ao : Option Addr) (len cap : Nat) (xs : List Nat) (bo : Option Addr) (blen bcap : Nat) (ys : List Nat) (w : World) (hx : Rd4 w ao len cap xs) (hy : Rd4 w bo blen bcap ys) (hl : len <= 10000) (hll : blen <= len) (hdd : dig ys <= dig xs) :
  Calls Tryz.prog 51 #[.slice ao len cap, .slice bo blen bcap] w fun e w' => ∃ ao' k cap' zs, e = .returned (.slice ao' k cap') /\ Rd4 w' ao' k cap' zs /\ Nm zs /\ dig zs = dig xs - dig ys /\ Below w.heap.size w w' /\ k <= len := by
 have h1 := hx.le
 have h2 := hx.max
 have h3 := hy.le
 have h4 := hy.max
 obtain ⟨w1, hmk, hO, hB1⟩ := make4 w len (by omega)
 have hmk' := hmk (len : Int) rfl
 have HX : Hid _ := hx
 have HY : Hid _ := hy
 have HO : Hid _ := hO
 have HB1 : Hid _ := hB1
 clear hmk hx hy hO hB1
 go_enter Tryz.func51, Tryz.ntmps51
 go_wp2_with fail
 go_loopg [6, 7] len (fun gg c i wx => ∃ (k cc : Nat) (zs : List Nat), k <= len /\ i = .int .i64 k /\ c = .int .u64 cc /\ cc <= 1 /\ Hid (Own4 wx w.heap.size w.heap.size len zs) /\ Hid (Below w.heap.size w wx) /\ Hid (U4 zs) /\ Hid (dig (xs.take k) + wd k * cc = dig (zs.take k) + dig (ys.take k)) /\ len <= k + gg)
 case atStart =>
  refine ⟨0, 0, List.replicate len 0, by omega, rfl, rfl, by omega, HO, HB1, ?_, ?_, by omega⟩
  ·intro x hx; rw [List.eq_of_mem_replicate hx]; decide
  ·unfold Hid; simp [dig]
 case round =>
  obtain ⟨k, cc, zs, hk, rfl, rfl, hcc, HOz, HBz, HUz, HDz, hfu⟩ := hrel
  by_cases hlt : k < len
  ·obtain ⟨fu, rfl⟩ : ∃ g, gk = g + 1 := ⟨gk - 1, by omega⟩
   rcases HX.out.cells with hh | ⟨b, off, rfl, hc⟩
   ·omega
   have g := (HBz.out.cell (World.block_lt_of_cell? w _ (hc k hlt))).trans (hc k hlt)
   have hxb := HX.out.lt.at k
   have gz := HOz.out.cell k (by omega)
   have gf := HOz.out.frozen k
   have HSET : Hid _ := HOz.out.set k
   have HTX : Hid _ := dig_take_more (ys := xs) (k := k)
   have HTY : Hid _ := dig_take_more (ys := ys) (k := k)
   clear hc
   generalize xs[k]?.getD 0 = y at *
   by_cases hkb : k < blen
   ·rcases HY.out.cells with hh | ⟨b2, off2, rfl, hc2⟩
    ·omega
    have g2 := (HBz.out.cell (World.block_lt_of_cell? w _ (hc2 k hkb))).trans (hc2 k hkb)
    have hyb := HY.out.lt.at k
    clear hc2
    generalize ys[k]?.getD 0 = z at *
    obtain ⟨X, hX⟩ : ∃ X : Nat, cc + z = X := ⟨_, rfl⟩
    have hXi : (cc : Int) + z = (X : Int) := by omega
    have hXb : X <= 4294967296 := by omega
    by_cases hbr : y < X
    ·have hv : (y : Int) + 4294967296 - (X : Int) = ((y + 4294967296 - X : Nat) : Int) := by omega
     obtain ⟨V, hV⟩ : ∃ V : Nat, y + 4294967296 - X = V := ⟨_, rfl⟩
     rw [hV] at hv
     have hVb : V < 4294967296 := by omega
     go_wp2_with fail
     go_roundg fu
     case rel =>
      refine ⟨k + 1, 1, zs.set k V, by omega, by go_num, rfl, by omega, HSET.out _, below_set HBz.out (Nat.le_refl _), HUz.out.set k _ hVb, ?_, by omega⟩
      unfold Hid
      rw [dig_take_set (by rw [HOz.out.1]; omega), HTX.out, HTY.out, wd_succ]
      have hk0 := HDz.out
      have e1 : wd k * y + wd k * 4294967296 = wd k * V + (wd k * cc + wd k * z) := by rw [<- Nat.mul_add, <- Nat.mul_add, <- Nat.mul_add]; congr 1; omega
      have e2 : 4294967296 * wd k * 1 = wd k * 4294967296 := by rw [Nat.mul_one, Nat.mul_comm]
      omega
     case measure => omega
    ·have hv : (y : Int) - (X : Int) = ((y - X : Nat) : Int) := by omega
     obtain ⟨V, hV⟩ : ∃ V : Nat, y - X = V := ⟨_, rfl⟩
     rw [hV] at hv
     have hVb : V < 4294967296 := by omega
     go_wp2_with fail
     go_roundg fu
     case rel =>
      refine ⟨k + 1, 0, zs.set k V, by omega, by go_num, rfl, by omega, HSET.out _, below_set HBz.out (Nat.le_refl _), HUz.out.set k _ hVb, ?_, by omega⟩
      unfold Hid
      rw [dig_take_set (by rw [HOz.out.1]; omega), HTX.out, HTY.out, wd_succ]
      have hk0 := HDz.out
      have e1 : wd k * y = wd k * V + (wd k * cc + wd k * z) := by rw [<- Nat.mul_add, <- Nat.mul_add]; congr 1; omega
      have e2 : 4294967296 * wd k * 0 = 0 := Nat.mul_zero _
      omega
     case measure => omega
   ·have hy0 : ys[k]?.getD 0 = 0 := by rw [List.getElem?_eq_none (by rw [HY.out.length]; omega)]; rfl
    rw [hy0] at HTY
    obtain ⟨z, hz⟩ : ∃ z : Nat, z = 0 := ⟨_, rfl⟩
    rw [<- hz] at HTY
    obtain ⟨X, hX⟩ : ∃ X : Nat, X = cc := ⟨_, rfl⟩
    have hXc : cc + z = X := by omega
    clear hz
    subst hX
    by_cases hbr : y < X
    ·have hv : (y : Int) + 4294967296 - (X : Int) = ((y + 4294967296 - X : Nat) : Int) := by omega
     obtain ⟨V, hV⟩ : ∃ V : Nat, y + 4294967296 - X = V := ⟨_, rfl⟩
     rw [hV] at hv
     have hVb : V < 4294967296 := by omega
     go_wp2_with fail
     go_roundg fu
     case rel =>
      refine ⟨k + 1, 1, zs.set k V, by omega, by go_num, rfl, by omega, HSET.out _, below_set HBz.out (Nat.le_refl _), HUz.out.set k _ hVb, ?_, by omega⟩
      unfold Hid
      rw [dig_take_set (by rw [HOz.out.1]; omega), HTX.out, HTY.out, wd_succ]
      have hk0 := HDz.out
      have e1 : wd k * y + wd k * 4294967296 = wd k * V + (wd k * X + wd k * z) := by rw [<- Nat.mul_add, <- Nat.mul_add, <- Nat.mul_add]; congr 1; omega
      have e2 : 4294967296 * wd k * 1 = wd k * 4294967296 := by rw [Nat.mul_one, Nat.mul_comm]
      omega
     case measure => omega
    ·have hv : (y : Int) - (X : Int) = ((y - X : Nat) : Int) := by omega
     obtain ⟨V, hV⟩ : ∃ V : Nat, y - X = V := ⟨_, rfl⟩
     rw [hV] at hv
     have hVb : V < 4294967296 := by omega
     go_wp2_with fail
     go_roundg fu
     case rel =>
      refine ⟨k + 1, 0, zs.set k V, by omega, by go_num, rfl, by omega, HSET.out _, below_set HBz.out (Nat.le_refl _), HUz.out.set k _ hVb, ?_, by omega⟩
      unfold Hid
      rw [dig_take_set (by rw [HOz.out.1]; omega), HTX.out, HTY.out, wd_succ]
      have hk0 := HDz.out
      have e1 : wd k * y = wd k * V + (wd k * X + wd k * z) := by rw [<- Nat.mul_add, <- Nat.mul_add]; congr 1; omega
      have e2 : 4294967296 * wd k * 0 = 0 := Nat.mul_zero _
      omega
     case measure => omega
  ·obtain rfl : k = len := by omega
   have HTX : Hid (xs.take k = xs) := by unfold Hid; exact List.take_of_length_le (by rw [HX.out.length]; omega)
   have HDF : Hid (dig zs = dig xs - dig ys) := by
    unfold Hid
    have e1 := HDz.out
    have e2 := dig_lt HUz.out
    rw [HOz.out.1] at e2
    rw [HTX.out, List.take_of_length_le (by rw [HOz.out.1]; omega), List.take_of_length_le (by rw [HY.out.length]; omega)] at e1
    have e3 : cc = 0 := by
     rcases Nat.eq_zero_or_pos cc with h | h
     ·exact h
     ·have : cc = 1 := by omega
      rw [this, Nat.mul_one] at e1; omega
    rw [e3, Nat.mul_zero] at e1
    omega
   go_wp2_with fail
   refine (trim_any _ _ _ zs _ (Own4.rd HOz.out HUz.out (by omega))).mono ?_
   rintro e w' ⟨ao', m, rfl, rfl, hr', hm', hnm, hdg⟩
   go_wp2_with fail
   go_ret
   exact ⟨ao', m, _, _, rfl, hr', hnm, by rw [hdg, HDF.out], HBz.out, by omega⟩
def cmpN (m n : Nat) : Int := if m < n then -1 else if m = n then 0 else 1
theorem shorter_lt {xs ys : List Nat} (hx : U4 xs) (hy : U4 ys) (hn : Nm ys) (hl : xs.length < ys.length) : dig xs < dig ys := by
 have h1 := dig_lt hx
 have e := dig_take_succ (xs := ys) (k := ys.length - 1) (by omega)
 rw [show ys.length - 1 + 1 = ys.length by omega, List.take_length] at e
 have h2 : ys[ys.length - 1]?.getD 0 ≠ 0 := by
  rcases hn with h | h
  ·rw [h] at hl; simp at hl
  ·exact h
 have h3 : wd (ys.length - 1) * 1 <= wd (ys.length - 1) * ys[ys.length - 1]?.getD 0 := Nat.mul_le_mul_left _ (by omega)
 have h4 : wd xs.length <= wd (ys.length - 1) := by unfold wd; exact Nat.pow_le_pow_right (by omega) (by omega)
 omega
theorem upper_lt {xs ys : List Nat} {k : Nat} (hx : U4 xs) (hy : U4 ys) (hl : k < xs.length) (hl2 : k < ys.length) (hd : dig (xs.drop (k + 1)) = dig (ys.drop (k + 1))) (h : xs[k]?.getD 0 < ys[k]?.getD 0) : dig xs < dig ys := by
 have e1 := dig_split xs k
 have e2 := dig_split ys k
 have b1 := dig_lt (hx.take k)
 rw [List.length_take, Nat.min_eq_left (by omega)] at e1 e2 b1
 rw [dig_drop_pred, hd] at e1
 rw [dig_drop_pred] at e2
 generalize xs[k]?.getD 0 = x at *
 generalize ys[k]?.getD 0 = y at *
 generalize dig (ys.drop (k + 1)) = D at *
 have h5 : wd k * (x + 4294967296 * D) + wd k <= wd k * (y + 4294967296 * D) := by
  rw [<- Nat.mul_succ]; exact Nat.mul_le_mul_left _ (by omega)
 omega
theorem cmp_any (ao : Option Addr) (len cap : Nat) (xs : List Nat) (bo : Option Addr) (blen bcap : Nat) (ys : List Nat) (w : World) (hx : Rd4 w ao len cap xs) (hy : Rd4 w bo blen bcap ys) (hnx : Nm xs) (hny : Nm ys) :
  Calls Tryz.prog 50 #[.slice ao len cap, .slice bo blen bcap] w fun e w' => e = .returned (.int .i64 (cmpN (dig xs) (dig ys))) /\ Below w.heap.size w w' := by
 have h1 := hx.le
 have h2 := hx.max
 have h3 := hy.le
 have h4 := hy.max
 by_cases hlt : len < blen
 ·have hc : cmpN (dig xs) (dig ys) = -1 := by unfold cmpN; rw [if_pos (shorter_lt hx.lt hy.lt hny (by rw [hx.length, hy.length]; exact hlt))]
  rw [hc]
  clear hx hy hnx hny hc
  go_enter Tryz.func50, Tryz.ntmps50
  go_wp2
  go_ret
  exact ⟨rfl, Below.refl _ _⟩
 ·by_cases hgt : blen < len
  ·have hl := shorter_lt hy.lt hx.lt hnx (by rw [hx.length, hy.length]; exact hgt)
   have hc : cmpN (dig xs) (dig ys) = 1 := by unfold cmpN; rw [if_neg (by omega), if_neg (by omega)]
   rw [hc]
   clear hx hy hnx hny hc hl
   go_enter Tryz.func50, Tryz.ntmps50
   go_wp2
   go_ret
   exact ⟨rfl, Below.refl _ _⟩
  ·obtain rfl : len = blen := by omega
   have HX : Hid _ := hx
   have HY : Hid _ := hy
   have hbb : ((len : Int) != (len : Int)) = false := by simp
   clear hx hy hlt hgt hnx hny
   go_enter Tryz.func50, Tryz.ntmps50
   go_wp2_with fail
   go_loopg [5] len (fun gg i wx => ∃ k : Nat, k <= len /\ i = .int .i64 ((k : Int) - 1) /\ Hid (dig (xs.drop k) = dig (ys.drop k)) /\ Hid (Below w.heap.size w wx) /\ k <= gg)
   case atStart => exact ⟨len, by omega, rfl, by unfold Hid; rw [List.drop_of_length_le (by rw [HX.out.length]; omega), List.drop_of_length_le (by rw [HY.out.length]; omega)], Below.refl _ _, by omega⟩
   case round =>
    obtain ⟨k, hk, rfl, HD, HB, hfu⟩ := hrel
    cases k with
    | zero =>
     have hz : ((0 : Nat) : Int) - 1 = -1 := rfl
     rw [hz]
     have hc : cmpN (dig xs) (dig ys) = 0 := by
      have := HD.out
      rw [List.drop_zero, List.drop_zero] at this
      unfold cmpN; rw [this, if_neg (by omega), if_pos rfl]
     have HCM : Hid _ := hc
     clear hc
     go_wp2_with fail
     go_ret
     exact ⟨by rw [HCM.out]; rfl, HB.out⟩
    | succ k =>
     obtain ⟨fu, rfl⟩ : ∃ g, gk = g + 1 := ⟨gk - 1, by omega⟩
     rcases HX.out.cells with hh | ⟨b, off, rfl, hc⟩
     ·omega
     rcases HY.out.cells with hh | ⟨b2, off2, rfl, hc2⟩
     ·omega
     have g := (HB.out.cell (World.block_lt_of_cell? w _ (hc k (by omega)))).trans (hc k (by omega))
     have g2 := (HB.out.cell (World.block_lt_of_cell? w _ (hc2 k (by omega)))).trans (hc2 k (by omega))
     have hxb := HX.out.lt.at k
     have hyb := HY.out.lt.at k
     have HLT : Hid (xs[k]?.getD 0 < ys[k]?.getD 0 -> dig xs < dig ys) := fun h => upper_lt HX.out.lt HY.out.lt (by rw [HX.out.length]; omega) (by rw [HY.out.length]; omega) HD.out h
     have HGT : Hid (ys[k]?.getD 0 < xs[k]?.getD 0 -> dig ys < dig xs) := fun h => upper_lt HY.out.lt HX.out.lt (by rw [HY.out.length]; omega) (by rw [HX.out.length]; omega) HD.out.symm h
     have HEQ : Hid (xs[k]?.getD 0 = ys[k]?.getD 0 -> dig (xs.drop k) = dig (ys.drop k)) := fun h => by rw [dig_drop_pred, dig_drop_pred (xs := ys), h, HD.out]
     clear hc hc2
     generalize xs[k]?.getD 0 = x at *
     generalize ys[k]?.getD 0 = y at *
     have hz : ((k + 1 : Nat) : Int) - 1 = (k : Int) := by omega
     rw [hz]
     by_cases h5 : x < y
     ·have hcm : cmpN (dig xs) (dig ys) = -1 := by unfold cmpN; rw [if_pos (HLT.out h5)]
      have HCM : Hid _ := hcm
      clear hcm
      go_wp2_with fail
      go_region
      go_wp2_with fail
      go_ret
      exact ⟨by rw [HCM.out]; rfl, HB.out.drew⟩
     ·by_cases h6 : y < x
      ·have hcm : cmpN (dig xs) (dig ys) = 1 := by have := HGT.out h6; unfold cmpN; rw [if_neg (by omega), if_neg (by omega)]
       have HCM : Hid _ := hcm
       clear hcm
       go_wp2_with fail
       go_region
       go_wp2_with fail
       go_region
       go_wp2_with fail
       go_ret
       exact ⟨by rw [HCM.out]; rfl, HB.out.drew.drew⟩
      ·obtain rfl : x = y := by omega
       go_wp2_with fail
       go_region
       go_wp2_with fail
       go_region
       go_wp2_with fail
       go_roundg fu
       case rel => exact ⟨k, by omega, rfl, HEQ.out trivial, HB.out.drew.drew, by omega⟩
       case measure => omega
end Go.Proofs.YthmhgpadinecfaaGreat
