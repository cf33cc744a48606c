import Derived.Test.YtoehhnildocihaaShelfB
import Derived.Test.YtoehhnildocihaaSPt
import Derived.Test.YtoehhnildocihaaSPl
import Ieee.Arith
import Derived.Test.YtoehhnildocihaaChecked
import Derived.WalkKit
import Derived.WalkSmall
import Derived.WalkLawsBesides
import Derived.Lib.EndianBits
import Derived.Laws.Bits128
import Derived.Laws.BitsAll
import Derived.BigQuiet
import Derived.RangeFuncNested
import Derived.RangeFuncBound
import Derived.RangeFuncCalls
import Derived.RangeFuncLeaves
import Derived.RangeFuncFrom
import Derived.RangeFuncWrites
import Derived.Shelf.Abstract
import Derived.Shelf.RegionOpen
import Derived.OwnWalkIn
import Derived.TacticsInMore
import Derived.LoopNIn
import Derived.LoopIn
import Derived.Deep.WholeRow
import Derived.Deep.MidRow
import Derived.Laws.CopyOwn
import Derived.Deep.RegionHeld3
import Derived.Laws.OwnMore
import Derived.OneCell
import Derived.Deep.RegionWith
import Derived.Deep.DeepCutAuto
import Derived.Deep.QuietTactic
import Derived.Laws.Externs
import Derived.Deep.DeepMust
import Derived.BigRegion
import Derived.ArgAppend
import Derived.OwnWalk
import Derived.Orders
import Derived.RegionTactic
import Derived.Below
import Derived.Deep.CutRange
import Derived.Laws.AppendOwnNone
import Derived.Test.YtoehhnildocihaaRows
import Derived.Deep.Slices
import Derived.OpenShut
import Derived.Lib.SmallJoins
import Derived.ChangeSame
namespace Go.Proofs.Ytoehhnildocihaa
set_option linter.unusedVariables false
/-- 2^(32 k). -/
def wd (k : Nat) : Nat := 2 ^ (32 * k)
theorem wd_zero : wd 0 = 1 := rfl
theorem wd_succ (k : Nat) : wd (k + 1) = 4294967296 * wd k := by
  unfold wd; rw [Nat.mul_add, Nat.mul_one, Nat.pow_add, Nat.mul_comm]
theorem wd_pos (k : Nat) : 0 < wd k := Nat.two_pow_pos _
theorem wd_add (a b : Nat) : wd (a + b) = wd a * wd b := by unfold wd; rw [Nat.mul_add, Nat.pow_add]
theorem U4.tail {x : Nat} {xs : List Nat} (h : U4 (x :: xs)) : x < 4294967296 ∧ U4 xs := ⟨h x (by simp), fun y hy => h y (by simp [hy])⟩
theorem dig_lt {xs : List Nat} (h : U4 xs) : dig xs < wd xs.length := by
  induction xs with
  | nil => simp [dig, wd]
  | cons x xs ih =>
    have h1 := h.tail
    have := ih h1.2
    rw [List.length_cons, wd_succ]
    show x + 4294967296 * dig xs < _
    omega
theorem dig_append (xs ys : List Nat) : dig (xs ++ ys) = dig xs + wd xs.length * dig ys := by
  induction xs with
  | nil => simp [dig, wd]
  | cons x xs ih =>
    show x + 4294967296 * dig (xs ++ ys) = x + 4294967296 * dig xs + _
    rw [ih, List.length_cons, wd_succ, Nat.mul_add, Nat.mul_assoc]; omega
theorem dig_split (xs : List Nat) (k : Nat) : dig xs = dig (xs.take k) + wd (xs.take k).length * dig (xs.drop k) := by
  rw [← dig_append, List.take_append_drop]
theorem dig_take_succ {xs : List Nat} {k : Nat} (hk : k < xs.length) : dig (xs.take (k + 1)) = dig (xs.take k) + wd k * xs[k]?.getD 0 := by
  rw [List.take_succ_eq_append_getElem hk, dig_append, List.length_take, Nat.min_eq_left (by omega), List.getElem?_eq_getElem hk]
  simp [dig]
theorem dig_set {xs : List Nat} {k v : Nat} (hk : k < xs.length) : dig (xs.set k v) + wd k * xs[k]?.getD 0 = dig xs + wd k * v := by
  induction xs generalizing k with
  | nil => simp at hk
  | cons x xs ih =>
    cases k with
    | zero => simp [dig, wd_zero]; omega
    | succ k =>
      have := ih (k := k) (by simpa using hk)
      simp only [List.set_cons_succ, dig, List.getElem?_cons_succ, wd_succ]
      have e1 : 4294967296 * wd k * xs[k]?.getD 0 = 4294967296 * (wd k * xs[k]?.getD 0) := Nat.mul_assoc ..
      have e2 : 4294967296 * wd k * v = 4294967296 * (wd k * v) := Nat.mul_assoc ..
      omega
theorem dig_zeros (n : Nat) : dig (List.replicate n 0) = 0 := by
  induction n with
  | zero => rfl
  | succ n ih => rw [List.replicate_succ]; simp [dig, ih]
theorem bl_uniq {m k : Nat} (h1 : 2 ^ k ≤ m) (h2 : m < 2 ^ (k + 1)) : bl m = k + 1 := by
  have hm : m ≠ 0 := by have := Nat.two_pow_pos k; omega
  unfold bl; rw [if_neg hm]
  have := (Nat.log2_eq_iff hm).2 ⟨h1, h2⟩
  omega
/-- How long a number with a last word that is not 0 is. -/
theorem bl_dig {xs : List Nat} (h : U4 xs) (hn : Nm xs) (h0 : xs ≠ []) : bl (dig xs) = 32 * (xs.length - 1) + bl (xs[xs.length - 1]?.getD 0) ∧ dig xs ≠ 0 := by
  have hl : 0 < xs.length := List.length_pos_iff.2 h0
  have ht : xs[xs.length - 1]?.getD 0 ≠ 0 := by
    rcases hn with h1 | h1
    · exact absurd h1 h0
    · exact h1
  have e := dig_take_succ (xs := xs) (k := xs.length - 1) (by omega)
  rw [show xs.length - 1 + 1 = xs.length by omega, List.take_length] at e
  have hlow := dig_lt (h.take (xs.length - 1))
  rw [List.length_take, Nat.min_eq_left (by omega)] at hlow
  have ht2 := h.at (xs.length - 1)
  generalize xs[xs.length - 1]?.getD 0 = t at *
  generalize dig (xs.take (xs.length - 1)) = lo at *
  generalize xs.length - 1 = L at *
  have hb := bl_spec ht
  have hw := wd_pos L
  have hm : dig xs ≠ 0 := by
    have : wd L * 1 ≤ wd L * t := Nat.mul_le_mul_left _ (by omega)
    omega
  refine ⟨?_, hm⟩
  obtain ⟨k, hk⟩ : ∃ k, bl t = k + 1 := ⟨bl t - 1, by omega⟩
  rw [hk] at hb ⊢
  simp only [Nat.add_sub_cancel] at hb
  rw [e, show 32 * L + (k + 1) = (32 * L + k) + 1 from rfl]
  refine bl_uniq ?_ ?_
  · rw [Nat.pow_add]; have := Nat.mul_le_mul_left (wd L) hb.1; unfold wd at *; omega
  · rw [show 32 * L + k + 1 = 32 * L + (k + 1) from rfl, Nat.pow_add]
    have h1 : wd L * t + wd L ≤ wd L * 2 ^ (k + 1) := by
      rw [← Nat.mul_succ]; exact Nat.mul_le_mul_left _ hb.2.1
    unfold wd at *; omega
end Go.Proofs.Ytoehhnildocihaa
namespace Go.Proofs.Ytoehhnildocihaa
set_option linter.unusedVariables false
/-- One round of 'left': what the two words become. -/
theorem left_step {zs : List Nat} {k s x T N D : Nat} (hs : s < 32) (hx : x < 4294967296) (hk : k + 1 < zs.length) (hu : U4 zs) (hz : ∀ j, k < j → zs[j]?.getD 0 = 0) (hlo : zs[k]?.getD 0 < 2 ^ s) (hD : dig zs = D * T) (hT : T * wd 0 = T) :
    U4 ((zs.set k (zs[k]?.getD 0 + x * 2 ^ s % 4294967296)).set (k + 1) (x * 2 ^ s / 4294967296)) ∧
    dig ((zs.set k (zs[k]?.getD 0 + x * 2 ^ s % 4294967296)).set (k + 1) (x * 2 ^ s / 4294967296)) = dig zs + wd k * (x * 2 ^ s) ∧
    (∀ j, k + 1 < j → ((zs.set k (zs[k]?.getD 0 + x * 2 ^ s % 4294967296)).set (k + 1) (x * 2 ^ s / 4294967296))[j]?.getD 0 = 0) ∧
    ((zs.set k (zs[k]?.getD 0 + x * 2 ^ s % 4294967296)).set (k + 1) (x * 2 ^ s / 4294967296))[k + 1]?.getD 0 < 2 ^ s ∧ zs[k]?.getD 0 + x * 2 ^ s % 4294967296 < 4294967296 ∧ x * 2 ^ s / 4294967296 < 4294967296 := by
  have hd : (2 ^ s : Nat) ∣ x * 2 ^ s % 4294967296 := by
    rw [show (4294967296 : Nat) = 2 ^ (32 - s) * 2 ^ s by rw [← Nat.pow_add, show 32 - s + s = 32 by omega]]
    rw [Nat.mul_mod_mul_right]; exact Nat.dvd_mul_left ..
  have hp := Nat.two_pow_pos s
  have hps : (2 : Nat) ^ s ≤ 2 ^ 31 := Nat.pow_le_pow_right (by omega) (by omega)
  have h31 : (2 : Nat) ^ 31 = 2147483648 := by decide
  have hsum : zs[k]?.getD 0 + x * 2 ^ s % 4294967296 < 4294967296 := by
    obtain ⟨c, hc⟩ := hd
    have hm : x * 2 ^ s % 4294967296 < 4294967296 := Nat.mod_lt _ (by decide)
    have h32 : (4294967296 : Nat) = 2 ^ s * 2 ^ (32 - s) := by rw [← Nat.pow_add, show s + (32 - s) = 32 by omega]
    rw [hc, h32] at hm ⊢
    have h1 : c < 2 ^ (32 - s) := Nat.lt_of_mul_lt_mul_left hm
    have h2 : 2 ^ s * (c + 1) ≤ 2 ^ s * 2 ^ (32 - s) := Nat.mul_le_mul_left _ h1
    rw [Nat.mul_add, Nat.mul_one] at h2
    omega
  have hhi : x * 2 ^ s / 4294967296 < 2 ^ s := by
    rw [Nat.div_lt_iff_lt_mul (by decide), Nat.mul_comm (2 ^ s)]
    exact Nat.mul_lt_mul_of_pos_right hx hp
  have hhi' : x * 2 ^ s / 4294967296 < 4294967296 := by omega
  have hl1 : (zs.set k (zs[k]?.getD 0 + x * 2 ^ s % 4294967296)).length = zs.length := List.length_set
  refine ⟨(hu.set k _ hsum).set _ _ hhi', ?_, ?_, ?_, hsum, hhi'⟩
  · have e1 := dig_set (xs := zs) (k := k) (v := zs[k]?.getD 0 + x * 2 ^ s % 4294967296) (by omega)
    have e2 := dig_set (xs := zs.set k (zs[k]?.getD 0 + x * 2 ^ s % 4294967296)) (k := k + 1) (v := x * 2 ^ s / 4294967296) (by rw [hl1]; exact hk)
    rw [List.getElem?_set, if_neg (by omega), hz (k + 1) (by omega), Nat.mul_zero, Nat.add_zero] at e2
    rw [Nat.mul_add] at e1
    have hdm := Nat.div_add_mod (x * 2 ^ s) 4294967296
    have : wd k * (x * 2 ^ s) = wd k * (x * 2 ^ s % 4294967296) + wd (k + 1) * (x * 2 ^ s / 4294967296) := by
      rw [wd_succ, Nat.mul_comm 4294967296, Nat.mul_assoc, ← Nat.mul_add]; congr 1; omega
    omega
  · intro j hj
    rw [List.getElem?_set, if_neg (by omega), List.getElem?_set, if_neg (by omega)]
    exact hz j (by omega)
  · rw [List.getElem?_set, if_pos rfl, if_pos (by rw [hl1]; exact hk)]
    exact hhi
end Go.Proofs.Ytoehhnildocihaa
namespace Go.Proofs.Ytoehhnildocihaa
set_option linter.unusedVariables false
theorem dig_head (ds : List Nat) : dig ds = ds[0]?.getD 0 + 4294967296 * dig (ds.drop 1) := by
  cases ds with
  | nil => rfl
  | cons d ds => rfl
end Go.Proofs.Ytoehhnildocihaa
namespace Go.Proofs.Ytoehhnildocihaa
/-- The magnitude of a rung, in units of 2^-1074. -/
def rmag (r : Nat) : Nat := if r < 4503599627370496 then r else (4503599627370496 + r % 4503599627370496) * 2 ^ (r / 4503599627370496 - 1)
theorem rmag_form (e k : Nat) (h : e = 0 ∨ 4503599627370496 ≤ k) (hk : k ≤ 9007199254740992) : rmag (e * 4503599627370496 + k) = k * 2 ^ e := by
  unfold rmag
  by_cases h1 : k < 4503599627370496
  · have he : e = 0 := by omega
    subst he
    rw [if_pos (by omega)]; simp
  · rw [if_neg (by omega)]
    by_cases h2 : k = 9007199254740992
    · have a1 : (e * 4503599627370496 + k) / 4503599627370496 = e + 2 := by omega
      have a2 : (e * 4503599627370496 + k) % 4503599627370496 = 0 := by omega
      rw [a1, a2, show e + 2 - 1 = e + 1 from rfl, Nat.pow_succ, h2]
      rw [Nat.mul_comm (2 ^ e) 2, ← Nat.mul_assoc]
    · have a1 : (e * 4503599627370496 + k) / 4503599627370496 = e + 1 := by omega
      have a2 : (e * 4503599627370496 + k) % 4503599627370496 = k - 4503599627370496 := by omega
      rw [a1, a2, show e + 1 - 1 = e from rfl, show 4503599627370496 + (k - 4503599627370496) = k by omega]
/-- Every rung has the form. -/
theorem rmag_parts (r : Nat) : ∃ e k, r = e * 4503599627370496 + k ∧ (e = 0 ∨ 4503599627370496 ≤ k) ∧ k < 9007199254740992 ∧ e = r / 4503599627370496 - 1 := by
  by_cases h : r < 4503599627370496
  · exact ⟨0, r, by omega, .inl rfl, by omega, by omega⟩
  · exact ⟨r / 4503599627370496 - 1, r - (r / 4503599627370496 - 1) * 4503599627370496, by omega, .inr (by omega), by omega, rfl⟩
theorem rmag_succ (r : Nat) : rmag (r + 1) = rmag r + 2 ^ (r / 4503599627370496 - 1) := by
  obtain ⟨e, k, hr, h, hk, he⟩ := rmag_parts r
  rw [← he, hr, Nat.add_assoc, rmag_form e k h (by omega), rmag_form e (k + 1) (by omega) (by omega), Nat.add_mul, Nat.one_mul]
theorem rmag_lt_succ (r : Nat) : rmag r < rmag (r + 1) := by
  rw [rmag_succ]; have := Nat.two_pow_pos (r / 4503599627370496 - 1); omega
theorem rmag_lt {r s : Nat} (h : r < s) : rmag r < rmag s := by
  induction s with
  | zero => omega
  | succ s ih =>
    have := rmag_lt_succ s
    by_cases h1 : r = s
    · subst h1; exact this
    · have := ih (by omega); omega
theorem rmag_le {r s : Nat} (h : r ≤ s) : rmag r ≤ rmag s := by
  rcases Nat.lt_or_eq_of_le h with h | h
  · exact Nat.le_of_lt (rmag_lt h)
  · rw [h]; exact Nat.le_refl _
theorem lt_of_rmag {r s : Nat} (h : rmag r < rmag s) : r < s := by
  rcases Nat.lt_or_ge r s with h1 | h1
  · exact h1
  · have := rmag_le h1; omega
theorem rmag_zero : rmag 0 = 0 := rfl
theorem le_rmag (r : Nat) : r ≤ rmag r := by
  induction r with
  | zero => omega
  | succ r ih => have := rmag_lt_succ r; omega
/-- R is the greatest rung not above n / D. -/
def Fl (n D R : Nat) : Prop := rmag R * D ≤ n ∧ n < rmag (R + 1) * D
theorem Fl.scale {n D R : Nat} (h : Fl n D R) (c : Nat) (hc : 0 < c) : Fl (n * c) (D * c) R := by
  refine ⟨?_, ?_⟩
  · rw [← Nat.mul_assoc]; exact Nat.mul_le_mul_right c h.1
  · rw [← Nat.mul_assoc]; exact Nat.mul_lt_mul_of_pos_right h.2 hc
theorem Fl.unscale {n D R : Nat} (c : Nat) (h : Fl (n * c) (D * c) R) : Fl n D R := by
  have hc : 0 < c := by
    rcases Nat.eq_zero_or_pos c with h0 | h0
    · subst h0; have := h.2; simp at this
    · exact h0
  refine ⟨?_, ?_⟩
  · have := h.1; rw [← Nat.mul_assoc] at this; exact Nat.le_of_mul_le_mul_right this hc
  · have := h.2; rw [← Nat.mul_assoc] at this; exact Nat.lt_of_mul_lt_mul_right this
theorem Fl.pos {n D R : Nat} (h : Fl n D R) : 0 < D := by
  rcases Nat.eq_zero_or_pos D with h0 | h0
  · subst h0; have := h.2; simp at this
  · exact h0
/-- There is one. -/
theorem Fl.some (n D : Nat) (hD : 0 < D) : ∃ R, Fl n D R := by
  have key : ∀ m, n < rmag m * D → ∃ R, Fl n D R := by
    intro m
    induction m with
    | zero => intro h; simp [rmag_zero] at h
    | succ m ih =>
      intro h
      by_cases h1 : n < rmag m * D
      · exact ih h1
      · exact ⟨m, by omega, h⟩
  refine key (n + 1) ?_
  have h1 := le_rmag (n + 1)
  have h2 : n + 1 ≤ (n + 1) * D := Nat.le_mul_of_pos_right _ hD
  have h3 : (n + 1) * D ≤ rmag (n + 1) * D := Nat.mul_le_mul_right _ h1
  omega
theorem Fl.mono {n D R m E S : Nat} (h : Fl n D R) (h' : Fl m E S) (hle : n * E ≤ m * D) : R ≤ S := by
  have a : rmag R * D * E ≤ n * E := Nat.mul_le_mul_right _ h.1
  have b : m * D < rmag (S + 1) * E * D := Nat.mul_lt_mul_of_pos_right h'.2 h.pos
  have c : rmag R * (D * E) < rmag (S + 1) * (D * E) := by
    have e1 : rmag R * D * E = rmag R * (D * E) := Nat.mul_assoc ..
    have e2 : rmag (S + 1) * E * D = rmag (S + 1) * (D * E) := by rw [Nat.mul_assoc, Nat.mul_comm E D]
    omega
  have := lt_of_rmag (Nat.lt_of_mul_lt_mul_right c)
  omega
/-- The rung nearest to n / D, whose greatest rung not above is R. -/
def nearK (n D R : Nat) : Nat := if 2 * n < (rmag R + rmag (R + 1)) * D ∨ (2 * n = (rmag R + rmag (R + 1)) * D ∧ R % 2 = 0) then R else R + 1
theorem nearK_scale (n D R c : Nat) (hc : 0 < c) : nearK (n * c) (D * c) R = nearK n D R := by
  unfold nearK
  have e1 : 2 * (n * c) = (2 * n) * c := (Nat.mul_assoc ..).symm
  have e2 : (rmag R + rmag (R + 1)) * (D * c) = ((rmag R + rmag (R + 1)) * D) * c := (Nat.mul_assoc ..).symm
  rw [e1, e2]
  have i1 : (2 * n) * c < ((rmag R + rmag (R + 1)) * D) * c ↔ 2 * n < (rmag R + rmag (R + 1)) * D := Nat.mul_lt_mul_right hc
  have i2 : (2 * n) * c = ((rmag R + rmag (R + 1)) * D) * c ↔ 2 * n = (rmag R + rmag (R + 1)) * D := Nat.mul_left_inj (by omega)
  simp only [i1, i2]
def infK : Nat := 9218868437227405312
end Go.Proofs.Ytoehhnildocihaa
namespace Go.Proofs.Ytoehhnildocihaa
open Ieee
set_option linter.unusedVariables false
theorem dbl_binade : double.binade = 4503599627370496 := by decide
theorem dbl_inf : double.infRung = infK := by decide
theorem dbl_sign : double.signWeight = 9223372036854775808 := by decide
theorem dbl_least : double.leastPlace = -1074 := by decide
def fneg (x : Nat) : Bool := x / 9223372036854775808 % 2 == 1
def frung (x : Nat) : Nat := x % 9223372036854775808
theorem read_fin {x : Nat} (h : frung x < infK) : ∃ m p, double.read x = .number (fneg x) m p ∧ -1074 ≤ p ∧ m * 2 ^ (p + 1074).toNat = rmag (frung x) ∧ m < 9007199254740992 ∧ (p = -1074 ∨ 4503599627370496 ≤ m) := by
  unfold Format.read
  simp only [dbl_binade, dbl_inf, dbl_sign, dbl_least]
  have hf : x % 9223372036854775808 = frung x := rfl
  rw [hf]
  unfold rmag
  by_cases h1 : frung x < 4503599627370496
  · rw [if_pos h1, if_pos h1]
    exact ⟨_, _, rfl, by omega, by simp, by omega, .inl rfl⟩
  · rw [if_neg h1, if_pos h, if_neg h1]
    refine ⟨_, _, rfl, by omega, ?_, by omega, .inr (by omega)⟩
    congr 2
    omega
theorem read_inf {x : Nat} (h : frung x = infK) : double.read x = .infinity (fneg x) := by
  unfold Format.read
  simp only [dbl_binade, dbl_inf, dbl_sign, dbl_least]
  have hf : x % 9223372036854775808 = frung x := rfl
  rw [hf, h]
  rfl
theorem read_nan {x : Nat} (h : infK < frung x) : double.read x = .nan (fneg x) (frung x - infK) := by
  unfold Format.read
  simp only [dbl_binade, dbl_inf, dbl_sign, dbl_least]
  have hf : x % 9223372036854775808 = frung x := rfl
  rw [hf]
  have : infK = 9218868437227405312 := rfl
  rw [if_neg (by omega), if_neg (by omega), if_neg (by omega)]
  rfl
end Go.Proofs.Ytoehhnildocihaa
namespace Go.Proofs.Ytoehhnildocihaa
open Ieee
set_option linter.unusedVariables false
def Fin (x : Nat) : Prop := frung x < infK
theorem heap_at (w : World) (o : Obj) (B : Nat) (h : w.heap.size = B) : (w.alloc o).heap[B]? = some o := h ▸ heap_alloc_new w o
instance (x : Nat) : Decidable (Fin x) := inferInstanceAs (Decidable (_ < _))
def fval (x : Nat) : Int := if fneg x then -(rmag (frung x) : Int) else rmag (frung x)
/-- r are the bits of n / D (units of 2^-1074), turned if neg, to the nearest. -/
def Rn (neg : Bool) (n D : Nat) (r : Nat) : Prop := ∃ R, Fl n D R ∧ r = double.word neg (min (nearK n D R) infK)
theorem word_rung (neg : Bool) {k : Nat} (h : k < 9223372036854775808) : frung (double.word neg k) = k ∧ fneg (double.word neg k) = neg ∧ double.word neg k < 18446744073709551616 := by
  unfold frung fneg Format.word
  rw [dbl_sign]
  cases neg
  · simp only [Bool.false_eq_true, if_false]
    refine ⟨by omega, ?_, by omega⟩
    rw [show k / 9223372036854775808 = 0 by omega]; rfl
  · simp only [if_true]
    refine ⟨by omega, ?_, by omega⟩
    rw [show (9223372036854775808 + k) / 9223372036854775808 = 1 by omega]; rfl
theorem min_inf_lt (k : Nat) : min k infK < 9223372036854775808 := by
  have : infK = 9218868437227405312 := rfl
  omega
theorem Rn.rung {neg : Bool} {n D r : Nat} (h : Rn neg n D r) : ∃ R, Fl n D R ∧ frung r = min (nearK n D R) infK ∧ fneg r = neg ∧ r < 18446744073709551616 := by
  obtain ⟨R, h1, rfl⟩ := h
  have := word_rung neg (min_inf_lt (nearK n D R))
  exact ⟨R, h1, this⟩
theorem word_parts {x : Nat} (h : x < 18446744073709551616) : x = double.word (fneg x) (frung x) := by
  unfold frung fneg Format.word
  rw [dbl_sign]
  by_cases h1 : x / 9223372036854775808 % 2 = 1
  · rw [h1]; simp only [beq_self_eq_true, if_true]; omega
  · have : (x / 9223372036854775808 % 2 == 1) = false := by simp [h1]
    rw [this]; simp only [Bool.false_eq_true, if_false]; omega
theorem Rn.scale {neg : Bool} {n D r : Nat} (c : Nat) (hc : 0 < c) (h : Rn neg n D r) : Rn neg (n * c) (D * c) r := by
  obtain ⟨R, h1, rfl⟩ := h
  exact ⟨R, h1.scale c hc, by rw [nearK_scale _ _ _ _ hc]⟩
theorem Rn.unscale {neg : Bool} {n D r : Nat} (c : Nat) (h : Rn neg (n * c) (D * c) r) : Rn neg n D r := by
  obtain ⟨R, h1, rfl⟩ := h
  have hc : 0 < c := by
    rcases Nat.eq_zero_or_pos c with h0 | h0
    · subst h0; have := h1.2; simp at this
    · exact h0
  exact ⟨R, h1.unscale c, by rw [nearK_scale _ _ _ _ hc]⟩
theorem Rn.of_eq {neg : Bool} {n D n' D' r : Nat} (h : Rn neg n D r) (hD : 0 < D) (hD' : 0 < D') (he : n * D' = n' * D) : Rn neg n' D' r := by
  have h1 := h.scale D' hD'
  rw [he, Nat.mul_comm D D'] at h1
  exact h1.unscale D
theorem nearK_exact {n D R : Nat} (h : n = rmag R * D) (hD : 0 < D) : nearK n D R = R := by
  unfold nearK
  have := rmag_lt_succ R
  rw [if_pos]
  left
  rw [h, ← Nat.mul_assoc]
  exact Nat.mul_lt_mul_of_pos_right (by omega) hD
theorem Fl.exact (k D : Nat) (hD : 0 < D) : Fl (rmag k * D) D k := ⟨Nat.le_refl _, Nat.mul_lt_mul_of_pos_right (rmag_lt_succ k) hD⟩
theorem Rn.exact (neg : Bool) (k D : Nat) (hD : 0 < D) : Rn neg (rmag k * D) D (double.word neg (min k infK)) := ⟨k, Fl.exact k D hD, by rw [nearK_exact rfl hD]⟩
theorem signed_eq (neg : Bool) (m u : Nat) : signed neg m u = if neg then -((m * 2 ^ u : Nat) : Int) else ((m * 2 ^ u : Nat) : Int) := by
  unfold signed; rw [Nat.shiftLeft_eq]
/-- How far both are shifted. -/
theorem shifted (m : Nat) (i b : Int) (hb : b ≤ i) (hi : -1074 ≤ b) : m * 2 ^ (i + 1074).toNat = m * 2 ^ (i - b).toNat * 2 ^ (b + 1074).toNat := by
  rw [Nat.mul_assoc, ← Nat.pow_add]; congr 2; omega
theorem signed_fval {x : Nat} {m : Nat} {p : Int} (hv : m * 2 ^ (p + 1074).toNat = rmag (frung x)) (b : Int) (hb : b ≤ p) (hb1 : -1074 ≤ b) :
    signed (fneg x) m (p - b).toNat * 2 ^ (b + 1074).toNat = fval x := by
  rw [signed_eq]
  unfold fval
  rw [← hv, shifted m p b hb hb1]
  generalize (p - b).toNat = u
  generalize (b + 1074).toNat = v
  cases fneg x
  · simp only [Bool.false_eq_true, if_false]; rw [Int.natCast_mul (m * 2 ^ u), Int.natCast_pow]; rfl
  · simp only [if_true]; rw [Int.natCast_mul (m * 2 ^ u), Int.natCast_pow, Int.neg_mul]; rfl
end Go.Proofs.Ytoehhnildocihaa
namespace Go.Proofs.Ytoehhnildocihaa
open Ieee
set_option linter.unusedVariables false
def srung (x : Nat) : Int := if fneg x then -(frung x : Int) else frung x
theorem icmp (x y : Int) : compare x y = if x < y then .lt else if x = y then .eq else .gt := rfl
theorem fval_srung (x y : Nat) : compare (fval x) (fval y) = compare (srung x) (srung y) := by
  have key : (fval x < fval y ↔ srung x < srung y) ∧ (fval x = fval y ↔ srung x = srung y) := by
    unfold fval srung
    have l1 : rmag (frung x) < rmag (frung y) ↔ frung x < frung y := ⟨lt_of_rmag, rmag_lt⟩
    have l2 : rmag (frung y) < rmag (frung x) ↔ frung y < frung x := ⟨lt_of_rmag, rmag_lt⟩
    have z1 : frung x ≤ rmag (frung x) := le_rmag _
    have z2 : frung y ≤ rmag (frung y) := le_rmag _
    have z3 : rmag (frung x) = 0 ↔ frung x = 0 := ⟨fun h => by omega, fun h => by rw [h]; rfl⟩
    have z4 : rmag (frung y) = 0 ↔ frung y = 0 := ⟨fun h => by omega, fun h => by rw [h]; rfl⟩
    generalize rmag (frung x) = a at *
    generalize rmag (frung y) = b at *
    cases fneg x <;> cases fneg y <;> simp only [Bool.false_eq_true, if_false, if_true] <;> omega
  rw [icmp, icmp]
  simp only [key.1, key.2]
theorem compare_scale (x y : Int) (c : Int) (hc : 0 < c) : compare (x * c) (y * c) = compare x y := by
  have h1 : x * c < y * c ↔ x < y := ⟨fun h => Int.lt_of_mul_lt_mul_right h (Int.le_of_lt hc), fun h => Int.mul_lt_mul_of_pos_right h hc⟩
  have h2 : x * c = y * c ↔ x = y := ⟨fun h => Int.eq_of_mul_eq_mul_right (by omega) h, fun h => by rw [h]⟩
  rw [icmp, icmp]
  simp only [h1, h2]
theorem order_rung {x y : Nat} (hx : frung x ≤ infK) (hy : frung y ≤ infK) : double.order x y = some (compare (srung x) (srung y)) := by
  unfold Format.order
  rcases Nat.lt_or_eq_of_le hx with fx | fx <;> rcases Nat.lt_or_eq_of_le hy with fy | fy
  · obtain ⟨m, i, h1, h2, h3, _⟩ := read_fin fx
    obtain ⟨n, j, k1, k2, k3, _⟩ := read_fin fy
    rw [h1, k1, ← fval_srung]
    simp only [Datum.order]
    rw [← signed_fval h3 (min i j) (by omega) (by omega), ← signed_fval k3 (min i j) (by omega) (by omega), compare_scale _ _ _ (Int.pow_pos (by decide))]
  · obtain ⟨m, i, h1, h2, h3, _⟩ := read_fin fx
    rw [h1, read_inf fy]
    simp only [Datum.order, srung]
    have : infK = 9218868437227405312 := rfl
    cases fneg x <;> cases fneg y <;> simp only [Bool.false_eq_true, if_false, if_true, icmp]
    all_goals first | (rw [if_pos (by omega)]) | (rw [if_neg (by omega), if_neg (by omega)])
  · obtain ⟨n, j, k1, k2, k3, _⟩ := read_fin fy
    rw [k1, read_inf fx]
    simp only [Datum.order, srung]
    have : infK = 9218868437227405312 := rfl
    cases fneg x <;> cases fneg y <;> simp only [Bool.false_eq_true, if_false, if_true, icmp]
    all_goals first | (rw [if_pos (by omega)]) | (rw [if_neg (by omega), if_neg (by omega)])
  · rw [read_inf fx, read_inf fy]
    simp only [Datum.order, srung, fx, fy]
    cases fneg x <;> cases fneg y <;> decide
theorem order_nan {x y : Nat} (h : infK < frung x ∨ infK < frung y) : double.order x y = none := by
  unfold Format.order
  rcases h with h | h
  · rw [read_nan h]; rfl
  · rw [read_nan h]; cases double.read x <;> rfl
end Go.Proofs.Ytoehhnildocihaa
namespace Go.Proofs.Ytoehhnildocihaa
open Ieee
set_option linter.unusedVariables false
theorem srung_pos (x : Nat) : 0 < srung x ↔ 0 < fval x := by
  have h := fval_srung 0 x
  have z1 : fval 0 = 0 := rfl
  have z2 : srung 0 = 0 := rfl
  rw [z1, z2, icmp, icmp] at h
  by_cases h1 : 0 < fval x <;> by_cases h2 : 0 < srung x <;> simp [h1, h2] at h ⊢
  all_goals (split at h <;> cases h)
theorem srung_neg (x : Nat) : srung x < 0 ↔ fval x < 0 := by
  have h := fval_srung x 0
  have z1 : fval 0 = 0 := rfl
  have z2 : srung 0 = 0 := rfl
  rw [z1, z2, icmp, icmp] at h
  by_cases h1 : fval x < 0 <;> by_cases h2 : srung x < 0 <;> simp [h1, h2] at h ⊢
  all_goals (split at h <;> cases h)
end Go.Proofs.Ytoehhnildocihaa
namespace Go.Proofs.Ytoehhnildocihaa
open Ieee
set_option linter.unusedVariables false
end Go.Proofs.Ytoehhnildocihaa
namespace Go.Proofs.Ytoehhnildocihaa
open Ieee
set_option linter.unusedVariables false
end Go.Proofs.Ytoehhnildocihaa
namespace Go.Proofs.Ytoehhnildocihaa
set_option linter.unusedVariables false
end Go.Proofs.Ytoehhnildocihaa
namespace Go.Proofs.Ytoehhnildocihaa
set_option linter.unusedVariables false
/-- The value of a signed rung. -/
def smag (r : Int) : Int := if r < 0 then -(rmag (-r).toNat : Int) else (rmag r.toNat : Int)
theorem smag_nat (k : Nat) : smag (k : Int) = rmag k := by unfold smag; rw [if_neg (by omega), Int.toNat_natCast]
theorem smag_neg (k : Nat) : smag (-(k : Int)) = -(rmag k : Int) := by
  rcases Nat.eq_zero_or_pos k with h | h
  · subst h; rfl
  · unfold smag; rw [if_pos (by omega), Int.neg_neg, Int.toNat_natCast]
theorem smag_lt {r s : Int} (h : r < s) : smag r < smag s := by
  unfold smag
  by_cases h1 : r < 0
  · rw [if_pos h1]
    by_cases h2 : s < 0
    · rw [if_pos h2]; have := rmag_lt (r := (-s).toNat) (s := (-r).toNat) (by omega); omega
    · rw [if_neg h2]; have := le_rmag (-r).toNat; omega
  · rw [if_neg h1, if_neg (by omega)]; have := rmag_lt (r := r.toNat) (s := s.toNat) (by omega); omega
theorem smag_le {r s : Int} (h : r ≤ s) : smag r ≤ smag s := by
  rcases Int.lt_or_eq_of_le h with h1 | h1
  · exact Int.le_of_lt (smag_lt h1)
  · rw [h1]; exact Int.le_refl _
theorem lt_of_smag {r s : Int} (h : smag r < smag s) : r < s := by
  rcases Int.lt_or_le r s with h1 | h1
  · exact h1
  · have := smag_le h1; omega
theorem le_of_smag {r s : Int} (h : smag r ≤ smag s) : r ≤ s := by
  rcases Int.lt_or_le s r with h1 | h1
  · have := smag_lt h1; omega
  · exact h1
theorem fval_smag (x : Nat) : fval x = smag (srung x) := by
  unfold fval srung
  cases fneg x
  · simp only [Bool.false_eq_true, if_false]; rw [smag_nat]
  · simp only [if_true]; rw [smag_neg]
end Go.Proofs.Ytoehhnildocihaa
namespace Go.Proofs.Ytoehhnildocihaa
set_option linter.unusedVariables false
def sgi (z : Int) : Int := if z < 0 then -1 else if z = 0 then 0 else 1
theorem sv_zero (neg : Bool) : sv neg 0 = 0 := by unfold sv; split <;> rfl
theorem sv_mul (neg : Bool) (a b : Nat) : sv neg (a * b) = sv neg a * (b : Int) := by
  unfold sv; split
  · rw [Int.natCast_mul, Int.neg_mul]
  · rw [Int.natCast_mul]
theorem sv_not (neg : Bool) (m : Nat) : sv (!neg) m = -sv neg m := by cases neg <;> simp [sv]
theorem sv_add (g : Bool) (a b : Nat) : sv g (a + b) = sv g a + sv g b := by unfold sv; split <;> omega
theorem sv_sub (g : Bool) {a b : Nat} (h : b ≤ a) : sv g (a - b) = sv g a + sv (!g) b := by
  rw [sv_not]; unfold sv; split <;> omega
theorem zv_zero (s : Nat) (neg : Bool) (e : Int) : zv s neg 0 e = 0 := by unfold zv; rw [sv_zero, Int.zero_mul]
theorem zv_not (s : Nat) (neg : Bool) (m : Nat) (e : Int) : zv s (!neg) m e = -zv s neg m e := by unfold zv; rw [sv_not, Int.neg_mul]
theorem zv_add (s : Nat) (g : Bool) (a b : Nat) (e : Int) : zv s g (a + b) e = zv s g a e + zv s g b e := by unfold zv; rw [sv_add, Int.add_mul]
theorem zv_sub (s : Nat) (g : Bool) {a b : Nat} (e : Int) (h : b ≤ a) : zv s g (a - b) e = zv s g a e + zv s (!g) b e := by unfold zv; rw [sv_sub g h, Int.add_mul]
theorem zv_down {s : Nat} {e e' : Int} (neg : Bool) (m : Nat) (h : e' ≤ e) (h0 : -(s : Int) ≤ e') : zv s neg m e = zv s neg (m * 2 ^ (e - e').toNat) e' := by
  unfold zv; rw [sv_mul, Int.mul_assoc, ← Int.natCast_mul, ← Nat.pow_add]
  congr 3; congr 1; omega
theorem zv_more {s : Nat} {e : Int} (k : Nat) (neg : Bool) (m : Nat) (h : -(s : Int) ≤ e) : zv (s + k) neg m e = zv s neg m e * ((2 ^ k : Nat) : Int) := by
  unfold zv; rw [Int.mul_assoc, ← Int.natCast_mul, ← Nat.pow_add]
  congr 3; congr 1; omega
theorem sgi_zv (s : Nat) (neg : Bool) (m : Nat) (e : Int) : sgi (zv s neg m e) = if m = 0 then 0 else if neg then -1 else 1 := by
  have hp : (0 : Int) < ((2 ^ (e + s).toNat : Nat) : Int) := by have := Nat.two_pow_pos (e + s).toNat; omega
  by_cases h : m = 0
  · rw [h, zv_zero, if_pos rfl]; rfl
  · rw [if_neg h]
    have hm : (0 : Int) < (m : Int) := by omega
    have hq := Int.mul_pos hm hp
    unfold zv sv
    cases neg
    · simp only [Bool.false_eq_true, if_false]
      unfold sgi; rw [if_neg (by omega), if_neg (by omega)]
    · simp only [if_true]
      rw [Int.neg_mul]
      unfold sgi; rw [if_pos (by omega)]
theorem lt_bl (m : Nat) : m < 2 ^ bl m := by
  rcases Nat.eq_zero_or_pos m with h0 | h0
  · rw [h0]; exact Nat.two_pow_pos _
  · exact (bl_spec (by omega)).2.1
theorem bl_mono {a b : Nat} (h : a ≤ b) : bl a ≤ bl b := bl_le_of_lt (Nat.lt_of_le_of_lt h (lt_bl b))
theorem bl_mul_pow (m k : Nat) : bl (m * 2 ^ k) ≤ bl m + k := by
  refine bl_le_of_lt ?_
  rw [Nat.pow_add]; exact Nat.mul_lt_mul_of_pos_right (lt_bl m) (Nat.two_pow_pos k)
theorem bl_add (a b : Nat) : bl (a + b) ≤ max (bl a) (bl b) + 1 := by
  refine bl_le_of_lt ?_
  have h1 := lt_bl a
  have h2 := lt_bl b
  have h3 : 2 ^ bl a ≤ 2 ^ max (bl a) (bl b) := Nat.pow_le_pow_right (by omega) (by omega)
  have h4 : 2 ^ bl b ≤ 2 ^ max (bl a) (bl b) := Nat.pow_le_pow_right (by omega) (by omega)
  rw [Nat.pow_succ]; omega
theorem bl_mul (a b : Nat) : bl (a * b) ≤ bl a + bl b := by
  refine bl_le_of_lt ?_
  rw [Nat.pow_add]
  have h1 := lt_bl a
  have h2 := lt_bl b
  calc a * b ≤ a * 2 ^ bl b := Nat.mul_le_mul_left _ (by omega)
    _ < 2 ^ bl a * 2 ^ bl b := Nat.mul_lt_mul_of_pos_right h1 (Nat.two_pow_pos _)
theorem zv_mul {s : Nat} {ex ey : Int} (nx ny : Bool) (mx my : Nat) (hx : -(s : Int) ≤ ex) (hy : -(s : Int) ≤ ey) : zv (s + s) (nx != ny) (mx * my) (ex + ey) = zv s nx mx ex * zv s ny my ey := by
  have hs : sv (nx != ny) (mx * my) = sv nx mx * sv ny my := by
    cases nx <;> cases ny <;> simp [sv, Int.natCast_mul, Int.neg_mul, Int.mul_neg]
  unfold zv
  rw [hs, show (ex + ey + ((s + s : Nat) : Int)).toNat = (ex + s).toNat + (ey + s).toNat by omega, Nat.pow_add, Int.natCast_mul]
  rw [Int.mul_assoc, Int.mul_assoc, ← Int.mul_assoc (sv ny my), Int.mul_comm (sv ny my), Int.mul_assoc]
end Go.Proofs.Ytoehhnildocihaa
namespace Go.Proofs.Ytoehhnildocihaa
set_option linter.unusedVariables false
end Go.Proofs.Ytoehhnildocihaa
namespace Go.Proofs.Ytoehhnildocihaa
open Ieee
set_option linter.unusedVariables false
theorem rmag_inf {e : Nat} (he : e = 2046) : rmag infK = 4503599627370496 * 2 ^ e := by
  have h := rmag_form e 4503599627370496 (.inr (Nat.le_refl _)) (by omega)
  rw [show e * 4503599627370496 + 4503599627370496 = infK by unfold infK; omega] at h
  exact h
end Go.Proofs.Ytoehhnildocihaa
namespace Go.Proofs.Ytoehhnildocihaa
open Ieee
set_option linter.unusedVariables false
theorem and_2047 {y : Nat} : y &&& 2047 = y % 2048 := by
  have := Nat.and_two_pow_sub_one_eq_mod y 11
  rw [show (2 : Nat) ^ 11 - 1 = 2047 by decide, show (2 : Nat) ^ 11 = 2048 by decide] at this
  exact this
/-- A normal word beside x: x's value without what was shifted. -/
structure Norm (x y ee Eb f : Nat) : Prop where
  lt : y < 18446744073709551616
  sgn : fneg y = fneg x
  word : frung y = Eb * 4503599627370496 + f
  eb0 : 1 ≤ Eb
  eb1 : Eb ≤ 2046
  f1 : f < 4503599627370496
  val : rmag (frung x) * 2 ^ ee = (4503599627370496 + f) * 2 ^ (Eb - 1)
  e52 : ee = 0 ∨ ee = 52
end Go.Proofs.Ytoehhnildocihaa
namespace Go.Proofs.Ytoehhnildocihaa
open Ieee
set_option linter.unusedVariables false
theorem norm_frac {x y ee Eb f : Nat} (h : Norm x y ee Eb f) (n X : Int) (hX : X = n - ee + Eb - 1) :
    ((4503599627370496 + f) * 2 ^ X.toNat) * 2 ^ (-n).toNat = (rmag (frung x) * 2 ^ n.toNat) * 2 ^ (-X).toNat := by
  have hv := h.val
  have he := h.eb0
  refine Nat.eq_of_mul_eq_mul_right (Nat.two_pow_pos ee) ?_
  rw [show rmag (frung x) * 2 ^ n.toNat * 2 ^ (-X).toNat * 2 ^ ee = (rmag (frung x) * 2 ^ ee) * (2 ^ n.toNat * 2 ^ (-X).toNat) by
    rw [Nat.mul_assoc, Nat.mul_assoc, Nat.mul_assoc]; congr 1; rw [← Nat.mul_assoc, Nat.mul_comm]]
  rw [hv, Nat.mul_assoc, Nat.mul_assoc, Nat.mul_assoc, ← Nat.pow_add, ← Nat.pow_add, ← Nat.pow_add, ← Nat.pow_add]
  congr 2
  omega
/-- What is asked of a power: the nearest to x 2^n. -/
def Pow (x : Nat) (n : Int) (r : Nat) : Prop := Rn (fneg x) (rmag (frung x) * 2 ^ n.toNat) (2 ^ (-n).toNat) r
theorem Pow.of {x y ee Eb f : Nat} (h : Norm x y ee Eb f) {n X : Int} (hX : X = n - ee + Eb - 1) {r : Nat} (hr : Rn (fneg x) ((4503599627370496 + f) * 2 ^ X.toNat) (2 ^ (-X).toNat) r) : Pow x n r :=
  hr.of_eq (Nat.two_pow_pos _) (Nat.two_pow_pos _) (norm_frac h n X hX)
theorem pow_zero {x : Nat} (hx : x < 18446744073709551616) (h : frung x = 0) (n : Int) : Pow x n x := by
  unfold Pow
  rw [h, rmag_zero, Nat.zero_mul]
  have := Rn.exact (fneg x) 0 (2 ^ (-n).toNat) (Nat.two_pow_pos _)
  rw [rmag_zero, Nat.zero_mul, Nat.zero_min] at this
  have e := word_parts hx
  rw [h] at e
  rw [← e] at this
  exact this
end Go.Proofs.Ytoehhnildocihaa
namespace Go.Proofs.Ytoehhnildocihaa
open Ieee
set_option linter.unusedVariables false
end Go.Proofs.Ytoehhnildocihaa
namespace Go.Proofs.Ytoehhnildocihaa
open Ieee
set_option linter.unusedVariables false
end Go.Proofs.Ytoehhnildocihaa
namespace Go.Proofs.Ytoehhnildocihaa
open Ieee
set_option linter.unusedVariables false
end Go.Proofs.Ytoehhnildocihaa
namespace Go.Proofs.Ytoehhnildocihaa
open Ieee
set_option linter.unusedVariables false
end Go.Proofs.Ytoehhnildocihaa
namespace Go.Proofs.Ytoehhnildocihaa
open Ieee
set_option linter.unusedVariables false
end Go.Proofs.Ytoehhnildocihaa
namespace Go.Proofs.Ytoehhnildocihaa
set_option linter.unusedVariables false
end Go.Proofs.Ytoehhnildocihaa
namespace Go.Proofs.Ytoehhnildocihaa
set_option linter.unusedVariables false
end Go.Proofs.Ytoehhnildocihaa
namespace Go.Proofs.Ytoehhnildocihaa
set_option linter.unusedVariables false
/-- The whole number of the words f 0 .. f (n - 1), the lowest first. -/
def wv (f : Nat → Nat) : Nat → Nat
  | 0 => 0
  | n + 1 => wv f n + f n * 2 ^ (64 * n)
def upd (f : Nat → Nat) (i v : Nat) : Nat → Nat := fun j => if j = i then v else f j
theorem upd_same (f : Nat → Nat) (i v : Nat) : upd f i v i = v := if_pos rfl
theorem upd_other {f : Nat → Nat} {i v j : Nat} (h : j ≠ i) : upd f i v j = f j := if_neg h
theorem wv_congr {f g : Nat → Nat} : ∀ {n : Nat}, (∀ j, j < n → f j = g j) → wv f n = wv g n
  | 0, _ => rfl
  | n + 1, h => by
    unfold wv
    rw [wv_congr (fun j hj => h j (by omega)), h n (by omega)]
theorem pow_step (n : Nat) : (2 : Nat) ^ (64 * (n + 1)) = 18446744073709551616 * 2 ^ (64 * n) := by
  rw [show 64 * (n + 1) = 64 + 64 * n by omega, Nat.pow_add]
theorem wv_lt {f : Nat → Nat} : ∀ {n : Nat}, (∀ j, j < n → f j < 18446744073709551616) → wv f n < 2 ^ (64 * n)
  | 0, _ => by unfold wv; simp
  | n + 1, h => by
    unfold wv
    have h1 := wv_lt (n := n) (fun j hj => h j (by omega))
    have h2 : f n * 2 ^ (64 * n) ≤ 18446744073709551615 * 2 ^ (64 * n) := Nat.mul_le_mul_right _ (by have := h n (by omega); omega)
    rw [pow_step]
    omega
theorem wv_upd_le {f : Nat → Nat} {i v : Nat} : ∀ {n : Nat}, n ≤ i → wv (upd f i v) n = wv f n := fun {n} h => wv_congr (fun j hj => upd_other (by omega))
theorem wv_flip {f : Nat → Nat} : ∀ {n : Nat}, (∀ j, j < n → f j < 18446744073709551616) → wv (fun j => 18446744073709551615 - f j) n + wv f n + 1 = 2 ^ (64 * n)
  | 0, _ => by unfold wv; simp
  | n + 1, h => by
    unfold wv
    have h1 := wv_flip (n := n) (fun j hj => h j (by omega))
    have h2 := h n (by omega)
    have h3 : (18446744073709551615 - f n) * 2 ^ (64 * n) + f n * 2 ^ (64 * n) = 18446744073709551615 * 2 ^ (64 * n) := by
      rw [← Nat.add_mul]; congr 1; omega
    rw [pow_step]
    omega
theorem wv_zero_iff {f : Nat → Nat} : ∀ {n : Nat}, wv f n = 0 ↔ ∀ j, j < n → f j = 0
  | 0 => by unfold wv; simp
  | n + 1 => by
    unfold wv
    have hp := Nat.two_pow_pos (64 * n)
    constructor
    · intro h j hj
      have h1 : wv f n = 0 := by omega
      have h2 : f n * 2 ^ (64 * n) = 0 := by omega
      rcases Nat.lt_or_ge j n with h3 | h3
      · exact (wv_zero_iff.1 h1) j h3
      · obtain rfl : j = n := by omega
        rcases Nat.mul_eq_zero.1 h2 with h4 | h4 <;> omega
    · intro h
      rw [wv_zero_iff.2 (fun j hj => h j (by omega)), h n (by omega), Nat.zero_mul]
theorem wv_split (f : Nat → Nat) (k : Nat) : ∀ n : Nat, wv f (k + n) = wv f k + 2 ^ (64 * k) * wv (fun j => f (k + j)) n
  | 0 => by show wv f k = wv f k + _ * 0; rw [Nat.mul_zero, Nat.add_zero]
  | n + 1 => by
    rw [← Nat.add_assoc]
    show wv f (k + n) + f (k + n) * 2 ^ (64 * (k + n)) = _ + _ * (wv (fun j => f (k + j)) n + f (k + n) * 2 ^ (64 * n))
    rw [wv_split f k n, Nat.mul_add, Nat.mul_add, Nat.pow_add, Nat.add_assoc]; congr 2
    rw [Nat.mul_left_comm]
/-- What stands above the highest word that is not 0 adds nothing. -/
theorem wv_top {f : Nat → Nat} {k n : Nat} (hk : k ≤ n) (h : ∀ j, k ≤ j → j < n → f j = 0) : wv f n = wv f k := by
  obtain ⟨m, rfl⟩ : ∃ m, n = k + m := ⟨n - k, by omega⟩
  rw [wv_split, (wv_zero_iff (f := fun j => f (k + j)) (n := m)).2 (fun j hj => h (k + j) (by omega) (by omega)), Nat.mul_zero, Nat.add_zero]
theorem wv_const_zero : ∀ n : Nat, wv (fun _ => 0) n = 0 := fun n => wv_zero_iff.2 (fun _ _ => rfl)
/-- One word of a sum, with what is carried. -/
theorem add_step {f g h : Nat → Nat} {i c c' c0 v : Nat} (hi : wv h i + c * 2 ^ (64 * i) = wv f i + wv g i + c0) (hv : v + 18446744073709551616 * c' = f i + g i + c) :
    wv (upd h i v) (i + 1) + c' * 2 ^ (64 * (i + 1)) = wv f (i + 1) + wv g (i + 1) + c0 := by
  show wv (upd h i v) i + upd h i v i * 2 ^ (64 * i) + _ = (wv f i + f i * 2 ^ (64 * i)) + (wv g i + g i * 2 ^ (64 * i)) + c0
  rw [wv_upd_le (Nat.le_refl _), upd_same, pow_step]
  have h1 : v * 2 ^ (64 * i) + c' * (18446744073709551616 * 2 ^ (64 * i)) = f i * 2 ^ (64 * i) + g i * 2 ^ (64 * i) + c * 2 ^ (64 * i) := by
    rw [show c' * (18446744073709551616 * 2 ^ (64 * i)) = (18446744073709551616 * c') * 2 ^ (64 * i) by ac_rfl, ← Nat.add_mul, ← Nat.add_mul, ← Nat.add_mul, hv]
  omega
/-- The words f stand for z, in two's complement (76 words). -/
structure Tc (f : Nat → Nat) (z : Int) : Prop where
  lt : ∀ j, j < 76 → f j < 18446744073709551616
  lo : -((2 ^ 4863 : Nat) : Int) ≤ z
  hi : z < ((2 ^ 4863 : Nat) : Int)
  eq : (wv f 76 : Int) = z ∨ (wv f 76 : Int) = z + ((2 ^ 4864 : Nat) : Int)
theorem pow_parts {a b c : Nat} (h : a = b + c) : (2 : Nat) ^ a = 2 ^ b * 2 ^ c := by subst h; rw [Nat.pow_add]
theorem pow_half : (2 : Nat) ^ 4864 = 2 * 2 ^ 4863 := by rw [pow_parts (a := 4864) (b := 1) (c := 4863) (by omega), Nat.pow_one]
theorem Tc.sum {f g h : Nat → Nat} {x y z : Int} {c c0 : Nat} (hf : Tc f x) (hg : (wv g 76 : Int) + c0 = y ∨ (wv g 76 : Int) + c0 = y + ((2 ^ 4864 : Nat) : Int)) (hh : ∀ j, j < 76 → h j < 18446744073709551616) (hs : wv h 76 + c * 2 ^ 4864 = wv f 76 + wv g 76 + c0)
    (hz : z = x + y) (h1 : -((2 ^ 4863 : Nat) : Int) ≤ z) (h2 : z < ((2 ^ 4863 : Nat) : Int)) : Tc h z := by
  refine ⟨hh, h1, h2, ?_⟩
  have hl := wv_lt hh
  have e := hf.eq
  rw [show 64 * 76 = 4864 by omega] at hl
  have h12 := hf.lo
  have h13 := hf.hi
  have hf2 := wv_lt hf.lt
  rw [show 64 * 76 = 4864 by omega] at hf2
  rw [pow_half] at *
  generalize 2 ^ 4863 = L at *
  generalize wv f 76 = F at *
  generalize wv g 76 = G at *
  generalize wv h 76 = K at *
  have hc : c = 0 ∨ c = 1 ∨ c = 2 ∨ 3 ≤ c := by omega
  rcases hc with rfl | rfl | rfl | hc
  · omega
  · omega
  · omega
  · have : 3 * (2 * L) ≤ c * (2 * L) := Nat.mul_le_mul_right _ hc
    omega
theorem wv_succ (f : Nat → Nat) (n : Nat) : wv f (n + 1) = wv f n + f n * 2 ^ (64 * n) := by rw [wv]
theorem wv_at (f : Nat → Nat) (n m k : Nat) (h : m = n + 1) (hk : k = 64 * n) : wv f m = wv f n + f n * 2 ^ k := by subst h hk; exact wv_succ f n
theorem wv_76 (f : Nat → Nat) : wv f 76 = wv f 75 + f 75 * 2 ^ 4800 := wv_at f 75 76 4800 (by omega) (by omega)
theorem pow_top : (2 : Nat) ^ 4863 = 9223372036854775808 * 2 ^ 4800 := by rw [pow_parts (a := 4863) (b := 63) (c := 4800) (by omega), show (2 : Nat) ^ 63 = 9223372036854775808 by decide]
theorem Tc.neg_iff {f : Nat → Nat} {z : Int} (h : Tc f z) : z < 0 ↔ 9223372036854775808 ≤ f 75 := by
  have e := h.eq
  have h1 := h.lo
  have h2 := h.hi
  have h3 := wv_lt (n := 75) (fun j hj => h.lt j (by omega))
  have h4 := h.lt 75 (by omega)
  rw [show 64 * 75 = 4800 by omega] at h3
  rw [wv_76, pow_half, pow_top] at e
  rw [pow_top] at h1 h2
  generalize 2 ^ 4800 = L at *
  generalize wv f 75 = F at *
  have h5 : f 75 * L ≤ 18446744073709551615 * L := Nat.mul_le_mul_right _ (by omega)
  constructor
  · intro hz
    rcases Nat.lt_or_ge (f 75) 9223372036854775808 with h6 | h6
    · have h7 : f 75 * L ≤ 9223372036854775807 * L := Nat.mul_le_mul_right _ (by omega)
      omega
    · exact h6
  · intro hz
    have h7 : 9223372036854775808 * L ≤ f 75 * L := Nat.mul_le_mul_right _ hz
    omega
theorem Tc.zero_iff {f : Nat → Nat} {z : Int} (h : Tc f z) : z = 0 ↔ ∀ j, j < 76 → f j = 0 := by
  rw [← wv_zero_iff]
  have e := h.eq
  have h1 := h.lo
  have h2 := h.hi
  have h3 := wv_lt h.lt
  rw [show 64 * 76 = 4864 by omega] at h3
  rw [pow_half] at *
  have hp := Nat.two_pow_pos 4863
  generalize 2 ^ 4863 = L at *
  omega
theorem Tc.held_iff {f : Nat → Nat} {z : Int} (h : Tc f z) : (f 75 = 0 ∨ (f 75 = 18446744073709551615 ∧ ∃ j, j < 75 ∧ f j ≠ 0)) ↔ (-((2 ^ 4800 : Nat) : Int) < z ∧ z < ((2 ^ 4800 : Nat) : Int)) := by
  have e := h.eq
  have h1 := h.lo
  have h2 := h.hi
  have h3 := wv_lt (n := 75) (fun j hj => h.lt j (by omega))
  have h4 := h.lt 75 (by omega)
  have hz : (∃ j, j < 75 ∧ f j ≠ 0) ↔ wv f 75 ≠ 0 := by
    rw [ne_eq, wv_zero_iff]
    constructor
    · rintro ⟨j, hj, hne⟩ hall; exact hne (hall j hj)
    · intro hn
      apply Classical.byContradiction
      intro hc
      exact hn (fun j hj => Classical.byContradiction fun hne => hc ⟨j, hj, hne⟩)
  rw [hz]
  rw [show 64 * 75 = 4800 by omega] at h3
  rw [wv_76, pow_half, pow_top] at e
  rw [pow_top] at h1 h2
  generalize 2 ^ 4800 = L at *
  generalize wv f 75 = F at *
  constructor
  · rintro (h0 | ⟨h0, hF⟩)
    · rw [h0] at e; omega
    · rw [h0] at e; omega
  · intro hh
    by_cases c0 : f 75 = 0
    · exact .inl c0
    · right
      have h5 : 1 * L ≤ f 75 * L := Nat.mul_le_mul_right _ (by omega)
      by_cases c1 : f 75 = 18446744073709551615
      · refine ⟨c1, ?_⟩
        rw [c1] at e
        omega
      · have h6 : f 75 * L ≤ 18446744073709551614 * L := Nat.mul_le_mul_right _ (by omega)
        omega
/-- What put adds, word by word: t0 t1 t2 at k, then the sign's. -/
def ptw (k t0 t1 t2 s : Nat) : Nat → Nat := fun j => if j < k then 0 else if j = k then t0 else if j = k + 1 then t1 else if j = k + 2 then t2 else s
def three (t0 t1 t2 s : Nat) : Nat → Nat := fun j => if j = 0 then t0 else if j = 1 then t1 else if j = 2 then t2 else s
theorem ptw_shift (k t0 t1 t2 s : Nat) : (fun j => ptw k t0 t1 t2 s (k + j)) = three t0 t1 t2 s := by
  funext j
  unfold ptw three
  rw [if_neg (by omega)]
  by_cases h0 : j = 0
  · subst h0; simp
  · rw [if_neg (by omega), if_neg h0]
    by_cases h1 : j = 1
    · subst h1; simp
    · rw [if_neg (by omega), if_neg h1]
      by_cases h2 : j = 2
      · subst h2; simp
      · rw [if_neg (by omega), if_neg h2]
theorem ptw_wv (k t0 t1 t2 s : Nat) (m : Nat) : wv (ptw k t0 t1 t2 s) (k + m) = 2 ^ (64 * k) * wv (three t0 t1 t2 s) m := by
  rw [wv_split, ptw_shift, wv_zero_iff.2 (fun j hj => by unfold ptw; rw [if_pos hj]), Nat.zero_add]
theorem three_wv (t0 t1 t2 m : Nat) (hm : 3 ≤ m) : wv (three t0 t1 t2 0) m = t0 + t1 * 18446744073709551616 + t2 * 340282366920938463463374607431768211456 := by
  rw [wv_top hm (fun j h1 h2 => by unfold three; rw [if_neg (by omega), if_neg (by omega), if_neg (by omega)])]
  show 0 + three t0 t1 t2 0 0 * 2 ^ (64 * 0) + three t0 t1 t2 0 1 * 2 ^ (64 * 1) + three t0 t1 t2 0 2 * 2 ^ (64 * 2) = _
  unfold three
  simp
theorem ptw_pos {k t0 t1 t2 : Nat} (hk : k + 3 ≤ 76) : wv (ptw k t0 t1 t2 0) 76 = 2 ^ (64 * k) * (t0 + t1 * 18446744073709551616 + t2 * 340282366920938463463374607431768211456) := by
  obtain ⟨m, hm⟩ : ∃ m, 76 = k + m := ⟨76 - k, by omega⟩
  rw [hm, ptw_wv, three_wv _ _ _ _ (by omega)]
theorem ptw_neg {k t0 t1 t2 : Nat} (hk : k + 3 ≤ 76) (h0 : t0 < 18446744073709551616) (h1 : t1 < 18446744073709551616) (h2 : t2 < 18446744073709551616) :
    wv (ptw k (18446744073709551615 - t0) (18446744073709551615 - t1) (18446744073709551615 - t2) 18446744073709551615) 76 + 2 ^ (64 * k) * (t0 + t1 * 18446744073709551616 + t2 * 340282366920938463463374607431768211456) + 2 ^ (64 * k) = 2 ^ 4864 := by
  obtain ⟨m, hm⟩ : ∃ m, 76 = k + m := ⟨76 - k, by omega⟩
  have e : three (18446744073709551615 - t0) (18446744073709551615 - t1) (18446744073709551615 - t2) 18446744073709551615 = fun j => 18446744073709551615 - three t0 t1 t2 0 j := by
    funext j; unfold three
    by_cases c0 : j = 0
    · rw [if_pos c0, if_pos c0]
    · rw [if_neg c0, if_neg c0]
      by_cases c1 : j = 1
      · rw [if_pos c1, if_pos c1]
      · rw [if_neg c1, if_neg c1]
        by_cases c2 : j = 2
        · rw [if_pos c2, if_pos c2]
        · rw [if_neg c2, if_neg c2]
  have hfl := wv_flip (f := three t0 t1 t2 0) (n := m) (fun j _ => by unfold three; split; exact h0; split; exact h1; split; exact h2; omega)
  rw [three_wv _ _ _ _ (show 3 ≤ m by omega)] at hfl
  rw [hm, ptw_wv, e, ← Nat.mul_add]
  have h3 : (2 : Nat) ^ 4864 = 2 ^ (64 * k) * 2 ^ (64 * m) := by rw [← Nat.pow_add]; congr 1; omega
  rw [h3, ← hfl]
  rw [Nat.mul_add _ (_ + _) 1, Nat.mul_one]
/-- What is shifted by n bits lies in three words. -/
theorem shift3 {high low n : Nat} (hn : n < 64) (hl : low < 18446744073709551616) (hh : high < 18446744073709551616) :
    low * 2 ^ n % 18446744073709551616 + ((high * 2 ^ n % 18446744073709551616) ||| (low / 2 ^ (64 - n))) * 18446744073709551616 + (high / 2 ^ (64 - n)) * 340282366920938463463374607431768211456 = (high * 18446744073709551616 + low) * 2 ^ n
    ∧ ((high * 2 ^ n % 18446744073709551616) ||| (low / 2 ^ (64 - n))) < 18446744073709551616 ∧ high / 2 ^ (64 - n) < 18446744073709551616 := by
  have hp : 2 ^ n * 2 ^ (64 - n) = 18446744073709551616 := by rw [← Nat.pow_add, show n + (64 - n) = 64 by omega]
  have hpn := Nat.two_pow_pos n
  have hpm := Nat.two_pow_pos (64 - n)
  have e1 : ∀ x : Nat, x * 2 ^ n = x * 2 ^ n % 18446744073709551616 + (x / 2 ^ (64 - n)) * 18446744073709551616 := by
    intro x
    have h1 := Nat.div_add_mod (x * 2 ^ n) 18446744073709551616
    have h2 : x * 2 ^ n / 18446744073709551616 = x / 2 ^ (64 - n) := by
      rw [← hp, Nat.mul_comm (2 ^ n), Nat.mul_div_mul_right _ _ hpn]
    rw [h2] at h1
    omega
  have hlo : low / 2 ^ (64 - n) < 2 ^ n := by rw [Nat.div_lt_iff_lt_mul hpm, hp]; exact hl
  have hor : (high * 2 ^ n % 18446744073709551616) ||| (low / 2 ^ (64 - n)) = high * 2 ^ n % 18446744073709551616 + low / 2 ^ (64 - n) := by
    have h1 : high * 2 ^ n % 18446744073709551616 = 2 ^ n * (high % 2 ^ (64 - n)) := by
      rw [← hp, Nat.mul_comm high, Nat.mul_mod_mul_left]
    rw [h1, Nat.two_pow_add_eq_or_of_lt hlo]
  have h1 := e1 low
  have h2 := e1 high
  have h3 : high * 2 ^ n % 18446744073709551616 + low / 2 ^ (64 - n) < 18446744073709551616 := by
    have h4 : high * 2 ^ n % 18446744073709551616 = 2 ^ n * (high % 2 ^ (64 - n)) := by
      rw [← hp, Nat.mul_comm high, Nat.mul_mod_mul_left]
    have h5 : high % 2 ^ (64 - n) + 1 ≤ 2 ^ (64 - n) := Nat.mod_lt _ hpm
    have h6 : 2 ^ n * (high % 2 ^ (64 - n) + 1) ≤ 2 ^ n * 2 ^ (64 - n) := Nat.mul_le_mul_left _ h5
    rw [hp, Nat.mul_add] at h6
    omega
  refine ⟨?_, by rw [hor]; exact h3, ?_⟩
  · have e3 : (high * 18446744073709551616 + low) * 2 ^ n = (high * 2 ^ n) * 18446744073709551616 + low * 2 ^ n := by
      rw [Nat.add_mul]; congr 1; ac_rfl
    rw [hor, e3]
    generalize high * 2 ^ n = A at *
    generalize low * 2 ^ n = B at *
    generalize high / 2 ^ (64 - n) = C at *
    generalize low / 2 ^ (64 - n) = D at *
    omega
  · exact Nat.lt_of_le_of_lt (Nat.div_le_self _ _) hh
end Go.Proofs.Ytoehhnildocihaa
namespace Go.Proofs.Ytoehhnildocihaa
set_option linter.unusedVariables false
/-- Flip and carry, as turning tells them. -/
def Trn (neg : Bool) (F c : Nat) : Prop := (neg = false ∧ F = 0 ∧ c = 0) ∨ (neg = true ∧ F = 18446744073709551615 ∧ c = 1)
def flp (neg : Bool) (y : Nat) : Nat := if neg then 18446744073709551615 - y else y
theorem flp_lt {neg : Bool} {y : Nat} (h : y < 18446744073709551616) : flp neg y < 18446744073709551616 := by unfold flp; split <;> omega
/-- Where the carry has made up for the sign's words nothing changes any more. -/
theorem add_rest {f g h : Nat → Nat} {i c c0 s : Nat} (hi : wv h i + c * 2 ^ (64 * i) = wv f i + wv g i + c0) (hs : (s = 0 ∧ c = 0) ∨ (s = 18446744073709551615 ∧ c = 1)) :
    ∀ m, (∀ j, i ≤ j → j < i + m → g j = s) → (∀ j, i ≤ j → j < i + m → h j = f j) → wv h (i + m) + c * 2 ^ (64 * (i + m)) = wv f (i + m) + wv g (i + m) + c0
  | 0, _, _ => hi
  | m + 1, hg, hh => by
    have ih := add_rest hi hs m (fun j h1 h2 => hg j h1 (by omega)) (fun j h1 h2 => hh j h1 (by omega))
    rw [← Nat.add_assoc, wv_succ, wv_succ, wv_succ, pow_step, hg (i + m) (by omega) (by omega), hh (i + m) (by omega) (by omega)]
    generalize 2 ^ (64 * (i + m)) = P at *
    rcases hs with ⟨rfl, rfl⟩ | ⟨rfl, rfl⟩
    · omega
    · omega
theorem add_rest' {f g h : Nat → Nat} {i c c0 s : Nat} (n : Nat) (hi : wv h i + c * 2 ^ (64 * i) = wv f i + wv g i + c0) (hs : (s = 0 ∧ c = 0) ∨ (s = 18446744073709551615 ∧ c = 1)) (hn : i ≤ n) (hg : ∀ j, i ≤ j → j < n → g j = s) (hh : ∀ j, i ≤ j → j < n → h j = f j) :
    wv h n + c * 2 ^ (64 * n) = wv f n + wv g n + c0 := by
  obtain ⟨m, rfl⟩ : ∃ m, n = i + m := ⟨n - i, by omega⟩
  exact add_rest hi hs m hg hh
theorem ptw_at (k t0 t1 t2 s : Nat) : ptw k t0 t1 t2 s k = t0 ∧ ptw k t0 t1 t2 s (k + 1) = t1 ∧ ptw k t0 t1 t2 s (k + 2) = t2 ∧ ∀ j, k + 3 ≤ j → ptw k t0 t1 t2 s j = s := by
  unfold ptw
  refine ⟨by simp, ?_, ?_, fun j hj => ?_⟩
  · rw [if_neg (by omega), if_neg (by omega), if_pos rfl]
  · rw [if_neg (by omega), if_neg (by omega), if_neg (by omega), if_pos rfl]
  · rw [if_neg (by omega), if_neg (by omega), if_neg (by omega), if_neg (by omega)]
theorem ptw_low (k t0 t1 t2 s : Nat) : wv (ptw k t0 t1 t2 s) k = 0 := wv_zero_iff.2 (fun j hj => by unfold ptw; rw [if_pos hj])
/-- The three words of what put adds. -/
def pw0 (low n : Nat) : Nat := low * 2 ^ n % 18446744073709551616
def pw1 (high low n : Nat) : Nat := (high * 2 ^ n % 18446744073709551616) ||| (low / 2 ^ (64 - n))
def pw2 (high n : Nat) : Nat := high / 2 ^ (64 - n)
theorem put_tc {f h : Nat → Nat} {z : Int} {neg : Bool} {high low k n c F c0 : Nat} (hf : Tc f z) (hk : k + 3 ≤ 76) (hn : n < 64) (hl : low < 18446744073709551616) (hh : high < 18446744073709551616) (hT : Trn neg F c0) (hlt : ∀ j, j < 76 → h j < 18446744073709551616)
    (hs : wv h 76 + c * 2 ^ (64 * 76) = wv f 76 + wv (ptw k (flp neg (pw0 low n)) (flp neg (pw1 high low n)) (flp neg (pw2 high n)) F) 76 + c0 * 2 ^ (64 * k))
    (h1 : -((2 ^ 4863 : Nat) : Int) ≤ z + sv neg ((high * 18446744073709551616 + low) * 2 ^ (64 * k + n))) (h2 : z + sv neg ((high * 18446744073709551616 + low) * 2 ^ (64 * k + n)) < ((2 ^ 4863 : Nat) : Int)) :
    Tc h (z + sv neg ((high * 18446744073709551616 + low) * 2 ^ (64 * k + n))) := by
  obtain ⟨e, b1, b2⟩ := shift3 (high := high) (low := low) hn hl hh
  have b0 : pw0 low n < 18446744073709551616 := Nat.mod_lt _ (by omega)
  have e' : (high * 18446744073709551616 + low) * 2 ^ (64 * k + n) = 2 ^ (64 * k) * (pw0 low n + pw1 high low n * 18446744073709551616 + pw2 high n * 340282366920938463463374607431768211456) := by
    unfold pw0 pw1 pw2
    rw [e, Nat.pow_add]; ac_rfl
  rw [show 64 * 76 = 4864 by omega] at hs
  refine Tc.sum (y := sv neg ((high * 18446744073709551616 + low) * 2 ^ (64 * k + n))) (c0 := c0 * 2 ^ (64 * k)) (c := c) (g := ptw k (flp neg (pw0 low n)) (flp neg (pw1 high low n)) (flp neg (pw2 high n)) F) hf ?_ hlt hs rfl h1 h2
  rcases hT with ⟨rfl, rfl, rfl⟩ | ⟨rfl, rfl, rfl⟩
  · left
    unfold flp sv
    simp only [Bool.false_eq_true, if_false]
    rw [ptw_pos hk, e', Nat.zero_mul]; simp
  · right
    unfold flp sv
    simp only [if_true]
    have := ptw_neg (t0 := pw0 low n) (t1 := pw1 high low n) (t2 := pw2 high n) hk b0 b1 b2
    rw [← e'] at this
    generalize (high * 18446744073709551616 + low) * 2 ^ (64 * k + n) = X at *
    generalize wv _ 76 = Y at *
    generalize 2 ^ 4864 = Z at *
    generalize 2 ^ (64 * k) = U at *
    omega
end Go.Proofs.Ytoehhnildocihaa
namespace Go.Proofs.Ytoehhnildocihaa
set_option linter.unusedVariables false
open Ieee
end Go.Proofs.Ytoehhnildocihaa
namespace Go.Proofs.Ytoehhnildocihaa
set_option linter.unusedVariables false
end Go.Proofs.Ytoehhnildocihaa
namespace Go.Proofs.Ytoehhnildocihaa
set_option linter.unusedVariables false
theorem srung_le (x y : Nat) : srung x ≤ srung y ↔ fval x ≤ fval y := by
  rw [fval_smag, fval_smag]
  constructor
  · intro h
    rcases Int.lt_or_eq_of_le h with h | h
    · rcases Int.lt_trichotomy (smag (srung x)) (smag (srung y)) with c | c | c
      · omega
      · omega
      · have := lt_of_smag c; omega
    · rw [h]; exact Int.le_refl _
  · exact le_of_smag
end Go.Proofs.Ytoehhnildocihaa

namespace Go.Proofs.Ytoehhnildocihaa
open Go.RowKit
set_option linter.unusedVariables false
theorem call_bits (u : Nat) (w : World) : (callFunc 40 #[.float .f64 u]).run Try.prog w = .ok (.value (.int .u64 u)) w := by kernel_rfl
theorem call_from (n : Int) (w : World) : (callFunc 75 #[.int .u64 n]).run Try.prog w = .ok (.value (.float .f64 n.toNat)) w := by kernel_rfl
theorem bits_any (u : Nat) (w : World) : Calls Try.prog 18 #[.float .f64 u] w fun e w' => e = .returned (.int .u64 u) ∧ w' = w := by
  have hcb := call_bits
  go_enter Try.func18, Try.ntmps18
  go_wp2
  go_ret
  exact ⟨rfl, rfl⟩
theorem abs_any (u : Nat) (hu : u < 18446744073709551616) (w : World) : Calls Try.prog 54 #[.float .f64 u] w fun e w' => e = .returned (.float .f64 (frung u)) ∧ w' = w := by
  have hcb := call_bits
  have hcf := call_from
  have HE : Hid _ := u64_andNot_nat u 9223372036854775808 hu (by decide)
  go_enter Try.func54, Try.ntmps54
  go_wp2
  go_ret
  refine ⟨?_, rfl⟩
  have h := HE.out
  rw [show ((9223372036854775808 : Nat) : Int) = 9223372036854775808 from rfl] at h
  rw [h, Int.toNat_natCast, show 18446744073709551615 - 9223372036854775808 = 2 ^ 63 - 1 by decide, Nat.and_two_pow_sub_one_eq_mod]
  rfl
theorem ord_le {x y : Nat} : (Ieee.double.order x y == some .lt || Ieee.double.order x y == some .eq) = decide (frung x ≤ infK ∧ frung y ≤ infK ∧ srung x ≤ srung y) := by
  by_cases hx : frung x ≤ infK
  · by_cases hy : frung y ≤ infK
    · rw [order_rung hx hy, icmp]
      by_cases h1 : srung x < srung y
      · have : srung x ≤ srung y := by omega
        simp [h1, hx, hy, this]
      · by_cases h2 : srung x = srung y
        · simp [h2, hx, hy]
        · have : ¬ srung x ≤ srung y := by omega
          simp [h1, h2, this]
    · rw [order_nan (.inr (by omega))]; simp [hy]
  · rw [order_nan (.inl (by omega))]; simp [hx]
theorem f64_fmt : FloatKind.f64.format = Ieee.double := rfl
/-- THE SLICE OF FLOATS '.slice ao len cap' READS AS us (their bits). -/
structure RdF (w : World) (ao : Option Addr) (len cap : Nat) (us : List Nat) : Prop where
  length : us.length = len
  max : len ≤ maxLen
  lt : ∀ u ∈ us, u < 18446744073709551616
  cells : len = 0 ∨ ∃ b off, ao = some ⟨b, off, none⟩ ∧ ∀ j, j < len → w.cell? ⟨b, off + j, none⟩ = some (.float .f64 (us[j]?.getD 0))
theorem RdF.later {w w' : World} {ao : Option Addr} {len cap : Nat} {us : List Nat} (h : RdF w ao len cap us) (hb : Below w.heap.size w w') : RdF w' ao len cap us := by
  refine ⟨h.length, h.max, h.lt, ?_⟩
  rcases h.cells with h0 | ⟨b, off, ha, hc⟩
  · exact .inl h0
  · refine .inr ⟨b, off, ha, fun j hj => ?_⟩
    have hlt := World.block_lt_of_cell? w _ (hc j hj)
    rw [hb.cell (p := ⟨b, off + j, none⟩) hlt]
    exact hc j hj
theorem getD_mem {us : List Nat} {j : Nat} (h : j < us.length) : us[j]?.getD 0 ∈ us := by
  rw [List.getElem?_eq_getElem h]; exact List.getElem_mem h
def numsB (us : List Nat) : Bool := us.all fun u => decide (Fin u)
theorem numsB_drop (us : List Nat) {k : Nat} (h : k < us.length) : numsB (us.drop k) = (decide (Fin (us[k]?.getD 0)) && numsB (us.drop (k + 1))) := by
  unfold numsB
  rw [List.drop_eq_getElem_cons h, List.all_cons, List.getElem?_eq_getElem h]
  rfl
end Go.Proofs.Ytoehhnildocihaa

namespace Go.Proofs.Ytoehhnildocihaa
open Go.RowKit
set_option linter.unusedVariables false
theorem number_any (u : Nat) (hu : u < 18446744073709551616) (w : World) : Calls Try.prog 80 #[.float .f64 u] w fun e w' => e = .returned (.bool (decide (Fin u))) ∧ w' = w := by
  have hE : (FloatKind.f64.format.order (frung u) 9218868437227405311 == some .lt || FloatKind.f64.format.order (frung u) 9218868437227405311 == some .eq) = decide (Fin u) := by
    rw [f64_fmt, ord_le]
    have h1 : frung (frung u) = frung u := by unfold frung; omega
    have h2 : srung (frung u) = frung u := by
      unfold srung fneg; rw [h1]
      have : frung u / 9223372036854775808 = 0 := by unfold frung; omega
      rw [this]; rfl
    have h3 : srung 9218868437227405311 = 9218868437227405311 := by decide
    have h4 : frung 9218868437227405311 = 9218868437227405311 := by decide
    rw [h1, h2, h3, h4]
    unfold Fin infK
    congr 1
    apply propext
    omega
  have HE : Hid _ := hE
  clear hE
  go_enter Try.func80, Try.ntmps80
  go_wp2_with (go_at_call 54; refine (abs_any u hu _).mono ?_; rintro e w' ⟨rfl, rfl⟩)
  go_ret
  exact ⟨by rw [← HE.out]; rfl, rfl⟩
end Go.Proofs.Ytoehhnildocihaa

namespace Go.Proofs.Ytoehhnildocihaa
open Go.RowKit
set_option linter.unusedVariables false
/-- A slice of lists of numbers; gv: where each of them lies. -/
structure RdGs (w : World) (ao : Option Addr) (len cap : Nat) (gv : Nat → Option Addr × Nat × Nat) (gs : List (List Nat)) : Prop where
  length : gs.length = len
  max : len ≤ maxLen
  cells : len = 0 ∨ ∃ b off, ao = some ⟨b, off, none⟩ ∧ ∀ j, j < len → w.cell? ⟨b, off + j, none⟩ = some (.slice (gv j).1 (gv j).2.1 (gv j).2.2)
  each : ∀ j, j < len → RdF w (gv j).1 (gv j).2.1 (gv j).2.2 (gs[j]?.getD [])
theorem RdGs.later {w w' : World} {ao : Option Addr} {len cap : Nat} {gv : Nat → Option Addr × Nat × Nat} {gs : List (List Nat)} (h : RdGs w ao len cap gv gs) (hb : Below w.heap.size w w') : RdGs w' ao len cap gv gs := by
  refine ⟨h.length, h.max, ?_, fun j hj => (h.each j hj).later hb⟩
  rcases h.cells with h0 | ⟨b, off, ha, hc⟩
  · exact .inl h0
  · refine .inr ⟨b, off, ha, fun j hj => ?_⟩
    rw [hb.cell (p := ⟨b, off + j, none⟩) (World.block_lt_of_cell? w _ (hc j hj))]
    exact hc j hj
/-- A zonotope's cells, and what its lists read as. -/
structure ZD where
  N : Int
  co : Option Addr
  cn : Nat
  cc : Nat
  io : Option Addr
  dn : Nat
  dc : Nat
  go : Option Addr
  gn : Nat
  gc : Nat
  ro : Option Addr
  rn : Nat
  rc : Nat
  bad : Bool
  cs : List Nat
  ids : List Int
  gv : Nat → Option Addr × Nat × Nat
  gs : List (List Nat)
  rs : List Nat
structure ZR (w : World) (z : ZD) : Prop where
  c : RdF w z.co z.cn z.cc z.cs
  i : RdIs w z.io z.dn z.dc z.ids
  g : RdGs w z.go z.gn z.gc z.gv z.gs
  r : RdF w z.ro z.rn z.rc z.rs
theorem ZR.later {w w' : World} {z : ZD} (h : ZR w z) (hb : Below w.heap.size w w') : ZR w' z := ⟨h.c.later hb, h.i.later hb, h.g.later hb, h.r.later hb⟩
def numN (us : List Nat) (n : Int) : Bool := decide ((us.length : Int) = n) && numsB us
set_option maxRecDepth 100000 in
set_option maxHeartbeats 1000000 in
theorem areNumbers_any (ao : Option Addr) (len cap : Nat) (us : List Nat) (n : Int) (w : World) (h : RdF w ao len cap us) :
    Calls Try.prog 65 #[.slice ao len cap, .int .i64 n] w fun e w' => e = .returned (.bool (numN us n)) ∧ w' = w := by
  have HR : Hid _ := h
  have hmx := Nat.le_trans h.max maxLen_le
  have hln := h.length
  clear h
  by_cases hn : (len : Int) = n
  · subst hn
    have HE : Hid (numN us (len : Int) = numsB us) := by unfold Hid numN; rw [hln, decide_eq_true rfl, Bool.true_and]
    go_enter Try.func65, Try.ntmps65
    go_wp2_with fail
    go_loopg [13] len (fun g iv wx => ∃ k : Nat, iv = .int .i64 k ∧ k + g = len ∧ Hid (wx = w) ∧ Hid (numsB (us.drop k) = numsB us))
    case atStart => exact ⟨0, rfl, by omega, rfl, rfl⟩
    case round =>
      obtain ⟨k, rfl, hk, hw, H1⟩ := hrel
      by_cases hlt : k < len
      · have hd : decide ((k : Int) < (len : Int)) = true := decide_eq_true (by omega)
        obtain ⟨g, rfl⟩ : ∃ g, gk = g + 1 := ⟨gk - 1, by omega⟩
        rcases HR.out.cells with h0 | ⟨b, off, rfl, hc⟩
        · omega
        · have g0 := hc k hlt
          rw [← hw.out] at g0
          have hul := HR.out.lt _ (getD_mem (us := us) (j := k) (by omega))
          have h2 := H1.out
          rw [numsB_drop us (by omega)] at h2
          obtain ⟨u, hu⟩ : ∃ u, us[k]?.getD 0 = u := ⟨_, rfl⟩
          rw [hu] at g0 hul h2
          clear hc hu H1
          by_cases hf : Fin u
          · have hfd : decide (Fin u) = true := decide_eq_true hf
            have H2 : Hid (numsB (us.drop (k + 1)) = numsB us) := by unfold Hid; rw [← h2, hfd, Bool.true_and]
            clear h2
            go_wp2_with (go_at_call 80; refine (number_any u hul _).mono ?_; rintro e w' ⟨rfl, rfl⟩; rw [hfd])
            go_roundg g
            case measure => omega
            case rel => exact ⟨k + 1, by go_num, by omega, hw, H2⟩
          · have hfd : decide (Fin u) = false := decide_eq_false hf
            have H2 : Hid (false = numsB us) := by unfold Hid; rw [← h2, hfd, Bool.false_and]
            clear h2
            go_wp2_with (go_at_call 80; refine (number_any u hul _).mono ?_; rintro e w' ⟨rfl, rfl⟩; rw [hfd])
            go_ret
            exact ⟨by rw [HE.out, ← H2.out]; rfl, hw.out⟩
      · have hd : decide ((k : Int) < (len : Int)) = false := decide_eq_false (by omega)
        have hd' : decide (k < len) = false := decide_eq_false (by omega)
        have H2 : Hid (true = numsB us) := by
          unfold Hid
          rw [← H1.out, List.drop_eq_nil_of_le (by omega)]
          rfl
        go_wp2_with fail
        go_ret
        exact ⟨by rw [HE.out, ← H2.out]; rfl, hw.out⟩
  · have HE : Hid (numN us n = false) := by unfold Hid numN; rw [hln, decide_eq_false hn, Bool.false_and]
    have hb : ((len : Int) != n) = true := by simpa using hn
    have hb2 : ((len : Int) == n) = false := by simpa using hn
    go_enter Try.func65, Try.ntmps65
    go_wp2_with fail
    go_ret
    exact ⟨by rw [HE.out]; rfl, rfl⟩
end Go.Proofs.Ytoehhnildocihaa

namespace Go.Proofs.Ytoehhnildocihaa
open Go.RowKit Go.Shelf
set_option linter.unusedVariables false
attribute [local go_sem] Oper.semAt_some
/-- What a round keeps: all that lay when the function was called, and the zonotope's own box. -/
def KpZ (n₀ B : Nat) (W W' : World) : Prop := Below n₀ W W' ∧ W'.heap[B]? = W.heap[B]?
theorem KpZ.trans {n₀ B : Nat} {a b c : World} (h : KpZ n₀ B a b) (k : KpZ n₀ B b c) : KpZ n₀ B a c := ⟨h.1.trans k.1, k.2.trans h.2⟩
theorem KpZ.refl (n₀ B : Nat) (a : World) : KpZ n₀ B a a := ⟨Below.refl _ _, rfl⟩
theorem kpZ_b {n₀ B : Nat} {w : World} (hn : n₀ ≤ w.heap.size) (hB : B < w.heap.size) (W : World) (l : Nat) (o o' : Obj) (hl : w.heap.size ≤ l) (h : W.heap[l]? = some o) (hc : o.isCells = false) (hw : o.isWalk = false) : KpZ n₀ B W (W.putObj l o') :=
  ⟨belowK_b hn W l o o' hl h hc hw, by
    have := (belowK_b (n₀ := B + 1) (w := w) (by omega) W l o o' hl h hc hw).block B (by omega)
    exact this⟩
def encZ (z : ZD) (k : _root_.Fin z.dn) : Array Value := #[.int .i64 (z.ids[k.val]?.getD 0), .slice (z.gv k.val).1 (z.gv k.val).2.1 (z.gv k.val).2.2]
def uptoZ (z : ZD) (k : Nat) : List (_root_.Fin z.dn) := (List.finRange z.dn).take k
theorem uptoZ_len (z : ZD) (k : Nat) (h : k ≤ z.dn) : (uptoZ z k).length = k := by unfold uptoZ; rw [List.length_take, List.length_finRange]; omega
theorem uptoZ_succ (z : ZD) (k : Nat) (h : k < z.dn) : uptoZ z (k + 1) = uptoZ z k ++ [⟨k, h⟩] := by
  unfold uptoZ
  rw [List.take_add_one, List.getElem?_eq_getElem (by rw [List.length_finRange]; exact h)]
  simp
theorem uptoZ_all (z : ZD) : uptoZ z z.dn = List.finRange z.dn := by unfold uptoZ; rw [List.take_of_length_le (by rw [List.length_finRange]; exact Nat.le_refl _)]
set_option maxRecDepth 100000 in
set_option maxHeartbeats 1000000 in
theorem columns_in (F : Fence) (n : Nat) (hf : F.fn 66) (hro : F.round = none) (v : Array Value) (hv : v.size = 6) (w : World) :
    CallsIn F n Try.prog 66 #[.agg v] w fun e w' => e = .returned (.func (.func 81) #[] #[.pointer (some ⟨w.heap.size, 0, none⟩)]) ∧ w' = w.alloc (.cells v 26) := by
  refine callsIn_of_wp Try.func66 rfl hf ?_ hro
  simp only [Try.ntmps66, List.size_toArray, List.length_cons, List.length_nil, Nat.reduceAdd, Nat.reduceSub, Array.replicate_succ, Array.replicate_zero, List.push_toArray, List.append_toArray, List.nil_append, List.cons_append]
  gi_wp2
  go_ret
  exact ⟨rfl, rfl⟩
set_option maxRecDepth 100000 in
set_option maxHeartbeats 2000000 in
theorem cols_in (F : Fence) (n : Nat) (hf : F.fn 81) (hro : F.round = none) (hn : 1 ≤ n) (l B n₀ : Nat) (z : ZD) (hg : z.dn ≤ z.gn) (J Jx : List (_root_.Fin z.dn) → World → Prop)
    (hY : ∀ pre x W, J pre W → pre.length < z.dn → YieldAt F (n - 1) Try.prog l (encZ z x) W fun e W' =>
      (e = .returned (.bool true) ∧ J (pre ++ [x]) W' ∧ KpZ n₀ B W W') ∨ (e = .returned (.bool false) ∧ Jx (pre ++ [x]) W'))
    (W : World) (hB : W.heap[B]? = some (.cells #[.int .i64 z.N, .slice z.co z.cn z.cc, .slice z.io z.dn z.dc, .slice z.go z.gn z.gc, .slice z.ro z.rn z.rc, .bool z.bad] 26))
    (hz : ∀ W', Below n₀ W W' → ZR W' z) (h0 : J [] W) :
    CallsIn F n Try.prog 81 #[.func (.yield l) #[] #[], .pointer (some ⟨B, 0, none⟩)] W fun e W' => (∃ v, e = .returned v) ∧
      ((∃ ys, ys = List.finRange z.dn ∧ J ys W') ∨ (∃ pre, (∃ k, k ≤ z.dn ∧ pre = uptoZ z k) ∧ Jx pre W')) := by
  obtain ⟨N, co, cn, cc, io, dn, dc, go, gn, gc, ro, rn, rc, bad, cs, ids, gv, gs, rs⟩ := z
  dsimp only at hg J Jx hY hB hz h0 ⊢
  have hmx : dn ≤ 9223372036854775807 := Nat.le_trans (hz W (Below.refl _ _)).i.max maxLen_le
  have hmx2 : dn ≤ maxLen := (hz W (Below.refl _ _)).i.max
  have c2 := cellAtJ hB 2 (.slice io dn dc) rfl
  refine callsIn_of_wp Try.func81 rfl hf ?_ hro
  simp only [Try.ntmps81, List.size_toArray, List.length_cons, List.length_nil, Nat.reduceAdd, Nat.reduceSub, Array.replicate_succ, Array.replicate_zero, List.push_toArray, List.append_toArray, List.nil_append, List.cons_append]
  gi_wp2
  gi_loopw [8] (fun i wr => ∃ k : Nat, k ≤ dn ∧ i = .int .i64 k ∧ J (uptoZ ⟨N, co, cn, cc, io, dn, dc, go, gn, gc, ro, rn, rc, bad, cs, ids, gv, gs, rs⟩ k) wr ∧ KpZ n₀ B W wr)
    (fun i _ => dn - (intOf i).toNat)
  case atStart => exact ⟨0, Nat.zero_le _, rfl, h0, KpZ.refl _ _ _⟩
  case round =>
    obtain ⟨k, hk, rfl, hJs, hnx⟩ := hrel
    by_cases hlt : k < dn
    · obtain ⟨fn, tmps, assign, body, hy, hR⟩ := hY _ ⟨k, hlt⟩ wr hJs (by rw [uptoZ_len _ k hk]; exact hlt)
      dsimp only [encZ] at hy
      have hzr := hz wr hnx.1
      obtain ⟨hzc, hzi, hzg, hzr'⟩ := hzr
      dsimp only at hzi hzg
      rcases hzi.cells with h0' | ⟨ib, ioff, rfl, hic⟩
      · omega
      rcases hzg.cells with h0' | ⟨gb, goff, rfl, hgc⟩
      · omega
      have q1 := hic k hlt
      have q2 := hgc k (by omega)
      have c3 := cellAtJ (hnx.2.trans hB) 3 (.slice (some ⟨gb, goff, none⟩) gn gc) rfl
      have hlt' : k < gn := by omega
      have hki : (k : Int) < (dn : Int) := by omega
      gi_wp2
      refine hR.mono ?_
      rintro e W3 (⟨rfl, hJ3, hk3⟩ | ⟨rfl, hJx3⟩)
      · gi_wp2
        go_roundw
        case rel => exact ⟨k + 1, by omega, by simp, by rw [uptoZ_succ _ _ hlt]; exact hJ3, hnx.trans hk3⟩
        case measure => simp [intOf]; omega
      · gi_wp2
        refine bodyPost_ret (results_none rfl _ _ _) rfl ?_
        exact ⟨⟨_, rfl⟩, .inr ⟨_, ⟨k + 1, by omega, (uptoZ_succ _ _ hlt).symm⟩, hJx3⟩⟩
    · obtain rfl : k = dn := by omega
      gi_wp2
      go_end0
      have e : uptoZ ⟨N, co, cn, cc, io, k, dc, go, gn, gc, ro, rn, rc, bad, cs, ids, gv, gs, rs⟩ k = List.finRange k := uptoZ_all _
      rw [e] at hJs
      exact ⟨⟨_, rfl⟩, .inl ⟨_, rfl, hJs⟩⟩
/-- The columns of a zonotope that lay when the function was called (world we), by their box B. -/
theorem cols_stops (F : Fence) (n : Nat) (hf : F.fn 81) (hro : F.round = none) (hn : 1 ≤ n) (B : Nat) (z : ZD) (hg : z.dn ≤ z.gn) (we w : World) (hbe : Below we.heap.size we w) (hz : ZR we z)
    (hB : w.heap[B]? = some (.cells #[.int .i64 z.N, .slice z.co z.cn z.cc, .slice z.io z.dn z.dc, .slice z.go z.gn z.gc, .slice z.ro z.rn z.rc, .bool z.bad] 26)) :
    SeqStopsK F n Try.prog 81 #[.pointer (some ⟨B, 0, none⟩)] (encZ z) (KpZ we.heap.size B) (fun ys => ys = List.finRange z.dn) (fun pre => ∃ k, k ≤ z.dn ∧ pre = uptoZ z k) z.dn w := fun l J Jx W hW _ _ hY h0 =>
  cols_in F n hf hro hn l B we.heap.size z hg J Jx hY W (kept hW hB) (fun W' hb => hz.later ((hbe.trans (hW.mono hbe.size)).trans hb)) h0
end Go.Proofs.Ytoehhnildocihaa

namespace Go.Proofs.Ytoehhnildocihaa
open Go.RowKit Go.Shelf
set_option linter.unusedVariables false
theorem f64_fmtJ : FloatKind.f64.format = Ieee.double := rfl
theorem lt0_ord {u : Nat} (hu : Fin u) : (FloatKind.f64.format.order u 0 == some Ordering.lt) = decide (srung u < 0) := by
  have ho := order_rung (x := u) (y := 0) (Nat.le_of_lt hu) (by decide)
  have hs : srung 0 = 0 := by decide
  rw [f64_fmtJ, ho, hs]
  by_cases h : srung u < 0
  · rw [Int.compare_eq_lt.2 h, decide_eq_true h]; rfl
  · rw [decide_eq_false h]
    by_cases h2 : srung u = 0
    · rw [Int.compare_eq_eq.2 h2]; rfl
    · rw [Int.compare_eq_gt.2 (by omega)]; rfl
def bareB (z : ZD) : Bool := decide (0 ≤ z.N) && decide (z.N ≤ 256) && decide (z.cn = 0) && decide (z.dn = 0) && decide (z.gn = 0) && decide (z.rn = 0)
set_option maxRecDepth 100000 in
set_option maxHeartbeats 1000000 in
theorem isBare_any (z : ZD) (w : World) : Calls Try.prog 46 #[.agg #[.int .i64 z.N, .slice z.co z.cn z.cc, .slice z.io z.dn z.dc, .slice z.go z.gn z.gc, .slice z.ro z.rn z.rc, .bool z.bad]] w fun e w' => e = .returned (.bool (bareB z)) ∧ Below w.heap.size w w' := by
  have HB : Hid (∀ x, Below w.heap.size w (w.alloc x)) := fun x => (Below.refl _ w).alloc (Nat.le_refl _) _
  have HE : Hid (bareB z = (decide (0 ≤ z.N) && decide (z.N ≤ 256) && decide (z.cn = 0) && decide (z.dn = 0) && decide (z.gn = 0) && decide (z.rn = 0))) := rfl
  by_cases q0 : 0 ≤ z.N
  case neg =>
    have d0 : decide (0 ≤ z.N) = false := decide_eq_false q0
    have HF : Hid (bareB z = false) := by unfold Hid; rw [HE.out]; simp [q0]
    go_enter Try.func46, Try.ntmps46
    go_wp2_with fail
    go_ret
    exact ⟨by rw [HF.out]; rfl, HB.out _⟩
  by_cases q1 : z.N ≤ 256
  case neg =>
    have d0 : decide (0 ≤ z.N) = true := decide_eq_true q0
    have d1 : decide (z.N ≤ 256) = false := decide_eq_false q1
    have HF : Hid (bareB z = false) := by unfold Hid; rw [HE.out]; simp [q0, q1]
    go_enter Try.func46, Try.ntmps46
    go_wp2_with fail
    go_ret
    exact ⟨by rw [HF.out]; rfl, HB.out _⟩
  by_cases q2 : z.cn = 0
  case neg =>
    have d0 : decide (0 ≤ z.N) = true := decide_eq_true q0
    have d1 : decide (z.N ≤ 256) = true := decide_eq_true q1
    have d2 : ((z.cn : Int) == 0) = false := by simpa using (show ¬ ((z.cn : Nat) : Int) = 0 by omega)
    have e2 : decide (z.cn = 0) = false := decide_eq_false q2
    have HF : Hid (bareB z = false) := by unfold Hid; rw [HE.out]; simp [q0, q1, q2]
    go_enter Try.func46, Try.ntmps46
    go_wp2_with fail
    go_ret
    exact ⟨by rw [HF.out]; rfl, HB.out _⟩
  by_cases q3 : z.dn = 0
  case neg =>
    have d0 : decide (0 ≤ z.N) = true := decide_eq_true q0
    have d1 : decide (z.N ≤ 256) = true := decide_eq_true q1
    have e2 : z.cn = 0 := q2
    have d3 : ((z.dn : Int) == 0) = false := by simpa using (show ¬ ((z.dn : Nat) : Int) = 0 by omega)
    have e3 : decide (z.dn = 0) = false := decide_eq_false q3
    have HF : Hid (bareB z = false) := by unfold Hid; rw [HE.out]; simp [q0, q1, q2, q3]
    go_enter Try.func46, Try.ntmps46
    go_wp2_with fail
    go_ret
    exact ⟨by rw [HF.out]; rfl, HB.out _⟩
  by_cases q4 : z.gn = 0
  case neg =>
    have d0 : decide (0 ≤ z.N) = true := decide_eq_true q0
    have d1 : decide (z.N ≤ 256) = true := decide_eq_true q1
    have e2 : z.cn = 0 := q2
    have e3 : z.dn = 0 := q3
    have d4 : ((z.gn : Int) == 0) = false := by simpa using (show ¬ ((z.gn : Nat) : Int) = 0 by omega)
    have e4 : decide (z.gn = 0) = false := decide_eq_false q4
    have HF : Hid (bareB z = false) := by unfold Hid; rw [HE.out]; simp [q0, q1, q2, q3, q4]
    go_enter Try.func46, Try.ntmps46
    go_wp2_with fail
    go_ret
    exact ⟨by rw [HF.out]; rfl, HB.out _⟩
  by_cases q5 : z.rn = 0
  case neg =>
    have d0 : decide (0 ≤ z.N) = true := decide_eq_true q0
    have d1 : decide (z.N ≤ 256) = true := decide_eq_true q1
    have e2 : z.cn = 0 := q2
    have e3 : z.dn = 0 := q3
    have e4 : z.gn = 0 := q4
    have d5 : ((z.rn : Int) == 0) = false := by simpa using (show ¬ ((z.rn : Nat) : Int) = 0 by omega)
    have e5 : decide (z.rn = 0) = false := decide_eq_false q5
    have HF : Hid (bareB z = false) := by unfold Hid; rw [HE.out]; simp [q0, q1, q2, q3, q4, q5]
    go_enter Try.func46, Try.ntmps46
    go_wp2_with fail
    go_ret
    exact ⟨by rw [HF.out]; rfl, HB.out _⟩
  have d0 : decide (0 ≤ z.N) = true := decide_eq_true q0
  have d1 : decide (z.N ≤ 256) = true := decide_eq_true q1
  have e2 : z.cn = 0 := q2
  have e3 : z.dn = 0 := q3
  have e4 : z.gn = 0 := q4
  have e5 : z.rn = 0 := q5
  have HF : Hid (bareB z = true) := by unfold Hid; rw [HE.out]; simp [q0, q1, q2, q3, q4, q5]
  go_enter Try.func46, Try.ntmps46
  go_wp2_with fail
  go_ret
  exact ⟨by rw [HF.out]; rfl, HB.out _⟩
end Go.Proofs.Ytoehhnildocihaa

namespace Go.Proofs.Ytoehhnildocihaa
open Go.RowKit Go.Shelf
set_option linter.unusedVariables false
attribute [local go_sem] Oper.semAt_some
def idZ (z : ZD) (k : _root_.Fin z.dn) : Int := z.ids[k.val]?.getD 0
def colOk (z : ZD) (last : Int) (k : _root_.Fin z.dn) : Bool := decide (last < idZ z k) && decide (idZ z k ≤ 1073741824) && numN (z.gs[k.val]?.getD []) z.N
def colsB (z : ZD) : Int → List (_root_.Fin z.dn) → Bool
  | _, [] => true
  | last, k :: ks => colOk z last k && colsB z (idZ z k) ks
def lastZ (z : ZD) : Int → List (_root_.Fin z.dn) → Int
  | last, [] => last
  | _, k :: ks => lastZ z (idZ z k) ks
theorem lastZ_snoc (z : ZD) : ∀ (ks : List (_root_.Fin z.dn)) (last : Int) (x : _root_.Fin z.dn), lastZ z last (ks ++ [x]) = idZ z x
  | [], _, _ => rfl
  | k :: ks, _, x => lastZ_snoc z ks _ x
theorem colsB_snoc (z : ZD) : ∀ (ks : List (_root_.Fin z.dn)) (last : Int) (x : _root_.Fin z.dn), colsB z last (ks ++ [x]) = (colsB z last ks && colOk z (lastZ z last ks) x)
  | [], last, x => by show (colOk z last x && true) = (true && colOk z last x); simp
  | k :: ks, last, x => by
    show (colOk z last k && colsB z (idZ z k) (ks ++ [x])) = (colOk z last k && colsB z (idZ z k) ks && colOk z (lastZ z (idZ z k) ks) x)
    rw [colsB_snoc z ks, Bool.and_assoc]
theorem colsB_append (z : ZD) : ∀ (ks js : List (_root_.Fin z.dn)) (last : Int), colsB z last ks = false → colsB z last (ks ++ js) = false
  | [], js, last, h => by cases h
  | k :: ks, js, last, h => by
    show (colOk z last k && colsB z (idZ z k) (ks ++ js)) = false
    have h' : (colOk z last k && colsB z (idZ z k) ks) = false := h
    rcases Bool.and_eq_false_iff.1 h' with h1 | h1
    · rw [h1]; rfl
    · rw [colsB_append z ks js _ h1]; simp
/-- Is all of it there, in order? -/
def posB (rs : List Nat) : Bool := rs.all fun u => decide (¬ srung u < 0)
def wholeB (z : ZD) : Bool := decide (1 ≤ z.N) && decide (z.N ≤ 256) && numN z.cs z.N && numN z.rs z.N && decide (z.dn = z.gn) && posB z.rs && colsB z (-1) (List.finRange z.dn)
theorem resB (f : Func) (i : Nat) (hf : f.results = #[ResultVar.cell i 4]) (tmps : Array Value) (W : World) (B : Nat) (b : Bool) (hp : tmps[i]? = some (.pointer (some ⟨B, 0, none⟩))) (h : W.cell? ⟨B, 0, none⟩ = some (.bool b)) : (results f tmps).run Try.prog W = .ok (.bool b) W := by
  simp [results, hf, hp, go_sem, h, asAddr]
theorem posB_drop (us : List Nat) {k : Nat} (h : k < us.length) : posB (us.drop k) = (decide (¬ srung (us[k]?.getD 0) < 0) && posB (us.drop (k + 1))) := by
  unfold posB
  rw [List.drop_eq_getElem_cons h, List.all_cons, List.getElem?_eq_getElem h]
  rfl
theorem numN_fin {us : List Nat} {n : Int} (h : numN us n = true) : (us.length : Int) = n ∧ ∀ u ∈ us, Fin u := by
  unfold numN numsB at h
  simp at h
  exact h
theorem cell_setJ {W : World} {p q : Addr} {v u : Value} (hne : p.block ≠ q.block) (h : W.cell? p = some v) : (W.setCell q u).cell? p = some v := by
  have e : (W.setCell q u).heap[p.block]? = W.heap[p.block]? := heap_setCell_other W q p.block u hne
  unfold World.cell? at h ⊢
  rw [e]; exact h
set_option maxRecDepth 100000 in
set_option maxHeartbeats 4000000 in
theorem isWhole_any (z : ZD) (w : World) (hz : ZR w z) : Calls Try.prog 47 #[.agg #[.int .i64 z.N, .slice z.co z.cn z.cc, .slice z.io z.dn z.dc, .slice z.go z.gn z.gc, .slice z.ro z.rn z.rc, .bool z.bad]] w fun e w' => e = .returned (.bool (wholeB z)) ∧ Below w.heap.size w w' := by
  have HZ : Hid (∀ W', Below w.heap.size w W' → ZR W' z) := fun W' hb => hz.later hb
  obtain ⟨wb, hwb⟩ : ∃ wb, wholeB z = wb := ⟨_, rfl⟩
  rw [hwb]
  have HE : Hid (wb = (decide (1 ≤ z.N) && decide (z.N ≤ 256) && numN z.cs z.N && numN z.rs z.N && decide (z.dn = z.gn) && posB z.rs && colsB z (-1) (List.finRange z.dn))) := hwb.symm
  have HRL : Hid (z.rs.length = z.rn ∧ z.rn ≤ 9223372036854775807) := ⟨hz.r.length, Nat.le_trans hz.r.max maxLen_le⟩
  clear hwb
  clear hz
  obtain ⟨N, co, cn, cc, io, dn, dc, go, gn, gc, ro, rn, rc, bad, cs, ids, gv, gs, rs⟩ := z
  dsimp only at HZ HE HRL ⊢
  have B2 : Below w.heap.size w ((w.alloc (.cells #[.int .i64 N, .slice co cn cc, .slice io dn dc, .slice go gn gc, .slice ro rn rc, .bool bad] 26)).alloc (.cells #[.bool false] 4)) := ((Below.refl _ w).alloc (Nat.le_refl _) _).alloc (by simp) _
  have ANw : ∀ (ao : Option Addr) (len cap : Nat) (us : List Nat) (n : Int) (W : World), RdF W ao len cap us → CallsIn Fence.wide 2 Try.prog 65 #[.slice ao len cap, .int .i64 n] W fun e w' => e = .returned (.bool (numN us n)) ∧ w' = W := fun ao len cap us n W h => callsIn_wide.2 (areNumbers_any ao len cap us n W h)
  refine (callsIn_wide (n := 3)).1 ?_
  refine callsIn_of_wp_marks Try.func47 rfl trivial ?_ rfl
  simp only [Try.ntmps47, List.size_toArray, List.length_cons, List.length_nil, Nat.reduceAdd, Nat.reduceSub, Array.replicate_succ, Array.replicate_zero, List.push_toArray, List.append_toArray, List.nil_append, List.cons_append]
  by_cases q0 : 1 ≤ N
  case neg =>
    have d0 : decide (N < 1) = true := decide_eq_true (by omega)
    have HF : Hid (wb = false) := by unfold Hid; rw [HE.out]; simp [q0]
    clear ANw
    gi_wp2_with (first | (refine (⟨trivial, ?_⟩ : Fence.wide.fn 65 ∧ _); gi_at_call 65; refine (callsIn_wide.2 (areNumbers_any _ _ _ _ _ _ (by first | exact (HZ.out _ B2).c | exact (HZ.out _ B2).r))).mono ?_; rintro e w' ⟨rfl, rfl⟩) | (refine (⟨trivial, ?_⟩ : Fence.wide.fn 65 ∧ _)))
    show ∃ v : Value, (results _ _).run _ _ = .ok v _ ∧ _
    refine ⟨Value.bool false, resB _ 2 (by kernel_rfl) _ _ (w.heap.size + 1) false (by rfl) ?_, ?_⟩
    · exact cellAtJ (heap_at _ _ (w.heap.size + 1) (by simp)) 0 _ rfl
    · exact ⟨by rw [HF.out], B2⟩
  by_cases q1 : N ≤ 256
  case neg =>
    have d0 : decide (N < 1) = false := decide_eq_false (by omega)
    have d1 : decide (256 < N) = true := decide_eq_true (by omega)
    have HF : Hid (wb = false) := by unfold Hid; rw [HE.out]; simp [q0, q1]
    clear ANw
    gi_wp2_with (first | (refine (⟨trivial, ?_⟩ : Fence.wide.fn 65 ∧ _); gi_at_call 65; refine (callsIn_wide.2 (areNumbers_any _ _ _ _ _ _ (by first | exact (HZ.out _ B2).c | exact (HZ.out _ B2).r))).mono ?_; rintro e w' ⟨rfl, rfl⟩) | (refine (⟨trivial, ?_⟩ : Fence.wide.fn 65 ∧ _)))
    show ∃ v : Value, (results _ _).run _ _ = .ok v _ ∧ _
    refine ⟨Value.bool false, resB _ 2 (by kernel_rfl) _ _ (w.heap.size + 1) false (by rfl) ?_, ?_⟩
    · exact cellAtJ (heap_at _ _ (w.heap.size + 1) (by simp)) 0 _ rfl
    · exact ⟨by rw [HF.out], B2⟩
  by_cases q2 : numN cs N = true
  case neg =>
    have d0 : decide (N < 1) = false := decide_eq_false (by omega)
    have d1 : decide (256 < N) = false := decide_eq_false (by omega)
    have d2 : numN cs N = false := by simpa using q2
    have HF : Hid (wb = false) := by unfold Hid; rw [HE.out]; simp [q0, q1, q2]
    clear ANw
    gi_wp2_with (first | (refine (⟨trivial, ?_⟩ : Fence.wide.fn 65 ∧ _); gi_at_call 65; refine (callsIn_wide.2 (areNumbers_any _ _ _ _ _ _ (by first | exact (HZ.out _ B2).c | exact (HZ.out _ B2).r))).mono ?_; rintro e w' ⟨rfl, rfl⟩) | (refine (⟨trivial, ?_⟩ : Fence.wide.fn 65 ∧ _)))
    show ∃ v : Value, (results _ _).run _ _ = .ok v _ ∧ _
    refine ⟨Value.bool false, resB _ 2 (by kernel_rfl) _ _ (w.heap.size + 1) false (by rfl) ?_, ?_⟩
    · exact cellAtJ (heap_at _ _ (w.heap.size + 1) (by simp)) 0 _ rfl
    · exact ⟨by rw [HF.out], B2⟩
  by_cases q3 : numN rs N = true
  case neg =>
    have d0 : decide (N < 1) = false := decide_eq_false (by omega)
    have d1 : decide (256 < N) = false := decide_eq_false (by omega)
    have d2 : numN cs N = true := by simpa using q2
    have d3 : numN rs N = false := by simpa using q3
    have HF : Hid (wb = false) := by unfold Hid; rw [HE.out]; simp [q0, q1, q2, q3]
    clear ANw
    gi_wp2_with (first | (refine (⟨trivial, ?_⟩ : Fence.wide.fn 65 ∧ _); gi_at_call 65; refine (callsIn_wide.2 (areNumbers_any _ _ _ _ _ _ (by first | exact (HZ.out _ B2).c | exact (HZ.out _ B2).r))).mono ?_; rintro e w' ⟨rfl, rfl⟩) | (refine (⟨trivial, ?_⟩ : Fence.wide.fn 65 ∧ _)))
    show ∃ v : Value, (results _ _).run _ _ = .ok v _ ∧ _
    refine ⟨Value.bool false, resB _ 2 (by kernel_rfl) _ _ (w.heap.size + 1) false (by rfl) ?_, ?_⟩
    · exact cellAtJ (heap_at _ _ (w.heap.size + 1) (by simp)) 0 _ rfl
    · exact ⟨by rw [HF.out], B2⟩
  by_cases q4 : dn = gn
  case neg =>
    have d0 : decide (N < 1) = false := decide_eq_false (by omega)
    have d1 : decide (256 < N) = false := decide_eq_false (by omega)
    have d2 : numN cs N = true := by simpa using q2
    have d3 : numN rs N = true := by simpa using q3
    have d4 : ((dn : Int) != (gn : Int)) = true := by simpa using (show ¬ ((dn : Int) = (gn : Int)) by omega)
    have HF : Hid (wb = false) := by unfold Hid; rw [HE.out]; simp [q0, q1, q2, q3, q4]
    clear ANw
    gi_wp2_with (first | (refine (⟨trivial, ?_⟩ : Fence.wide.fn 65 ∧ _); gi_at_call 65; refine (callsIn_wide.2 (areNumbers_any _ _ _ _ _ _ (by first | exact (HZ.out _ B2).c | exact (HZ.out _ B2).r))).mono ?_; rintro e w' ⟨rfl, rfl⟩) | (refine (⟨trivial, ?_⟩ : Fence.wide.fn 65 ∧ _)))
    show ∃ v : Value, (results _ _).run _ _ = .ok v _ ∧ _
    refine ⟨Value.bool false, resB _ 2 (by kernel_rfl) _ _ (w.heap.size + 1) false (by rfl) ?_, ?_⟩
    · exact cellAtJ (heap_at _ _ (w.heap.size + 1) (by simp)) 0 _ rfl
    · exact ⟨by rw [HF.out], B2⟩
  have d0 : decide (N < 1) = false := decide_eq_false (by omega)
  have d1 : decide (256 < N) = false := decide_eq_false (by omega)
  have d2 : numN cs N = true := by simpa using q2
  have d3 : numN rs N = true := by simpa using q3
  have d4 : ((dn : Int) != (gn : Int)) = false := by simp [q4]
  have HF : Hid (wb = (posB rs && colsB ⟨N, co, cn, cc, io, dn, dc, go, gn, gc, ro, rn, rc, bad, cs, ids, gv, gs, rs⟩ (-1) (List.finRange dn))) := by unfold Hid; rw [HE.out]; simp [q0, q1, q2, q3, q4]
  have HQ4 : Hid (dn = gn) := q4
  clear HE ANw q4
  gi_wp2_with (first | (refine (⟨trivial, ?_⟩ : Fence.wide.fn 65 ∧ _); gi_at_call 65; refine (callsIn_wide.2 (areNumbers_any _ _ _ _ _ _ (by first | exact (HZ.out _ B2).c | exact (HZ.out _ B2).r))).mono ?_; rintro e w' ⟨rfl, rfl⟩) | (refine (⟨trivial, ?_⟩ : Fence.wide.fn 65 ∧ _)))
  gi_loopw [44] (fun i wr => ∃ k : Nat, k ≤ rn ∧ i = .int .i64 k ∧ wr = ((w.alloc (.cells #[.int .i64 N, .slice co cn cc, .slice io dn dc, .slice go gn gc, .slice ro rn rc, .bool bad] 26)).alloc (.cells #[.bool false] 4)) ∧ posB (rs.drop k) = posB rs) (fun i _ => rn - (intOf i).toNat)
  case atStart => exact ⟨0, Nat.zero_le _, rfl, rfl, rfl⟩
  case round =>
    obtain ⟨k, hk, rfl, hw, hps⟩ := hrel
    subst hw
    obtain ⟨hrl, hrm⟩ := HRL.out
    by_cases hlt : k < rn
    · have hR := (HZ.out _ B2).r
      dsimp only at hR
      rcases hR.cells with h0' | ⟨b, off, rfl, hc⟩
      · omega
      have g0 := hc k hlt
      have hfin := (numN_fin q3).2 _ (getD_mem (us := rs) (j := k) (by omega))
      rw [posB_drop rs (by omega)] at hps
      obtain ⟨u, hu⟩ : ∃ u, rs[k]?.getD 0 = u := ⟨_, rfl⟩
      rw [hu] at g0 hfin hps
      have hlr := lt0_ord hfin
      clear hc hu hR
      by_cases hs : srung u < 0
      · rw [decide_eq_true hs] at hlr
        have HF2 : Hid (wb = false) := by unfold Hid; rw [HF.out, ← hps]; simp [hs]
        clear hps hs hfin
        gi_wp2
        show ∃ v : Value, (results _ _).run _ _ = .ok v _ ∧ _
        refine ⟨Value.bool false, resB _ 2 (by kernel_rfl) _ _ (w.heap.size + 1) false (by rfl) ?_, ?_⟩
        · exact cellAtJ (heap_at _ _ (w.heap.size + 1) (by simp)) 0 _ rfl
        · exact ⟨by rw [HF2.out], B2⟩
      · rw [decide_eq_false hs] at hlr
        have HP : Hid (posB (rs.drop (k + 1)) = posB rs) := by unfold Hid; rw [← hps]; simp [hs]
        clear hps hs hfin
        gi_wp2
        exact ⟨⟨k + 1, by omega, by simp, trivial, HP.out⟩, by simp [intOf]; omega⟩
    · have hp1 : posB rs = true := by rw [← hps, List.drop_eq_nil_of_le (by omega)]; rfl
      have HF2 : Hid (wb = colsB ⟨N, co, cn, cc, io, dn, dc, go, gn, gc, ro, rn, rc, bad, cs, ids, gv, gs, rs⟩ (-1) (List.finRange dn)) := by unfold Hid; rw [HF.out, hp1, Bool.true_and]
      clear hps hp1 HF
      clear B2
      gi_wp2_with (first | (refine (⟨trivial, ?_⟩ : Fence.wide.fn 66 ∧ _); gi_at_call 66; refine (columns_in Fence.wide 2 trivial rfl _ rfl _).mono ?_; rintro e w' ⟨rfl, rfl⟩))
      have X0 : (((((w.alloc (.cells #[.int .i64 N, .slice co cn cc, .slice io dn dc, .slice go gn gc, .slice ro rn rc, .bool bad] 26)).alloc (.cells #[.bool false] 4))).alloc (.cells #[.int .i64 (-1)] 3)).alloc (.cells #[.int .i64 N, .slice co cn cc, .slice io dn dc, .slice go gn gc, .slice ro rn rc, .bool bad] 26)).heap[w.heap.size]? = some (.cells #[.int .i64 N, .slice co cn cc, .slice io dn dc, .slice go gn gc, .slice ro rn rc, .bool bad] 26) := alloc_kept (alloc_kept (alloc_kept (heap_alloc_new w _) _) _) _
      have X1 : (((((w.alloc (.cells #[.int .i64 N, .slice co cn cc, .slice io dn dc, .slice go gn gc, .slice ro rn rc, .bool bad] 26)).alloc (.cells #[.bool false] 4))).alloc (.cells #[.int .i64 (-1)] 3)).alloc (.cells #[.int .i64 N, .slice co cn cc, .slice io dn dc, .slice go gn gc, .slice ro rn rc, .bool bad] 26)).heap[w.heap.size + 1]? = some (.cells #[.bool false] 4) := alloc_kept (alloc_kept (heap_at _ _ (w.heap.size + 1) (by simp)) _) _
      have X2 : (((((w.alloc (.cells #[.int .i64 N, .slice co cn cc, .slice io dn dc, .slice go gn gc, .slice ro rn rc, .bool bad] 26)).alloc (.cells #[.bool false] 4))).alloc (.cells #[.int .i64 (-1)] 3)).alloc (.cells #[.int .i64 N, .slice co cn cc, .slice io dn dc, .slice go gn gc, .slice ro rn rc, .bool bad] 26)).heap[w.heap.size + 1 + 1]? = some (.cells #[.int .i64 (-1)] 3) := alloc_kept (heap_at _ _ (w.heap.size + 1 + 1) (by simp)) _
      have X3 : (((((w.alloc (.cells #[.int .i64 N, .slice co cn cc, .slice io dn dc, .slice go gn gc, .slice ro rn rc, .bool bad] 26)).alloc (.cells #[.bool false] 4))).alloc (.cells #[.int .i64 (-1)] 3)).alloc (.cells #[.int .i64 N, .slice co cn cc, .slice io dn dc, .slice go gn gc, .slice ro rn rc, .bool bad] 26)).heap[w.heap.size + 1 + 1 + 1]? = some (.cells #[.int .i64 N, .slice co cn cc, .slice io dn dc, .slice go gn gc, .slice ro rn rc, .bool bad] 26) := heap_at _ _ (w.heap.size + 1 + 1 + 1) (by simp)
      have X4 : Below w.heap.size w (((((w.alloc (.cells #[.int .i64 N, .slice co cn cc, .slice io dn dc, .slice go gn gc, .slice ro rn rc, .bool bad] 26)).alloc (.cells #[.bool false] 4))).alloc (.cells #[.int .i64 (-1)] 3)).alloc (.cells #[.int .i64 N, .slice co cn cc, .slice io dn dc, .slice go gn gc, .slice ro rn rc, .bool bad] 26)) := ((((Below.refl _ w).alloc (Nat.le_refl _) _).alloc (by simp) _).alloc (by simp; omega) _).alloc (by simp; omega) _
      obtain ⟨X, hX⟩ : ∃ X, (((((w.alloc (.cells #[.int .i64 N, .slice co cn cc, .slice io dn dc, .slice go gn gc, .slice ro rn rc, .bool bad] 26)).alloc (.cells #[.bool false] 4))).alloc (.cells #[.int .i64 (-1)] 3)).alloc (.cells #[.int .i64 N, .slice co cn cc, .slice io dn dc, .slice go gn gc, .slice ro rn rc, .bool bad] 26)) = X := ⟨_, rfl⟩
      rw [hX] at X0 X1 X2 X3 X4 ⊢
      clear hX
      have hxs := blk_lt X3
      refine wpIn_rangeFunc_ownF rfl (by decide) (gf := 81) (lb := #[.pointer (some ⟨w.heap.size + 1 + 1 + 1, 0, none⟩)]) rfl trivial (enters_of Try.func81 (by kernel_rfl) rfl)
        (cols_stops Fence.wide 2 trivial rfl (by decide) (w.heap.size + 1 + 1 + 1) ⟨N, co, cn, cc, io, dn, dc, go, gn, gc, ro, rn, rc, bad, cs, ids, gv, gs, rs⟩ (Nat.le_of_eq HQ4.out) w X X4 (HZ.out w (Below.refl _ _)) X3) KpZ.trans (kpZ_b X4.size hxs) (Below.refl _ _) (fun _ => rfl)
        (fun pre W => (W.cell? ⟨w.heap.size, 0, none⟩ = some (.int .i64 N) ∧ W.cell? ⟨w.heap.size + 1, 0, none⟩ = some (.bool false) ∧ W.frozen? ⟨w.heap.size + 1, 0, none⟩ = false ∧ W.cell? ⟨w.heap.size + 1 + 1, 0, none⟩ = some (.int .i64 (lastZ ⟨N, co, cn, cc, io, dn, dc, go, gn, gc, ro, rn, rc, bad, cs, ids, gv, gs, rs⟩ (-1) pre)) ∧ W.frozen? ⟨w.heap.size + 1 + 1, 0, none⟩ = false ∧ colsB ⟨N, co, cn, cc, io, dn, dc, go, gn, gc, ro, rn, rc, bad, cs, ids, gv, gs, rs⟩ (-1) pre = true) ∧ Below w.heap.size w W)
        (fun c pre W => (c = .ret ∧ W.cell? ⟨w.heap.size + 1, 0, none⟩ = some (.bool false) ∧ colsB ⟨N, co, cn, cc, io, dn, dc, go, gn, gc, ro, rn, rc, bad, cs, ids, gv, gs, rs⟩ (-1) pre = false) ∧ Below w.heap.size w W)
        (OwnFrom.and (Own.from (fun s A B row hs hg hr => ⟨cell_kept hs.1 hg hr, cell_kept hs.2.1 hg hr, (frozen_kept hs.2.1 hg hr).trans hs.2.2.1, cell_kept hs.2.2.2.1 hg hr, (frozen_kept hs.2.2.2.1 hg hr).trans hs.2.2.2.2.1, hs.2.2.2.2.2⟩) _) (ownFrom_below (Nat.le_refl _) X4.size))
        (fun c => OwnFrom.and (Own.from (fun s A B row hs hg hr => ⟨hs.1, cell_kept hs.2.1 hg hr, hs.2.2⟩) _) (ownFrom_below (Nat.le_refl _) X4.size))
        ⟨⟨cellAtJ X0 0 _ rfl, cellAtJ X1 0 _ rfl, frozen_of_row _ _ 0 _ _ X1, cellAtJ X2 0 _ rfl, frozen_of_row _ _ 0 _ _ X2, rfl⟩, X4⟩
        ?a1 ?assign ?body ?done ?stop
      case assign =>
        intro l x W K hK
        dsimp only [encZ]
        gi_wp2
        exact hK
      case body =>
        rintro l pre x W ⟨⟨h1, h2, h3, h4, h5, h6⟩, hB⟩ hlen
        have hzg := (HZ.out W hB).g.each x.val (Nat.lt_of_lt_of_le x.isLt (Nat.le_of_eq HQ4.out))
        dsimp only at hzg
        have HG : Hid _ := hzg
        have HC : Hid (colsB ⟨N, co, cn, cc, io, dn, dc, go, gn, gc, ro, rn, rc, bad, cs, ids, gv, gs, rs⟩ (-1) (pre ++ [x]) = colOk ⟨N, co, cn, cc, io, dn, dc, go, gn, gc, ro, rn, rc, bad, cs, ids, gv, gs, rs⟩ (lastZ ⟨N, co, cn, cc, io, dn, dc, go, gn, gc, ro, rn, rc, bad, cs, ids, gv, gs, rs⟩ (-1) pre) x) := by unfold Hid; rw [colsB_snoc, h6, Bool.true_and]
        have HL : Hid (lastZ ⟨N, co, cn, cc, io, dn, dc, go, gn, gc, ro, rn, rc, bad, cs, ids, gv, gs, rs⟩ (-1) (pre ++ [x]) = ids[x.val]?.getD 0) := lastZ_snoc _ _ _ _
        have HO : Hid (colOk ⟨N, co, cn, cc, io, dn, dc, go, gn, gc, ro, rn, rc, bad, cs, ids, gv, gs, rs⟩ (lastZ ⟨N, co, cn, cc, io, dn, dc, go, gn, gc, ro, rn, rc, bad, cs, ids, gv, gs, rs⟩ (-1) pre) x = (decide (lastZ ⟨N, co, cn, cc, io, dn, dc, go, gn, gc, ro, rn, rc, bad, cs, ids, gv, gs, rs⟩ (-1) pre < ids[x.val]?.getD 0) && decide (ids[x.val]?.getD 0 ≤ 1073741824) && numN (gs[x.val]?.getD []) N)) := rfl
        have H6 : Hid _ := h6
        clear hzg h6
        generalize lastZ ⟨N, co, cn, cc, io, dn, dc, go, gn, gc, ro, rn, rc, bad, cs, ids, gv, gs, rs⟩ (-1) pre = la at h4 HC HO
        generalize ids[x.val]?.getD 0 = id at HL HO ⊢
        by_cases p1 : id ≤ la
        · have d1 : decide (id ≤ la) = true := decide_eq_true p1
          have HX : Hid (colsB ⟨N, co, cn, cc, io, dn, dc, go, gn, gc, ro, rn, rc, bad, cs, ids, gv, gs, rs⟩ (-1) (pre ++ [x]) = false) := by unfold Hid; rw [HC.out, HO.out]; simp [Int.not_lt.2 p1]
          clear HC HO HL H6
          gi_wp2_with (first | (refine (⟨trivial, ?_⟩ : (Fence.inRound Fence.wide l).fn 65 ∧ _); gi_at_call 65; refine (CallsIn.inRound l (callsIn_wide.2 (areNumbers_any _ _ _ _ _ _ HG.out))).mono ?_; rintro e w' ⟨rfl, hw⟩; rw [hw]; clear hw) | (refine (⟨trivial, ?_⟩ : (Fence.inRound Fence.wide l).fn 65 ∧ _)))
          exact ⟨KeepsOthers.setCell _ _ _, ⟨rfl, World.cell?_setCell_same' _ _ _ (by rw [h2]; rfl), HX.out⟩, hB.setCell (p := ⟨w.heap.size + 1, 0, none⟩) (by simp) _⟩
        have d1 : decide (id ≤ la) = false := decide_eq_false p1
        by_cases p2 : 1073741824 < id
        · have d2 : decide (1073741824 < id) = true := decide_eq_true p2
          have HX : Hid (colsB ⟨N, co, cn, cc, io, dn, dc, go, gn, gc, ro, rn, rc, bad, cs, ids, gv, gs, rs⟩ (-1) (pre ++ [x]) = false) := by unfold Hid; rw [HC.out, HO.out]; simp [Int.not_le.2 p2]
          clear HC HO HL H6
          gi_wp2_with (first | (refine (⟨trivial, ?_⟩ : (Fence.inRound Fence.wide l).fn 65 ∧ _); gi_at_call 65; refine (CallsIn.inRound l (callsIn_wide.2 (areNumbers_any _ _ _ _ _ _ HG.out))).mono ?_; rintro e w' ⟨rfl, hw⟩; rw [hw]; clear hw) | (refine (⟨trivial, ?_⟩ : (Fence.inRound Fence.wide l).fn 65 ∧ _)))
          exact ⟨KeepsOthers.setCell _ _ _, ⟨rfl, World.cell?_setCell_same' _ _ _ (by rw [h2]; rfl), HX.out⟩, hB.setCell (p := ⟨w.heap.size + 1, 0, none⟩) (by simp) _⟩
        have d2 : decide (1073741824 < id) = false := decide_eq_false p2
        by_cases p3 : numN (gs[x.val]?.getD []) N = true
        case neg =>
          have d3 : numN (gs[x.val]?.getD []) N = false := by simpa using p3
          have HX : Hid (colsB ⟨N, co, cn, cc, io, dn, dc, go, gn, gc, ro, rn, rc, bad, cs, ids, gv, gs, rs⟩ (-1) (pre ++ [x]) = false) := by unfold Hid; rw [HC.out, HO.out]; simp [d3]
          clear HC HO HL H6
          gi_wp2_with (first | (refine (⟨trivial, ?_⟩ : (Fence.inRound Fence.wide l).fn 65 ∧ _); gi_at_call 65; refine (CallsIn.inRound l (callsIn_wide.2 (areNumbers_any _ _ _ _ _ _ HG.out))).mono ?_; rintro e w' ⟨rfl, hw⟩; rw [hw]; clear hw) | (refine (⟨trivial, ?_⟩ : (Fence.inRound Fence.wide l).fn 65 ∧ _)))
          exact ⟨KeepsOthers.setCell _ _ _, ⟨rfl, World.cell?_setCell_same' _ _ _ (by rw [h2]; rfl), HX.out⟩, hB.setCell (p := ⟨w.heap.size + 1, 0, none⟩) (by simp) _⟩
        have HX : Hid (colsB ⟨N, co, cn, cc, io, dn, dc, go, gn, gc, ro, rn, rc, bad, cs, ids, gv, gs, rs⟩ (-1) (pre ++ [x]) = true) := by unfold Hid; rw [HC.out, HO.out, decide_eq_true (show la < id by omega), decide_eq_true (show id ≤ 1073741824 by omega), p3]; rfl
        clear HC HO H6
        gi_wp2_with (first | (refine (⟨trivial, ?_⟩ : (Fence.inRound Fence.wide l).fn 65 ∧ _); gi_at_call 65; refine (CallsIn.inRound l (callsIn_wide.2 (areNumbers_any _ _ _ _ _ _ HG.out))).mono ?_; rintro e w' ⟨rfl, hw⟩; rw [hw]; clear hw) | (refine (⟨trivial, ?_⟩ : (Fence.inRound Fence.wide l).fn 65 ∧ _)))
        exact ⟨KeepsOthers.setCell _ _ _, ⟨(Below.refl w.heap.size W).setCell (p := ⟨w.heap.size + 1 + 1, 0, none⟩) (by simp; omega) _, heap_setCell_other W ⟨w.heap.size + 1 + 1, 0, none⟩ _ _ (by simp)⟩, ⟨cell_setJ (by show w.heap.size ≠ w.heap.size + 1 + 1; omega) h1, cell_setJ (by show w.heap.size + 1 ≠ w.heap.size + 1 + 1; omega) h2, by rw [World.frozen?_setCell]; exact h3, by rw [HL.out]; exact World.cell?_setCell_same' _ _ _ (by rw [h4]; rfl), by rw [World.frozen?_setCell]; exact h5, HX.out⟩, hB.setCell (p := ⟨w.heap.size + 1 + 1, 0, none⟩) (by simp; omega) _⟩
      case done =>
        rintro D ys W hD rfl ⟨⟨h1, h2, h3, h4, h5, h6⟩, hB⟩ hK
        have HT : Hid (wb = true) := HF2.out.trans h6
        gi_wp2
        have hK' := (KeepsOthers.setCell W ⟨w.heap.size + 1, 0, none⟩ (.bool true)).same D _ hK rfl
        refine ⟨by simp, .inl ⟨_, _, rfl, run_takeDeferred hK', ?_⟩⟩
        have hc5 := cell_kept (World.cell?_setCell_same' W ⟨w.heap.size + 1, 0, none⟩ (.bool true) (by rw [h2]; rfl)) (grownBy_putObj' _ D (.deferred none)) (fun r e => by cases e; exact ⟨_, hK', rfl⟩)
        refine ⟨Value.bool true, resB _ 2 (by kernel_rfl) _ _ (w.heap.size + 1) true (by rfl) hc5, by rw [HT.out], (hB.setCell (p := ⟨w.heap.size + 1, 0, none⟩) (by simp) _).trans (belowK_b (w := w) (Nat.le_refl _) _ D _ _ (by have := X4.size; omega) hK' rfl rfl)⟩
      case stop =>
        rintro D c pre W hD ⟨k, hk, rfl⟩ ⟨⟨rfl, hr, hf⟩, hB⟩ hK
        have HT : Hid (wb = false) := by
          unfold Hid
          rw [HF2.out]
          have e : List.finRange dn = uptoZ ⟨N, co, cn, cc, io, dn, dc, go, gn, gc, ro, rn, rc, bad, cs, ids, gv, gs, rs⟩ k ++ (List.finRange dn).drop k := (List.take_append_drop k (List.finRange dn)).symm
          rw [e]
          exact colsB_append _ _ _ _ hf
        gi_wp2
        refine ⟨by simp, .inl ⟨_, _, rfl, run_takeDeferred hK, ?_⟩⟩
        have hc5 := cell_kept hr (grownBy_putObj' _ D (.deferred none)) (fun r e => by cases e; exact ⟨_, hK, rfl⟩)
        refine ⟨Value.bool false, resB _ 2 (by kernel_rfl) _ _ (w.heap.size + 1) false (by rfl) hc5, by rw [HT.out], hB.trans (belowK_b (w := w) (Nat.le_refl _) W D _ _ (by have := X4.size; omega) hK rfl rfl)⟩
end Go.Proofs.Ytoehhnildocihaa

namespace Go.Proofs.Ytoehhnildocihaa
open Go.RowKit
set_option linter.unusedVariables false
def checkB (z : ZD) : Bool := if z.bad then bareB z else wholeB z
theorem cells6 {W : World} {B : Nat} {v0 v1 v2 v3 v4 v5 : Value} {t : TypeId} (h : W.heap[B]? = some (.cells #[v0, v1, v2, v3, v4, v5] t)) :
    W.cell? ⟨B, 0, none⟩ = some v0 ∧ W.cell? ⟨B, 1, none⟩ = some v1 ∧ W.cell? ⟨B, 2, none⟩ = some v2 ∧ W.cell? ⟨B, 3, none⟩ = some v3 ∧ W.cell? ⟨B, 4, none⟩ = some v4 ∧ W.cell? ⟨B, 5, none⟩ = some v5 :=
  ⟨cellAtJ h 0 _ rfl, cellAtJ h 1 _ rfl, cellAtJ h 2 _ rfl, cellAtJ h 3 _ rfl, cellAtJ h 4 _ rfl, cellAtJ h 5 _ rfl⟩
set_option maxRecDepth 100000 in
set_option maxHeartbeats 2000000 in
theorem zcheck_any (z : ZD) (w : World) (hz : ZR w z) : Calls Try.prog 27 #[.agg #[.int .i64 z.N, .slice z.co z.cn z.cc, .slice z.io z.dn z.dc, .slice z.go z.gn z.gc, .slice z.ro z.rn z.rc, .bool z.bad]] w fun e w' => e = .returned (.int .i64 (if checkB z then 0 else 100)) ∧ Below w.heap.size w w' := by
  have HZ : Hid (∀ W', Below w.heap.size w W' → ZR W' z) := fun W' hb => hz.later hb
  obtain ⟨bb, hbb⟩ : ∃ bb, bareB z = bb := ⟨_, rfl⟩
  obtain ⟨wb, hwb⟩ : ∃ wb, wholeB z = wb := ⟨_, rfl⟩
  have HBa : Hid (∀ W, Calls Try.prog 46 #[.agg #[.int .i64 z.N, .slice z.co z.cn z.cc, .slice z.io z.dn z.dc, .slice z.go z.gn z.gc, .slice z.ro z.rn z.rc, .bool z.bad]] W fun e w' => e = .returned (.bool bb) ∧ Below W.heap.size W w') := fun W => hbb ▸ isBare_any z W
  have HWh : Hid (∀ W, Below w.heap.size w W → Calls Try.prog 47 #[.agg #[.int .i64 z.N, .slice z.co z.cn z.cc, .slice z.io z.dn z.dc, .slice z.go z.gn z.gc, .slice z.ro z.rn z.rc, .bool z.bad]] W fun e w' => e = .returned (.bool wb) ∧ Below W.heap.size W w') := fun W hb => hwb ▸ isWhole_any z W (HZ.out W hb)
  have HC : Hid (checkB z = if z.bad then bb else wb) := by unfold Hid checkB; rw [hbb, hwb]
  clear hbb hwb hz HZ
  obtain ⟨N, co, cn, cc, io, dn, dc, go, gn, gc, ro, rn, rc, bad, cs, ids, gv, gs, rs⟩ := z
  dsimp only at HBa HWh HC ⊢
  have X0 : Below w.heap.size w (w.alloc (.cells #[.int .i64 N, .slice co cn cc, .slice io dn dc, .slice go gn gc, .slice ro rn rc, .bool bad] 26)) := (Below.refl _ w).alloc (Nat.le_refl _) _
  cases bad with
  | true =>
    cases bb with
    | true =>
      rw [HC.out]
      go_enter Try.func27, Try.ntmps27
      go_wp2_with (first | (go_at_call 46; refine Calls.mono (HBa.out _) ?_; rintro e w1 ⟨rfl, hb⟩))
      go_ret
      exact ⟨rfl, to_call X0 hb⟩
    | false =>
      rw [HC.out]
      go_enter Try.func27, Try.ntmps27
      go_wp2_with (first | (go_at_call 46; refine Calls.mono (HBa.out _) ?_; rintro e w1 ⟨rfl, hb⟩; have c5 := (cells6 (kept hb (heap_alloc_new w _))).2.2.2.2.2))
      go_ret
      exact ⟨rfl, to_call X0 hb⟩
  | false =>
    cases wb with
    | true =>
      rw [HC.out]
      go_enter Try.func27, Try.ntmps27
      go_wp2_with (first | (go_at_call 47; refine Calls.mono (HWh.out _ X0) ?_; rintro e w1 ⟨rfl, hb⟩))
      go_ret
      exact ⟨rfl, to_call X0 hb⟩
    | false =>
      rw [HC.out]
      go_enter Try.func27, Try.ntmps27
      go_wp2_with (first | (go_at_call 47; refine Calls.mono (HWh.out _ X0) ?_; rintro e w1 ⟨rfl, hb⟩))
      go_ret
      exact ⟨rfl, to_call X0 hb⟩
end Go.Proofs.Ytoehhnildocihaa

namespace Go.Proofs.Ytoehhnildocihaa
open Go.RowKit
set_option linter.unusedVariables false
theorem alloc_size (w : World) (o : Obj) : (w.alloc o).heap.size = w.heap.size + 1 := Array.size_push ..
theorem cells5 {W : World} {B : Nat} {v0 v1 v2 v3 v4 : Value} {t : TypeId} (h : W.heap[B]? = some (.cells #[v0, v1, v2, v3, v4] t)) :
    W.cell? ⟨B, 0, none⟩ = some v0 ∧ W.cell? ⟨B, 1, none⟩ = some v1 ∧ W.cell? ⟨B, 2, none⟩ = some v2 ∧ W.cell? ⟨B, 3, none⟩ = some v3 ∧ W.cell? ⟨B, 4, none⟩ = some v4 :=
  ⟨cell_of_row _ _ 0 _ _ _ h, cell_of_row _ _ 1 _ _ _ h, cell_of_row _ _ 2 _ _ _ h, cell_of_row _ _ 3 _ _ _ h, cell_of_row _ _ 4 _ _ _ h⟩
end Go.Proofs.Ytoehhnildocihaa

namespace Go.Proofs.Ytoehhnildocihaa
open Go.RowKit
set_option linter.unusedVariables false
end Go.Proofs.Ytoehhnildocihaa

namespace Go.Proofs.Ytoehhnildocihaa
open Go.RowKit
set_option linter.unusedVariables false
end Go.Proofs.Ytoehhnildocihaa

namespace Go.Proofs.Ytoehhnildocihaa
open Go.RowKit
set_option linter.unusedVariables false
set_option linter.unusedSimpArgs false
theorem oneZ (N : Int) (a b c d : Value) (h1 : a.oneCell' = true) (h2 : b.oneCell' = true) (h3 : c.oneCell' = true) (h4 : d.oneCell' = true) (x : Bool) : (#[.int .i64 N, a, b, c, d, .bool x] : Array Value).all (·.oneCell') = true := by
  simp only [Array.all_eq_true_iff_forall_mem]
  intro v hv
  simp only [List.mem_toArray, List.mem_cons, List.not_mem_nil, or_false] at hv
  rcases hv with rfl | rfl | rfl | rfl | rfl | rfl <;> first | rfl | assumption
theorem res_oneJ (f : Func) (i : Nat) (ty : TypeId) (hf : f.results = #[ResultVar.cell i ty]) (tmps : Array Value) (W : World) (B : Nat) (c : Array Value) (hp : tmps[i]? = some (.pointer (some ⟨B, 0, none⟩)))
    (d : TypeDesc) (hu : Try.prog.underlying ty = some d) (hd : d.isRow = true) (n : Nat) (hi : (Try.prog.info? ty).map (·.size) = some n) (hc : c.size = n) (h : W.heap[B]? = some (.cells c ty)) : (results f tmps).run Try.prog W = .ok (.agg c) W := by
  have hr : W.rangeAt B 0 c.toList := by
    have := World.rangeAt_of_block h 0 c.size
    simpa using this
  have hl := run_loadVar_mid (P := Try.prog) W B 0 ty c.toList d hr hu hd (by rw [hi]; simp [hc])
  have hl2 : (loadVar ty ⟨B, 0, none⟩).run Try.prog W = .ok (.agg c) W := by simpa using hl
  simp [results, hf, hp, hl2, asAddr]
end Go.Proofs.Ytoehhnildocihaa

namespace Go.Proofs.Ytoehhnildocihaa
open Go.RowKit
set_option linter.unusedVariables false
theorem Try.infoU32 : (Try.prog.info? 134).map (fun i => (i.zero, i.size, i.bytes)) = some (some (.int .u32 0), 1, 4) := by kernel_rfl
theorem Try.elemU32 : Try.prog.elem 85 = 134 := by kernel_rfl
theorem Try.sizeU32 (w : World) : (sizeOf 134).run Try.prog w = .ok 1 w := by kernel_rfl
/-- The first q words. -/
theorem Rd4.cut {W : World} {ao : Option Addr} {len cap : Nat} {xs : List Nat} (hr : Rd4 W ao len cap xs) (q : Nat) (hq : q ≤ len) :
    Rd4 W (if cap = 0 then ao else ao.map (·.add (0 * 1))) q cap (xs.take q) := by
  have hl := hr.length
  refine ⟨by simp [hl]; omega, by have := hr.le; omega, hr.max, hr.lt.take q, ?_, ?_⟩
  · intro h
    split at h
    · assumption
    · cases ao with
      | none => exact hr.nil rfl
      | some a => simp at h
  · by_cases h0 : q = 0
    · exact .inl h0
    · right
      rcases hr.cells with h1 | ⟨b, off, rfl, hc⟩
      · omega
      · refine ⟨b, off, ?_, fun j hj => ?_⟩
        · have := hr.le; rw [if_neg (by omega), Option.map_some, Addr.add_lit, Nat.zero_mul, Nat.add_zero]
        · rw [hc j (by omega), List.getElem?_take, if_pos (by omega)]
theorem cut4 {W : World} {ao : Option Addr} {len cap : Nat} {xs : List Nat} (hr : Rd4 W ao len cap xs) (q : Nat) (hq : q ≤ len) :
    ∃ ao', (∀ w, (Instr.slice 85 (.slice ao len cap) none (some (.int .i64 q)) none).run Try.prog w = .ok (.slice ao' q cap) w) ∧ Rd4 W ao' q cap (xs.take q) := by
  refine ⟨_, fun w => ?_, hr.cut q hq⟩
  have hle := hr.le
  rw [run_slice_h w _ _ _ _ (by rw [Try.elemU32]; exact Try.underlying85) .i64 q (by omega) (by omega), Try.elemU32, Try.sizeU32]
  simp [Result.andThen, sliced]
set_option maxRecDepth 100000 in
set_option maxHeartbeats 1000000 in
theorem trim_any (ao : Option Addr) (len cap : Nat) (xs : List Nat) (w : World) (hr : Rd4 w ao len cap xs) :
    Calls Try.prog 76 #[.slice ao len cap] w fun e w' => ∃ ao' n, e = .returned (.slice ao' n cap) ∧ w' = w ∧ Rd4 w ao' n cap (xs.take n) ∧ n ≤ len ∧ Nm (xs.take n) ∧ dig (xs.take n) = dig xs := by
  have HR : Hid _ := hr
  have HL : Hid (xs.length = len) := hr.length
  have hle := hr.le
  have hmx := hr.max
  have hcl := hr.cells
  have HLT : Hid (U4 xs) := hr.lt
  clear hr
  go_enter Try.func76, Try.ntmps76
  go_wp2_with fail
  go_loop [3] (fun i => ∃ k : Nat, k ≤ len ∧ i = .int .i64 k ∧ Hid (dig (xs.take k) = dig xs)) (fun i => (intOf i).toNat)
  case atStart => exact ⟨len, by omega, rfl, by unfold Hid; rw [← HL.out, List.take_length]⟩
  case round =>
    obtain ⟨k, hk, rfl, hD⟩ := hrel
    cases k with
    | zero =>
      obtain ⟨ao', hcut, hr'⟩ := cut4 HR.out 0 (by omega)
      have HR' : Hid _ := hr'
      clear hr'
      have hz : ((0 : Nat) : Int) = 0 := rfl
      rw [hz] at hcut ⊢
      go_wp2
      go_ret
      exact ⟨ao', 0, rfl, rfl, HR'.out, by omega, .inl (by simp), hD.out⟩
    | succ k =>
      rcases hcl with h0 | ⟨b, off, rfl, hc⟩
      · omega
      have g := hc k (by omega)
      have hkl : k < xs.length := by rw [HL.out]; omega
      have hlt := HLT.out.at k
      have HDS : Hid _ := dig_take_succ hkl
      have HX : Hid (xs[k]?.getD 0 = (xs.take (k + 1))[(xs.take (k + 1)).length - 1]?.getD 0) := by
        unfold Hid; rw [List.length_take, Nat.min_eq_left (by omega), show k + 1 - 1 = k from rfl, List.getElem?_take, if_pos (by omega)]
      obtain ⟨ao', hcut, hr'⟩ := cut4 HR.out (k + 1) (by omega)
      have HR' : Hid _ := hr'
      clear hr' hc hkl
      have hz : ((k + 1 : Nat) : Int) = (k : Int) + 1 := rfl
      rw [hz] at hcut ⊢
      by_cases hx : xs[k]?.getD 0 = 0
      · rw [hx] at g
        have g' : w.cell? ⟨b, off + k, none⟩ = some (.int .u32 0) := g
        clear g hcut
        go_wp2
        go_round
        case rel => exact ⟨k, by omega, by go_num, by unfold Hid; have h1 := HDS.out; have h2 := hD.out; rw [hx, Nat.mul_zero] at h1; omega⟩
        case measure => show ((k : Int)).toNat < ((k : Int) + 1).toNat; omega
      · generalize hxe : xs[k]?.getD 0 = x at *
        go_wp2
        go_ret
        exact ⟨ao', k + 1, rfl, rfl, HR'.out, by omega, .inr (by rw [← HX.out]; exact hx), hD.out⟩
end Go.Proofs.Ytoehhnildocihaa

namespace Go.Proofs.Ytoehhnildocihaa
open Go.RowKit
set_option linter.unusedVariables false
/-- Words that the call itself made. -/
def Own4 (w : World) (base g n : Nat) (xs : List Nat) : Prop := xs.length = n ∧ w.ownsRow base 134 1 (.slice (some ⟨g, 0, none⟩) n n) n (xs.map v4)
theorem Own4.cell {w : World} {base g n : Nat} {xs : List Nat} (h : Own4 w base g n xs) (j : Nat) (hj : j < n) : w.cell? ⟨g, j, none⟩ = some (.int .u32 ((xs[j]?.getD 0 : Nat) : Int)) := by
  rw [World.ownsRow.cellAt h.2 j (by omega), List.getElem?_map, List.getElem?_eq_getElem (by rw [h.1]; exact hj)]
  rfl
theorem Own4.frozen {w : World} {base g n : Nat} {xs : List Nat} (h : Own4 w base g n xs) (j : Nat) : w.frozen? ⟨g, j, none⟩ = false := World.ownsRow.frozenAt h.2 j
theorem Own4.set {w : World} {base g n : Nat} {xs : List Nat} (h : Own4 w base g n xs) (j x : Nat) : Own4 (w.setCell ⟨g, j, none⟩ (.int .u32 (x : Int))) base g n (xs.set j x) := by
  refine ⟨by rw [List.length_set]; exact h.1, ?_⟩
  rw [List.map_set]
  exact (World.ownsRow.stored h.2 j (v4 x)).1
theorem Own4.base {w : World} {base g n : Nat} {xs : List Nat} (h : Own4 w base g n xs) : base ≤ g := by
  rcases h.2.2 with ⟨h1, _⟩ | ⟨g2, cap2, cur2, hv, hg2, _⟩
  · simp at h1
  · simp only [Value.slice.injEq, Option.some.injEq, Addr.mk.injEq, and_true, true_and] at hv
    obtain ⟨rfl, rfl⟩ := hv
    exact hg2
theorem Own4.rd {w : World} {base g n : Nat} {xs : List Nat} (h : Own4 w base g n xs) (hu : U4 xs) (hn : n ≤ 1000000) : Rd4 w (some ⟨g, 0, none⟩) n n xs :=
  ⟨h.1, Nat.le_refl _, hn, hu, (fun h => by cases h), .inr ⟨g, 0, rfl, fun j hj => by rw [Nat.zero_add]; exact h.cell j hj⟩⟩
/-- A store into the call's own words leaves what was there. -/
theorem below_set {w0 w : World} {base g j : Nat} {v : Value} (h : Below base w0 w) (hg : base ≤ g) : Below base w0 (w.setCell ⟨g, j, none⟩ v) := h.setCell (p := ⟨g, j, none⟩) hg v
/-- make([]uint32, n) -/
theorem make4 (w : World) (n : Nat) (hn : n ≤ 1000000) : ∃ w', (∀ z : Int, z = n → (Instr.makeSlice 85 (.int .i64 z) (.int .i64 z)).run Try.prog w = .ok (.slice (some ⟨w.heap.size, 0, none⟩) n n) w') ∧ Own4 w' w.heap.size w.heap.size n (List.replicate n 0) ∧ Below w.heap.size w w' := by
  obtain ⟨i0, hi, hz0, hz1, hz2⟩ := info_parts Try.infoU32
  obtain ⟨w', h1, h2, h3⟩ := run_make_full (P := Try.prog) w w.heap.size 85 134 i0 (.int .u32 0) 1 Try.underlying85 hi hz0 hz1 .i64 .i64 n (by rw [hz2]; omega) (by simp only [maxLen]; omega) (Nat.le_refl _)
  refine ⟨w', fun z hz => by rw [hz]; exact h1, ⟨List.length_replicate, ?_⟩, ?_⟩
  · have e : (madeCells (Value.int IntKind.u32 0).cells (n * 1)).toList = (List.replicate n 0).map v4 := by
      rw [List.map_replicate, Nat.mul_one]
      exact toList_madeCells_one _ _
    rw [e] at h2
    exact h2
  · exact (Below.refl _ _).grown h3 (Nat.le_refl _) (fun k hk => by cases hk)
end Go.Proofs.Ytoehhnildocihaa

namespace Go.Proofs.Ytoehhnildocihaa
open Go.RowKit
set_option linter.unusedVariables false
set_option maxRecDepth 100000 in
set_option maxHeartbeats 2000000 in
theorem left_any (ao : Option Addr) (len cap : Nat) (xs : List Nat) (n : Nat) (w : World) (hr : Rd4 w ao len cap xs) (hn : n ≤ 100000) (hl : len ≤ 10000) :
    Calls Try.prog 79 #[.slice ao len cap, .int .i64 n] w fun e w' => ∃ ao' k cap' zs, e = .returned (.slice ao' k cap') ∧ Rd4 w' ao' k cap' zs ∧ Nm zs ∧ dig zs = dig xs * 2 ^ n ∧ Below w.heap.size w w' ∧ k ≤ len + n / 32 + 1 := by
  have hle := hr.le
  have hmx := hr.max
  by_cases h0 : len = 0
  · subst h0
    have hx : xs = [] := List.eq_nil_of_length_eq_zero hr.length
    subst hx
    clear hr
    go_enter Try.func79, Try.ntmps79
    go_wp2
    go_ret
    exact ⟨none, 0, 0, [], rfl, Rd4.none _, .inl rfl, by simp [dig], Below.refl _ _, by omega⟩
  · have hb0 : ((len : Int) == 0) = false := by rw [beq_eq_false_iff_ne]; omega
    obtain ⟨q, hq⟩ : ∃ q : Nat, n / 32 = q := ⟨_, rfl⟩
    obtain ⟨s, hs⟩ : ∃ s : Nat, n % 32 = s := ⟨_, rfl⟩
    have hqi : (n : Int) / 32 = q := by omega
    have hsi : (n : Int) % 32 = s := by omega
    have hs32 : s < 32 := by omega
    have hqb : q ≤ 3200 := by omega
    obtain ⟨w1, hmk, hO, hB1⟩ := make4 w (len + q + 1) (by omega)
    have hmk' := hmk ((len : Int) + q + 1) (by omega)
    have HR : Hid _ := hr
    have HN : Hid (n = 32 * q + s) := by unfold Hid; omega
    have HO : Hid _ := hO
    have HB1 : Hid _ := hB1
    clear hmk hr hq hs hO hB1
    go_enter Try.func79, Try.ntmps79
    go_wp2_with fail
    go_loopg [6] len (fun gg i wx => ∃ (k : Nat) (zs : List Nat), k ≤ len ∧ i = .int .i64 k ∧ Hid (Own4 wx w.heap.size w.heap.size (len + q + 1) zs) ∧ Hid (Below w.heap.size w wx) ∧ Hid (U4 zs) ∧ Hid (dig zs = dig (xs.take k) * 2 ^ n) ∧ Hid (∀ j, k + q < j → zs[j]?.getD 0 = 0) ∧ Hid (zs[k + q]?.getD 0 < 2 ^ s) ∧ len ≤ k + gg)
    case atStart =>
      refine ⟨0, List.replicate (len + q + 1) 0, by omega, rfl, HO, HB1, ?_, ?_, ?_, ?_, by omega⟩
      · intro x hx; rw [List.eq_of_mem_replicate hx]; decide
      · unfold Hid; rw [dig_zeros]; simp [dig]
      · intro j _; by_cases hj : j < len + q + 1 <;> simp [hj]
      · unfold Hid; rw [List.getElem?_replicate, if_pos (by omega)]; exact Nat.two_pow_pos s
    case round =>
      obtain ⟨k, zs, hk, rfl, HOz, HBz, HUz, HDz, HZz, HLz, hfu⟩ := hrel
      by_cases hlt : k < len
      · obtain ⟨fu, rfl⟩ : ∃ g, gk = g + 1 := ⟨gk - 1, by omega⟩
        rcases HR.out.cells with h1 | ⟨b, off, rfl, hc⟩
        · omega
        have g := (HBz.out.cell (World.block_lt_of_cell? w _ (hc k hlt))).trans (hc k hlt)
        have hx := HR.out.lt.at k
        have gz := HOz.out.cell (k + q) (by omega)
        have gf := HOz.out.frozen
        have hz1 := HOz.out.set (k + q)
        have hzb := HUz.out.at (k + q)
        clear hc
        have hkl : k < xs.length := by rw [HR.out.length]; exact hlt
        have HTS : Hid _ := dig_take_succ hkl
        have hst := left_step (T := 2 ^ n) (D := dig (xs.take k)) (N := 0) hs32 hx (by rw [HOz.out.1]; omega) HUz.out HZz.out HLz.out HDz.out (Nat.mul_one _)
        have HST : Hid _ := hst
        have hV1 := hst.2.2.2.2.1
        have hV2 := hst.2.2.2.2.2
        clear hst hkl
        generalize hxe : xs[k]?.getD 0 = x at *
        generalize hze : zs[k + q]?.getD 0 = z at *
        have hXb : x * 2 ^ s < 9223372036854775808 := by
          have h2 : (2 : Nat) ^ s ≤ 2 ^ 31 := Nat.pow_le_pow_right (by omega) (by omega)
          have h31 : (2 : Nat) ^ 31 = 2147483648 := by decide
          have h3 : x * 2 ^ s ≤ x * 2147483648 := Nat.mul_le_mul_left _ (by omega)
          omega
        have hsh : IntKind.u64.wrap ((x : Int) * 2 ^ s) = ((x * 2 ^ s : Nat) : Int) := by
          rw [show (x : Int) * 2 ^ s = ((x * 2 ^ s : Nat) : Int) by rw [Int.natCast_mul, Int.natCast_pow]; rfl, IntKind.wrap_u64]
          omega
        have hor1 : bits .or .u32 (z : Int) (((x * 2 ^ s : Nat) : Int) % 4294967296) = ((z + x * 2 ^ s % 4294967296 : Nat) : Int) := by
          rw [show ((x * 2 ^ s : Nat) : Int) % 4294967296 = ((x * 2 ^ s % 4294967296 : Nat) : Int) by omega, u32_or_nat _ _ hzb (Nat.mod_lt _ (by decide))]
          congr 1
          have hd : (2 ^ s : Nat) ∣ x * 2 ^ s % 4294967296 := by
            rw [show (4294967296 : Nat) = 2 ^ (32 - s) * 2 ^ s by rw [← Nat.pow_add, show 32 - s + s = 32 by omega]]
            rw [Nat.mul_mod_mul_right]; exact Nat.dvd_mul_left ..
          obtain ⟨c, hc⟩ := hd
          rw [hc, Nat.or_comm, ← Nat.two_pow_add_eq_or_of_lt HLz.out, Nat.add_comm]
        have hor2 : bits .or .u32 0 (((x * 2 ^ s : Nat) : Int) / 4294967296) = ((x * 2 ^ s / 4294967296 : Nat) : Int) := by
          rw [show ((x * 2 ^ s : Nat) : Int) / 4294967296 = ((x * 2 ^ s / 4294967296 : Nat) : Int) by omega, show (0 : Int) = ((0 : Nat) : Int) from rfl, u32_or_nat _ _ (by decide) hV2, Nat.zero_or]
        have O1 := hz1 (z + x * 2 ^ s % 4294967296)
        have gz2 := O1.cell (k + q + 1) (by omega)
        rw [List.getElem?_set, if_neg (by omega), HZz.out (k + q + 1) (by omega)] at gz2
        have gf2 := O1.frozen
        have HO2 : Hid _ := O1.set (k + q + 1) (x * 2 ^ s / 4294967296)
        clear O1 hz1
        generalize hXe : x * 2 ^ s = X at *
        generalize hV1e : z + X % 4294967296 = V1 at *
        generalize hV2e : X / 4294967296 = V2 at *
        have gz2' : (wr.setCell ⟨w.heap.size, k + q, none⟩ (.int .u32 V1)).cell? ⟨w.heap.size, k + q + 1, none⟩ = some (.int .u32 0) := gz2
        clear gz2
        go_wp2_with fail
        go_roundg fu
        case rel =>
          refine ⟨k + 1, _, by omega, by go_num, HO2, ?_, HST.out.1, ?_, ?_, ?_, by omega⟩
          · exact below_set (below_set HBz.out (Nat.le_refl _)) (Nat.le_refl _)
          · unfold Hid
            rw [HST.out.2.1, HDz.out, HTS.out, Nat.add_mul, HN.out, Nat.pow_add, ← hXe]
            congr 1
            show wd (k + q) * (x * 2 ^ s) = wd k * x * (wd q * 2 ^ s)
            rw [wd_add, Nat.mul_mul_mul_comm]
          · unfold Hid; rw [show k + 1 + q = k + q + 1 by omega]; exact HST.out.2.2.1
          · unfold Hid; rw [show k + 1 + q = k + q + 1 by omega]; exact HST.out.2.2.2.1
        case measure => omega
      · obtain rfl : k = len := by omega
        have HTL : Hid (xs.take k = xs) := by unfold Hid; exact List.take_of_length_le (by rw [HR.out.length]; omega)
        go_wp2_with (go_at_call 76; refine (trim_any _ _ _ zs _ (HOz.out.rd HUz.out (by omega))).mono ?_; rintro e w' ⟨ao', m, rfl, rfl, hr', hm, hnm, hdg⟩)
        go_ret
        exact ⟨ao', m, _, _, rfl, hr', hnm, by rw [hdg, HDz.out, HTL.out], HBz.out, by have := HN.out; omega⟩
end Go.Proofs.Ytoehhnildocihaa

namespace Go.Proofs.Ytoehhnildocihaa
open Go.RowKit
set_option linter.unusedVariables false
theorem len_zero {xs : List Nat} {len : Nat} (hl : xs.length = len) (hu : U4 xs) (hn : Nm xs) : (len = 0 ↔ dig xs = 0) := by
  constructor
  · intro h; have : xs = [] := List.eq_nil_of_length_eq_zero (by omega)
    subst this; rfl
  · intro h
    rcases Nat.eq_zero_or_pos len with h0 | h0
    · exact h0
    · exact absurd h (bl_dig hu hn (fun e => by rw [e] at hl; simp at hl; omega)).2
theorem len_bl {xs : List Nat} {len : Nat} (hl : xs.length = len) (hu : U4 xs) (hn : Nm xs) : 32 * len ≤ bl (dig xs) + 31 := by
  rcases Nat.eq_zero_or_pos len with h0 | h0
  · omega
  · have h := bl_dig hu hn (fun e => by rw [e] at hl; simp at hl; omega)
    have h1 : xs[xs.length - 1]?.getD 0 ≠ 0 := by
      rcases hn with e | e
      · rw [e] at hl; simp at hl; omega
      · exact e
    have := bl_spec h1
    rw [hl] at h this
    omega
theorem three_cells {W : World} {B : Nat} {v0 v1 v2 : Value} (h : W.heap[B]? = some (.cells #[v0, v1, v2] 87)) :
    W.cell? ⟨B, 0, none⟩ = some v0 ∧ W.cell? ⟨B, 1, none⟩ = some v1 ∧ W.cell? ⟨B, 2, none⟩ = some v2 :=
  ⟨cell_of_row _ _ 0 _ _ _ h, cell_of_row _ _ 1 _ _ _ h, cell_of_row _ _ 2 _ _ _ h⟩
theorem res_num (f : Func) (i : Nat) (hf : f.results = #[ResultVar.cell i 87]) (tmps : Array Value) (W : World) (B : Nat) (v0 v1 v2 : Value) (hp : tmps[i]? = some (.pointer (some ⟨B, 0, none⟩)))
    (h : W.heap[B]? = some (.cells #[v0, v1, v2] 87)) : (results f tmps).run Try.prog W = .ok (.agg #[v0, v1, v2]) W := by
  obtain ⟨h0, h1, h2⟩ := three_cells h
  simp [results, hf, go_sem, hp, h0, h1, h2]
theorem res_num2 (f : Func) (i j : Nat) (hf : f.results = #[ResultVar.cell i 87, ResultVar.tmp j]) (tmps : Array Value) (W : World) (B : Nat) (v0 v1 v2 u : Value) (hp : tmps[i]? = some (.pointer (some ⟨B, 0, none⟩))) (hq : tmps[j]? = some u)
    (h : W.heap[B]? = some (.cells #[v0, v1, v2] 87)) : (results f tmps).run Try.prog W = .ok (.tuple #[.agg #[v0, v1, v2], u]) W := by
  obtain ⟨h0, h1, h2⟩ := three_cells h
  simp [results, hf, go_sem, hp, hq, h0, h1, h2]
set_option maxRecDepth 100000 in
theorem moved_any (v : Value) (neg : Bool) (m : Nat) (e n : Int) (he : -1000000 ≤ e ∧ e ≤ 1000000) (hn : -1000000 ≤ n ∧ n ≤ 1000000) (w : World) (h : NumV w v neg m e) :
    Calls Try.prog 39 #[v, .int .i64 n] w fun e' w' => ∃ v', e' = .returned v' ∧ NumV w' v' neg m (if m = 0 then e else e + n) ∧ Below w.heap.size w w' := by
  obtain ⟨ao, len, cap, xs, rfl, hr, hnm, hm⟩ := h
  have hz := len_zero hr.length hr.lt hnm
  rw [hm] at hz
  have hbel : ∀ c1 c2 : Obj, Below w.heap.size w ((w.alloc c1).alloc c2) := fun c1 c2 => ((Below.refl _ _).alloc (Nat.le_refl _) _).alloc (by simp) _
  have HR : Hid _ := hr
  have HB : Hid _ := hbel
  clear hr hbel
  by_cases h0 : 0 < len
  · rw [if_neg (by omega)]
    go_enter Try.func39, Try.ntmps39
    go_wp2_with fail
    refine bodyPost_ret (v := .agg #[.bool neg, .slice ao len cap, .int .i64 (e + n)]) (res_num _ 4 (by kernel_rfl) _ _ (w.heap.size + 1) _ _ _ (by rfl) (by have := heap_alloc_new (w.alloc (Obj.cells #[Value.bool neg, Value.slice ao len cap, Value.int IntKind.i64 (e + n)] 87)) (Obj.cells #[Value.bool neg, Value.slice ao len cap, Value.int IntKind.i64 (e + n)] 87); simpa using this)) rfl ⟨_, rfl, ?_, HB.out _ _⟩
    exact ⟨ao, len, cap, xs, rfl, HR.out.later (HB.out _ _), hnm, hm⟩
  · rw [if_pos (by omega)]
    go_enter Try.func39, Try.ntmps39
    go_wp2_with fail
    refine bodyPost_ret (v := .agg #[.bool neg, .slice ao len cap, .int .i64 e]) (res_num _ 4 (by kernel_rfl) _ _ (w.heap.size + 1) _ _ _ (by rfl) (by have := heap_alloc_new (w.alloc (Obj.cells #[Value.bool neg, Value.slice ao len cap, Value.int IntKind.i64 e] 87)) (Obj.cells #[Value.bool neg, Value.slice ao len cap, Value.int IntKind.i64 e] 87); simpa using this)) rfl ⟨_, rfl, ?_, HB.out _ _⟩
    exact ⟨ao, len, cap, xs, rfl, HR.out.later (HB.out _ _), hnm, hm⟩
set_option maxRecDepth 100000 in
theorem size_any (v : Value) (neg : Bool) (m : Nat) (e : Int) (w : World) (h : NumV w v neg m e) :
    Calls Try.prog 35 #[v] w fun e' w' => ∃ v', e' = .returned v' ∧ NumV w' v' false m e ∧ Below w.heap.size w w' := by
  obtain ⟨ao, len, cap, xs, rfl, hr, hnm, hm⟩ := h
  have hbel : ∀ c1 c2 : Obj, Below w.heap.size w ((w.alloc c1).alloc c2) := fun c1 c2 => ((Below.refl _ _).alloc (Nat.le_refl _) _).alloc (by simp) _
  have HR : Hid _ := hr
  have HB : Hid _ := hbel
  clear hr hbel
  go_enter Try.func35, Try.ntmps35
  go_wp2_with fail
  refine bodyPost_ret (v := .agg #[.bool false, .slice ao len cap, .int .i64 e]) (res_num _ 2 (by kernel_rfl) _ _ (w.heap.size + 1) _ _ _ (by rfl) (by have := heap_alloc_new (w.alloc (Obj.cells #[Value.bool false, Value.slice ao len cap, Value.int IntKind.i64 e] 87)) (Obj.cells #[Value.bool false, Value.slice ao len cap, Value.int IntKind.i64 e] 87); simpa using this)) rfl ⟨_, rfl, ?_, HB.out _ _⟩
  exact ⟨ao, len, cap, xs, rfl, HR.out.later (HB.out _ _), hnm, hm⟩
end Go.Proofs.Ytoehhnildocihaa

namespace Go.Proofs.Ytoehhnildocihaa
open Go.RowKit
set_option linter.unusedVariables false
/-- A number's block in memory, as the call's own. -/
def NumB (w : World) (B : Nat) : Prop := ∃ neg ao len cap e, w.heap[B]? = some (.cells #[.bool neg, .slice ao len cap, .int .i64 e] 87)
theorem NumB.not {w : World} {B : Nat} (h : NumB w B) (j : Nat) (x : Int) : w.cell? ⟨B, j, none⟩ ≠ some (.int .u32 x) := by
  obtain ⟨neg, ao, len, cap, e, h⟩ := h
  match j with
  | 0 => rw [(three_cells h).1]; simp
  | 1 => rw [(three_cells h).2.1]; simp
  | 2 => rw [(three_cells h).2.2]; simp
  | j + 3 => rw [cell_of_row _ _ _ _ _ _ h]; simp
theorem set3_heap {w : World} {B : Nat} {a b c : Value} (x y z : Value) (h : w.heap[B]? = some (.cells #[a, b, c] 87)) :
    (((w.setCell ⟨B, 0, none⟩ x).setCell ⟨B, 1, none⟩ y).setCell ⟨B, 2, none⟩ z).heap[B]? = some (.cells #[x, y, z] 87) := by
  have h1 := heap_setCell_same w B 0 _ _ x h
  have h2 := heap_setCell_same _ B 1 _ _ y h1
  exact heap_setCell_same _ B 2 _ _ z h2
/-- Words stay where a number's block is written over. -/
theorem rd4_set3 {w : World} {B : Nat} (x y z : Value) (hB : NumB w B) {ao : Option Addr} {len cap : Nat} {xs : List Nat} (h : Rd4 w ao len cap xs) :
    Rd4 (((w.setCell ⟨B, 0, none⟩ x).setCell ⟨B, 1, none⟩ y).setCell ⟨B, 2, none⟩ z) ao len cap xs := by
  refine ⟨h.length, h.le, h.max, h.lt, h.nil, ?_⟩
  rcases h.cells with h0 | ⟨b, off, ha, hc⟩
  · exact .inl h0
  · refine .inr ⟨b, off, ha, fun j hj => ?_⟩
    have hne : b ≠ B := by rintro rfl; exact hB.not _ _ (hc j hj)
    rw [World.cell?_setCell_other _ _ _ _ (fun e => hne (by have := congrArg Addr.block e; first | exact this | exact this.symm)), World.cell?_setCell_other _ _ _ _ (fun e => hne (by have := congrArg Addr.block e; first | exact this | exact this.symm)), World.cell?_setCell_other _ _ _ _ (fun e => hne (by have := congrArg Addr.block e; first | exact this | exact this.symm))]
    exact hc j hj
theorem rd4_other {w w' : World} {B : Nat} (hB : NumB w B) (hs : ∀ b, b ≠ B → w'.heap[b]? = w.heap[b]?) {ao : Option Addr} {len cap : Nat} {xs : List Nat} (h : Rd4 w ao len cap xs) : Rd4 w' ao len cap xs := by
  refine ⟨h.length, h.le, h.max, h.lt, h.nil, ?_⟩
  rcases h.cells with h0 | ⟨b, off, ha, hc⟩
  · exact .inl h0
  · refine .inr ⟨b, off, ha, fun j hj => ?_⟩
    have hne : b ≠ B := by rintro rfl; exact hB.not _ _ (hc j hj)
    rw [World.cell?_of_block (w := w) (w' := w') (a := ⟨b, off + j, none⟩) (hs b hne)]
    exact hc j hj
theorem dig_drop_pred {xs : List Nat} {k : Nat} : dig (xs.drop k) = xs[k]?.getD 0 + 4294967296 * dig (xs.drop (k + 1)) := by
  rw [dig_head, List.getElem?_drop, Nat.add_zero, List.drop_drop]
end Go.Proofs.Ytoehhnildocihaa

namespace Go.Proofs.Ytoehhnildocihaa
open Go.RowKit
set_option linter.unusedVariables false
end Go.Proofs.Ytoehhnildocihaa

namespace Go.Proofs.Ytoehhnildocihaa
open Go.RowKit
set_option linter.unusedVariables false
theorem call_add64 (x y c : Nat) (hc : c ≤ 1) (w : World) : (callFunc 83 #[.int .u64 x, .int .u64 y, .int .u64 c]).run Try.prog w = .ok (.value (.tuple #[.int .u64 (((x + y + c) % 18446744073709551616 : Nat) : Int), .int .u64 (((x + y + c) / 18446744073709551616 : Nat) : Int)])) w := by
  rw [run_callFunc_extern Try.func83 (by kernel_rfl) (by kernel_rfl) (by kernel_rfl) (e := add64Entry) (by kernel_rfl), run_add64 x y c (by omega) (by omega) (by omega) (by omega)]
  simp only [Result.andThen]
  congr 5 <;> omega
theorem turning_any (neg : Bool) (w : World) : Calls Try.prog 82 #[.bool neg] w fun e w' => ∃ F c : Nat, e = .returned (.tuple #[.int .u64 (F : Int), .int .u64 (c : Int)]) ∧ Trn neg F c ∧ w' = w := by
  cases neg
  · go_enter Try.func82, Try.ntmps82
    go_wp2
    go_ret2
    exact ⟨0, 0, rfl, .inl ⟨rfl, rfl, rfl⟩, rfl⟩
  · go_enter Try.func82, Try.ntmps82
    go_wp2
    go_ret2
    exact ⟨18446744073709551615, 1, rfl, .inr ⟨rfl, rfl, rfl⟩, rfl⟩
theorem xor_ones (y : Nat) (h : y < 18446744073709551616) : y ^^^ 18446744073709551615 = 18446744073709551615 - y := by
  apply Nat.eq_of_testBit_eq
  intro i
  rw [Nat.testBit_xor, show (18446744073709551615 : Nat) = 2 ^ 64 - 1 by decide]
  by_cases hi : i < 64
  · rw [Nat.testBit_two_pow_sub_one, show 2 ^ 64 - 1 - y = 2 ^ 64 - (y + 1) by omega, Nat.testBit_two_pow_sub_succ (by simpa using h)]
    simp [hi]
  · have h1 : y < 2 ^ i := Nat.lt_of_lt_of_le h (by rw [show (18446744073709551616 : Nat) = 2 ^ 64 by decide]; exact Nat.pow_le_pow_right (by omega) (by omega))
    have h2 : 2 ^ 64 - 1 - y < 2 ^ i := Nat.lt_of_lt_of_le (show 2 ^ 64 - 1 - y < 2 ^ 64 by omega) (Nat.pow_le_pow_right (by omega) (by omega))
    rw [Nat.testBit_two_pow_sub_one, Nat.testBit_lt_two_pow h1, Nat.testBit_lt_two_pow h2]
    simp [hi]
theorem Trn.xor {neg : Bool} {F c y : Nat} (h : Trn neg F c) (hy : y < 18446744073709551616) : bits .xor .u64 (y : Int) (F : Int) = ((flp neg y : Nat) : Int) := by
  rcases h with ⟨rfl, rfl, rfl⟩ | ⟨rfl, rfl, rfl⟩
  · rw [u64_xor_nat y 0 hy (by decide), Nat.xor_zero]; rfl
  · rw [u64_xor_nat y 18446744073709551615 hy (by decide), xor_ones y hy]; rfl
/-- The 76 words of block B. -/
structure Wds (w : World) (B : Nat) (f : Nat → Nat) : Prop where
  cells : ∀ j, j < 76 → w.cell? ⟨B, j, none⟩ = some (.int .u64 (f j : Nat))
  frozen : ∀ j, j < 76 → w.frozen? ⟨B, j, none⟩ = false
  lt : ∀ j, j < 76 → f j < 18446744073709551616
/-- Of old memory only the first 76 cells of block B have changed. -/
structure Mut (B : Nat) (w w' : World) : Prop where
  below : Below B w w'
  other : ∀ b, b < w.heap.size → b ≠ B → w'.heap[b]? = w.heap[b]?
  high : ∀ j, 76 ≤ j → w'.cell? ⟨B, j, none⟩ = w.cell? ⟨B, j, none⟩
  froz : ∀ j, w'.frozen? ⟨B, j, none⟩ = w.frozen? ⟨B, j, none⟩
  drawn : w.drawn ≤ w'.drawn
theorem Mut.refl (B : Nat) (w : World) : Mut B w w := ⟨Below.refl _ _, fun _ _ _ => rfl, fun _ _ => rfl, fun _ => rfl, Nat.le_refl _⟩
theorem Mut.trans {B : Nat} {a b c : World} (h : Mut B a b) (k : Mut B b c) : Mut B a c :=
  ⟨h.below.trans k.below, fun i hi hne => (k.other i (Nat.lt_of_lt_of_le hi h.below.size) hne).trans (h.other i hi hne), fun j hj => (k.high j hj).trans (h.high j hj), fun j => (k.froz j).trans (h.froz j), Nat.le_trans h.drawn k.drawn⟩
theorem Mut.set {B : Nat} {a b : World} (h : Mut B a b) (j : Nat) (hj : j < 76) (v : Value) : Mut B a (b.setCell ⟨B, j, none⟩ v) :=
  h.trans ⟨(Below.refl B b).setCell (p := ⟨B, j, none⟩) (Nat.le_refl B) v, fun i hi hne => heap_setCell_other _ _ _ _ hne, fun i hi => World.cell?_setCell_other _ _ _ _ (fun e => by have := congrArg Addr.off e; simp at this; omega), fun i => World.frozen?_setCell _ _ _ _, Nat.le_refl _⟩
theorem Mut.drew {B : Nat} {a b : World} (h : Mut B a b) : Mut B a b.drew := h.trans ⟨(Below.refl _ _).drew, fun _ _ _ => rfl, fun _ _ => rfl, fun _ => rfl, Nat.le_succ _⟩
theorem Wds.set {w : World} {B : Nat} {f : Nat → Nat} (h : Wds w B f) (i v : Nat) (hv : v < 18446744073709551616) (hi : i < 76) : Wds (w.setCell ⟨B, i, none⟩ (.int .u64 (v : Int))) B (upd f i v) := by
  refine ⟨fun j hj => ?_, fun j hj => (World.frozen?_setCell _ _ _ _).trans (h.frozen j hj), fun j hj => ?_⟩
  · by_cases e : j = i
    · subst e; rw [upd_same]; exact World.cell?_setCell_same _ _ _ (h.cells j hj)
    · rw [upd_other e, World.cell?_setCell_other _ _ _ _ (fun c => e (by have := congrArg Addr.off c; first | simpa using this | simpa using this.symm))]; exact h.cells j hj
  · by_cases e : j = i
    · subst e; rw [upd_same]; exact hv
    · rw [upd_other e]; exact h.lt j hj
theorem Wds.drew {w : World} {B : Nat} {f : Nat → Nat} (h : Wds w B f) : Wds w.drew B f := ⟨h.cells, h.frozen, h.lt⟩
theorem pow0 : (2 : Nat) ^ (64 * 0) = 1 := by simp
set_option maxRecDepth 100000 in
set_option maxHeartbeats 1000000 in
theorem join_any (B C : Nat) (f g : Nat → Nat) (neg : Bool) (w : World) (hf : Wds w B f) (hg : Wds w C g) :
    Calls Try.prog 85 #[.pointer (some ⟨B, 0, none⟩), .pointer (some ⟨C, 0, none⟩), .bool neg] w fun e w' => e = .returned (.tuple #[]) ∧ ∃ h c, Wds w' B h ∧ Mut B w w' ∧ wv h 76 + c * 2 ^ (64 * 76) = wv f 76 + wv (fun j => flp neg (g j)) 76 + neg.toNat := by
  have HF : Hid _ := hf
  have HG : Hid _ := hg
  clear hf hg
  go_enter Try.func85, Try.ntmps85
  go_wp2_with fail
  refine (turning_any neg _).mono ?_
  rintro e w1 ⟨F, c0, rfl, htr, rfl⟩
  have HT : Hid (Trn neg F c0) := htr
  have hc0 : c0 ≤ 1 := by rcases htr with ⟨_, _, rfl⟩ | ⟨_, _, rfl⟩ <;> omega
  have HC0 : Hid (c0 = neg.toNat) := by rcases htr with ⟨rfl, _, rfl⟩ | ⟨rfl, _, rfl⟩ <;> rfl
  clear htr
  go_wp2_with fail
  go_loopw [7, 14] (fun cv iv wr => ∃ (k c : Nat) (h : Nat → Nat), k ≤ 76 ∧ iv = .int .i64 k ∧ cv = .int .u64 c ∧ c ≤ 1 ∧ Hid (Wds wr B h) ∧ Hid (∀ j, k ≤ j → j < 76 → h j = f j) ∧ Hid (∀ j, k ≤ j → j < 76 → wr.cell? ⟨C, j, none⟩ = some (.int .u64 (g j : Nat))) ∧ Hid (Mut B w1 wr) ∧ Hid (wv h k + c * 2 ^ (64 * k) = wv f k + wv (fun j => flp neg (g j)) k + c0)) (fun _ iv _ => 76 - (intOf iv).toNat)
  case atStart => exact ⟨0, c0, f, by omega, rfl, rfl, hc0, HF, fun _ _ _ => rfl, fun j _ hj => HG.out.cells j hj, Mut.refl _ _, by unfold Hid; rw [pow0]; simp [wv]⟩
  case round =>
    obtain ⟨k, c, h, hk, rfl, rfl, hc, H1, H2, H3, H4, H5⟩ := hrel
    by_cases hlt : k < 76
    · have hd : decide ((k : Int) < 76) = true := decide_eq_true (by omega)
      have g0 := H1.out.cells k hlt
      have g1 := H3.out k (Nat.le_refl _) hlt
      have g2 := H1.out.frozen k hlt
      have hx := HT.out.xor (HG.out.lt k hlt)
      have hy := flp_lt (neg := neg) (HG.out.lt k hlt)
      obtain ⟨y, hyy⟩ : ∃ y, flp neg (g k) = y := ⟨_, rfl⟩
      obtain ⟨x, hxx⟩ : ∃ x, h k = x := ⟨_, rfl⟩
      rw [hyy] at hx hy
      rw [hxx] at g0
      have hadd := call_add64 x y c hc
      have hxl : x < 18446744073709551616 := by rw [← hxx]; exact H1.out.lt k hlt
      have HYY : Hid _ := hyy
      have HXX : Hid _ := hxx
      clear hyy hxx
      generalize hs : (x + y + c) % 18446744073709551616 = s at hadd
      generalize hq : (x + y + c) / 18446744073709551616 = q at hadd
      have HS : Hid (s < 18446744073709551616 ∧ q ≤ 1 ∧ s + 18446744073709551616 * q = x + y + c) := by unfold Hid; omega
      clear hs hq
      have HW' : Hid (Wds (wr.setCell ⟨B, k, none⟩ (.int .u64 (s : Int))).drew B (upd h k s)) := (H1.out.set k s HS.out.1 hlt).drew
      have HM' : Hid (Mut B w1 (wr.setCell ⟨B, k, none⟩ (.int .u64 (s : Int))).drew) := (H4.out.set k hlt _).drew
      have H2' : Hid (∀ j, k + 1 ≤ j → j < 76 → upd h k s j = f j) := fun j h1 h2 => by rw [upd_other (by omega)]; exact H2.out j (by omega) h2
      have H3' : Hid (∀ j, k + 1 ≤ j → j < 76 → (wr.setCell ⟨B, k, none⟩ (.int .u64 (s : Int))).drew.cell? ⟨C, j, none⟩ = some (.int .u64 (g j : Nat))) := fun j h1 h2 => by
        have := H3.out j (by omega) h2
        rw [← this]
        exact World.cell?_setCell_other _ _ _ _ (fun c => by have := congrArg Addr.off c; simp at this; omega)
      have H5' : Hid (wv (upd h k s) (k + 1) + q * 2 ^ (64 * (k + 1)) = wv f (k + 1) + wv (fun j => flp neg (g j)) (k + 1) + c0) := by
        refine add_step H5.out ?_
        rw [HS.out.2.2, ← HXX.out, ← HYY.out, H2.out k (Nat.le_refl _) hlt]
      have hq1 := HS.out.2.1
      go_wp2_with fail
      go_region
      go_wp2_with fail
      go_roundw
      case rel => exact ⟨k + 1, q, upd h k s, by omega, by go_num, rfl, hq1, HW', H2', H3', HM', H5'⟩
      case measure => simp [intOf]; omega
    · have hk76 : k = 76 := by omega
      have hd : decide ((k : Int) < 76) = false := decide_eq_false (by omega)
      go_wp2_with fail
      go_end0
      subst hk76
      exact ⟨rfl, h, c, H1.out, H4.out, by rw [← HC0.out]; exact H5.out⟩
end Go.Proofs.Ytoehhnildocihaa

namespace Go.Proofs.Ytoehhnildocihaa
open Go.RowKit
set_option linter.unusedVariables false
/-- The highest word that is not 0, from the given one down. -/
def High (f : Nat → Nat) (m r : Int) : Prop := r ≤ m ∧ (0 ≤ r → f r.toNat ≠ 0) ∧ (∀ j : Nat, (j : Int) ≤ m → r < j → f j = 0) ∧ (-1 ≤ r ∨ r = m)
set_option maxRecDepth 100000 in
set_option maxHeartbeats 1000000 in
theorem highest_any (B : Nat) (f : Nat → Nat) (m : Int) (hm0 : -2 ≤ m) (hm1 : m ≤ 75) (w : World) (hf : Wds w B f) :
    Calls Try.prog 86 #[.pointer (some ⟨B, 0, none⟩), .int .i64 m] w fun e w' => ∃ r : Int, e = .returned (.int .i64 r) ∧ High f m r ∧ w' = w := by
  have HF : Hid _ := hf
  clear hf
  go_enter Try.func86, Try.ntmps86
  go_wp2_with fail
  go_loopw [1] (fun iv wr => ∃ r : Int, iv = .int .i64 r ∧ Hid (wr = w) ∧ r ≤ m ∧ (∀ j : Nat, (j : Int) ≤ m → r < j → f j = 0) ∧ (-1 ≤ r ∨ r = m)) (fun iv _ => (intOf iv + 3).toNat)
  case atStart => exact ⟨m, rfl, (rfl : w = w), by omega, fun j h1 h2 => by omega, .inr rfl⟩
  case round =>
    obtain ⟨r, rfl, HE, h1, h2, h3⟩ := hrel
    by_cases hlt : 0 ≤ r
    · obtain ⟨k, rfl⟩ : ∃ k : Nat, r = (k : Int) := ⟨r.toNat, by omega⟩
      have hk : k < 76 := by omega
      have hd : decide ((0 : Int) ≤ (k : Int)) = true := decide_eq_true hlt
      have g0 : wr.cell? ⟨B, k, none⟩ = some (.int .u64 (f k : Nat)) := by rw [HE.out]; exact HF.out.cells k hk
      by_cases hz : f k = 0
      · rw [hz] at g0
        have H2 : Hid (∀ j : Nat, (j : Int) ≤ m → (k : Int) < j → f j = 0) := h2
        clear h2
        go_wp2_with fail
        go_roundw
        case rel =>
          refine ⟨(k : Int) - 1, by go_num, HE, by omega, fun j j1 j2 => ?_, by omega⟩
          by_cases e : j = k
          · rw [e]; exact hz
          · exact H2.out j j1 (by omega)
        case measure => simp [intOf]; omega
      · have hb : (((f k : Nat) : Int) == 0) = false := by rw [beq_eq_false_iff_ne]; omega
        have HZ : Hid (f k ≠ 0) := hz
        have H2 : Hid (∀ j : Nat, (j : Int) ≤ m → (k : Int) < j → f j = 0) := h2
        clear h2
        go_wp2_with fail
        go_ret
        exact ⟨(k : Int), rfl, ⟨by omega, fun _ => HZ.out, H2.out, by omega⟩, HE.out⟩
    · have hd : decide ((0 : Int) ≤ r) = false := decide_eq_false hlt
      have H2 : Hid (∀ j : Nat, (j : Int) ≤ m → r < j → f j = 0) := h2
      clear h2
      go_wp2_with fail
      go_ret
      exact ⟨r, rfl, ⟨by omega, fun c => by omega, H2.out, by omega⟩, HE.out⟩
set_option maxRecDepth 100000 in
set_option maxHeartbeats 1000000 in
theorem signW_any (B : Nat) (f : Nat → Nat) (z : Int) (w : World) (hf : Wds w B f) (hz : Tc f z) :
    Calls Try.prog 74 #[.pointer (some ⟨B, 0, none⟩)] w fun e w' => e = .returned (.int .i64 (sgi z)) ∧ w' = w := by
  have g0 := hf.cells 75 (by omega)
  have hneg := hz.neg_iff
  have hzer := hz.zero_iff
  have hlt := hz.lt 75 (by omega)
  have HF : Hid _ := hf
  clear hf
  by_cases h0 : z < 0
  · have h1 := hneg.1 h0
    have hs : sgi z = -1 := by unfold sgi; rw [if_pos h0]
    have hw : IntKind.i64.wrap ((f 75 : Nat) : Int) = (f 75 : Int) - 18446744073709551616 := by rw [IntKind.wrap_i64]; omega
    have hd : decide ((f 75 : Int) - 18446744073709551616 < 0) = true := decide_eq_true (by omega)
    rw [hs]
    clear hneg hzer
    go_enter Try.func74, Try.ntmps74
    go_wp2_with fail
    go_ret
    exact ⟨rfl, rfl⟩
  · have h1 : f 75 < 9223372036854775808 := by
      rcases Nat.lt_or_ge (f 75) 9223372036854775808 with h | h
      · exact h
      · exact absurd (hneg.2 h) h0
    have hw : IntKind.i64.wrap ((f 75 : Nat) : Int) = (f 75 : Int) := by rw [IntKind.wrap_i64]; omega
    have hd : decide ((f 75 : Int) < 0) = false := decide_eq_false (by omega)
    have HZ : Hid _ := hzer
    clear hneg hzer
    go_enter Try.func74, Try.ntmps74
    go_wp2_with fail
    refine (highest_any B f 75 (by omega) (by omega) _ HF.out).mono ?_
    rintro e w1 ⟨r, rfl, hh, rfl⟩
    by_cases hr : r < 0
    · have hdr : decide (r < 0) = true := decide_eq_true hr
      have hz0 : z = 0 := HZ.out.2 (fun j hj => hh.2.2.1 j (by omega) (by omega))
      have HS : Hid (sgi z = 0) := by unfold Hid; rw [hz0]; rfl
      clear hh
      go_wp2_with fail
      go_ret
      exact ⟨by rw [HS.out]; rfl, rfl⟩
    · have hdr : decide (r < 0) = false := decide_eq_false hr
      have hz0 : z ≠ 0 := fun c => hh.2.1 (by omega) (HZ.out.1 c r.toNat (by have := hh.1; omega))
      have HS : Hid (sgi z = 1) := by unfold Hid sgi; rw [if_neg (by omega), if_neg hz0]
      clear hh
      go_wp2_with fail
      go_ret
      exact ⟨by rw [HS.out]; rfl, rfl⟩
set_option maxRecDepth 100000 in
set_option maxHeartbeats 1000000 in
theorem held_any (B : Nat) (f : Nat → Nat) (z : Int) (w : World) (hf : Wds w B f) (hz : Tc f z) (b : Bool) (hb : b = true ↔ (-((2 ^ 4800 : Nat) : Int) < z ∧ z < ((2 ^ 4800 : Nat) : Int))) :
    Calls Try.prog 84 #[.pointer (some ⟨B, 0, none⟩)] w fun e w' => e = .returned (.bool b) ∧ w' = w := by
  have g0 := hf.cells 75 (by omega)
  have hh := hz.held_iff
  rw [← hb] at hh
  have HF : Hid _ := hf
  clear hf hb hz
  by_cases h0 : f 75 = 0
  · obtain rfl : b = true := hh.1 (.inl h0)
    rw [h0] at g0
    clear hh
    go_enter Try.func84, Try.ntmps84
    go_wp2_with fail
    go_ret
    exact ⟨rfl, rfl⟩
  · by_cases h1 : f 75 = 18446744073709551615
    · rw [h1] at g0
      have HH : Hid _ := hh
      clear hh
      go_enter Try.func84, Try.ntmps84
      go_wp2_with fail
      refine (highest_any B f 74 (by omega) (by omega) _ HF.out).mono ?_
      rintro e w1 ⟨r, rfl, hr, rfl⟩
      have hbr : decide (0 ≤ r) = b := by
        by_cases c : 0 ≤ r
        · have : b = true := HH.out.1 (.inr ⟨h1, r.toNat, by have := hr.1; omega, hr.2.1 c⟩)
          rw [this]; exact decide_eq_true c
        · have : ¬ b = true := fun hb => by
            rcases HH.out.2 hb with h | ⟨_, j, hj, hne⟩
            · exact h0 h
            · exact hne (hr.2.2.1 j (by omega) (by omega))
          rw [decide_eq_false c]
          cases b
          · rfl
          · exact absurd rfl this
      clear hr
      go_wp2_with fail
      go_ret
      exact ⟨by first | rfl | (rw [← hbr]; rfl), rfl⟩
    · have hb0 : ¬ b = true := fun hb => by
        rcases hh.2 hb with h | ⟨h, _⟩
        · exact h0 h
        · exact h1 h
      obtain rfl : b = false := by
        cases b
        · rfl
        · exact absurd rfl hb0
      have e0 : (((f 75 : Nat) : Int) == 0) = false := by rw [beq_eq_false_iff_ne]; omega
      have e1 : (((f 75 : Nat) : Int) == 18446744073709551615) = false := by rw [beq_eq_false_iff_ne]; omega
      clear hh hb0
      go_enter Try.func84, Try.ntmps84
      go_wp2_with fail
      go_ret
      exact ⟨rfl, rfl⟩
end Go.Proofs.Ytoehhnildocihaa
