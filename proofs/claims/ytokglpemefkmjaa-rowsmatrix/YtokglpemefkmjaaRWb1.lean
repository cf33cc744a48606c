import Ieee.Arith
import Derived.Test.YtokglpemefkmjaaChecked
import Derived.WalkKit
import Derived.WalkSmall
import Derived.WalkLawsBesides
import Derived.Laws.BitsAll
import Derived.Deep.QuietTactic
import Derived.Deep.RegionWith
import Derived.Deep.DeepCutAuto
import Derived.Deep.LoopGhost
import Derived.OwnWalk
import Derived.Deep.WholeRow
import Derived.Deep.MidRow
import Derived.Laws.CopyOwn
import Derived.BigQuiet
import Derived.Laws.AppendOwnNone
import Derived.Deep.RegionHeld3
import Derived.Laws.OwnMore
import Derived.ArgAppend
import Derived.Orders
import Derived.RegionTactic
import Derived.Below
namespace Go.Proofs.Ytokglpemefkmjaa
set_option linter.unusedVariables false
end Go.Proofs.Ytokglpemefkmjaa
namespace Go.Proofs.Ytokglpemefkmjaa
set_option linter.unusedVariables false
end Go.Proofs.Ytokglpemefkmjaa
namespace Go.Proofs.Ytokglpemefkmjaa
set_option linter.unusedVariables false
end Go.Proofs.Ytokglpemefkmjaa
namespace Go.Proofs.Ytokglpemefkmjaa
/-- The magnitude of a rung, in units of 2^-1074. -/
def rmag (r : Nat) : Nat := if r < 4503599627370496 then r else (4503599627370496 + r % 4503599627370496) * 2 ^ (r / 4503599627370496 - 1)
theorem rmag_form (e k : Nat) (h : e = 0 ∨ 4503599627370496 ≤ k) (hk : k ≤ 9007199254740992) : rmag (e * 4503599627370496 + k) = k * 2 ^ e := by
  unfold rmag
  by_cases h1 : k < 4503599627370496
  · have he : e = 0 := by omega
    subst he
    rw [if_pos (by omega)]; simp
  · rw [if_neg (by omega)]
    by_cases h2 : k = 9007199254740992
    · have a1 : (e * 4503599627370496 + k) / 4503599627370496 = e + 2 := by omega
      have a2 : (e * 4503599627370496 + k) % 4503599627370496 = 0 := by omega
      rw [a1, a2, show e + 2 - 1 = e + 1 from rfl, Nat.pow_succ, h2]
      rw [Nat.mul_comm (2 ^ e) 2, ← Nat.mul_assoc]
    · have a1 : (e * 4503599627370496 + k) / 4503599627370496 = e + 1 := by omega
      have a2 : (e * 4503599627370496 + k) % 4503599627370496 = k - 4503599627370496 := by omega
      rw [a1, a2, show e + 1 - 1 = e from rfl, show 4503599627370496 + (k - 4503599627370496) = k by omega]
/-- Every rung has the form. -/
theorem rmag_parts (r : Nat) : ∃ e k, r = e * 4503599627370496 + k ∧ (e = 0 ∨ 4503599627370496 ≤ k) ∧ k < 9007199254740992 ∧ e = r / 4503599627370496 - 1 := by
  by_cases h : r < 4503599627370496
  · exact ⟨0, r, by omega, .inl rfl, by omega, by omega⟩
  · exact ⟨r / 4503599627370496 - 1, r - (r / 4503599627370496 - 1) * 4503599627370496, by omega, .inr (by omega), by omega, rfl⟩
theorem rmag_succ (r : Nat) : rmag (r + 1) = rmag r + 2 ^ (r / 4503599627370496 - 1) := by
  obtain ⟨e, k, hr, h, hk, he⟩ := rmag_parts r
  rw [← he, hr, Nat.add_assoc, rmag_form e k h (by omega), rmag_form e (k + 1) (by omega) (by omega), Nat.add_mul, Nat.one_mul]
theorem rmag_lt_succ (r : Nat) : rmag r < rmag (r + 1) := by
  rw [rmag_succ]; have := Nat.two_pow_pos (r / 4503599627370496 - 1); omega
theorem rmag_lt {r s : Nat} (h : r < s) : rmag r < rmag s := by
  induction s with
  | zero => omega
  | succ s ih =>
    have := rmag_lt_succ s
    by_cases h1 : r = s
    · subst h1; exact this
    · have := ih (by omega); omega
theorem rmag_le {r s : Nat} (h : r ≤ s) : rmag r ≤ rmag s := by
  rcases Nat.lt_or_eq_of_le h with h | h
  · exact Nat.le_of_lt (rmag_lt h)
  · rw [h]; exact Nat.le_refl _
theorem lt_of_rmag {r s : Nat} (h : rmag r < rmag s) : r < s := by
  rcases Nat.lt_or_ge r s with h1 | h1
  · exact h1
  · have := rmag_le h1; omega
theorem le_rmag (r : Nat) : r ≤ rmag r := by
  induction r with
  | zero => omega
  | succ r ih => have := rmag_lt_succ r; omega
def infK : Nat := 9218868437227405312
end Go.Proofs.Ytokglpemefkmjaa
namespace Go.Proofs.Ytokglpemefkmjaa
open Ieee
set_option linter.unusedVariables false
theorem dbl_binade : double.binade = 4503599627370496 := by decide
theorem dbl_inf : double.infRung = infK := by decide
theorem dbl_sign : double.signWeight = 9223372036854775808 := by decide
theorem dbl_least : double.leastPlace = -1074 := by decide
def fneg (x : Nat) : Bool := x / 9223372036854775808 % 2 == 1
def frung (x : Nat) : Nat := x % 9223372036854775808
theorem read_fin {x : Nat} (h : frung x < infK) : ∃ m p, double.read x = .number (fneg x) m p ∧ -1074 ≤ p ∧ m * 2 ^ (p + 1074).toNat = rmag (frung x) ∧ m < 9007199254740992 ∧ (p = -1074 ∨ 4503599627370496 ≤ m) := by
  unfold Format.read
  simp only [dbl_binade, dbl_inf, dbl_sign, dbl_least]
  have hf : x % 9223372036854775808 = frung x := rfl
  rw [hf]
  unfold rmag
  by_cases h1 : frung x < 4503599627370496
  · rw [if_pos h1, if_pos h1]
    exact ⟨_, _, rfl, by omega, by simp, by omega, .inl rfl⟩
  · rw [if_neg h1, if_pos h, if_neg h1]
    refine ⟨_, _, rfl, by omega, ?_, by omega, .inr (by omega)⟩
    congr 2
    omega
theorem read_inf {x : Nat} (h : frung x = infK) : double.read x = .infinity (fneg x) := by
  unfold Format.read
  simp only [dbl_binade, dbl_inf, dbl_sign, dbl_least]
  have hf : x % 9223372036854775808 = frung x := rfl
  rw [hf, h]
  rfl
theorem read_nan {x : Nat} (h : infK < frung x) : double.read x = .nan (fneg x) (frung x - infK) := by
  unfold Format.read
  simp only [dbl_binade, dbl_inf, dbl_sign, dbl_least]
  have hf : x % 9223372036854775808 = frung x := rfl
  rw [hf]
  have : infK = 9218868437227405312 := rfl
  rw [if_neg (by omega), if_neg (by omega), if_neg (by omega)]
  rfl
end Go.Proofs.Ytokglpemefkmjaa
namespace Go.Proofs.Ytokglpemefkmjaa
open Ieee
set_option linter.unusedVariables false
def Fin (x : Nat) : Prop := frung x < infK
instance (x : Nat) : Decidable (Fin x) := inferInstanceAs (Decidable (frung x < infK))
def fval (x : Nat) : Int := if fneg x then -(rmag (frung x) : Int) else rmag (frung x)
theorem signed_eq (neg : Bool) (m u : Nat) : signed neg m u = if neg then -((m * 2 ^ u : Nat) : Int) else ((m * 2 ^ u : Nat) : Int) := by
  unfold signed; rw [Nat.shiftLeft_eq]
/-- How far both are shifted. -/
theorem shifted (m : Nat) (i b : Int) (hb : b ≤ i) (hi : -1074 ≤ b) : m * 2 ^ (i + 1074).toNat = m * 2 ^ (i - b).toNat * 2 ^ (b + 1074).toNat := by
  rw [Nat.mul_assoc, ← Nat.pow_add]; congr 2; omega
theorem signed_fval {x : Nat} {m : Nat} {p : Int} (hv : m * 2 ^ (p + 1074).toNat = rmag (frung x)) (b : Int) (hb : b ≤ p) (hb1 : -1074 ≤ b) :
    signed (fneg x) m (p - b).toNat * 2 ^ (b + 1074).toNat = fval x := by
  rw [signed_eq]
  unfold fval
  rw [← hv, shifted m p b hb hb1]
  generalize (p - b).toNat = u
  generalize (b + 1074).toNat = v
  cases fneg x
  · simp only [Bool.false_eq_true, if_false]; rw [Int.natCast_mul (m * 2 ^ u), Int.natCast_pow]; rfl
  · simp only [if_true]; rw [Int.natCast_mul (m * 2 ^ u), Int.natCast_pow, Int.neg_mul]; rfl
end Go.Proofs.Ytokglpemefkmjaa
namespace Go.Proofs.Ytokglpemefkmjaa
open Ieee
set_option linter.unusedVariables false
def srung (x : Nat) : Int := if fneg x then -(frung x : Int) else frung x
theorem icmp (x y : Int) : compare x y = if x < y then .lt else if x = y then .eq else .gt := rfl
theorem fval_srung (x y : Nat) : compare (fval x) (fval y) = compare (srung x) (srung y) := by
  have key : (fval x < fval y ↔ srung x < srung y) ∧ (fval x = fval y ↔ srung x = srung y) := by
    unfold fval srung
    have l1 : rmag (frung x) < rmag (frung y) ↔ frung x < frung y := ⟨lt_of_rmag, rmag_lt⟩
    have l2 : rmag (frung y) < rmag (frung x) ↔ frung y < frung x := ⟨lt_of_rmag, rmag_lt⟩
    have z1 : frung x ≤ rmag (frung x) := le_rmag _
    have z2 : frung y ≤ rmag (frung y) := le_rmag _
    have z3 : rmag (frung x) = 0 ↔ frung x = 0 := ⟨fun h => by omega, fun h => by rw [h]; rfl⟩
    have z4 : rmag (frung y) = 0 ↔ frung y = 0 := ⟨fun h => by omega, fun h => by rw [h]; rfl⟩
    generalize rmag (frung x) = a at *
    generalize rmag (frung y) = b at *
    cases fneg x <;> cases fneg y <;> simp only [Bool.false_eq_true, if_false, if_true] <;> omega
  rw [icmp, icmp]
  simp only [key.1, key.2]
theorem compare_scale (x y : Int) (c : Int) (hc : 0 < c) : compare (x * c) (y * c) = compare x y := by
  have h1 : x * c < y * c ↔ x < y := ⟨fun h => Int.lt_of_mul_lt_mul_right h (Int.le_of_lt hc), fun h => Int.mul_lt_mul_of_pos_right h hc⟩
  have h2 : x * c = y * c ↔ x = y := ⟨fun h => Int.eq_of_mul_eq_mul_right (by omega) h, fun h => by rw [h]⟩
  rw [icmp, icmp]
  simp only [h1, h2]
theorem order_rung {x y : Nat} (hx : frung x ≤ infK) (hy : frung y ≤ infK) : double.order x y = some (compare (srung x) (srung y)) := by
  unfold Format.order
  rcases Nat.lt_or_eq_of_le hx with fx | fx <;> rcases Nat.lt_or_eq_of_le hy with fy | fy
  · obtain ⟨m, i, h1, h2, h3, _⟩ := read_fin fx
    obtain ⟨n, j, k1, k2, k3, _⟩ := read_fin fy
    rw [h1, k1, ← fval_srung]
    simp only [Datum.order]
    rw [← signed_fval h3 (min i j) (by omega) (by omega), ← signed_fval k3 (min i j) (by omega) (by omega), compare_scale _ _ _ (Int.pow_pos (by decide))]
  · obtain ⟨m, i, h1, h2, h3, _⟩ := read_fin fx
    rw [h1, read_inf fy]
    simp only [Datum.order, srung]
    have : infK = 9218868437227405312 := rfl
    cases fneg x <;> cases fneg y <;> simp only [Bool.false_eq_true, if_false, if_true, icmp]
    all_goals first | (rw [if_pos (by omega)]) | (rw [if_neg (by omega), if_neg (by omega)])
  · obtain ⟨n, j, k1, k2, k3, _⟩ := read_fin fy
    rw [k1, read_inf fx]
    simp only [Datum.order, srung]
    have : infK = 9218868437227405312 := rfl
    cases fneg x <;> cases fneg y <;> simp only [Bool.false_eq_true, if_false, if_true, icmp]
    all_goals first | (rw [if_pos (by omega)]) | (rw [if_neg (by omega), if_neg (by omega)])
  · rw [read_inf fx, read_inf fy]
    simp only [Datum.order, srung, fx, fy]
    cases fneg x <;> cases fneg y <;> decide
theorem order_nan {x y : Nat} (h : infK < frung x ∨ infK < frung y) : double.order x y = none := by
  unfold Format.order
  rcases h with h | h
  · rw [read_nan h]; rfl
  · rw [read_nan h]; cases double.read x <;> rfl
end Go.Proofs.Ytokglpemefkmjaa
namespace Go.Proofs.Ytokglpemefkmjaa
open Ieee
set_option linter.unusedVariables false
end Go.Proofs.Ytokglpemefkmjaa
namespace Go.Proofs.Ytokglpemefkmjaa
open Ieee
set_option linter.unusedVariables false
end Go.Proofs.Ytokglpemefkmjaa
namespace Go.Proofs.Ytokglpemefkmjaa
open Ieee
set_option linter.unusedVariables false
end Go.Proofs.Ytokglpemefkmjaa
namespace Go.Proofs.Ytokglpemefkmjaa
set_option linter.unusedVariables false
end Go.Proofs.Ytokglpemefkmjaa
namespace Go.Proofs.Ytokglpemefkmjaa
set_option linter.unusedVariables false
end Go.Proofs.Ytokglpemefkmjaa
namespace Go.Proofs.Ytokglpemefkmjaa
set_option linter.unusedVariables false
end Go.Proofs.Ytokglpemefkmjaa
namespace Go.Proofs.Ytokglpemefkmjaa
set_option linter.unusedVariables false
end Go.Proofs.Ytokglpemefkmjaa
namespace Go.Proofs.Ytokglpemefkmjaa
open Ieee
set_option linter.unusedVariables false
end Go.Proofs.Ytokglpemefkmjaa
namespace Go.Proofs.Ytokglpemefkmjaa
open Ieee
set_option linter.unusedVariables false
end Go.Proofs.Ytokglpemefkmjaa
namespace Go.Proofs.Ytokglpemefkmjaa
open Ieee
set_option linter.unusedVariables false
end Go.Proofs.Ytokglpemefkmjaa
namespace Go.Proofs.Ytokglpemefkmjaa
open Ieee
set_option linter.unusedVariables false
end Go.Proofs.Ytokglpemefkmjaa
namespace Go.Proofs.Ytokglpemefkmjaa
open Ieee
set_option linter.unusedVariables false
end Go.Proofs.Ytokglpemefkmjaa
namespace Go.Proofs.Ytokglpemefkmjaa
open Ieee
set_option linter.unusedVariables false
end Go.Proofs.Ytokglpemefkmjaa
namespace Go.Proofs.Ytokglpemefkmjaa
open Ieee
set_option linter.unusedVariables false
end Go.Proofs.Ytokglpemefkmjaa
namespace Go.Proofs.Ytokglpemefkmjaa
open Ieee
set_option linter.unusedVariables false
end Go.Proofs.Ytokglpemefkmjaa
namespace Go.Proofs.Ytokglpemefkmjaa
set_option linter.unusedVariables false
end Go.Proofs.Ytokglpemefkmjaa
namespace Go.Proofs.Ytokglpemefkmjaa
set_option linter.unusedVariables false
end Go.Proofs.Ytokglpemefkmjaa
namespace Go.Proofs.Ytokglpemefkmjaa
set_option linter.unusedVariables false
end Go.Proofs.Ytokglpemefkmjaa
namespace Go.Proofs.Ytokglpemefkmjaa
set_option linter.unusedVariables false
end Go.Proofs.Ytokglpemefkmjaa
namespace Go.Proofs.Ytokglpemefkmjaa
set_option linter.unusedVariables false
open Ieee
end Go.Proofs.Ytokglpemefkmjaa
namespace Go.Proofs.Ytokglpemefkmjaa
set_option linter.unusedVariables false
end Go.Proofs.Ytokglpemefkmjaa
namespace Go.Proofs.Ytokglpemefkmjaa
set_option linter.unusedVariables false
end Go.Proofs.Ytokglpemefkmjaa

namespace Go.Proofs.Ytokglpemefkmjaa
open Go.RowKit
set_option linter.unusedVariables false
theorem w64 (n : Int) (h : -9223372036854775808 ≤ n ∧ n ≤ 9223372036854775807) : wrap64 n = n := by unfold wrap64; omega
/-! ### shapes -/
def szF : List Int → Int → Int × Int
  | [], n => (n, 0)
  | x :: xs, n => if x < 1 ∨ 256 / n < x then (0, 60) else szF xs (n * x)
def szV (p : Int × Int) : Value := .tuple #[.int .i64 p.1, .int .i64 p.2]
theorem szF_bad (x : Int) (xs : List Int) (n : Int) (h : x < 1 ∨ 256 / n < x) : szF (x :: xs) n = (0, 60) := by simp only [szF]; rw [if_pos h]
theorem szF_ok (x : Int) (xs : List Int) (n : Int) (h : ¬ (x < 1 ∨ 256 / n < x)) : szF (x :: xs) n = szF xs (n * x) := by simp only [szF]; rw [if_neg h]
theorem mul_le_256 {n x : Int} (h1 : 1 ≤ n) (h2 : 1 ≤ x) (h3 : x ≤ 256 / n) : 1 ≤ n * x ∧ n * x ≤ 256 := by
  have h4 : n * x ≤ n * (256 / n) := Int.mul_le_mul_of_nonneg_left h3 (by omega)
  have h5 := Int.mul_ediv_self_le (x := 256) (k := n) (by omega)
  have h6 : 1 * 1 ≤ n * x := Int.mul_le_mul h1 h2 (by omega) (by omega)
  omega
theorem ix3 (a b c : Int) (w : World) : (Instr.index 68 (.agg #[.int .i64 a, .int .i64 b, .int .i64 c]) (.int .i64 0)).run Try.prog w = .ok (.int .i64 a) w ∧ (Instr.index 68 (.agg #[.int .i64 a, .int .i64 b, .int .i64 c]) (.int .i64 1)).run Try.prog w = .ok (.int .i64 b) w ∧ (Instr.index 68 (.agg #[.int .i64 a, .int .i64 b, .int .i64 c]) (.int .i64 2)).run Try.prog w = .ok (.int .i64 c) w := ⟨by kernel_rfl, by kernel_rfl, by kernel_rfl⟩
set_option maxRecDepth 100000 in
theorem size_any (c h k : Int) (w : World) :
    Calls Try.prog 21 #[.agg #[.int .i64 c, .int .i64 h, .int .i64 k]] w fun e w' => e = .returned (szV (szF [c, h, k] 1)) ∧ Below w.heap.size w w' := by
  go_enter Try.func21, Try.ntmps21
  go_wp2_with fail
  go_loopg [4, 14] 3 (fun g v u wx => ∃ (n : Int) (i : Nat), v = .int .i64 n ∧ u = .int .i64 i ∧ i + g = 3 ∧ 1 ≤ n ∧ n ≤ 256 ∧ Below w.heap.size w wx ∧ Hid (szF ([c, h, k].drop i) n = szF [c, h, k] 1))
  case atStart => exact ⟨1, 0, rfl, rfl, by omega, by omega, by omega, (Below.refl _ w).alloc (Nat.le_refl _) _, rfl⟩
  case round =>
    obtain ⟨n, i, rfl, rfl, hi, h1, h2, hb, HR⟩ := hrel
    have hz : (n == 0) = false := by simp; omega
    have hq : Int.tdiv 256 n = 256 / n := Int.tdiv_eq_ediv_of_nonneg (by decide)
    have hlo : ∀ x : Int, ¬ (x < 1 ∨ 256 / n < x) → 1 ≤ n * x ∧ n * x ≤ 256 := fun x hx => mul_le_256 h1 (by omega) (by omega)
    have hq2 : 0 ≤ 256 / n ∧ 256 / n ≤ 256 := ⟨Int.ediv_nonneg (by decide) (by omega), Int.ediv_le_self _ (by decide)⟩
    obtain ⟨q, hqd⟩ : ∃ q, 256 / n = q := ⟨_, rfl⟩
    obtain rfl | rfl | rfl | rfl : i = 0 ∨ i = 1 ∨ i = 2 ∨ i = 3 := by omega
    · have hR := HR.out
      have hix := (ix3 c h k wr).1
      clear HR
      by_cases hx : c < 1
      · have H1 : Hid (szF [c, h, k] 1 = (0, 60)) := hR.symm.trans (szF_bad c _ n (.inl hx))
        clear hR hlo hq hq2 hqd
        have hd : decide (c < 1) = true := decide_eq_true hx
        go_wp2
        go_ret2
        exact ⟨by rw [H1.out]; rfl, hb⟩
      · have hd : decide (c < 1) = false := decide_eq_false hx
        by_cases hy : 256 / n < c
        · have H1 : Hid (szF [c, h, k] 1 = (0, 60)) := hR.symm.trans (szF_bad c _ n (.inr hy))
          rw [hqd] at hq hq2 hy
          have hwq : wrap64 q = q := w64 q (by omega)
          clear hR hlo hq2 hqd
          have hd2 : decide (q < c) = true := decide_eq_true hy
          go_wp2
          go_ret2
          exact ⟨by rw [H1.out]; rfl, hb⟩
        · have hm := hlo c (by omega)
          have H1 : Hid (szF ([c, h, k].drop 1) (n * c) = szF [c, h, k] 1) := (szF_ok c _ n (by omega)).symm.trans hR
          rw [hqd] at hq hq2 hy
          have hwq : wrap64 q = q := w64 q (by omega)
          clear hR hlo hq2 hqd
          have hd2 : decide (q < c) = false := decide_eq_false hy
          have hwr : wrap64 (n * c) = n * c := w64 _ (by omega)
          go_wp2
          go_roundg 2
          case measure => omega
          case rel => exact ⟨n * c, 1, rfl, rfl, by omega, hm.1, hm.2, hb, H1⟩
    · have hR := HR.out
      have hix := (ix3 c h k wr).2.1
      clear HR
      by_cases hx : h < 1
      · have H1 : Hid (szF [c, h, k] 1 = (0, 60)) := hR.symm.trans (szF_bad h _ n (.inl hx))
        clear hR hlo hq hq2 hqd
        have hd : decide (h < 1) = true := decide_eq_true hx
        go_wp2
        go_ret2
        exact ⟨by rw [H1.out]; rfl, hb⟩
      · have hd : decide (h < 1) = false := decide_eq_false hx
        by_cases hy : 256 / n < h
        · have H1 : Hid (szF [c, h, k] 1 = (0, 60)) := hR.symm.trans (szF_bad h _ n (.inr hy))
          rw [hqd] at hq hq2 hy
          have hwq : wrap64 q = q := w64 q (by omega)
          clear hR hlo hq2 hqd
          have hd2 : decide (q < h) = true := decide_eq_true hy
          go_wp2
          go_ret2
          exact ⟨by rw [H1.out]; rfl, hb⟩
        · have hm := hlo h (by omega)
          have H1 : Hid (szF ([c, h, k].drop 2) (n * h) = szF [c, h, k] 1) := (szF_ok h _ n (by omega)).symm.trans hR
          rw [hqd] at hq hq2 hy
          have hwq : wrap64 q = q := w64 q (by omega)
          clear hR hlo hq2 hqd
          have hd2 : decide (q < h) = false := decide_eq_false hy
          have hwr : wrap64 (n * h) = n * h := w64 _ (by omega)
          go_wp2
          go_roundg 1
          case measure => omega
          case rel => exact ⟨n * h, 2, rfl, rfl, by omega, hm.1, hm.2, hb, H1⟩
    · have hR := HR.out
      have hix := (ix3 c h k wr).2.2
      clear HR
      by_cases hx : k < 1
      · have H1 : Hid (szF [c, h, k] 1 = (0, 60)) := hR.symm.trans (szF_bad k _ n (.inl hx))
        clear hR hlo hq hq2 hqd
        have hd : decide (k < 1) = true := decide_eq_true hx
        go_wp2
        go_ret2
        exact ⟨by rw [H1.out]; rfl, hb⟩
      · have hd : decide (k < 1) = false := decide_eq_false hx
        by_cases hy : 256 / n < k
        · have H1 : Hid (szF [c, h, k] 1 = (0, 60)) := hR.symm.trans (szF_bad k _ n (.inr hy))
          rw [hqd] at hq hq2 hy
          have hwq : wrap64 q = q := w64 q (by omega)
          clear hR hlo hq2 hqd
          have hd2 : decide (q < k) = true := decide_eq_true hy
          go_wp2
          go_ret2
          exact ⟨by rw [H1.out]; rfl, hb⟩
        · have hm := hlo k (by omega)
          have H1 : Hid (szF ([c, h, k].drop 3) (n * k) = szF [c, h, k] 1) := (szF_ok k _ n (by omega)).symm.trans hR
          rw [hqd] at hq hq2 hy
          have hwq : wrap64 q = q := w64 q (by omega)
          clear hR hlo hq2 hqd
          have hd2 : decide (q < k) = false := decide_eq_false hy
          have hwr : wrap64 (n * k) = n * k := w64 _ (by omega)
          go_wp2
          go_roundg 0
          case measure => omega
          case rel => exact ⟨n * k, 3, rfl, rfl, by omega, hm.1, hm.2, hb, H1⟩
    · have H1 : Hid (szF [c, h, k] 1 = (n, 0)) := HR.out.symm
      clear HR
      go_wp2
      go_ret2
      exact ⟨by rw [H1.out]; rfl, hb⟩
end Go.Proofs.Ytokglpemefkmjaa

namespace Go.Proofs.Ytokglpemefkmjaa
open Go.RowKit
set_option linter.unusedVariables false
set_option maxRecDepth 100000 in
theorem holds_any (a b n : Int) (w : World) :
    Calls Try.prog 55 #[.agg #[.int .i64 a, .int .i64 b], .int .i64 n] w fun e w' => e = .returned (.bool (decide (a ≤ n) && decide (n ≤ b))) ∧ Below w.heap.size w w' := by
  by_cases h : a ≤ n
  · have hd : decide (a ≤ n) = true := decide_eq_true h
    rw [hd, Bool.true_and]
    clear h
    go_enter Try.func55, Try.ntmps55
    go_wp2
    go_ret
    exact ⟨rfl, (Below.refl _ w).alloc (Nat.le_refl _) _⟩
  · have hd : decide (a ≤ n) = false := decide_eq_false h
    rw [hd, Bool.false_and]
    clear h
    go_enter Try.func55, Try.ntmps55
    go_wp2
    go_ret
    exact ⟨rfl, (Below.refl _ w).alloc (Nat.le_refl _) _⟩

/-! ### numbers -/
theorem call_bits (u : Nat) (w : World) : (callFunc 44 #[.float .f64 u]).run Try.prog w = .ok (.value (.int .u64 u)) w := by kernel_rfl
theorem call_from (n : Int) (w : World) : (callFunc 65 #[.int .u64 n]).run Try.prog w = .ok (.value (.float .f64 n.toNat)) w := by kernel_rfl
theorem bits_any (u : Nat) (w : World) : Calls Try.prog 31 #[.float .f64 u] w fun e w' => e = .returned (.int .u64 u) ∧ w' = w := by
  have hcb := call_bits
  go_enter Try.func31, Try.ntmps31
  go_wp2
  go_ret
  exact ⟨rfl, rfl⟩
theorem abs_any (u : Nat) (hu : u < 18446744073709551616) (w : World) : Calls Try.prog 64 #[.float .f64 u] w fun e w' => e = .returned (.float .f64 (frung u)) ∧ w' = w := by
  have hcb := call_bits
  have hcf := call_from
  have HE : Hid _ := u64_andNot_nat u 9223372036854775808 hu (by decide)
  go_enter Try.func64, Try.ntmps64
  go_wp2
  go_ret
  refine ⟨?_, rfl⟩
  have h := HE.out
  rw [show ((9223372036854775808 : Nat) : Int) = 9223372036854775808 from rfl] at h
  rw [h, Int.toNat_natCast, show 18446744073709551615 - 9223372036854775808 = 2 ^ 63 - 1 by decide, Nat.and_two_pow_sub_one_eq_mod]
  rfl
theorem ord_le {x y : Nat} : (Ieee.double.order x y == some .lt || Ieee.double.order x y == some .eq) = decide (frung x ≤ infK ∧ frung y ≤ infK ∧ srung x ≤ srung y) := by
  by_cases hx : frung x ≤ infK
  · by_cases hy : frung y ≤ infK
    · rw [order_rung hx hy, icmp]
      by_cases h1 : srung x < srung y
      · have : srung x ≤ srung y := by omega
        simp [h1, hx, hy, this]
      · by_cases h2 : srung x = srung y
        · simp [h2, hx, hy]
        · have : ¬ srung x ≤ srung y := by omega
          simp [h1, h2, this]
    · rw [order_nan (.inr (by omega))]; simp [hy]
  · rw [order_nan (.inl (by omega))]; simp [hx]
theorem f64_fmt : FloatKind.f64.format = Ieee.double := rfl
theorem numberM_any (u : Nat) (hu : u < 18446744073709551616) (w : World) : Calls Try.prog 56 #[.float .f64 u] w fun e w' => e = .returned (.bool (decide (Fin u))) ∧ w' = w := by
  have hE : (FloatKind.f64.format.order (frung u) 9218868437227405311 == some .lt || FloatKind.f64.format.order (frung u) 9218868437227405311 == some .eq) = decide (Fin u) := by
    rw [f64_fmt, ord_le]
    have h1 : frung (frung u) = frung u := by unfold frung; omega
    have h2 : srung (frung u) = frung u := by
      unfold srung fneg; rw [h1]
      have : frung u / 9223372036854775808 = 0 := by unfold frung; omega
      rw [this]; rfl
    have h3 : srung 9218868437227405311 = 9218868437227405311 := by decide
    have h4 : frung 9218868437227405311 = 9218868437227405311 := by decide
    rw [h1, h2, h3, h4]
    unfold Fin infK
    congr 1
    apply propext
    omega
  have HE : Hid _ := hE
  clear hE
  go_enter Try.func56, Try.ntmps56
  go_wp2_with (go_at_call 64; refine (abs_any u hu _).mono ?_; rintro e w' ⟨rfl, rfl⟩)
  go_ret
  exact ⟨by rw [← HE.out]; rfl, rfl⟩
/-- THE SLICE OF FLOATS '.slice ao len cap' READS AS us (their bits). -/
structure RdF (w : World) (ao : Option Addr) (len cap : Nat) (us : List Nat) : Prop where
  length : us.length = len
  max : len ≤ maxLen
  lt : ∀ u ∈ us, u < 18446744073709551616
  cells : len = 0 ∨ ∃ b off, ao = some ⟨b, off, none⟩ ∧ ∀ j, j < len → w.cell? ⟨b, off + j, none⟩ = some (.float .f64 (us[j]?.getD 0))
theorem RdF.later {w w' : World} {ao : Option Addr} {len cap : Nat} {us : List Nat} (h : RdF w ao len cap us) (hb : Below w.heap.size w w') : RdF w' ao len cap us := by
  refine ⟨h.length, h.max, h.lt, ?_⟩
  rcases h.cells with h0 | ⟨b, off, ha, hc⟩
  · exact .inl h0
  · refine .inr ⟨b, off, ha, fun j hj => ?_⟩
    have hlt := World.block_lt_of_cell? w _ (hc j hj)
    rw [hb.cell (p := ⟨b, off + j, none⟩) hlt]
    exact hc j hj
theorem getD_mem {us : List Nat} {j : Nat} (h : j < us.length) : us[j]?.getD 0 ∈ us := by
  rw [List.getElem?_eq_getElem h]; exact List.getElem_mem h
def numsB (us : List Nat) : Bool := us.all fun u => decide (Fin u)
theorem numsB_drop (us : List Nat) {k : Nat} (h : k < us.length) : numsB (us.drop k) = (decide (Fin (us[k]?.getD 0)) && numsB (us.drop (k + 1))) := by
  unfold numsB
  rw [List.drop_eq_getElem_cons h, List.all_cons, List.getElem?_eq_getElem h]
  rfl
theorem maxLen_le : maxLen ≤ 9223372036854775807 := by decide
end Go.Proofs.Ytokglpemefkmjaa

namespace Go.Proofs.Ytokglpemefkmjaa
open Go.RowKit
set_option linter.unusedVariables false
def inB (a n b : Int) : Bool := decide (a ≤ n) && decide (n ≤ b)
theorem holds_in (a b n : Int) (w : World) :
    Calls Try.prog 55 #[.agg #[.int .i64 a, .int .i64 b], .int .i64 n] w fun e w' => e = .returned (.bool (inB a n b)) ∧ Below w.heap.size w w' := holds_any a b n w
end Go.Proofs.Ytokglpemefkmjaa

namespace Go.Proofs.Ytokglpemefkmjaa
open Go.RowKit
set_option linter.unusedVariables false
theorem blk_lt {w : World} {B : Nat} {o : Obj} (h : w.heap[B]? = some o) : B < w.heap.size := (Array.getElem?_eq_some_iff.1 h).1
theorem kept {X w1 : World} {B : Nat} {o : Obj} (hb : Below X.heap.size X w1) (h : X.heap[B]? = some o) : w1.heap[B]? = some o := (hb.block B (blk_lt h)).trans h
theorem alloc_kept {w : World} {B : Nat} {o : Obj} (h : w.heap[B]? = some o) (o' : Obj) : (w.alloc o').heap[B]? = some o := by rw [Below.heap_alloc w o' B (blk_lt h)]; exact h
theorem alloc_size (w : World) (o : Obj) : (w.alloc o).heap.size = w.heap.size + 1 := Array.size_push ..
theorem heap_at (w : World) (o : Obj) (B : Nat) (h : w.heap.size = B) : (w.alloc o).heap[B]? = some o := h ▸ heap_alloc_new w o
theorem to_call {w X w1 : World} (h : Below w.heap.size w X) (hb : Below X.heap.size X w1) : Below w.heap.size w w1 := h.trans (hb.mono h.size)
theorem cells3 {W : World} {B : Nat} {v0 v1 v2 : Value} {t : TypeId} (h : W.heap[B]? = some (.cells #[v0, v1, v2] t)) :
    W.cell? ⟨B, 0, none⟩ = some v0 ∧ W.cell? ⟨B, 1, none⟩ = some v1 ∧ W.cell? ⟨B, 2, none⟩ = some v2 :=
  ⟨cell_of_row _ _ 0 _ _ _ h, cell_of_row _ _ 1 _ _ _ h, cell_of_row _ _ 2 _ _ _ h⟩
theorem cells14 {W : World} {B : Nat} {v0 v1 v2 v3 v4 v5 v6 v7 v8 v9 v10 v11 v12 v13 : Value} {t : TypeId} (h : W.heap[B]? = some (.cells #[v0, v1, v2, v3, v4, v5, v6, v7, v8, v9, v10, v11, v12, v13] t)) :
    W.cell? ⟨B, 0, none⟩ = some v0 ∧ W.cell? ⟨B, 1, none⟩ = some v1 ∧ W.cell? ⟨B, 2, none⟩ = some v2 ∧ W.cell? ⟨B, 3, none⟩ = some v3 ∧ W.cell? ⟨B, 4, none⟩ = some v4 ∧ W.cell? ⟨B, 5, none⟩ = some v5 ∧ W.cell? ⟨B, 6, none⟩ = some v6 ∧ W.cell? ⟨B, 7, none⟩ = some v7 ∧ W.cell? ⟨B, 8, none⟩ = some v8 ∧ W.cell? ⟨B, 9, none⟩ = some v9 ∧ W.cell? ⟨B, 10, none⟩ = some v10 ∧ W.cell? ⟨B, 11, none⟩ = some v11 ∧ W.cell? ⟨B, 12, none⟩ = some v12 ∧ W.cell? ⟨B, 13, none⟩ = some v13 :=
  ⟨cell_of_row _ _ 0 _ _ _ h, cell_of_row _ _ 1 _ _ _ h, cell_of_row _ _ 2 _ _ _ h, cell_of_row _ _ 3 _ _ _ h, cell_of_row _ _ 4 _ _ _ h, cell_of_row _ _ 5 _ _ _ h, cell_of_row _ _ 6 _ _ _ h, cell_of_row _ _ 7 _ _ _ h, cell_of_row _ _ 8 _ _ _ h, cell_of_row _ _ 9 _ _ _ h, cell_of_row _ _ 10 _ _ _ h, cell_of_row _ _ 11 _ _ _ h, cell_of_row _ _ 12 _ _ _ h, cell_of_row _ _ 13 _ _ _ h⟩
end Go.Proofs.Ytokglpemefkmjaa

namespace Go.Proofs.Ytokglpemefkmjaa
open Go.RowKit
set_option linter.unusedVariables false
theorem inB_iff {a n b : Int} : inB a n b = true ↔ a ≤ n ∧ n ≤ b := by unfold inB; simp
end Go.Proofs.Ytokglpemefkmjaa

namespace Go.Proofs.Ytokglpemefkmjaa
open Go.RowKit
set_option linter.unusedVariables false
theorem Try.infoForm : (Try.prog.info? 87).map (·.size) = some 24 := by kernel_rfl
theorem Try.infoShape : (Try.prog.info? 25).map (·.size) = some 3 := by kernel_rfl
/-- A whole row into a block: what comes behind knows the block, and that nothing else changed. -/
theorem wpList_store_row {P : Program} {ops : Array Oper} {rest : List Oper} {op : Oper} {a : Act} {w : World} {Q : Exit → Act → World → Prop} (hgd : op.guard = none) (ty : TypeId) (x y : Operand) (ho : op.op = .store ty x y)
    (w0 : World) (base B : Nat) (c cur : Array Value) (hx : a.eval x = .pointer (some ⟨B, 0, none⟩)) (hy : a.eval y = .agg c) (hB : w.heap[B]? = some (.cells cur ty)) (hb : Below base w0 w) (hbB : base ≤ B)
    (n : Nat) (hi : (P.info? ty).map (·.size) = some n) (hn : c.size = n) (hc : cur.size = n) (h1 : c.all (·.oneCell') = true)
    (h : ∀ W, W.heap[B]? = some (.cells c ty) → Below base w0 W → W.heap.size = w.heap.size → (∀ k, k ≠ B → W.heap[k]? = w.heap[k]?) → wpList P ops Q rest (a.put op.dst undef) W) : wpList P ops Q (op :: rest) a w := by
  refine wpList_plain hgd fun K hK => ?_
  have hs := run_storeVar_row (P := P) _ _ ty ty cur c hB (hn ▸ hi) (hc.trans hn.symm) h1
  unfold Oper.wp execOp
  simp only [ho, hx, hy, Instr.storeAt, Instr.sureAddr, Sem.run_bind, Sem.run_pure, Result.andThen_ok, hs]
  exact hK _ _ (h _ (setRow_heap w B _ _ ty _ hB) (below_setRow hb hbB _) (by simp [World.setRow]) (fun k hk => setRow_other w B k _ hk))
/-- Some cells into a block, from a place on. -/
theorem wpList_store_at {P : Program} {ops : Array Oper} {rest : List Oper} {op : Oper} {a : Act} {w : World} {Q : Exit → Act → World → Prop} (hgd : op.guard = none) (ty : TypeId) (x y : Operand) (ho : op.op = .store ty x y)
    (w0 : World) (base B o : Nat) (v : Value) (cur c : Array Value) (t : TypeId) (hx : a.eval x = .pointer (some ⟨B, o, none⟩)) (hy : a.eval y = v) (hB : w.heap[B]? = some (.cells cur t)) (hb : Below base w0 w) (hbB : base ≤ B)
    (n : Nat) (hi : (P.info? ty).map (·.size) = some n) (hn : v.cells.size = n) (hl : o + n ≤ cur.size) (h1 : ∀ u ∈ v.cells.toList, u.oneCell' = true)
    (hc : (cur.toList.take o ++ v.cells.toList ++ cur.toList.drop (o + n)).toArray = c)
    (h : ∀ W, W.heap[B]? = some (.cells c t) → Below base w0 W → W.heap.size = w.heap.size → (∀ k, k ≠ B → W.heap[k]? = w.heap[k]?) → wpList P ops Q rest (a.put op.dst undef) W) : wpList P ops Q (op :: rest) a w := by
  refine wpList_plain hgd fun K hK => ?_
  have hs := run_storeCells_at (P := P) B o t v.cells.toList 0 cur w hB (by simp [hn]; omega) h1
  simp only [Nat.add_zero, Array.length_toList, hn] at hs
  rw [hc] at hs
  have hs2 : (storeVar ty ⟨B, o, none⟩ v).run P w = .ok () (w.setRow B c) := by
    cases hq : P.info? ty with
    | none => simp [hq] at hi
    | some i =>
      have hz : v.cells.size = i.size := by simp [hq] at hi; omega
      simp [storeVar, sizeOf, typeInfo, hq, hz, hs]
  unfold Oper.wp execOp
  simp only [ho, hx, hy, Instr.storeAt, Instr.sureAddr, Sem.run_bind, Sem.run_pure, Result.andThen_ok, hs2]
  exact hK _ _ (h _ (setRow_heap w B _ _ t _ hB) (below_setRow hb hbB _) (by simp [World.setRow]) (fun k hk => setRow_other w B k _ hk))
theorem one_int (x : Int) : ∀ u ∈ (Value.int .i64 x).cells.toList, u.oneCell' = true := by
  intro u hu
  simp only [Value.cells, List.mem_cons, List.not_mem_nil, or_false] at hu
  subst hu; rfl
theorem one_int2 (x y : Int) : ∀ u ∈ (Value.agg #[.int .i64 x, .int .i64 y]).cells.toList, u.oneCell' = true := by
  intro u hu
  simp only [Value.cells, List.mem_cons, List.not_mem_nil, or_false] at hu
  rcases hu with rfl | rfl <;> rfl
theorem one_int3 (x y z : Int) : ∀ u ∈ (Value.agg #[.int .i64 x, .int .i64 y, .int .i64 z]).cells.toList, u.oneCell' = true := by
  intro u hu
  simp only [Value.cells, List.mem_cons, List.not_mem_nil, or_false] at hu
  rcases hu with rfl | rfl | rfl <;> rfl
theorem Try.infoInt : (Try.prog.info? 3).map (·.size) = some 1 := by kernel_rfl
theorem Try.infoBound : (Try.prog.info? 84).map (·.size) = some 2 := by kernel_rfl
/-- A whole row out of a block. -/
theorem wpList_load_row {P : Program} {ops : Array Oper} {rest : List Oper} {op : Oper} {a : Act} {w : World} {Q : Exit → Act → World → Prop} (hgd : op.guard = none) (ty : TypeId) (x : Operand) (ho : op.op = .load ty x)
    (B : Nat) (c : Array Value) (hx : a.eval x = .pointer (some ⟨B, 0, none⟩)) (hB : w.heap[B]? = some (.cells c ty)) (d : TypeDesc) (hu : P.underlying ty = some d) (hd : d.isRow = true)
    (n : Nat) (hi : (P.info? ty).map (·.size) = some n) (hn : c.size = n)
    (h : wpList P ops Q rest (a.put op.dst (.agg c)) w) : wpList P ops Q (op :: rest) a w := by
  have hr : w.rangeAt B 0 c.toList := by
    have := World.rangeAt_of_block hB 0 c.size
    simpa using this
  refine wpList_load_mid hgd ty x ho B 0 hx c.toList d hr hu hd (by simpa [hn] using hi) ?_
  simpa using h
/-- A struct that is built, by its run. -/
theorem wpList_build {P : Program} {ops : Array Oper} {rest : List Oper} {op : Oper} {a : Act} {w : World} {Q : Exit → Act → World → Prop} (hgd : op.guard = none) (ty : TypeId) (parts : Array (Nat × Operand)) (ho : op.op = .build ty parts)
    (vals : Array (Nat × Value)) (hv : (parts.map fun p => (p.1, a.eval p.2)) = vals) (v : Value) (hr : ∀ w, (Instr.build ty vals).run P w = .ok v w)
    (h : wpList P ops Q rest (a.put op.dst v) w) : wpList P ops Q (op :: rest) a w := by
  refine wpList_plain hgd fun K hK => ?_
  unfold Oper.wp execOp
  simp only [ho, hv, hr, Sem.run_bind, Sem.run_pure, Result.andThen_ok]
  exact hK _ _ h
theorem one24 (y0 y1 y2 y3 y4 y5 y6 y7 y8 y9 y10 y11 y12 y13 y14 y15 y16 y17 y18 y19 y20 y21 y22 y23 : Int) : (#[.int .i64 y0, .int .i64 y1, .int .i64 y2, .int .i64 y3, .int .i64 y4, .int .i64 y5, .int .i64 y6, .int .i64 y7, .int .i64 y8, .int .i64 y9, .int .i64 y10, .int .i64 y11, .int .i64 y12, .int .i64 y13, .int .i64 y14, .int .i64 y15, .int .i64 y16, .int .i64 y17, .int .i64 y18, .int .i64 y19, .int .i64 y20, .int .i64 y21, .int .i64 y22, .int .i64 y23] : Array Value).all (·.oneCell') = true := by
  simp only [Array.all_eq_true_iff_forall_mem]
  intro v hv
  simp only [List.mem_toArray, List.mem_cons, List.not_mem_nil, or_false] at hv
  rcases hv with rfl | rfl | rfl | rfl | rfl | rfl | rfl | rfl | rfl | rfl | rfl | rfl | rfl | rfl | rfl | rfl | rfl | rfl | rfl | rfl | rfl | rfl | rfl | rfl <;> rfl
theorem res_form (f : Func) (i j : Nat) (hf : f.results = #[ResultVar.cell i 87, ResultVar.tmp j]) (tmps : Array Value) (W : World) (B : Nat) (c : Array Value) (v : Value) (hp : tmps[i]? = some (.pointer (some ⟨B, 0, none⟩))) (hv : tmps[j]? = some v)
    (hc : c.size = 24) (h : W.heap[B]? = some (.cells c 87)) : (results f tmps).run Try.prog W = .ok (.tuple #[.agg c, v]) W := by
  have hr : W.rangeAt B 0 c.toList := by
    have := World.rangeAt_of_block h 0 c.size
    simpa using this
  have hl := run_loadVar_mid (P := Try.prog) W B 0 87 c.toList _ hr Try.underlying87 rfl (by rw [Try.infoForm]; simp [hc])
  have hl2 : (loadVar 87 ⟨B, 0, none⟩).run Try.prog W = .ok (.agg c) W := by simpa using hl
  simp [results, hf, hp, hv, hl2, asAddr]
end Go.Proofs.Ytokglpemefkmjaa

namespace Go.Proofs.Ytokglpemefkmjaa
open Go.RowKit
set_option linter.unusedVariables false
theorem ix8_0 (g0 g1 g2 g3 g4 g5 g6 g7 : Int) (w : World) : (Instr.index 103 (.agg #[.int .i64 g0, .int .i64 g1, .int .i64 g2, .int .i64 g3, .int .i64 g4, .int .i64 g5, .int .i64 g6, .int .i64 g7]) (.int .i64 0)).run Try.prog w = .ok (.int .i64 g0) w := by kernel_rfl
theorem ix8_1 (g0 g1 g2 g3 g4 g5 g6 g7 : Int) (w : World) : (Instr.index 103 (.agg #[.int .i64 g0, .int .i64 g1, .int .i64 g2, .int .i64 g3, .int .i64 g4, .int .i64 g5, .int .i64 g6, .int .i64 g7]) (.int .i64 1)).run Try.prog w = .ok (.int .i64 g1) w := by kernel_rfl
theorem ix8_2 (g0 g1 g2 g3 g4 g5 g6 g7 : Int) (w : World) : (Instr.index 103 (.agg #[.int .i64 g0, .int .i64 g1, .int .i64 g2, .int .i64 g3, .int .i64 g4, .int .i64 g5, .int .i64 g6, .int .i64 g7]) (.int .i64 2)).run Try.prog w = .ok (.int .i64 g2) w := by kernel_rfl
theorem ix8_3 (g0 g1 g2 g3 g4 g5 g6 g7 : Int) (w : World) : (Instr.index 103 (.agg #[.int .i64 g0, .int .i64 g1, .int .i64 g2, .int .i64 g3, .int .i64 g4, .int .i64 g5, .int .i64 g6, .int .i64 g7]) (.int .i64 3)).run Try.prog w = .ok (.int .i64 g3) w := by kernel_rfl
theorem ix8_4 (g0 g1 g2 g3 g4 g5 g6 g7 : Int) (w : World) : (Instr.index 103 (.agg #[.int .i64 g0, .int .i64 g1, .int .i64 g2, .int .i64 g3, .int .i64 g4, .int .i64 g5, .int .i64 g6, .int .i64 g7]) (.int .i64 4)).run Try.prog w = .ok (.int .i64 g4) w := by kernel_rfl
theorem ix8_5 (g0 g1 g2 g3 g4 g5 g6 g7 : Int) (w : World) : (Instr.index 103 (.agg #[.int .i64 g0, .int .i64 g1, .int .i64 g2, .int .i64 g3, .int .i64 g4, .int .i64 g5, .int .i64 g6, .int .i64 g7]) (.int .i64 5)).run Try.prog w = .ok (.int .i64 g5) w := by kernel_rfl
theorem ix8_6 (g0 g1 g2 g3 g4 g5 g6 g7 : Int) (w : World) : (Instr.index 103 (.agg #[.int .i64 g0, .int .i64 g1, .int .i64 g2, .int .i64 g3, .int .i64 g4, .int .i64 g5, .int .i64 g6, .int .i64 g7]) (.int .i64 6)).run Try.prog w = .ok (.int .i64 g6) w := by kernel_rfl
theorem ix8_7 (g0 g1 g2 g3 g4 g5 g6 g7 : Int) (w : World) : (Instr.index 103 (.agg #[.int .i64 g0, .int .i64 g1, .int .i64 g2, .int .i64 g3, .int .i64 g4, .int .i64 g5, .int .i64 g6, .int .i64 g7]) (.int .i64 7)).run Try.prog w = .ok (.int .i64 g7) w := by kernel_rfl
theorem cellAt {W : World} {B : Nat} {c : Array Value} {t : TypeId} (h : W.heap[B]? = some (.cells c t)) (o : Nat) (v : Value) (hv : c[o]? = some v) : W.cell? ⟨B, o, none⟩ = some v := (cell_of_row _ _ o _ _ _ h).trans hv
theorem inB_true {a n b : Int} (h : a ≤ n ∧ n ≤ b) : inB a n b = true := inB_iff.2 h
set_option maxRecDepth 100000 in
set_option maxHeartbeats 2000000 in
theorem fields_ok (l0 l1 l2 l3 l4 l5 l6 l7 m0 m1 m2 m3 m4 m5 m6 m7 g0 g1 g2 g3 g4 g5 g6 g7 c h k n1 n2 n3 n4 K : Int) (v1 v2 v3 v4 : Value) (q0 : l0 ≤ g0 ∧ g0 ≤ m0) (q1 : l1 ≤ g1 ∧ g1 ≤ m1) (q2 : l2 ≤ g2 ∧ g2 ≤ m2) (q3 : l3 ≤ g3 ∧ g3 ≤ m3) (q4 : l4 ≤ g4 ∧ g4 ≤ m4) (q5 : l5 ≤ g5 ∧ g5 ≤ m5) (q6 : l6 ≤ g6 ∧ g6 ≤ m6) (q7 : l7 ≤ g7 ∧ g7 ≤ m7) (w : World) :
    Calls Try.prog 46 #[.agg #[.int .i64 l0, .int .i64 m0, .int .i64 l1, .int .i64 m1, .int .i64 l2, .int .i64 m2, .int .i64 l3, .int .i64 m3, .int .i64 l4, .int .i64 m4, .int .i64 l5, .int .i64 m5, .int .i64 l6, .int .i64 m6, .int .i64 l7, .int .i64 m7, .int .i64 0, .int .i64 c, .int .i64 h, .int .i64 k, .int .i64 n1, .int .i64 n2, .int .i64 n3, .int .i64 n4], .agg #[.int .i64 K, .int .i64 g0, .int .i64 g1, .int .i64 g2, .int .i64 g3, .int .i64 g4, .int .i64 g5, .int .i64 g6, .int .i64 g7, .float .f64 0, v1, v2, v3, v4]] w fun e w' => e = .returned (.int .i64 0) ∧ Below w.heap.size w w' := by
  go_enter Try.func46, Try.ntmps46
  go_upto_region 2 with fail
  go_loopg [24] 8 (fun g v wx => ∃ (i : Nat), v = .int .i64 i ∧ i + g = 8 ∧ Hid (Below w.heap.size w wx) ∧ Hid (wx.heap[w.heap.size]? = some (.cells #[.int .i64 l0, .int .i64 m0, .int .i64 l1, .int .i64 m1, .int .i64 l2, .int .i64 m2, .int .i64 l3, .int .i64 m3, .int .i64 l4, .int .i64 m4, .int .i64 l5, .int .i64 m5, .int .i64 l6, .int .i64 m6, .int .i64 l7, .int .i64 m7, .int .i64 0, .int .i64 c, .int .i64 h, .int .i64 k, .int .i64 n1, .int .i64 n2, .int .i64 n3, .int .i64 n4] 87) ∧ wx.heap[w.heap.size + 1]? = some (.cells #[.int .i64 K, .int .i64 g0, .int .i64 g1, .int .i64 g2, .int .i64 g3, .int .i64 g4, .int .i64 g5, .int .i64 g6, .int .i64 g7, .float .f64 0, v1, v2, v3, v4] 30)))
  case atStart => exact ⟨0, rfl, by omega, (((Below.refl _ w).alloc (Nat.le_refl _) _).alloc (by simp only [alloc_size]; omega) _), alloc_kept (heap_alloc_new w _) _, heap_at _ _ (w.heap.size + 1) (by simp only [alloc_size])⟩
  case round =>
    obtain ⟨i, rfl, hi, HB, HK⟩ := hrel
    obtain rfl | rfl | rfl | rfl | rfl | rfl | rfl | rfl | rfl : i = 0 ∨ i = 1 ∨ i = 2 ∨ i = 3 ∨ i = 4 ∨ i = 5 ∨ i = 6 ∨ i = 7 ∨ i = 8 := by omega
    · have hix := ix8_0 g0 g1 g2 g3 g4 g5 g6 g7 wr
      have c0 := cellAt HK.out.1 0 (.int .i64 l0) rfl
      have c1 := cellAt HK.out.1 1 (.int .i64 m0) rfl
      have HH : Hid _ := holds_in l0 m0 g0 wr
      rw [inB_true q0] at HH
      clear q0 q1 q2 q3 q4 q5 q6 q7
      go_wp2_with fail
      refine Calls.mono HH.out ?_
      rintro e w2 ⟨rfl, hb⟩
      have HB2 : Hid (Below w.heap.size w w2) := to_call HB.out hb
      have HK2 : Hid _ := (And.intro (kept hb HK.out.1) (kept hb HK.out.2))
      clear hb HH c0 c1 hix HB HK
      go_wp2
      go_roundg 7
      case measure => omega
      case rel => exact ⟨1, rfl, by omega, HB2, HK2⟩
    · have hix := ix8_1 g0 g1 g2 g3 g4 g5 g6 g7 wr
      have c0 := cellAt HK.out.1 2 (.int .i64 l1) rfl
      have c1 := cellAt HK.out.1 3 (.int .i64 m1) rfl
      have HH : Hid _ := holds_in l1 m1 g1 wr
      rw [inB_true q1] at HH
      clear q0 q1 q2 q3 q4 q5 q6 q7
      go_wp2_with fail
      refine Calls.mono HH.out ?_
      rintro e w2 ⟨rfl, hb⟩
      have HB2 : Hid (Below w.heap.size w w2) := to_call HB.out hb
      have HK2 : Hid _ := (And.intro (kept hb HK.out.1) (kept hb HK.out.2))
      clear hb HH c0 c1 hix HB HK
      go_wp2
      go_roundg 6
      case measure => omega
      case rel => exact ⟨2, rfl, by omega, HB2, HK2⟩
    · have hix := ix8_2 g0 g1 g2 g3 g4 g5 g6 g7 wr
      have c0 := cellAt HK.out.1 4 (.int .i64 l2) rfl
      have c1 := cellAt HK.out.1 5 (.int .i64 m2) rfl
      have HH : Hid _ := holds_in l2 m2 g2 wr
      rw [inB_true q2] at HH
      clear q0 q1 q2 q3 q4 q5 q6 q7
      go_wp2_with fail
      refine Calls.mono HH.out ?_
      rintro e w2 ⟨rfl, hb⟩
      have HB2 : Hid (Below w.heap.size w w2) := to_call HB.out hb
      have HK2 : Hid _ := (And.intro (kept hb HK.out.1) (kept hb HK.out.2))
      clear hb HH c0 c1 hix HB HK
      go_wp2
      go_roundg 5
      case measure => omega
      case rel => exact ⟨3, rfl, by omega, HB2, HK2⟩
    · have hix := ix8_3 g0 g1 g2 g3 g4 g5 g6 g7 wr
      have c0 := cellAt HK.out.1 6 (.int .i64 l3) rfl
      have c1 := cellAt HK.out.1 7 (.int .i64 m3) rfl
      have HH : Hid _ := holds_in l3 m3 g3 wr
      rw [inB_true q3] at HH
      clear q0 q1 q2 q3 q4 q5 q6 q7
      go_wp2_with fail
      refine Calls.mono HH.out ?_
      rintro e w2 ⟨rfl, hb⟩
      have HB2 : Hid (Below w.heap.size w w2) := to_call HB.out hb
      have HK2 : Hid _ := (And.intro (kept hb HK.out.1) (kept hb HK.out.2))
      clear hb HH c0 c1 hix HB HK
      go_wp2
      go_roundg 4
      case measure => omega
      case rel => exact ⟨4, rfl, by omega, HB2, HK2⟩
    · have hix := ix8_4 g0 g1 g2 g3 g4 g5 g6 g7 wr
      have c0 := cellAt HK.out.1 8 (.int .i64 l4) rfl
      have c1 := cellAt HK.out.1 9 (.int .i64 m4) rfl
      have HH : Hid _ := holds_in l4 m4 g4 wr
      rw [inB_true q4] at HH
      clear q0 q1 q2 q3 q4 q5 q6 q7
      go_wp2_with fail
      refine Calls.mono HH.out ?_
      rintro e w2 ⟨rfl, hb⟩
      have HB2 : Hid (Below w.heap.size w w2) := to_call HB.out hb
      have HK2 : Hid _ := (And.intro (kept hb HK.out.1) (kept hb HK.out.2))
      clear hb HH c0 c1 hix HB HK
      go_wp2
      go_roundg 3
      case measure => omega
      case rel => exact ⟨5, rfl, by omega, HB2, HK2⟩
    · have hix := ix8_5 g0 g1 g2 g3 g4 g5 g6 g7 wr
      have c0 := cellAt HK.out.1 10 (.int .i64 l5) rfl
      have c1 := cellAt HK.out.1 11 (.int .i64 m5) rfl
      have HH : Hid _ := holds_in l5 m5 g5 wr
      rw [inB_true q5] at HH
      clear q0 q1 q2 q3 q4 q5 q6 q7
      go_wp2_with fail
      refine Calls.mono HH.out ?_
      rintro e w2 ⟨rfl, hb⟩
      have HB2 : Hid (Below w.heap.size w w2) := to_call HB.out hb
      have HK2 : Hid _ := (And.intro (kept hb HK.out.1) (kept hb HK.out.2))
      clear hb HH c0 c1 hix HB HK
      go_wp2
      go_roundg 2
      case measure => omega
      case rel => exact ⟨6, rfl, by omega, HB2, HK2⟩
    · have hix := ix8_6 g0 g1 g2 g3 g4 g5 g6 g7 wr
      have c0 := cellAt HK.out.1 12 (.int .i64 l6) rfl
      have c1 := cellAt HK.out.1 13 (.int .i64 m6) rfl
      have HH : Hid _ := holds_in l6 m6 g6 wr
      rw [inB_true q6] at HH
      clear q0 q1 q2 q3 q4 q5 q6 q7
      go_wp2_with fail
      refine Calls.mono HH.out ?_
      rintro e w2 ⟨rfl, hb⟩
      have HB2 : Hid (Below w.heap.size w w2) := to_call HB.out hb
      have HK2 : Hid _ := (And.intro (kept hb HK.out.1) (kept hb HK.out.2))
      clear hb HH c0 c1 hix HB HK
      go_wp2
      go_roundg 1
      case measure => omega
      case rel => exact ⟨7, rfl, by omega, HB2, HK2⟩
    · have hix := ix8_7 g0 g1 g2 g3 g4 g5 g6 g7 wr
      have c0 := cellAt HK.out.1 14 (.int .i64 l7) rfl
      have c1 := cellAt HK.out.1 15 (.int .i64 m7) rfl
      have HH : Hid _ := holds_in l7 m7 g7 wr
      rw [inB_true q7] at HH
      clear q0 q1 q2 q3 q4 q5 q6 q7
      go_wp2_with fail
      refine Calls.mono HH.out ?_
      rintro e w2 ⟨rfl, hb⟩
      have HB2 : Hid (Below w.heap.size w w2) := to_call HB.out hb
      have HK2 : Hid _ := (And.intro (kept hb HK.out.1) (kept hb HK.out.2))
      clear hb HH c0 c1 hix HB HK
      go_wp2
      go_roundg 0
      case measure => omega
      case rel => exact ⟨8, rfl, by omega, HB2, HK2⟩
    · have c0 := cellAt HK.out.1 16 (.int .i64 0) rfl
      have c1 := cellAt HK.out.2 9 (.float .f64 0) rfl
      have HA : Hid _ := bits_any 0 wr
      clear q0 q1 q2 q3 q4 q5 q6 q7
      go_wp2_with (go_at_call 31; refine Calls.mono HA.out ?_; rintro e w2 ⟨rfl, hw⟩; rw [hw]; clear hw)
      go_ret
      exact ⟨rfl, HB.out⟩
end Go.Proofs.Ytokglpemefkmjaa

namespace Go.Proofs.Ytokglpemefkmjaa
open Go.RowKit
set_option linter.unusedVariables false
theorem ixS0 (a b c d e f : Int) (w : World) : (Instr.index 98 (.agg #[.int .i64 a, .int .i64 b, .int .i64 c, .int .i64 d, .int .i64 e, .int .i64 f]) (.int .i64 0)).run Try.prog w = .ok (.agg #[.int .i64 a, .int .i64 b, .int .i64 c]) w := by kernel_rfl
theorem ixS1 (a b c d e f : Int) (w : World) : (Instr.index 98 (.agg #[.int .i64 a, .int .i64 b, .int .i64 c, .int .i64 d, .int .i64 e, .int .i64 f]) (.int .i64 1)).run Try.prog w = .ok (.agg #[.int .i64 d, .int .i64 e, .int .i64 f]) w := by kernel_rfl
theorem size_of {c h k n : Int} (hs : szF [c, h, k] 1 = (n, 0)) (w : World) :
    Calls Try.prog 21 #[.agg #[.int .i64 c, .int .i64 h, .int .i64 k]] w fun e w' => e = .returned (.tuple #[.int .i64 n, .int .i64 0]) ∧ Below w.heap.size w w' := by
  have := size_any c h k w
  rw [hs] at this
  exact this
set_option maxRecDepth 100000 in
set_option maxHeartbeats 2000000 in
theorem fit_ok (y0 y1 y2 y3 y4 y5 y6 y7 y8 y9 y10 y11 y12 y13 y14 y15 y16 y17 y18 y19 y20 y21 y22 y23 c h k n n' : Int) (x0 x1 x2 x3 x4 x5 x6 x7 x8 x9 x10 x11 x12 x13 : Value) (w : World)
    (hF : ∀ w, Calls Try.prog 45 #[.agg #[x0, x1, x2, x3, x4, x5, x6, x7, x8, x9, x10, x11, x12, x13], .agg #[.int .i64 c, .int .i64 h, .int .i64 k]] w fun e w' => e = .returned (.tuple #[.agg #[.int .i64 y0, .int .i64 y1, .int .i64 y2, .int .i64 y3, .int .i64 y4, .int .i64 y5, .int .i64 y6, .int .i64 y7, .int .i64 y8, .int .i64 y9, .int .i64 y10, .int .i64 y11, .int .i64 y12, .int .i64 y13, .int .i64 y14, .int .i64 y15, .int .i64 y16, .int .i64 y17, .int .i64 y18, .int .i64 y19, .int .i64 y20, .int .i64 y21, .int .i64 y22, .int .i64 y23], .bool true]) ∧ Below w.heap.size w w')
    (hG : ∀ w, Calls Try.prog 46 #[.agg #[.int .i64 y0, .int .i64 y1, .int .i64 y2, .int .i64 y3, .int .i64 y4, .int .i64 y5, .int .i64 y6, .int .i64 y7, .int .i64 y8, .int .i64 y9, .int .i64 y10, .int .i64 y11, .int .i64 y12, .int .i64 y13, .int .i64 y14, .int .i64 y15, .int .i64 y16, .int .i64 y17, .int .i64 y18, .int .i64 y19, .int .i64 y20, .int .i64 y21, .int .i64 y22, .int .i64 y23], .agg #[x0, x1, x2, x3, x4, x5, x6, x7, x8, x9, x10, x11, x12, x13]] w fun e w' => e = .returned (.int .i64 0) ∧ Below w.heap.size w w')
    (hs : szF [c, h, k] 1 = (n, 0)) (ht : szF [y17, y18, y19] 1 = (n', 0)) :
    Calls Try.prog 35 #[.agg #[x0, x1, x2, x3, x4, x5, x6, x7, x8, x9, x10, x11, x12, x13], .agg #[.int .i64 c, .int .i64 h, .int .i64 k]] w fun e w' => e = .returned (.tuple #[.agg #[.int .i64 y0, .int .i64 y1, .int .i64 y2, .int .i64 y3, .int .i64 y4, .int .i64 y5, .int .i64 y6, .int .i64 y7, .int .i64 y8, .int .i64 y9, .int .i64 y10, .int .i64 y11, .int .i64 y12, .int .i64 y13, .int .i64 y14, .int .i64 y15, .int .i64 y16, .int .i64 y17, .int .i64 y18, .int .i64 y19, .int .i64 y20, .int .i64 y21, .int .i64 y22, .int .i64 y23], .int .i64 0]) ∧ Below w.heap.size w w' := by
  have HF : Hid _ := hF
  have HG : Hid _ := hG
  have HS : Hid (∀ w, Calls Try.prog 21 #[.agg #[.int .i64 c, .int .i64 h, .int .i64 k]] w fun e w' => e = .returned (.tuple #[.int .i64 n, .int .i64 0]) ∧ Below w.heap.size w w') := fun w => size_of hs w
  have HT : Hid (∀ w, Calls Try.prog 21 #[.agg #[.int .i64 y17, .int .i64 y18, .int .i64 y19]] w fun e w' => e = .returned (.tuple #[.int .i64 n', .int .i64 0]) ∧ Below w.heap.size w w') := fun w => size_of ht w
  clear hF hG hs ht
  go_enter Try.func35, Try.ntmps35
  go_wp2_with fail
  refine Calls.mono (HF.out _) ?_
  rintro e w1 ⟨rfl, hb⟩
  have HB1 : Hid (Below w.heap.size w w1) := to_call ((((Below.refl _ w).alloc (Nat.le_refl _) _).alloc (by simp only [alloc_size]; omega) _).alloc (by simp only [alloc_size]; omega) _) hb
  have k0 := kept hb (alloc_kept (alloc_kept (heap_alloc_new w _) _) _)
  have k1 := kept hb (alloc_kept (heap_at _ _ (w.heap.size + 1) (by simp only [alloc_size])) _)
  have k2 := kept hb (heap_at _ _ (w.heap.size + 1 + 1) (by simp only [alloc_size]))
  have HK : Hid (w1.heap[w.heap.size]? = _ ∧ w1.heap[w.heap.size + 1]? = _ ∧ w1.heap[w.heap.size + 1 + 1]? = _) := ⟨k0, k1, k2⟩
  have hsz := blk_lt k2
  clear k0 k1 k2 hb HF
  go_upto_region 4 with (first | (refine wpList_store_row (by rfl) 87 _ _ (by rfl) w w.heap.size w1.heap.size _ _ (by rfl) (by rfl) (heap_alloc_new w1 _) (HB1.out.alloc (by omega) _) (by omega) 24 Try.infoForm (by rfl) (by rfl) (by exact one24 ..) ?_; intro W2 e2 hb2 hs2 ho2))
  have HK2 : Hid (W2.heap[w.heap.size]? = _ ∧ W2.heap[w.heap.size + 1]? = _ ∧ W2.heap[w.heap.size + 1 + 1]? = _ ∧ W2.heap[w1.heap.size]? = _) := ⟨(ho2 _ (by omega)).trans (alloc_kept HK.out.1 _), (ho2 _ (by omega)).trans (alloc_kept HK.out.2.1 _), (ho2 _ (by omega)).trans (alloc_kept HK.out.2.2 _), e2⟩
  have HB2 : Hid (Below w.heap.size w W2) := hb2
  obtain ⟨a0, a1, a2, a3, a4, a5, a6, a7, a8, a9, a10, a11, a12, a13⟩ := cells14 HK2.out.1
  clear e2 hb2 hs2 ho2 HB1 HK
  go_wp2_with (first | (refine wpList_load_row (by rfl) 87 _ (by rfl) w1.heap.size _ (by rfl) HK2.out.2.2.2 _ Try.underlying87 rfl 24 Try.infoForm (by rfl) ?_))
  refine Calls.mono (HG.out _) ?_
  rintro e W3 ⟨rfl, hb⟩
  have HB3 : Hid (Below w.heap.size w W3) := to_call HB2.out hb
  have HK3 : Hid (W3.heap[w.heap.size + 1]? = _ ∧ W3.heap[w.heap.size + 1 + 1]? = _ ∧ W3.heap[w1.heap.size]? = _) := ⟨kept hb HK2.out.2.1, kept hb HK2.out.2.2.1, kept hb HK2.out.2.2.2⟩
  clear hb HK2 HB2 HG a0 a1 a2 a3 a4 a5 a6 a7 a8 a9 a10 a11 a12 a13
  obtain ⟨s0, s1, s2⟩ := cells3 HK3.out.1
  have t0 := cellAt HK3.out.2.2 17 (.int .i64 y17) rfl
  have t1 := cellAt HK3.out.2.2 18 (.int .i64 y18) rfl
  have t2 := cellAt HK3.out.2.2 19 (.int .i64 y19) rfl
  go_upto_region 8 with fail
  go_loopg [33] 2 (fun g v wx => ∃ (i : Nat), v = .int .i64 i ∧ i + g = 2 ∧ Hid (Below w.heap.size w wx) ∧ Hid (wx.heap[w.heap.size + 1 + 1]? = some (.cells _ 87) ∧ wx.heap[w1.heap.size]? = some (.cells #[.int .i64 y0, .int .i64 y1, .int .i64 y2, .int .i64 y3, .int .i64 y4, .int .i64 y5, .int .i64 y6, .int .i64 y7, .int .i64 y8, .int .i64 y9, .int .i64 y10, .int .i64 y11, .int .i64 y12, .int .i64 y13, .int .i64 y14, .int .i64 y15, .int .i64 y16, .int .i64 y17, .int .i64 y18, .int .i64 y19, .int .i64 y20, .int .i64 y21, .int .i64 y22, .int .i64 y23] 87)))
  case atStart => exact ⟨0, rfl, by omega, HB3, HK3.out.2.1, HK3.out.2.2⟩
  case round =>
    obtain ⟨i, rfl, hi, HB, HK⟩ := hrel
    have hsr := HB.out.size
    obtain rfl | rfl | rfl : i = 0 ∨ i = 1 ∨ i = 2 := by omega
    · have hix := ixS0 c h k y17 y18 y19
      go_wp2_with fail
      refine Calls.mono (HS.out _) ?_
      rintro e w5 ⟨rfl, hb⟩
      have HB5 : Hid (Below w.heap.size w w5) := to_call (HB.out.alloc (by omega) _) hb
      have HK5 : Hid _ := (And.intro (kept hb (alloc_kept HK.out.1 _)) (kept hb (alloc_kept HK.out.2 _)))
      clear hb hix HB HK
      go_wp2
      go_roundg 1
      case measure => omega
      case rel => exact ⟨1, rfl, by omega, HB5, HK5⟩
    · have hix := ixS1 c h k y17 y18 y19
      go_wp2_with fail
      refine Calls.mono (HT.out _) ?_
      rintro e w5 ⟨rfl, hb⟩
      have HB5 : Hid (Below w.heap.size w w5) := to_call (HB.out.alloc (by omega) _) hb
      have HK5 : Hid _ := (And.intro (kept hb (alloc_kept HK.out.1 _)) (kept hb (alloc_kept HK.out.2 _)))
      clear hb hix HB HK
      go_wp2
      go_roundg 0
      case measure => omega
      case rel => exact ⟨2, rfl, by omega, HB5, HK5⟩
    · go_wp2_with (first
        | (refine wpList_load_row (by rfl) 87 _ (by rfl) w1.heap.size _ (by rfl) HK.out.2 _ Try.underlying87 rfl 24 Try.infoForm (by rfl) ?_)
        | (refine wpList_store_row (by rfl) 87 _ _ (by rfl) w w.heap.size (w.heap.size + 1 + 1) _ _ (by rfl) (by rfl) HK.out.1 HB.out (by omega) 24 Try.infoForm (by rfl) (by rfl) (by exact one24 ..) ?_; intro W9 e9 hb9 hs9 ho9))
      refine bodyPost_ret (res_form _ 4 5 (by kernel_rfl) _ _ (w.heap.size + 1 + 1) _ _ (by rfl) (by rfl) rfl e9) rfl ?_
      exact ⟨rfl, hb9⟩
end Go.Proofs.Ytokglpemefkmjaa

namespace Go.Proofs.Ytokglpemefkmjaa
open Go.RowKit
set_option linter.unusedVariables false
theorem res_shape (f : Func) (i j : Nat) (hf : f.results = #[ResultVar.cell i 25, ResultVar.tmp j]) (tmps : Array Value) (W : World) (B : Nat) (c : Array Value) (v : Value) (hp : tmps[i]? = some (.pointer (some ⟨B, 0, none⟩))) (hv : tmps[j]? = some v)
    (hc : c.size = 3) (h : W.heap[B]? = some (.cells c 25)) : (results f tmps).run Try.prog W = .ok (.tuple #[.agg c, v]) W := by
  have hr : W.rangeAt B 0 c.toList := by
    have := World.rangeAt_of_block h 0 c.size
    simpa using this
  have hl := run_loadVar_mid (P := Try.prog) W B 0 25 c.toList _ hr Try.underlying25 rfl (by rw [Try.infoShape]; simp [hc])
  have hl2 : (loadVar 25 ⟨B, 0, none⟩).run Try.prog W = .ok (.agg c) W := by simpa using hl
  simp [results, hf, hp, hv, hl2, asAddr]
theorem one3 (a b c : Int) : (#[.int .i64 a, .int .i64 b, .int .i64 c] : Array Value).all (·.oneCell') = true := by
  simp only [Array.all_eq_true_iff_forall_mem]
  intro v hv
  simp only [List.mem_toArray, List.mem_cons, List.not_mem_nil, or_false] at hv
  rcases hv with rfl | rfl | rfl <;> rfl
set_option maxRecDepth 100000 in
set_option maxHeartbeats 2000000 in
theorem outOf (y0 y1 y2 y3 y4 y5 y6 y7 y8 y9 y10 y11 y12 y13 y14 y15 y16 y17 y18 y19 y20 y21 y22 y23 c h k : Int) (x0 x1 x2 x3 x4 x5 x6 x7 x8 x9 x10 x11 x12 x13 : Value) (w : World)
    (hF : ∀ w, Calls Try.prog 35 #[.agg #[x0, x1, x2, x3, x4, x5, x6, x7, x8, x9, x10, x11, x12, x13], .agg #[.int .i64 c, .int .i64 h, .int .i64 k]] w fun e w' => e = .returned (.tuple #[.agg #[.int .i64 y0, .int .i64 y1, .int .i64 y2, .int .i64 y3, .int .i64 y4, .int .i64 y5, .int .i64 y6, .int .i64 y7, .int .i64 y8, .int .i64 y9, .int .i64 y10, .int .i64 y11, .int .i64 y12, .int .i64 y13, .int .i64 y14, .int .i64 y15, .int .i64 y16, .int .i64 y17, .int .i64 y18, .int .i64 y19, .int .i64 y20, .int .i64 y21, .int .i64 y22, .int .i64 y23], .int .i64 0]) ∧ Below w.heap.size w w') :
    Calls Try.prog 20 #[.agg #[x0, x1, x2, x3, x4, x5, x6, x7, x8, x9, x10, x11, x12, x13], .agg #[.int .i64 c, .int .i64 h, .int .i64 k]] w fun e w' => e = .returned (.tuple #[.agg #[.int .i64 y17, .int .i64 y18, .int .i64 y19], .int .i64 0]) ∧ Below w.heap.size w w' := by
  have HF : Hid _ := hF
  clear hF
  go_enter Try.func20, Try.ntmps20
  go_wp2_with fail
  refine Calls.mono (HF.out _) ?_
  rintro e w1 ⟨rfl, hb⟩
  have HB1 : Hid (Below w.heap.size w w1) := to_call ((((Below.refl _ w).alloc (Nat.le_refl _) _).alloc (by simp only [alloc_size]; omega) _).alloc (by simp only [alloc_size]; omega) _) hb
  have HK : Hid (w1.heap[w.heap.size + 1 + 1]? = _) := kept hb (heap_at _ _ (w.heap.size + 1 + 1) (by simp only [alloc_size]))
  have hsz := blk_lt HK.out
  clear hb HF
  go_upto_region 2 with (first | (refine wpList_store_row (by rfl) 87 _ _ (by rfl) w w.heap.size w1.heap.size _ _ (by rfl) (by rfl) (heap_alloc_new w1 _) (HB1.out.alloc (by omega) _) (by omega) 24 Try.infoForm (by rfl) (by rfl) (by exact one24 ..) ?_; intro W2 e2 hb2 hs2 ho2))
  have HK2 : Hid (W2.heap[w.heap.size + 1 + 1]? = _) := (ho2 _ (by omega)).trans (alloc_kept HK.out _)
  have t0 := cellAt e2 17 (.int .i64 y17) rfl
  have t1 := cellAt e2 18 (.int .i64 y18) rfl
  have t2 := cellAt e2 19 (.int .i64 y19) rfl
  go_wp2_with (first
    | (refine wpList_store_row (by rfl) 25 _ _ (by rfl) w w.heap.size (w.heap.size + 1 + 1) _ _ (by rfl) (by rfl) HK2.out hb2 (by omega) 3 Try.infoShape (by rfl) (by rfl) (by exact one3 ..) ?_; intro W9 e9 hb9 hs9 ho9))
  refine bodyPost_ret (res_shape _ 4 5 (by kernel_rfl) _ _ (w.heap.size + 1 + 1) _ _ (by rfl) (by rfl) rfl e9) rfl ?_
  exact ⟨rfl, hb9⟩
end Go.Proofs.Ytokglpemefkmjaa

namespace Go.Proofs.Ytokglpemefkmjaa
open Go.RowKit
set_option linter.unusedVariables false
/-- A block that is written cell by cell. -/
structure Wq (w0 : World) (base B : Nat) (t : TypeId) (x W : World) (cur : Array Value) : Prop where
  blk : W.heap[B]? = some (.cells cur t)
  bel : Below base w0 W
  oth : ∀ k, k ≠ B → W.heap[k]? = x.heap[k]?
theorem Wq.step {w0 x W : World} {base B : Nat} {t : TypeId} {cur : Array Value} (hB : base ≤ B) (h : Wq w0 base B t x W cur) (o : Nat) (v : Value) : Wq w0 base B t x (W.setCell ⟨B, o, none⟩ v) (cur.setIfInBounds o v) := by
  have e : W.setCell ⟨B, o, none⟩ v = W.setRow B (cur.setIfInBounds o v) := setCell_eq_setRow W B o cur t (0, 0) v h.blk
  rw [e]
  exact ⟨setRow_heap W B _ _ t _ h.blk, below_setRow h.bel hB _, fun k hk => (setRow_other W B k _ hk).trans (h.oth k hk)⟩
theorem Wq.drew {w0 x W : World} {base B : Nat} {t : TypeId} {cur : Array Value} (h : Wq w0 base B t x W cur) : Wq w0 base B t x W.drew cur := ⟨h.blk, h.bel.drew, h.oth⟩
theorem frq {w : World} {B : Nat} {c : Array Value} {t : TypeId} (h : w.heap[B]? = some (.cells c t)) (o : Nat) : w.frozen? ⟨B, o, none⟩ = false := by simp [World.frozen?, h]
/-- One struct that is told. -/
theorem res_one (f : Func) (i : Nat) (ty : TypeId) (hf : f.results = #[ResultVar.cell i ty]) (tmps : Array Value) (W : World) (B : Nat) (c : Array Value) (hp : tmps[i]? = some (.pointer (some ⟨B, 0, none⟩)))
    (d : TypeDesc) (hu : Try.prog.underlying ty = some d) (hd : d.isRow = true) (n : Nat) (hi : (Try.prog.info? ty).map (·.size) = some n) (hc : c.size = n) (h : W.heap[B]? = some (.cells c ty)) : (results f tmps).run Try.prog W = .ok (.agg c) W := by
  have hr : W.rangeAt B 0 c.toList := by
    have := World.rangeAt_of_block h 0 c.size
    simpa using this
  have hl := run_loadVar_mid (P := Try.prog) W B 0 ty c.toList d hr hu hd (by rw [hi]; simp [hc])
  have hl2 : (loadVar ty ⟨B, 0, none⟩).run Try.prog W = .ok (.agg c) W := by simpa using hl
  simp [results, hf, hp, hl2, asAddr]
theorem res_tmp4 (f : Func) (i j k l : Nat) (hf : f.results = #[ResultVar.tmp i, ResultVar.tmp j, ResultVar.tmp k, ResultVar.tmp l]) (tmps : Array Value) (W : World) (a b c d : Value) (h1 : tmps[i]? = some a) (h2 : tmps[j]? = some b) (h3 : tmps[k]? = some c) (h4 : tmps[l]? = some d) : (results f tmps).run Try.prog W = .ok (.tuple #[a, b, c, d]) W := by
  simp [results, hf, h1, h2, h3, h4]
theorem res_tmp5 (f : Func) (i j k l m : Nat) (hf : f.results = #[ResultVar.tmp i, ResultVar.tmp j, ResultVar.tmp k, ResultVar.tmp l, ResultVar.tmp m]) (tmps : Array Value) (W : World) (a b c d e : Value) (h1 : tmps[i]? = some a) (h2 : tmps[j]? = some b) (h3 : tmps[k]? = some c) (h4 : tmps[l]? = some d) (h5 : tmps[m]? = some e) : (results f tmps).run Try.prog W = .ok (.tuple #[a, b, c, d, e]) W := by
  simp [results, hf, h1, h2, h3, h4, h5]
theorem sz112 : szF [1, 1, 2] 1 = (2, 0) := by decide
theorem sz211 : szF [2, 1, 1] 1 = (2, 0) := by decide
set_option maxRecDepth 100000 in
theorem turnedM (w : World) : Calls Try.prog 54 #[.int .i64 1, .int .i64 2] w fun e w' => e = .returned (.agg #[.int .i64 2, .int .i64 1, .int .i64 1]) ∧ Below w.heap.size w w' := by
  go_enter Try.func54, Try.ntmps54
  go_wp2_with (first | (refine wpList_store_row (by rfl) 25 _ _ (by rfl) w w.heap.size w.heap.size #[.int .i64 2, .int .i64 1, .int .i64 1] _ (by rfl) (by rfl) (heap_alloc_new w _) ((Below.refl _ w).alloc (Nat.le_refl _) _) (Nat.le_refl _) 3 Try.infoShape (by rfl) (by rfl) (by exact one3 ..) ?_; intro W2 e2 hb2 hs2 ho2))
  refine bodyPost_ret (res_one _ 4 25 (by kernel_rfl) _ _ w.heap.size _ (by rfl) _ Try.underlying25 rfl 3 Try.infoShape rfl e2) rfl ?_
  exact ⟨rfl, hb2⟩
set_option maxRecDepth 100000 in
set_option maxHeartbeats 1000000 in
theorem formTurn (v3 v4 : Value) (w : World) :
    Calls Try.prog 45 #[.agg #[.int .i64 6, .int .i64 1, .int .i64 0, .int .i64 0, .int .i64 0, .int .i64 0, .int .i64 0, .int .i64 0, .int .i64 0, .float .f64 0, .slice none 0 0, .slice none 0 0, v3, v4], .agg #[.int .i64 1, .int .i64 1, .int .i64 2]] w fun e w' =>
      e = .returned (.tuple #[.agg #[.int .i64 1, .int .i64 128, .int .i64 0, .int .i64 0, .int .i64 0, .int .i64 0, .int .i64 0, .int .i64 0, .int .i64 0, .int .i64 0, .int .i64 0, .int .i64 0, .int .i64 0, .int .i64 0, .int .i64 0, .int .i64 0, .int .i64 0, .int .i64 2, .int .i64 1, .int .i64 1, .int .i64 0, .int .i64 0, .int .i64 1, .int .i64 1], .bool true]) ∧ Below w.heap.size w w' := by
  have HS : Hid _ := fun w => size_of sz112 w
  have HT : Hid _ := turnedM
  go_enter Try.func45, Try.ntmps45
  go_wp2_with fail
  refine Calls.mono (HS.out _) ?_
  rintro e w1 ⟨rfl, hb⟩
  have HB1 : Hid (Below w.heap.size w w1) := to_call ((((Below.refl _ w).alloc (Nat.le_refl _) _).alloc (by simp only [alloc_size]; omega) _).alloc (by simp only [alloc_size]; omega) _) hb
  have k0 := kept hb (alloc_kept (alloc_kept (heap_alloc_new w _) _) _)
  have k1 := kept hb (alloc_kept (heap_at _ _ (w.heap.size + 1) (by simp only [alloc_size])) _)
  have k2 := kept hb (heap_at _ _ (w.heap.size + 1 + 1) (by simp only [alloc_size]))
  have HK : Hid (w1.heap[w.heap.size]? = _ ∧ w1.heap[w.heap.size + 1]? = _ ∧ w1.heap[w.heap.size + 1 + 1]? = _) := ⟨k0, k1, k2⟩
  have hsz := blk_lt k2
  obtain ⟨b0, b1, b2⟩ := cells3 k1
  clear k0 k1 k2 hb HS
  go_upto_region 27 with (first | (refine wpList_store_row (by rfl) 87 _ _ (by rfl) w w.heap.size w1.heap.size _ _ (by rfl) (by rfl) (heap_alloc_new w1 _) (HB1.out.alloc (by omega) _) (by omega) 24 Try.infoForm (by rfl) (by rfl) (by exact one24 ..) ?_; intro W2 e2 hb2 hs2 ho2; obtain ⟨a0, a1, a2, a3, a4, a5, a6, a7, a8, a9, a10, a11, a12, a13⟩ := cells14 ((ho2 _ (by omega)).trans (alloc_kept HK.out.1 _))))
  have HK2 : Hid (W2.heap[w.heap.size]? = _ ∧ W2.heap[w.heap.size + 1]? = _ ∧ W2.heap[w.heap.size + 1 + 1]? = _) := ⟨(ho2 _ (by omega)).trans (alloc_kept HK.out.1 _), (ho2 _ (by omega)).trans (alloc_kept HK.out.2.1 _), (ho2 _ (by omega)).trans (alloc_kept HK.out.2.2 _)⟩
  have hsW : w1.heap.size < W2.heap.size := blk_lt e2
  go_upto_region 28 with (first | (refine wpList_store_at (by rfl) 84 _ _ (by rfl) w w.heap.size w1.heap.size 0 (.agg #[.int .i64 1, .int .i64 128]) _ #[.int .i64 1, .int .i64 128, .int .i64 0, .int .i64 0, .int .i64 0, .int .i64 0, .int .i64 0, .int .i64 0, .int .i64 0, .int .i64 0, .int .i64 0, .int .i64 0, .int .i64 0, .int .i64 0, .int .i64 0, .int .i64 0, .int .i64 0, .int .i64 1, .int .i64 1, .int .i64 2, .int .i64 0, .int .i64 0, .int .i64 0, .int .i64 0] 87 (by rfl) (by rfl) e2 hb2 (by omega) 2 Try.infoBound (by rfl) (Nat.le_of_ble_eq_true rfl) (by exact one_int2 _ _) (by rfl) ?_; intro W3 e3 hb3 hs3 ho3))
  have HK3 : Hid (W3.heap[w.heap.size]? = _ ∧ W3.heap[w.heap.size + 1]? = _ ∧ W3.heap[w.heap.size + 1 + 1]? = _) := ⟨(ho3 _ (by omega)).trans HK2.out.1, (ho3 _ (by omega)).trans HK2.out.2.1, (ho3 _ (by omega)).trans HK2.out.2.2⟩
  have q1 := cellAt HK3.out.1 1 (.int .i64 1) rfl
  go_wp2_with fail
  refine Calls.mono (HT.out _) ?_
  rintro e w4 ⟨rfl, hb⟩
  have HB4 : Hid (Below w.heap.size w w4) := to_call hb3 hb
  have HK4 : Hid (w4.heap[w.heap.size]? = _ ∧ w4.heap[w.heap.size + 1]? = _ ∧ w4.heap[w.heap.size + 1 + 1]? = _) := ⟨kept hb HK3.out.1, kept hb HK3.out.2.1, kept hb HK3.out.2.2⟩
  have e4 := kept hb e3
  clear a0 a1 a2 a3 a4 a5 a6 a7 a8 a9 a10 a11 a12 a13 q1 b0 b1 b2 e2 hb2 hs2 ho2 hb3 hs3 ho3 e3 hb HK2 HK3 HT
  go_upto_region 29 with (first | (refine wpList_store_at (by rfl) 25 _ _ (by rfl) w w.heap.size w1.heap.size 17 (.agg #[.int .i64 2, .int .i64 1, .int .i64 1]) _ #[.int .i64 1, .int .i64 128, .int .i64 0, .int .i64 0, .int .i64 0, .int .i64 0, .int .i64 0, .int .i64 0, .int .i64 0, .int .i64 0, .int .i64 0, .int .i64 0, .int .i64 0, .int .i64 0, .int .i64 0, .int .i64 0, .int .i64 0, .int .i64 2, .int .i64 1, .int .i64 1, .int .i64 0, .int .i64 0, .int .i64 0, .int .i64 0] 87 (by rfl) (by rfl) e4 HB4.out (by omega) 3 Try.infoShape (by rfl) (Nat.le_of_ble_eq_true rfl) (by exact one_int3 _ _ _) (by rfl) ?_; intro W5 e5 hb5 hs5 ho5))
  have HK5 : Hid (W5.heap[w.heap.size]? = _ ∧ W5.heap[w.heap.size + 1]? = _ ∧ W5.heap[w.heap.size + 1 + 1]? = _) := ⟨(ho5 _ (by omega)).trans HK4.out.1, (ho5 _ (by omega)).trans HK4.out.2.1, (ho5 _ (by omega)).trans HK4.out.2.2⟩
  have q4 := cellAt HK5.out.1 1 (.int .i64 1) rfl
  have f22 := cellAt e5 22 (.int .i64 0) rfl
  have f23 := cellAt e5 23 (.int .i64 0) rfl
  have fz := frq e5
  have hne : (22 : Nat) ≠ 23 := by decide
  have hw1 : IntKind.i64.wrap 1 = 1 := by decide
  clear hs5 ho5 e4 HK4 HB4
  go_region
  all_goals
    have HWR : Wq w w.heap.size w1.heap.size 87 W5 _ _ := (((Wq.mk e5 hb5 (fun _ _ => rfl) : Wq w w.heap.size w1.heap.size 87 W5 W5 _).step (by omega) 22 (.int .i64 1)).step (by omega) 23 (.int .i64 1)).drew
    obtain ⟨W6, hW6⟩ : ∃ W6, ((W5.setCell ⟨w1.heap.size, 22, none⟩ (.int .i64 1)).setCell ⟨w1.heap.size, 23, none⟩ (.int .i64 1)).drew = W6 := ⟨_, rfl⟩
    rw [hW6]
    rw [hW6] at HWR
    clear hW6
    have e6 : W6.heap[w1.heap.size]? = some (.cells #[.int .i64 1, .int .i64 128, .int .i64 0, .int .i64 0, .int .i64 0, .int .i64 0, .int .i64 0, .int .i64 0, .int .i64 0, .int .i64 0, .int .i64 0, .int .i64 0, .int .i64 0, .int .i64 0, .int .i64 0, .int .i64 0, .int .i64 0, .int .i64 2, .int .i64 1, .int .i64 1, .int .i64 0, .int .i64 0, .int .i64 1, .int .i64 1] 87) := HWR.blk
    have hb6 := HWR.bel
    have ho6 := HWR.oth
    have HK6 : Hid (W6.heap[w.heap.size]? = _ ∧ W6.heap[w.heap.size + 1]? = _ ∧ W6.heap[w.heap.size + 1 + 1]? = _) := ⟨(ho6 _ (by omega)).trans HK5.out.1, (ho6 _ (by omega)).trans HK5.out.2.1, (ho6 _ (by omega)).trans HK5.out.2.2⟩
    clear HWR f22 f23 fz q4 HK5 hb5
    go_upto_region 32 with fail
    go_wp2_with (first
      | (refine wpList_load_row (by rfl) 87 _ (by rfl) w1.heap.size _ (by rfl) e6 _ Try.underlying87 rfl 24 Try.infoForm (by rfl) ?_)
      | (refine wpList_store_row (by rfl) 87 _ _ (by rfl) w w.heap.size (w.heap.size + 1 + 1) _ _ (by rfl) (by rfl) HK6.out.2.2 hb6 (by omega) 24 Try.infoForm (by rfl) (by rfl) (by exact one24 ..) ?_; intro W9 e9 hb9 hs9 ho9))
    refine bodyPost_ret (res_form _ 4 5 (by kernel_rfl) _ _ (w.heap.size + 1 + 1) _ _ (by rfl) (by rfl) rfl e9) rfl ?_
    exact ⟨rfl, hb9⟩
theorem fitTurn (v3 v4 : Value) (w : World) : Calls Try.prog 35 #[.agg #[.int .i64 6, .int .i64 1, .int .i64 0, .int .i64 0, .int .i64 0, .int .i64 0, .int .i64 0, .int .i64 0, .int .i64 0, .float .f64 0, .slice none 0 0, .slice none 0 0, v3, v4], .agg #[.int .i64 1, .int .i64 1, .int .i64 2]] w fun e w' => e = .returned (.tuple #[.agg #[.int .i64 1, .int .i64 128, .int .i64 0, .int .i64 0, .int .i64 0, .int .i64 0, .int .i64 0, .int .i64 0, .int .i64 0, .int .i64 0, .int .i64 0, .int .i64 0, .int .i64 0, .int .i64 0, .int .i64 0, .int .i64 0, .int .i64 0, .int .i64 2, .int .i64 1, .int .i64 1, .int .i64 0, .int .i64 0, .int .i64 1, .int .i64 1], .int .i64 0]) ∧ Below w.heap.size w w' :=
  fit_ok 1 128 0 0 0 0 0 0 0 0 0 0 0 0 0 0 0 2 1 1 0 0 1 1 1 1 2 2 2 (.int .i64 6) (.int .i64 1) (.int .i64 0) (.int .i64 0) (.int .i64 0) (.int .i64 0) (.int .i64 0) (.int .i64 0) (.int .i64 0) (.float .f64 0) (.slice none 0 0) (.slice none 0 0) v3 v4 w (fun w => formTurn v3 v4 w) (fun w => fields_ok 1 0 0 0 0 0 0 0 128 0 0 0 0 0 0 0 1 0 0 0 0 0 0 0 2 1 1 0 0 1 1 6 (.slice none 0 0) (.slice none 0 0) v3 v4 ⟨by omega, by omega⟩ ⟨Int.le_refl _, Int.le_refl _⟩ ⟨Int.le_refl _, Int.le_refl _⟩ ⟨Int.le_refl _, Int.le_refl _⟩ ⟨Int.le_refl _, Int.le_refl _⟩ ⟨Int.le_refl _, Int.le_refl _⟩ ⟨Int.le_refl _, Int.le_refl _⟩ ⟨Int.le_refl _, Int.le_refl _⟩ w) sz112 sz211
theorem outTurn (v3 v4 : Value) (w : World) : Calls Try.prog 20 #[.agg #[.int .i64 6, .int .i64 1, .int .i64 0, .int .i64 0, .int .i64 0, .int .i64 0, .int .i64 0, .int .i64 0, .int .i64 0, .float .f64 0, .slice none 0 0, .slice none 0 0, v3, v4], .agg #[.int .i64 1, .int .i64 1, .int .i64 2]] w fun e w' => e = .returned (.tuple #[.agg #[.int .i64 2, .int .i64 1, .int .i64 1], .int .i64 0]) ∧ Below w.heap.size w w' :=
  outOf 1 128 0 0 0 0 0 0 0 0 0 0 0 0 0 0 0 2 1 1 0 0 1 1 1 1 2 (.int .i64 6) (.int .i64 1) (.int .i64 0) (.int .i64 0) (.int .i64 0) (.int .i64 0) (.int .i64 0) (.int .i64 0) (.int .i64 0) (.float .f64 0) (.slice none 0 0) (.slice none 0 0) v3 v4 w (fun w => fitTurn v3 v4 w)
set_option maxRecDepth 100000 in
set_option maxHeartbeats 1000000 in
theorem listsTurn (v3 v4 : Value) (w : World) : Calls Try.prog 36 #[.agg #[.int .i64 6, .int .i64 1, .int .i64 0, .int .i64 0, .int .i64 0, .int .i64 0, .int .i64 0, .int .i64 0, .int .i64 0, .float .f64 0, .slice none 0 0, .slice none 0 0, v3, v4], .agg #[.int .i64 1, .int .i64 1, .int .i64 2]] w fun e w' => e = .returned (.tuple #[.int .i64 0, .int .i64 0, .int .i64 1, .int .i64 1, .int .i64 0]) ∧ Below w.heap.size w w' := by
  have HF : Hid _ := fun w => fitTurn v3 v4 w
  go_enter Try.func36, Try.ntmps36
  go_wp2_with fail
  refine Calls.mono (HF.out _) ?_
  rintro e w1 ⟨rfl, hb⟩
  have HB1 : Hid (Below w.heap.size w w1) := to_call (((Below.refl _ w).alloc (Nat.le_refl _) _).alloc (by simp only [alloc_size]; omega) _) hb
  have hsz := HB1.out.size
  clear hb HF
  go_upto_region 2 with (first | (refine wpList_store_row (by rfl) 87 _ _ (by rfl) w w.heap.size w1.heap.size _ _ (by rfl) (by rfl) (heap_alloc_new w1 _) (HB1.out.alloc (by omega) _) (by omega) 24 Try.infoForm (by rfl) (by rfl) (by exact one24 ..) ?_; intro W2 e2 hb2 hs2 ho2))
  have t0 := cellAt e2 20 (.int .i64 0) rfl
  have t1 := cellAt e2 21 (.int .i64 0) rfl
  have t2 := cellAt e2 22 (.int .i64 1) rfl
  have t3 := cellAt e2 23 (.int .i64 1) rfl
  clear e2 hs2 ho2
  go_quiet (fail)
  go_wp2_with fail
  refine bodyPost_ret (res_tmp5 _ 4 5 6 7 8 (by kernel_rfl) _ _ _ _ _ _ _ (by rfl) (by rfl) (by rfl) (by rfl) (by rfl)) rfl ?_
  exact ⟨rfl, below_drewN hb2 _⟩
end Go.Proofs.Ytokglpemefkmjaa

namespace Go.Proofs.Ytokglpemefkmjaa
open Go.RowKit
set_option linter.unusedVariables false
theorem info3 {P : Program} {t : TypeId} {z : Value} {s b : Nat} (h : (P.info? t).map (fun i => (i.zero, i.size, i.bytes)) = some (some z, s, b)) : ∃ i, P.info? t = some i ∧ i.zero = some z ∧ i.size = s ∧ i.bytes = b := by
  cases hi : P.info? t with
  | none => rw [hi] at h; cases h
  | some i => rw [hi] at h; simp at h; exact ⟨i, rfl, h.1, h.2.1, h.2.2⟩
/-- append of rows of one-cell elements, whatever they are. -/
theorem appendG {SE E : TypeId} {z : Value} {bytes : Nat} (hu : Try.prog.underlying SE = some (.slice E)) (hinfo : (Try.prog.info? E).map (fun i => (i.zero, i.size, i.bytes)) = some (some z, 1, bytes)) (hzc : z.cells.size = 1) (hby : bytes ≤ 24)
    {ops : Array Oper} {rest : List Oper} {o : Oper} {a : Act} {Q : Exit → Act → World → Prop} (W : World) (hgd : o.guard = none) (s x : Operand)
    (ho : o.op = .call { callee := .builtin .append, args := #[s, x], argTypes := #[SE, SE] })
    (base : Nat) (v : Value) (xs : List Value) (hs : a.eval s = v) (hown : W.ownsRow base E 1 v xs.length xs)
    (ad : Addr) (m c : Nat) (news : List Value) (hx : a.eval x = .slice (some ad) m c) (hl : news.length = m) (hnews : ∀ j u, news[j]? = some u → W.cell? (ad.add j) = some u) (h1 : ∀ u ∈ news, u.oneCell' = true)
    (hlen : xs.length + m ≤ 1000000) (hbase : base ≤ W.heap.size)
    (h : ∀ v' w', w'.ownsRow base E 1 v' (xs ++ news).length (xs ++ news) → (∀ k, k < W.heap.size → v.ownBlock ≠ some k → w'.heap[k]? = W.heap[k]?) → Below base W w' → wpList Try.prog ops Q rest (a.put o.dst v') w') : wpList Try.prog ops Q (o :: rest) a W := by
  obtain ⟨i0, hi, hz0, hz1, hz2⟩ := info3 hinfo
  refine wpList_append_own W hgd s x SE ho base E i0 z 1 bytes hu hi hz0 hz1 hz2 hzc (by decide) v xs.length xs hs hown ad m c news hx (by omega) hnews h1 (by simp only [maxLen]; omega) ?_ hbase ?_
  · exact Nat.le_trans (Nat.mul_le_mul hlen hby) (by decide)
  · intro v' w' h2 h3 _
    refine h v' w' (by rw [List.length_append, hl]; exact h2) (fun k hk hne => h3.block k hk (fun e => hne e.symm)) ?_
    exact (Below.refl _ W).grown h3 hbase (fun k hk => (World.ownsRow.lt hown k hk).1)
/-- append of one new element. -/
theorem appendG1 {SE E : TypeId} {z : Value} {bytes : Nat} (hu : Try.prog.underlying SE = some (.slice E)) (hinfo : (Try.prog.info? E).map (fun i => (i.zero, i.size, i.bytes)) = some (some z, 1, bytes)) (hzc : z.cells.size = 1) (hby : bytes ≤ 24)
    {ops : Array Oper} {rest : List Oper} {o : Oper} {a : Act} {Q : Exit → Act → World → Prop} (W : World) (hgd : o.guard = none) (s x : Operand)
    (ho : o.op = .call { callee := .builtin .append, args := #[s, x], argTypes := #[SE, SE] })
    (base : Nat) (v : Value) (xs : List Value) (hs : a.eval s = v) (hown : W.ownsRow base E 1 v xs.length xs)
    (y : Value) (hx : a.eval x = .slice (some ⟨W.heap.size, 0, none⟩) 1 1) (h1 : y.oneCell' = true)
    (hlen : xs.length + 1 ≤ 1000000) (hbase : base ≤ W.heap.size)
    (h : ∀ v' w', w'.ownsRow base E 1 v' (xs ++ [y]).length (xs ++ [y]) → (∀ k, k < W.heap.size → v.ownBlock ≠ some k → w'.heap[k]? = W.heap[k]?) → Below base W w' → wpList Try.prog ops Q rest (a.put o.dst v') w') : wpList Try.prog ops Q (o :: rest) a (W.alloc (.cells #[y] E)) := by
  have hsz : (W.alloc (.cells #[y] E)).heap.size = W.heap.size + 1 := Array.size_push ..
  refine appendG hu hinfo hzc hby (W.alloc (.cells #[y] E)) hgd s x ho base v xs hs (World.ownsRow.alloc hown _) ⟨W.heap.size, 0, none⟩ 1 1 [y] hx rfl ?_ (by intro u hu; simp at hu; subst hu; exact h1) hlen (by omega) ?_
  · intro j u hu
    match j, hu with
    | 0, hu =>
      simp only [List.getElem?_cons_zero, Option.some.injEq] at hu
      subst hu
      rw [Addr.add_lit, cell_of_row _ W.heap.size _ _ _ _ (heap_alloc_new W _)]
      rfl
  · intro v' w' h2 h3 h4
    refine h v' w' h2 (fun k hk hne => ?_) (((Below.refl _ W).alloc hbase _).trans h4)
    rw [h3 k (by omega) hne, Below.heap_alloc W _ k hk]
theorem Try.infoF : (Try.prog.info? 26).map (fun i => (i.zero, i.size, i.bytes)) = some (some (.float .f64 0), 1, 8) := by kernel_rfl
theorem Try.infoU : (Try.prog.info? 51).map (fun i => (i.zero, i.size, i.bytes)) = some (some (.int .u64 0), 1, 8) := by kernel_rfl
theorem sizeF64 (w : World) : (sizeOf 26).run Try.prog w = .ok 1 w := by kernel_rfl
theorem Try.elemF : Try.prog.elem 27 = 26 := by kernel_rfl
end Go.Proofs.Ytokglpemefkmjaa

namespace Go.Proofs.Ytokglpemefkmjaa
open Go.RowKit
set_option linter.unusedVariables false
theorem floatF (u : Nat) (w : World) : Calls Try.prog 57 #[.int .u64 u] w fun e w' => e = .returned (.float .f64 u) ∧ w' = w := by
  have hcf : ∀ (n : Int) (w : World), (callFunc 65 #[.int .u64 n]).run Try.prog w = .ok (.value (.float .f64 n.toNat)) w := by intro n w; kernel_rfl
  go_enter Try.func57, Try.ntmps57
  go_wp2
  go_ret
  exact ⟨rfl, rfl⟩
/-! ### kinds -/
theorem linear_any (k : Int) (w : World) : Calls Try.prog 6 #[.int .i64 k] w fun e w' => e = .returned (.bool (decide (1 ≤ k ∧ k ≤ 6))) ∧ w' = w := by
  go_enter Try.func6, Try.ntmps6
  generalize hr : decide (1 ≤ k ∧ k ≤ 6) = r
  have HR : Hid (decide (1 ≤ k ∧ k ≤ 6) = r) := hr
  clear hr
  by_cases h1 : 1 ≤ k
  · have d1 : decide (1 ≤ k) = true := decide_eq_true h1
    by_cases h2 : k ≤ 6
    · have d2 : decide (k ≤ 6) = true := decide_eq_true h2
      go_wp2
      go_ret
      exact ⟨congrArg (fun b => Ending.returned (.bool b)) ((decide_eq_true (p := 1 ≤ k ∧ k ≤ 6) ⟨h1, h2⟩).symm.trans HR.out), rfl⟩
    · have d2 : decide (k ≤ 6) = false := decide_eq_false h2
      go_wp2
      go_ret
      exact ⟨congrArg (fun b => Ending.returned (.bool b)) ((decide_eq_false (p := 1 ≤ k ∧ k ≤ 6) (by omega)).symm.trans HR.out), rfl⟩
  · have d1 : decide (1 ≤ k) = false := decide_eq_false h1
    go_wp2
    go_ret
    exact ⟨congrArg (fun b => Ending.returned (.bool b)) ((decide_eq_false (p := 1 ≤ k ∧ k ≤ 6) (by omega)).symm.trans HR.out), rfl⟩
theorem bent_any (k : Int) (w : World) : Calls Try.prog 18 #[.int .i64 k] w fun e w' => e = .returned (.bool (decide (7 ≤ k ∧ k ≤ 12))) ∧ w' = w := by
  go_enter Try.func18, Try.ntmps18
  generalize hr : decide (7 ≤ k ∧ k ≤ 12) = r
  have HR : Hid (decide (7 ≤ k ∧ k ≤ 12) = r) := hr
  clear hr
  by_cases h1 : 7 ≤ k
  · have d1 : decide (7 ≤ k) = true := decide_eq_true h1
    by_cases h2 : k ≤ 12
    · have d2 : decide (k ≤ 12) = true := decide_eq_true h2
      go_wp2
      go_ret
      exact ⟨congrArg (fun b => Ending.returned (.bool b)) ((decide_eq_true (p := 7 ≤ k ∧ k ≤ 12) ⟨h1, h2⟩).symm.trans HR.out), rfl⟩
    · have d2 : decide (k ≤ 12) = false := decide_eq_false h2
      go_wp2
      go_ret
      exact ⟨congrArg (fun b => Ending.returned (.bool b)) ((decide_eq_false (p := 7 ≤ k ∧ k ≤ 12) (by omega)).symm.trans HR.out), rfl⟩
  · have d1 : decide (7 ≤ k) = false := decide_eq_false h1
    go_wp2
    go_ret
    exact ⟨congrArg (fun b => Ending.returned (.bool b)) ((decide_eq_false (p := 7 ≤ k ∧ k ≤ 12) (by omega)).symm.trans HR.out), rfl⟩
/-! ### a row that is filled -/
theorem Try.infoI : (Try.prog.info? 3).map (fun i => (i.zero, i.size, i.bytes)) = some (some (.int .i64 0), 1, 8) := by kernel_rfl
theorem Try.infoRow : (Try.prog.info? 64).map (·.size) = some 3 := by kernel_rfl
theorem Try.infoSl1 : (Try.prog.info? 35).map (·.size) = some 1 := by kernel_rfl
theorem Try.infoSl2 : (Try.prog.info? 27).map (·.size) = some 1 := by kernel_rfl
theorem Try.infoFl1 : (Try.prog.info? 26).map (·.size) = some 1 := by kernel_rfl
theorem own_ne {w : World} {base B n : Nat} {E T : TypeId} {v : Value} {xs : List Value} {cur : Array Value} (h : w.ownsRow base E 1 v n xs) (hB : w.heap[B]? = some (.cells cur T)) (hne : E ≠ T) : v.ownBlock ≠ some B := by
  rcases h.2 with ⟨rfl, _⟩ | ⟨g, cap, cu, rfl, hg, hh, r⟩
  · simp [Value.ownBlock]
  · intro e
    simp only [Value.ownBlock, Option.some.injEq] at e
    subst e
    rw [hh] at hB
    simp only [Option.some.injEq, Obj.cells.injEq] at hB
    exact hne hB.2.1
theorem own_apart {w : World} {base n m : Nat} {E T : TypeId} {v u : Value} {xs ys : List Value} (h : w.ownsRow base E 1 v n xs) (h2 : w.ownsRow base T 1 u m ys) (hne : E ≠ T) : ∀ k, v.ownBlock = some k → u.ownBlock ≠ some k := by
  intro k hk
  rcases h.2 with ⟨rfl, _⟩ | ⟨g, cap, cu, rfl, hg, hh, r⟩
  · simp [Value.ownBlock] at hk
  · simp only [Value.ownBlock, Option.some.injEq] at hk
    subst hk
    exact own_ne h2 hh (fun e => hne e.symm)
theorem own_keep {w w' : World} {base n : Nat} {E : TypeId} {v : Value} {xs : List Value} (h : w.ownsRow base E 1 v n xs) (hk : ∀ k, v.ownBlock = some k → w'.heap[k]? = w.heap[k]?) : w'.ownsRow base E 1 v n xs := by
  refine ⟨h.1, ?_⟩
  rcases h.2 with h2 | ⟨g, cap, cu, rfl, hg, hh, r⟩
  · exact .inl h2
  · exact .inr ⟨g, cap, cu, rfl, hg, (hk g rfl).trans hh, r⟩
theorem own_mono {w : World} {base b n : Nat} {E : TypeId} {v : Value} {xs : List Value} (h : w.ownsRow base E 1 v n xs) (hb : b ≤ base) : w.ownsRow b E 1 v n xs := by
  refine ⟨h.1, ?_⟩
  rcases h.2 with h2 | ⟨g, cap, cu, rfl, hg, r⟩
  · exact .inl h2
  · exact .inr ⟨g, cap, cu, rfl, by omega, r⟩
def inV (cs : List Int) : List Value := cs.map (.int .i64)
def flV' (ws : List Nat) : List Value := ws.map (.float .f64)
/-- A row: its places and its numbers in blocks of their own. -/
structure RowV (w : World) (base : Nat) (v1 v2 : Value) (cs : List Int) (ws : List Nat) : Prop where
  o1 : w.ownsRow base 3 1 v1 (inV cs).length (inV cs)
  o2 : w.ownsRow base 26 1 v2 (flV' ws).length (flV' ws)
theorem RowV.keep {w w' : World} {base : Nat} {v1 v2 : Value} {cs : List Int} {ws : List Nat} (h : RowV w base v1 v2 cs ws) (hk : ∀ k, k < w.heap.size → v1.ownBlock = some k ∨ v2.ownBlock = some k → w'.heap[k]? = w.heap[k]?) : RowV w' base v1 v2 cs ws :=
  ⟨own_keep h.o1 fun k e => hk k (World.ownsRow.lt h.o1 k e).2 (.inl e), own_keep h.o2 fun k e => hk k (World.ownsRow.lt h.o2 k e).2 (.inr e)⟩
theorem RowV.later {w w' : World} {base : Nat} {v1 v2 : Value} {cs : List Int} {ws : List Nat} (h : RowV w base v1 v2 cs ws) (hb : Below w.heap.size w w') : RowV w' base v1 v2 cs ws := h.keep fun k hk _ => hb.block k hk
theorem RowV.mono {w : World} {base b : Nat} {v1 v2 : Value} {cs : List Int} {ws : List Nat} (h : RowV w base v1 v2 cs ws) (hb : b ≤ base) : RowV w b v1 v2 cs ws := ⟨own_mono h.o1 hb, own_mono h.o2 hb⟩
/-- It lies in a block. -/
def RowO (w : World) (base B : Nat) (cs : List Int) (ws : List Nat) (b : Nat) : Prop := ∃ v1 v2, w.heap[B]? = some (.cells #[v1, v2, .float .f64 b] 64) ∧ v1.oneCell' = true ∧ v2.oneCell' = true ∧ RowV w base v1 v2 cs ws
theorem one_v {v : Value} (h : v.oneCell' = true) (hc : v.cells = #[v]) : ∀ u ∈ v.cells.toList, u.oneCell' = true := by
  intro u hu
  rw [hc] at hu
  simp at hu
  subst hu; exact h
theorem own_one {w : World} {base n : Nat} {E : TypeId} {v : Value} {xs : List Value} (h : w.ownsRow base E 1 v n xs) : v.oneCell' = true ∧ v.cells = #[v] := by
  rcases h.2 with ⟨rfl, _⟩ | ⟨g, cap, cu, rfl, hg, hh, r⟩ <;> exact ⟨rfl, rfl⟩
theorem cellOf {W : World} {B : Nat} {c : Array Value} {t : TypeId} (h : W.heap[B]? = some (.cells c t)) (j : Nat) (v : Value) (hv : c[j]? = some v) : W.cell? ⟨B, j, none⟩ = some v := by rw [cell_of_row _ B j _ _ _ h]; exact hv
set_option maxRecDepth 100000 in
set_option maxHeartbeats 1000000 in
theorem put_any (B base : Nat) (cs : List Int) (ws : List Nat) (b : Nat) (c : Int) (x : Nat) (w : World) (h : RowO w base B cs ws b) (hbb : base ≤ w.heap.size) (b0 : Nat) (hB : b0 ≤ B) (hb0 : b0 ≤ base) (h1 : cs.length ≤ 1000) (h2 : ws.length ≤ 1000) :
    Calls Try.prog 47 #[.pointer (some ⟨B, 0, none⟩), .int .i64 c, .float .f64 x] w fun e w' => e = .returned (.tuple #[]) ∧ RowO w' base B (cs ++ [c]) (ws ++ [x]) b ∧ Below b0 w w' ∧ ∀ k, k < base → k ≠ B → w'.heap[k]? = w.heap[k]? := by
  obtain ⟨v1, v2, k, p1, p2, O⟩ := h
  have HO : Hid _ := O
  have K : Hid _ := k
  have hlB := blk_lt k
  have a0 := cellOf k 0 v1 rfl
  have h1' : (inV cs).length + 1 ≤ 1000000 := by simp [inV]; omega
  have h2' : (flV' ws).length + 1 ≤ 1000000 := by simp [flV']; omega
  clear k O h1 h2
  go_enter Try.func47, Try.ntmps47
  go_upto_region 1 with (first
    | (at_builtin; refine appendG1 Try.underlying35 Try.infoI rfl (by decide) w (by rfl) _ _ (by rfl) base v1 _ (by rfl) HO.out.o1 (.int .i64 c) (by rfl) (by rfl) h1' hbb ?_; intro v3 W3 o3 t3 hb3; have k3 : W3.heap[B]? = some (.cells #[v1, v2, .float .f64 b] 64) := (t3 B hlB (own_ne HO.out.o1 K.out (by decide))).trans K.out; clear a0)
    | (refine wpList_store_at (by rfl) 35 _ _ (by rfl) w b0 B 0 v3 _ #[v3, v2, .float .f64 b] 64 (by rfl) (by rfl) k3 (hb3.mono hb0) hB 1 Try.infoSl1 (by rw [(own_one o3).2]; rfl) (by simp) (one_v (own_one o3).1 (own_one o3).2) (by rw [(own_one o3).2]; rfl) ?_; intro W4 e4 hb4 hs4 ho4))
  have HO4 : Hid (RowV W4 base v3 v2 (cs ++ [c]) ws) := by
    refine ⟨?_, ?_⟩
    · have e : inV (cs ++ [c]) = inV cs ++ [.int .i64 c] := by simp [inV]
      rw [e]
      exact own_keep o3 fun k hk => ho4 k fun e => own_ne o3 k3 (by decide) (e ▸ hk)
    · refine own_keep HO.out.o2 fun k hk => ?_
      rw [ho4 k fun e => own_ne HO.out.o2 K.out (by decide) (e ▸ hk)]
      exact t3 k (World.ownsRow.lt HO.out.o2 k hk).2 (own_apart HO.out.o2 HO.out.o1 (by decide) k hk)
  have hq3 := (own_one o3).1
  have a1 := cellOf e4 1 v2 rfl
  have E4 : Hid _ := e4
  have hl4 := blk_lt e4
  have HB4 : Hid _ := hb4
  have hs4' := hb4.size
  have hbw : base ≤ W4.heap.size := by omega
  have OT4 : Hid (∀ k, k < base → k ≠ B → W4.heap[k]? = w.heap[k]?) := fun k h1 h2 => (ho4 k h2).trans (hb3.block k h1)
  clear e4 hb4 ho4 hs4 hb3 k3 t3 o3 HO K
  go_wp2_with (first
    | (at_builtin; refine appendG1 Try.underlying27 Try.infoF rfl (by decide) W4 (by rfl) _ _ (by rfl) base v2 _ (by rfl) HO4.out.o2 (.float .f64 x) (by rfl) (by rfl) h2' hbw ?_; intro v5 W5 o5 t5 hb5; have k5 : W5.heap[B]? = some (.cells #[v3, v2, .float .f64 b] 64) := (t5 B hl4 (own_ne HO4.out.o2 E4.out (by decide))).trans E4.out; clear a1)
    | (refine wpList_store_at (by rfl) 27 _ _ (by rfl) w b0 B 1 v5 _ #[v3, v5, .float .f64 b] 64 (by rfl) (by rfl) k5 (HB4.out.trans (hb5.mono hb0)) hB 1 Try.infoSl2 (by rw [(own_one o5).2]; rfl) (by simp) (one_v (own_one o5).1 (own_one o5).2) (by rw [(own_one o5).2]; rfl) ?_; intro W6 e6 hb6 hs6 ho6))
  go_end0
  refine ⟨rfl, ⟨v3, v5, e6, hq3, (own_one o5).1, ?_, ?_⟩, hb6, fun k h1 h2 => (ho6 k h2).trans ((hb5.block k h1).trans (OT4.out k h1 h2))⟩
  · refine own_keep HO4.out.o1 fun k hk => ?_
    rw [ho6 k fun e => own_ne HO4.out.o1 E4.out (by decide) (e ▸ hk)]
    exact t5 k (World.ownsRow.lt HO4.out.o1 k hk).2 (own_apart HO4.out.o1 HO4.out.o2 (by decide) k hk)
  · have e : flV' (ws ++ [x]) = flV' ws ++ [.float .f64 x] := by simp [flV']
    rw [e]
    exact own_keep o5 fun k hk => ho6 k fun e => own_ne o5 k5 (by decide) (e ▸ hk)
end Go.Proofs.Ytokglpemefkmjaa

namespace Go.Proofs.Ytokglpemefkmjaa
open Go.RowKit
set_option linter.unusedVariables false
theorem Try.infoLy : (Try.prog.info? 30).map (·.size) = some 14 := by kernel_rfl
set_option maxRecDepth 100000 in
set_option maxHeartbeats 1000000 in
theorem countTurn (v3 v4 : Value) (w : World) : Calls Try.prog 11 #[.agg #[.int .i64 6, .int .i64 1, .int .i64 0, .int .i64 0, .int .i64 0, .int .i64 0, .int .i64 0, .int .i64 0, .int .i64 0, .float .f64 0, .slice none 0 0, .slice none 0 0, v3, v4], .agg #[.int .i64 1, .int .i64 1, .int .i64 2]] w fun e w' => e = .returned (.tuple #[.int .i64 2, .int .i64 0]) ∧ Below w.heap.size w w' := by
  have HF : Hid _ := fun w => outTurn v3 v4 w
  have HS : Hid _ := fun w => size_of sz211 w
  go_enter Try.func11, Try.ntmps11
  go_wp2_with fail
  refine Calls.mono (HF.out _) ?_
  rintro e w1 ⟨rfl, hb⟩
  have HB1 : Hid (Below w.heap.size w w1) := to_call (((Below.refl _ w).alloc (Nat.le_refl _) _).alloc (by simp only [alloc_size]; omega) _) hb
  have hsz := HB1.out.size
  clear hb HF
  go_wp2_with (first | (refine wpList_store_row (by rfl) 25 _ _ (by rfl) w w.heap.size w1.heap.size _ _ (by rfl) (by rfl) (heap_alloc_new w1 _) (HB1.out.alloc (by omega) _) (by omega) 3 Try.infoShape (by rfl) (by rfl) (by exact one3 ..) ?_; intro W2 e2 hb2 hs2 ho2; obtain ⟨a0, a1, a2⟩ := cells3 e2))
  refine Calls.mono (HS.out _) ?_
  rintro e w3 ⟨rfl, hb⟩
  have HB3 : Hid (Below w.heap.size w w3) := to_call hb2 hb
  clear hb
  go_wp2_with fail
  go_ret2
  exact ⟨rfl, HB3.out⟩
set_option maxRecDepth 100000 in
set_option maxHeartbeats 1000000 in
theorem beTold (v3 v4 : Value) (w : World) : Calls Try.prog 25 #[.agg #[.int .i64 6, .int .i64 1, .int .i64 0, .int .i64 0, .int .i64 0, .int .i64 0, .int .i64 0, .int .i64 0, .int .i64 0, .float .f64 0, .slice none 0 0, .slice none 0 0, v3, v4], .agg #[.int .i64 1, .int .i64 1, .int .i64 2], .int .i64 0] w fun e w' => e = .returned (.int .i64 0) ∧ Below w.heap.size w w' := by
  have HF : Hid _ := fun w => countTurn v3 v4 w
  go_enter Try.func25, Try.ntmps25
  go_wp2_with fail
  refine Calls.mono (HF.out _) ?_
  rintro e w1 ⟨rfl, hb⟩
  have HB1 : Hid (Below w.heap.size w w1) := to_call (((Below.refl _ w).alloc (Nat.le_refl _) _).alloc (by simp only [alloc_size]; omega) _) hb
  clear hb HF
  go_wp2_with fail
  go_ret
  exact ⟨rfl, HB1.out⟩
set_option maxRecDepth 100000 in
set_option maxHeartbeats 1000000 in
theorem haveRow (z y : Nat) (w : World) : Calls Try.prog 22 #[.agg #[.int .i64 6, .int .i64 1, .int .i64 0, .int .i64 0, .int .i64 0, .int .i64 0, .int .i64 0, .int .i64 0, .int .i64 0, .float .f64 0, .slice none 0 0, .slice none 0 0, .slice (some ⟨z, 0, none⟩) 1 1, .slice (some ⟨y, 0, none⟩) 1 1], .agg #[.int .i64 1, .int .i64 1, .int .i64 2], .int .i64 0] w fun e w' => e = .returned (.int .i64 0) ∧ Below w.heap.size w w' := by
  have HF : Hid _ := fun w => listsTurn (.slice (some ⟨z, 0, none⟩) 1 1) (.slice (some ⟨y, 0, none⟩) 1 1) w
  have HT : Hid _ := fun w => beTold (.slice (some ⟨z, 0, none⟩) 1 1) (.slice (some ⟨y, 0, none⟩) 1 1) w
  have HL : Hid _ := fun w => linear_any 6 w
  go_enter Try.func22, Try.ntmps22
  go_wp2_with fail
  refine Calls.mono (HF.out _) ?_
  rintro e w1 ⟨rfl, hb⟩
  have HB1 : Hid (Below w.heap.size w w1) := to_call (((Below.refl _ w).alloc (Nat.le_refl _) _).alloc (by simp only [alloc_size]; omega) _) hb
  have k0 := kept hb (alloc_kept (heap_alloc_new w _) _)
  have k1 := kept hb (heap_at _ _ (w.heap.size + 1) (by simp only [alloc_size]))
  have hsz := blk_lt k1
  obtain ⟨a0, a1, a2, a3, a4, a5, a6, a7, a8, a9, a10, a11, a12, a13⟩ := cells14 k0
  obtain ⟨b0, b1, b2⟩ := cells3 k1
  clear hb HF
  go_wp2_with fail
  refine Calls.mono (HL.out _) ?_
  rintro e wz ⟨rfl, hw⟩
  rw [hw]
  clear hw
  go_wp2_with (first | (refine wpList_load_row (by rfl) 30 _ (by rfl) w.heap.size _ (by rfl) k0 _ Try.underlying30 rfl 14 Try.infoLy (by rfl) ?_))
  refine Calls.mono (HT.out _) ?_
  rintro e w2 ⟨rfl, hb⟩
  have HB2 : Hid (Below w.heap.size w w2) := to_call HB1.out hb
  clear hb HT
  go_wp2_with fail
  go_ret
  exact ⟨rfl, HB2.out⟩
theorem signT : bits .xor .u64 4611686018427387904 9223372036854775808 = 13835058055282163712 := by decide
set_option maxRecDepth 100000 in
theorem turnedR (w : World) : Calls Try.prog 49 #[.float .f64 4611686018427387904] w fun e w' => e = .returned (.float .f64 13835058055282163712) ∧ w' = w := by
  have HB : Hid _ := fun w => bits_any 4611686018427387904 w
  have HF : Hid _ := fun w => floatF 13835058055282163712 w
  have hs := signT
  go_enter Try.func49, Try.ntmps49
  go_wp2_with fail
  refine Calls.mono (HB.out _) ?_
  rintro e w1 ⟨rfl, hw⟩
  rw [hw]
  clear hw
  go_wp2_with fail
  refine Calls.mono (HF.out _) ?_
  rintro e w1 ⟨rfl, hw⟩
  rw [hw]
  clear hw
  go_wp2_with fail
  go_ret
  exact ⟨rfl, rfl⟩
end Go.Proofs.Ytokglpemefkmjaa

namespace Go.Proofs.Ytokglpemefkmjaa
open Go.RowKit
set_option linter.unusedVariables false
theorem cutZ (z : Nat) (w : World) : (Instr.slice 28 (.slice (some ⟨z, 0, none⟩) 1 1) (some (.int .i64 0)) (some (.int .i64 1)) none).run Try.prog w = .ok (.slice (some ⟨z, 0, none⟩) 1 1) w := by kernel_rfl
theorem one_row (v1 v2 : Value) (b : Nat) (h1 : v1.oneCell' = true) (h2 : v2.oneCell' = true) : (#[v1, v2, .float .f64 b] : Array Value).all (·.oneCell') = true := by
  simp only [Array.all_eq_true_iff_forall_mem]
  intro v hv
  simp only [List.mem_toArray, List.mem_cons, List.not_mem_nil, or_false] at hv
  rcases hv with rfl | rfl | rfl
  · exact h1
  · exact h2
  · rfl
theorem one_fl (x : Nat) : ∀ u ∈ (Value.float .f64 x).cells.toList, u.oneCell' = true := by
  intro u hu
  simp only [Value.cells, List.mem_cons, List.not_mem_nil, or_false] at hu
  subst hu; rfl
set_option maxRecDepth 100000 in
set_option maxHeartbeats 1000000 in
theorem turnRow1 (z y : Nat) (w : World) (hz : w.heap[z]? = some (.cells #[.complex .f64 4607182418800017408 4611686018427387904] 57)) (hy : w.heap[y]? = some (.cells #[.complex .f64 4613937818241073152 4616189618054758400] 57)) :
    Calls Try.prog 41 #[.agg #[.int .i64 6, .int .i64 1, .int .i64 0, .int .i64 0, .int .i64 0, .int .i64 0, .int .i64 0, .int .i64 0, .int .i64 0, .float .f64 0, .slice none 0 0, .slice none 0 0, .slice (some ⟨z, 0, none⟩) 1 1, .slice (some ⟨y, 0, none⟩) 1 1], .agg #[.int .i64 1, .int .i64 1, .int .i64 2], .int .i64 0] w fun e w' => ∃ v1 v2, e = .returned (.agg #[v1, v2, .float .f64 4613937818241073152]) ∧ v1.oneCell' = true ∧ v2.oneCell' = true ∧ RowV w' w.heap.size v1 v2 [0, 1] [4607182418800017408, 13835058055282163712] ∧ Below w.heap.size w w' := by
  have HS : Hid _ := fun w => size_of sz112 w
  have HZ : Hid _ := hz
  have HY : Hid _ := hy
  have hlz := blk_lt hz
  have hly := blk_lt hy
  clear hz hy
  have hcut := cutZ z
  go_enter Try.func41, Try.ntmps41
  go_wp2_with fail
  refine Calls.mono (HS.out _) ?_
  rintro e w1 ⟨rfl, hb⟩
  have HB1 : Hid (Below w.heap.size w w1) := to_call ((((Below.refl _ w).alloc (Nat.le_refl _) _).alloc (by simp only [alloc_size]; omega) _).alloc (by simp only [alloc_size]; omega) _) hb
  have k0 := kept hb (alloc_kept (alloc_kept (heap_alloc_new w _) _) _)
  have k2 := kept hb (heap_at _ _ (w.heap.size + 1 + 1) (by simp only [alloc_size]))
  have hsz := blk_lt k2
  have HY1 : Hid (w1.heap[y]? = _) := kept HB1.out HY.out
  have HZ1 : Hid (w1.heap[z]? = _) := kept HB1.out HZ.out
  have c12 := cellOf k0 12 (.slice (some ⟨z, 0, none⟩) 1 1) rfl
  have c13 := cellOf k0 13 (.slice (some ⟨y, 0, none⟩) 1 1) rfl
  have cy := cellOf HY1.out 0 (.complex .f64 4613937818241073152 4616189618054758400) rfl
  have K0 : Hid _ := k0
  have K2 : Hid _ := k2
  clear hb HS k0 k2 HZ HY
  go_upto_region 7 with (first | (refine wpList_store_row (by rfl) 64 _ _ (by rfl) w w.heap.size w1.heap.size _ _ (by rfl) (by rfl) (heap_alloc_new w1 _) (HB1.out.alloc (by omega) _) (by omega) 3 Try.infoRow (by rfl) (by rfl) (by exact one_row _ _ _ rfl rfl) ?_; intro W2 e2 hb2 hs2 ho2))
  have K02 : Hid (W2.heap[w.heap.size]? = _) := (ho2 _ (by omega)).trans (alloc_kept K0.out _)
  have K22 : Hid (W2.heap[w.heap.size + 1 + 1]? = _) := (ho2 _ (by omega)).trans (alloc_kept K2.out _)
  have HY2 : Hid (W2.heap[y]? = _) := (ho2 _ (by omega)).trans (alloc_kept HY1.out _)
  have HZ2 : Hid (W2.heap[z]? = _) := (ho2 _ (by omega)).trans (alloc_kept HZ1.out _)
  clear c12 c13 cy ho2 K0 K2 HY1 HZ1 hs2
  have c13 := cellOf K02.out 13 (.slice (some ⟨y, 0, none⟩) 1 1) rfl
  have cy := cellOf HY2.out 0 (.complex .f64 4613937818241073152 4616189618054758400) rfl
  go_upto_region 8 with (first | (refine wpList_store_at (by rfl) 26 _ _ (by rfl) w w.heap.size w1.heap.size 2 (.float .f64 4613937818241073152) _ #[.slice none 0 0, .slice none 0 0, .float .f64 4613937818241073152] 64 (by rfl) (by rfl) e2 hb2 (by omega) 1 Try.infoFl1 (by rfl) (Nat.le_of_ble_eq_true rfl) (by exact one_fl _) (by rfl) ?_; intro W3 e3 hb3 hs3 ho3))
  have K03 : Hid (W3.heap[w.heap.size]? = _) := (ho3 _ (by omega)).trans K02.out
  have K23 : Hid (W3.heap[w.heap.size + 1 + 1]? = _) := (ho3 _ (by omega)).trans K22.out
  have HZ3 : Hid (W3.heap[z]? = _) := (ho3 _ (by omega)).trans HZ2.out
  have HO3 : Hid (RowO W3 W3.heap.size w1.heap.size [] [] 4613937818241073152) := ⟨_, _, e3, rfl, rfl, World.ownsRow_nil _ _ _ 1, World.ownsRow_nil _ _ _ 1⟩
  have HB3 : Hid _ := hb3
  have hl3 := blk_lt e3
  clear c13 cy ho3 hs3 K02 K22 HY2 HZ2 e2 hb2 e3 hb3
  have c12 := cellOf K03.out 12 (.slice (some ⟨z, 0, none⟩) 1 1) rfl
  have HP : Hid _ := put_any
  have HTR : Hid _ := turnedR
  go_upto_region 9 with fail
  go_loopg [53] 1 (fun g v wx => ∃ i : Nat, v = .int .i64 i ∧ i + g = 1 ∧ Hid (RowO wx W3.heap.size w1.heap.size (if i = 0 then [] else [0, 1]) (if i = 0 then [] else [4607182418800017408, 13835058055282163712]) 4613937818241073152) ∧ Hid (Below w.heap.size w wx) ∧ Hid (wx.heap[w.heap.size + 1 + 1]? = some (.cells #[.slice none 0 0, .slice none 0 0, .float .f64 0] 64)) ∧ Hid (wx.heap[z]? = some (.cells #[.complex .f64 4607182418800017408 4611686018427387904] 57)) ∧ W3.heap.size ≤ wx.heap.size)
  case atStart => exact ⟨0, rfl, by omega, HO3.out, HB3.out, K23.out, HZ3.out, Nat.le_refl _⟩
  case round =>
    obtain ⟨i, rfl, hi, HO, HB, HK, HZ, hwr⟩ := hrel
    by_cases hlt : i < 1
    · obtain rfl : i = 0 := by omega
      obtain rfl : gk = 1 := by omega
      have cz := cellOf HZ.out 0 (.complex .f64 4607182418800017408 4611686018427387904) rfl
      go_wp2_with fail
      refine Calls.mono (HP.out w1.heap.size W3.heap.size [] [] _ 0 4607182418800017408 _ HO.out hwr w.heap.size (by omega) (by omega) (by simp) (by simp)) ?_
      rintro e w4 ⟨rfl, o4, b4, t4⟩
      have HO4 : Hid _ := o4
      have HB4 : Hid (Below w.heap.size w w4) := HB.out.trans b4
      have HK4 : Hid (w4.heap[w.heap.size + 1 + 1]? = _) := (t4 _ (by omega) (by omega)).trans HK.out
      have HZ4 : Hid (w4.heap[z]? = _) := (t4 _ (by omega) (by omega)).trans HZ.out
      have hs4 := b4.size
      clear o4 b4 t4 cz
      go_wp2_with fail
      refine Calls.mono (HTR.out _) ?_
      rintro e w5 ⟨rfl, hw⟩
      rw [hw]
      clear hw
      go_wp2_with fail
      refine Calls.mono (HP.out w1.heap.size W3.heap.size [0] [4607182418800017408] _ 1 13835058055282163712 _ HO4.out (by omega) w.heap.size (by omega) (by omega) (by simp) (by simp)) ?_
      rintro e w6 ⟨rfl, o6, b6, t6⟩
      have HO6 : Hid _ := o6
      have HB6 : Hid (Below w.heap.size w w6) := HB4.out.trans b6
      have HK6 : Hid (w6.heap[w.heap.size + 1 + 1]? = _) := (t6 _ (by omega) (by omega)).trans HK4.out
      have HZ6 : Hid (w6.heap[z]? = _) := (t6 _ (by omega) (by omega)).trans HZ4.out
      have hs6 := b6.size
      clear o6 b6 t6
      go_wp2_with fail
      go_roundg 0
      case measure => omega
      case rel => exact ⟨1, rfl, rfl, HO6.out, HB6, HK6, HZ6, by omega⟩
    · obtain rfl : i = 1 := by omega
      obtain ⟨v1, v2, k1, p1, p2, ov⟩ := HO.out
      have HV : Hid (RowV wr w.heap.size v1 v2 [0, 1] [4607182418800017408, 13835058055282163712]) := ov.mono (by omega)
      have K1 : Hid (wr.heap[w1.heap.size]? = _) := k1
      clear k1 ov
      go_wp2_with (first
        | (refine wpList_load_row (by rfl) 64 _ (by rfl) w1.heap.size _ (by rfl) K1.out _ Try.underlying64 rfl 3 Try.infoRow (by rfl) ?_)
        | (refine wpList_store_row (by rfl) 64 _ _ (by rfl) w w.heap.size (w.heap.size + 1 + 1) _ _ (by rfl) (by rfl) HK.out HB.out (by omega) 3 Try.infoRow (by rfl) (by rfl) (by exact one_row _ _ _ p1 p2) ?_; intro W9 e9 hb9 hs9 ho9))
      refine bodyPost_ret (res_one _ 6 64 (by kernel_rfl) _ _ (w.heap.size + 1 + 1) _ (by rfl) _ Try.underlying64 rfl 3 Try.infoRow rfl e9) rfl ?_
      refine ⟨v1, v2, rfl, p1, p2, HV.out.keep fun k hk hv => ho9 k fun e => ?_, hb9⟩
      rcases hv with hv | hv
      · exact own_ne HV.out.o1 HK.out (by decide) (e ▸ hv)
      · exact own_ne HV.out.o2 HK.out (by decide) (e ▸ hv)
set_option maxRecDepth 100000 in
set_option maxHeartbeats 1000000 in
theorem rowOf1 (z y : Nat) (w : World) (hz : w.heap[z]? = some (.cells #[.complex .f64 4607182418800017408 4611686018427387904] 57)) (hy : w.heap[y]? = some (.cells #[.complex .f64 4613937818241073152 4616189618054758400] 57)) :
    Calls Try.prog 23 #[.agg #[.int .i64 6, .int .i64 1, .int .i64 0, .int .i64 0, .int .i64 0, .int .i64 0, .int .i64 0, .int .i64 0, .int .i64 0, .float .f64 0, .slice none 0 0, .slice none 0 0, .slice (some ⟨z, 0, none⟩) 1 1, .slice (some ⟨y, 0, none⟩) 1 1], .agg #[.int .i64 1, .int .i64 1, .int .i64 2], .int .i64 0] w fun e w' => ∃ v1 v2, e = .returned (.agg #[v1, v2, .float .f64 4613937818241073152]) ∧ v1.oneCell' = true ∧ v2.oneCell' = true ∧ RowV w' w.heap.size v1 v2 [0, 1] [4607182418800017408, 13835058055282163712] ∧ Below w.heap.size w w' := by
  have HT : Hid (∀ wx, Below w.heap.size w wx → Calls Try.prog 41 #[.agg #[.int .i64 6, .int .i64 1, .int .i64 0, .int .i64 0, .int .i64 0, .int .i64 0, .int .i64 0, .int .i64 0, .int .i64 0, .float .f64 0, .slice none 0 0, .slice none 0 0, .slice (some ⟨z, 0, none⟩) 1 1, .slice (some ⟨y, 0, none⟩) 1 1], .agg #[.int .i64 1, .int .i64 1, .int .i64 2], .int .i64 0] wx fun e w' => ∃ v1 v2, e = .returned (.agg #[v1, v2, .float .f64 4613937818241073152]) ∧ v1.oneCell' = true ∧ v2.oneCell' = true ∧ RowV w' wx.heap.size v1 v2 [0, 1] [4607182418800017408, 13835058055282163712] ∧ Below wx.heap.size wx w') := fun wx hb => turnRow1 z y wx (kept hb hz) (kept hb hy)
  clear hz hy
  go_enter Try.func23, Try.ntmps23
  go_wp2_with fail
  refine Calls.mono (HT.out _ ((((Below.refl _ w).alloc (Nat.le_refl _) _).alloc (by simp only [alloc_size]; omega) _).alloc (by simp only [alloc_size]; omega) _)) ?_
  rintro e w1 ⟨v1, v2, rfl, p1, p2, ov, hb⟩
  have k2 := kept hb (heap_at _ _ (w.heap.size + 1 + 1) (by simp only [alloc_size]))
  have HB1 : Hid (Below w.heap.size w w1) := to_call ((((Below.refl _ w).alloc (Nat.le_refl _) _).alloc (by simp only [alloc_size]; omega) _).alloc (by simp only [alloc_size]; omega) _) hb
  have HV : Hid (RowV w1 w.heap.size v1 v2 [0, 1] [4607182418800017408, 13835058055282163712]) := ov.mono (by simp only [alloc_size]; omega)
  have HK : Hid _ := k2
  clear k2 hb ov HT
  go_wp2_with (first
    | (refine wpList_store_row (by rfl) 64 _ _ (by rfl) w w.heap.size (w.heap.size + 1 + 1) _ _ (by rfl) (by rfl) HK.out HB1.out (by omega) 3 Try.infoRow (by rfl) (by rfl) (by exact one_row _ _ _ p1 p2) ?_; intro W9 e9 hb9 hs9 ho9))
  refine bodyPost_ret (res_one _ 6 64 (by kernel_rfl) _ _ (w.heap.size + 1 + 1) _ (by rfl) _ Try.underlying64 rfl 3 Try.infoRow rfl e9) rfl ?_
  refine ⟨v1, v2, rfl, p1, p2, HV.out.keep fun k hk hv => ho9 k fun e => ?_, hb9⟩
  rcases hv with hv | hv
  · exact own_ne HV.out.o1 HK.out (by decide) (e ▸ hv)
  · exact own_ne HV.out.o2 HK.out (by decide) (e ▸ hv)
set_option maxRecDepth 100000 in
set_option maxHeartbeats 1000000 in
theorem row1 (z y : Nat) (w : World) (hz : w.heap[z]? = some (.cells #[.complex .f64 4607182418800017408 4611686018427387904] 57)) (hy : w.heap[y]? = some (.cells #[.complex .f64 4613937818241073152 4616189618054758400] 57)) :
    Calls Try.prog 12 #[.agg #[.int .i64 6, .int .i64 1, .int .i64 0, .int .i64 0, .int .i64 0, .int .i64 0, .int .i64 0, .int .i64 0, .int .i64 0, .float .f64 0, .slice none 0 0, .slice none 0 0, .slice (some ⟨z, 0, none⟩) 1 1, .slice (some ⟨y, 0, none⟩) 1 1], .agg #[.int .i64 1, .int .i64 1, .int .i64 2], .int .i64 0] w fun e w' => ∃ v1 v2, e = .returned (.tuple #[v1, v2, .float .f64 4613937818241073152, .int .i64 0]) ∧ RowV w' w.heap.size v1 v2 [0, 1] [4607182418800017408, 13835058055282163712] ∧ Below w.heap.size w w' := by
  have HH : Hid _ := fun w => haveRow z y w
  have HT : Hid (∀ wx, Below w.heap.size w wx → Calls Try.prog 23 #[.agg #[.int .i64 6, .int .i64 1, .int .i64 0, .int .i64 0, .int .i64 0, .int .i64 0, .int .i64 0, .int .i64 0, .int .i64 0, .float .f64 0, .slice none 0 0, .slice none 0 0, .slice (some ⟨z, 0, none⟩) 1 1, .slice (some ⟨y, 0, none⟩) 1 1], .agg #[.int .i64 1, .int .i64 1, .int .i64 2], .int .i64 0] wx fun e w' => ∃ v1 v2, e = .returned (.agg #[v1, v2, .float .f64 4613937818241073152]) ∧ v1.oneCell' = true ∧ v2.oneCell' = true ∧ RowV w' wx.heap.size v1 v2 [0, 1] [4607182418800017408, 13835058055282163712] ∧ Below wx.heap.size wx w') := fun wx hb => rowOf1 z y wx (kept hb hz) (kept hb hy)
  clear hz hy
  go_enter Try.func12, Try.ntmps12
  go_wp2_with fail
  refine Calls.mono (HH.out _) ?_
  rintro e w1 ⟨rfl, hb⟩
  have HB1 : Hid (Below w.heap.size w w1) := to_call (((Below.refl _ w).alloc (Nat.le_refl _) _).alloc (by simp only [alloc_size]; omega) _) hb
  have k0 := kept hb (alloc_kept (heap_alloc_new w _) _)
  have k1 := kept hb (heap_at _ _ (w.heap.size + 1) (by simp only [alloc_size]))
  have K0 : Hid _ := k0
  obtain ⟨b0, b1, b2⟩ := cells3 k1
  clear hb HH k0 k1
  go_wp2_with (first | (refine wpList_load_row (by rfl) 30 _ (by rfl) w.heap.size _ (by rfl) K0.out _ Try.underlying30 rfl 14 Try.infoLy (by rfl) ?_))
  refine Calls.mono (HT.out _ HB1.out) ?_
  rintro e w2 ⟨v1, v2, rfl, p1, p2, ov, hb⟩
  have HB2 : Hid (Below w.heap.size w w2) := to_call HB1.out hb
  have hs2 := HB2.out.size
  have HV : Hid (RowV w2 w.heap.size v1 v2 [0, 1] [4607182418800017408, 13835058055282163712]) := ov.mono HB1.out.size
  clear hb ov HT
  go_upto_region 5 with (first | (refine wpList_store_row (by rfl) 64 _ _ (by rfl) w w.heap.size w2.heap.size _ _ (by rfl) (by rfl) (heap_alloc_new w2 _) (HB2.out.alloc (by omega) _) (by omega) 3 Try.infoRow (by rfl) (by rfl) (by exact one_row _ _ _ p1 p2) ?_; intro W9 e9 hb9 hs9 ho9))
  have q0 := cellOf e9 0 v1 rfl
  have q1 := cellOf e9 1 v2 rfl
  have q2 := cellOf e9 2 (.float .f64 4613937818241073152) rfl
  have HV9 : Hid (RowV W9 w.heap.size v1 v2 [0, 1] [4607182418800017408, 13835058055282163712]) := HV.out.keep fun k hk hv => (ho9 k (by omega)).trans (Below.heap_alloc w2 _ k hk)
  have HB9 : Hid _ := hb9
  clear hb9 hs9 ho9 e9 HV b0 b1 b2
  go_quiet (fail)
  go_wp2_with fail
  refine bodyPost_ret (res_tmp4 _ 6 7 8 9 (by kernel_rfl) _ _ _ _ _ _ (by rfl) (by rfl) (by rfl) (by rfl)) rfl ?_
  exact ⟨v1, v2, rfl, HV9.out.later (below_drewN (Below.refl _ _) _), below_drewN HB9.out _⟩
end Go.Proofs.Ytokglpemefkmjaa

namespace Go.Proofs.Ytokglpemefkmjaa
open Go.RowKit
set_option linter.unusedVariables false
theorem one14q (a0 a1 a2 a3 a4 a5 a6 a7 a8 : Int) (x : Nat) (o1 o2 o3 o4 : Option Addr) (n1 n2 n3 n4 c1 c2 c3 c4 : Nat) : (#[.int .i64 a0, .int .i64 a1, .int .i64 a2, .int .i64 a3, .int .i64 a4, .int .i64 a5, .int .i64 a6, .int .i64 a7, .int .i64 a8, .float .f64 x, .slice o1 n1 c1, .slice o2 n2 c2, .slice o3 n3 c3, .slice o4 n4 c4] : Array Value).all (·.oneCell') = true := by
  simp only [Array.all_eq_true_iff_forall_mem]
  intro v hv
  simp only [List.mem_toArray, List.mem_cons, List.not_mem_nil, or_false] at hv
  rcases hv with rfl | rfl | rfl | rfl | rfl | rfl | rfl | rfl | rfl | rfl | rfl | rfl | rfl | rfl <;> rfl
theorem build_turn2 (z y : Nat) (w : World) : (Instr.build 30 #[(0, .int .i64 6), (1, .int .i64 1), (12, .slice (some ⟨z, 0, none⟩) 1 1), (13, .slice (some ⟨y, 0, none⟩) 1 1)]).run Try.prog w = .ok (.agg #[.int .i64 6, .int .i64 1, .int .i64 0, .int .i64 0, .int .i64 0, .int .i64 0, .int .i64 0, .int .i64 0, .int .i64 0, .float .f64 0, .slice none 0 0, .slice none 0 0, .slice (some ⟨z, 0, none⟩) 1 1, .slice (some ⟨y, 0, none⟩) 1 1]) w := by kernel_rfl
theorem RowV.two {w : World} {base : Nat} {v1 v2 : Value} {a b : Int} {x y : Nat} (h : RowV w base v1 v2 [a, b] [x, y]) :
    ∃ g1 c1 g2 c2, v1 = .slice (some ⟨g1, 0, none⟩) 2 c1 ∧ v2 = .slice (some ⟨g2, 0, none⟩) 2 c2 ∧ w.cell? ⟨g2, 0, none⟩ = some (.float .f64 x) ∧ w.cell? ⟨g2, 1, none⟩ = some (.float .f64 y) := by
  rcases h.o1.2 with ⟨_, h0⟩ | ⟨g1, c1, _, e1, _⟩
  · simp [inV] at h0
  · rcases h.o2.2 with ⟨_, h0⟩ | ⟨g2, c2, _, e2, _⟩
    · simp [flV'] at h0
    · have q0 := World.ownsRow.cells h.o2 (g := g2) (by rw [e2]; rfl) 0 (.float .f64 x) rfl
      have q1 := World.ownsRow.cells h.o2 (g := g2) (by rw [e2]; rfl) 1 (.float .f64 y) rfl
      rw [Addr.add_lit] at q0 q1
      exact ⟨g1, c1, g2, c2, e1, e2, q0, q1⟩
set_option maxRecDepth 100000 in
set_option maxHeartbeats 1000000 in
theorem told7 (w : World) : Calls Try.prog 7 #[] w fun e w' => e = .returned (.bool true) ∧ Below w.heap.size w w' := by
  have HL : Hid _ := linear_any
  have HT : Hid _ := bent_any
  go_enter Try.func7, Try.ntmps7
  go_upto_region 2 with (first
    | (refine wpList_build (by rfl) 30 _ (by rfl) _ (by rfl) _ (build_turn2 _ _) ?_)
    | (refine wpList_store_row (by rfl) 30 _ _ (by rfl) w w.heap.size (w.heap.size + 1 + 1) _ _ (by rfl) (by rfl) (heap_at _ _ (w.heap.size + 1 + 1) (by simp only [alloc_size])) ((((Below.refl _ w).alloc (Nat.le_refl _) _).alloc (by simp only [alloc_size]; omega) _).alloc (by simp only [alloc_size]; omega) _) (by omega) 14 Try.infoLy (by rfl) (by rfl) (by exact one14q ..) ?_; intro W2 e2 hb2 hs2 ho2))
  have HZ : Hid (W2.heap[w.heap.size]? = _) := (ho2 _ (by omega)).trans (alloc_kept (alloc_kept (heap_alloc_new w _) _) _)
  have HY : Hid (W2.heap[w.heap.size + 1]? = _) := (ho2 _ (by omega)).trans (alloc_kept (heap_at _ _ (w.heap.size + 1) (by simp only [alloc_size])) _)
  have HB2 : Hid _ := hb2
  have K2 : Hid _ := e2
  clear e2 hb2 hs2 ho2
  go_wp2_with (first | (refine wpList_load_row (by rfl) 30 _ (by rfl) (w.heap.size + 1 + 1) _ (by rfl) K2.out _ Try.underlying30 rfl 14 Try.infoLy (by rfl) ?_))
  refine Calls.mono (row1 _ _ _ HZ.out HY.out) ?_
  rintro e w3 ⟨v1, v2, rfl, ov, hb⟩
  have HB3 : Hid (Below w.heap.size w w3) := to_call HB2.out hb
  have K3 : Hid (w3.heap[w.heap.size + 1 + 1]? = _) := kept hb K2.out
  have HV : Hid _ := ov
  clear hb ov HZ HY K2 HB2
  go_wp2_with (first | (refine wpList_load_row (by rfl) 30 _ (by rfl) (w.heap.size + 1 + 1) _ (by rfl) K3.out _ Try.underlying30 rfl 14 Try.infoLy (by rfl) ?_))
  refine Calls.mono (countTurn _ _ _) ?_
  rintro e w4 ⟨rfl, hb⟩
  have HB4 : Hid (Below w.heap.size w w4) := to_call HB3.out hb
  obtain ⟨g1, c1, g2, c2, rfl, rfl, q0, q1⟩ := (HV.out.later hb).two
  clear hb HV K3 HB3
  have f1 : (FloatKind.f64.format.order 4607182418800017408 4607182418800017408 == some Ordering.eq) = true := by decide
  have f2 : (FloatKind.f64.format.order 13835058055282163712 13835058055282163712 == some Ordering.eq) = true := by decide
  have f3 : (FloatKind.f64.format.order 4613937818241073152 4613937818241073152 == some Ordering.eq) = true := by decide
  go_upto_region 5 with fail
  go_wp2_with (first
    | (go_at_call 6; refine Calls.mono (HL.out _ _) ?_; rintro e wz ⟨rfl, hw⟩; rw [hw]; clear hw)
    | (go_at_call 18; refine Calls.mono (HT.out _ _) ?_; rintro e wz ⟨rfl, hw⟩; rw [hw]; clear hw))
  go_ret
  exact ⟨rfl, HB4.out⟩
end Go.Proofs.Ytokglpemefkmjaa

namespace Go.Proofs.Ytokglpemefkmjaa
open Go.RowKit
set_option linter.unusedVariables false
set_option maxRecDepth 100000 in
set_option maxHeartbeats 1000000 in
theorem listsOf (y0 y1 y2 y3 y4 y5 y6 y7 y8 y9 y10 y11 y12 y13 y14 y15 y16 y17 y18 y19 y20 y21 y22 y23 c h k : Int) (x0 x1 x2 x3 x4 x5 x6 x7 x8 x9 x10 x11 x12 x13 : Value) (w : World)
    (hF : ∀ w, Calls Try.prog 35 #[.agg #[x0, x1, x2, x3, x4, x5, x6, x7, x8, x9, x10, x11, x12, x13], .agg #[.int .i64 c, .int .i64 h, .int .i64 k]] w fun e w' => e = .returned (.tuple #[.agg #[.int .i64 y0, .int .i64 y1, .int .i64 y2, .int .i64 y3, .int .i64 y4, .int .i64 y5, .int .i64 y6, .int .i64 y7, .int .i64 y8, .int .i64 y9, .int .i64 y10, .int .i64 y11, .int .i64 y12, .int .i64 y13, .int .i64 y14, .int .i64 y15, .int .i64 y16, .int .i64 y17, .int .i64 y18, .int .i64 y19, .int .i64 y20, .int .i64 y21, .int .i64 y22, .int .i64 y23], .int .i64 0]) ∧ Below w.heap.size w w') :
    Calls Try.prog 36 #[.agg #[x0, x1, x2, x3, x4, x5, x6, x7, x8, x9, x10, x11, x12, x13], .agg #[.int .i64 c, .int .i64 h, .int .i64 k]] w fun e w' => e = .returned (.tuple #[.int .i64 y20, .int .i64 y21, .int .i64 y22, .int .i64 y23, .int .i64 0]) ∧ Below w.heap.size w w' := by
  have HF : Hid _ := hF
  clear hF
  go_enter Try.func36, Try.ntmps36
  go_wp2_with fail
  refine Calls.mono (HF.out _) ?_
  rintro e w1 ⟨rfl, hb⟩
  have HB1 : Hid (Below w.heap.size w w1) := to_call (((Below.refl _ w).alloc (Nat.le_refl _) _).alloc (by simp only [alloc_size]; omega) _) hb
  have hsz := HB1.out.size
  clear hb HF
  go_upto_region 2 with (first | (refine wpList_store_row (by rfl) 87 _ _ (by rfl) w w.heap.size w1.heap.size _ _ (by rfl) (by rfl) (heap_alloc_new w1 _) (HB1.out.alloc (by omega) _) (by omega) 24 Try.infoForm (by rfl) (by rfl) (by exact one24 ..) ?_; intro W2 e2 hb2 hs2 ho2))
  have t0 := cellAt e2 20 (.int .i64 y20) rfl
  have t1 := cellAt e2 21 (.int .i64 y21) rfl
  have t2 := cellAt e2 22 (.int .i64 y22) rfl
  have t3 := cellAt e2 23 (.int .i64 y23) rfl
  clear e2 hs2 ho2
  go_quiet (fail)
  go_wp2_with fail
  refine bodyPost_ret (res_tmp5 _ 4 5 6 7 8 (by kernel_rfl) _ _ _ _ _ _ _ (by rfl) (by rfl) (by rfl) (by rfl) (by rfl)) rfl ?_
  exact ⟨rfl, below_drewN hb2 _⟩
set_option maxRecDepth 100000 in
set_option maxHeartbeats 1000000 in
theorem countOf (c h k c' h' k' n : Int) (x0 x1 x2 x3 x4 x5 x6 x7 x8 x9 x10 x11 x12 x13 : Value) (w : World) (hO : ∀ w, Calls Try.prog 20 #[.agg #[x0, x1, x2, x3, x4, x5, x6, x7, x8, x9, x10, x11, x12, x13], .agg #[.int .i64 c, .int .i64 h, .int .i64 k]] w fun e w' => e = .returned (.tuple #[.agg #[.int .i64 c', .int .i64 h', .int .i64 k'], .int .i64 0]) ∧ Below w.heap.size w w') (hs : szF [c', h', k'] 1 = (n, 0)) :
    Calls Try.prog 11 #[.agg #[x0, x1, x2, x3, x4, x5, x6, x7, x8, x9, x10, x11, x12, x13], .agg #[.int .i64 c, .int .i64 h, .int .i64 k]] w fun e w' => e = .returned (.tuple #[.int .i64 n, .int .i64 0]) ∧ Below w.heap.size w w' := by
  have HF : Hid _ := hO
  have HS : Hid _ := fun w => size_of hs w
  clear hO
  go_enter Try.func11, Try.ntmps11
  go_wp2_with fail
  refine Calls.mono (HF.out _) ?_
  rintro e w1 ⟨rfl, hb⟩
  have HB1 : Hid (Below w.heap.size w w1) := to_call (((Below.refl _ w).alloc (Nat.le_refl _) _).alloc (by simp only [alloc_size]; omega) _) hb
  have hsz := HB1.out.size
  clear hb HF
  go_wp2_with (first | (refine wpList_store_row (by rfl) 25 _ _ (by rfl) w w.heap.size w1.heap.size _ _ (by rfl) (by rfl) (heap_alloc_new w1 _) (HB1.out.alloc (by omega) _) (by omega) 3 Try.infoShape (by rfl) (by rfl) (by exact one3 ..) ?_; intro W2 e2 hb2 hs2 ho2; obtain ⟨a0, a1, a2⟩ := cells3 e2))
  refine Calls.mono (HS.out _) ?_
  rintro e w3 ⟨rfl, hb⟩
  have HB3 : Hid (Below w.heap.size w w3) := to_call hb2 hb
  clear hb
  go_wp2_with fail
  go_ret2
  exact ⟨rfl, HB3.out⟩
set_option maxRecDepth 100000 in
set_option maxHeartbeats 1000000 in
theorem toldOf (c h k n i : Int) (x0 x1 x2 x3 x4 x5 x6 x7 x8 x9 x10 x11 x12 x13 : Value) (w : World) (hC : ∀ w, Calls Try.prog 11 #[.agg #[x0, x1, x2, x3, x4, x5, x6, x7, x8, x9, x10, x11, x12, x13], .agg #[.int .i64 c, .int .i64 h, .int .i64 k]] w fun e w' => e = .returned (.tuple #[.int .i64 n, .int .i64 0]) ∧ Below w.heap.size w w') (h0 : 0 ≤ i) (h1 : i < n) :
    Calls Try.prog 25 #[.agg #[x0, x1, x2, x3, x4, x5, x6, x7, x8, x9, x10, x11, x12, x13], .agg #[.int .i64 c, .int .i64 h, .int .i64 k], .int .i64 i] w fun e w' => e = .returned (.int .i64 0) ∧ Below w.heap.size w w' := by
  have HF : Hid _ := hC
  clear hC
  have d0 : decide (i < 0) = false := decide_eq_false (by omega)
  have d1 : decide (n ≤ i) = false := decide_eq_false (by omega)
  have e0 : ¬ i < 0 := by omega
  have e1 : ¬ n ≤ i := by omega
  go_enter Try.func25, Try.ntmps25
  go_wp2_with fail
  refine Calls.mono (HF.out _) ?_
  rintro e w1 ⟨rfl, hb⟩
  have HB1 : Hid (Below w.heap.size w w1) := to_call (((Below.refl _ w).alloc (Nat.le_refl _) _).alloc (by simp only [alloc_size]; omega) _) hb
  clear hb HF
  go_wp2_with fail
  go_ret
  exact ⟨rfl, HB1.out⟩
set_option maxRecDepth 100000 in
set_option maxHeartbeats 1000000 in
theorem haveOf (kd c h k i : Int) (x1 x2 x3 x4 x5 x6 x7 x8 x9 : Value) (wo bo zo yo : Option Addr) (wn wc bn bc zn zc yn yc : Nat) (w : World) (hk : 1 ≤ kd ∧ kd ≤ 6) (hk5 : (kd == 5) = false)
    (hL : ∀ w, Calls Try.prog 36 #[.agg #[.int .i64 kd, x1, x2, x3, x4, x5, x6, x7, x8, x9, .slice wo wn wc, .slice bo bn bc, .slice zo zn zc, .slice yo yn yc], .agg #[.int .i64 c, .int .i64 h, .int .i64 k]] w fun e w' => e = .returned (.tuple #[.int .i64 (wn : Int), .int .i64 (bn : Int), .int .i64 (zn : Int), .int .i64 (yn : Int), .int .i64 0]) ∧ Below w.heap.size w w')
    (hT : ∀ w, Calls Try.prog 25 #[.agg #[.int .i64 kd, x1, x2, x3, x4, x5, x6, x7, x8, x9, .slice wo wn wc, .slice bo bn bc, .slice zo zn zc, .slice yo yn yc], .agg #[.int .i64 c, .int .i64 h, .int .i64 k], .int .i64 i] w fun e w' => e = .returned (.int .i64 0) ∧ Below w.heap.size w w') :
    Calls Try.prog 22 #[.agg #[.int .i64 kd, x1, x2, x3, x4, x5, x6, x7, x8, x9, .slice wo wn wc, .slice bo bn bc, .slice zo zn zc, .slice yo yn yc], .agg #[.int .i64 c, .int .i64 h, .int .i64 k], .int .i64 i] w fun e w' => e = .returned (.int .i64 0) ∧ Below w.heap.size w w' := by
  have HF : Hid _ := hL
  have HT : Hid _ := hT
  have HL : Hid (∀ w, Calls Try.prog 6 #[.int .i64 kd] w fun e w' => e = .returned (.bool true) ∧ w' = w) := fun w => by
    have := linear_any kd w
    rw [decide_eq_true hk] at this
    exact this
  clear hL hT hk
  go_enter Try.func22, Try.ntmps22
  go_wp2_with fail
  refine Calls.mono (HF.out _) ?_
  rintro e w1 ⟨rfl, hb⟩
  have HB1 : Hid (Below w.heap.size w w1) := to_call (((Below.refl _ w).alloc (Nat.le_refl _) _).alloc (by simp only [alloc_size]; omega) _) hb
  have k0 := kept hb (alloc_kept (heap_alloc_new w _) _)
  have k1 := kept hb (heap_at _ _ (w.heap.size + 1) (by simp only [alloc_size]))
  have hsz := blk_lt k1
  obtain ⟨a0, a1, a2, a3, a4, a5, a6, a7, a8, a9, a10, a11, a12, a13⟩ := cells14 k0
  obtain ⟨b0, b1, b2⟩ := cells3 k1
  clear hb HF
  go_wp2_with fail
  refine Calls.mono (HL.out _) ?_
  rintro e wz ⟨rfl, hw⟩
  rw [hw]
  clear hw
  go_wp2_with (first | (refine wpList_load_row (by rfl) 30 _ (by rfl) w.heap.size _ (by rfl) k0 _ Try.underlying30 rfl 14 Try.infoLy (by rfl) ?_))
  refine Calls.mono (HT.out _) ?_
  rintro e w2 ⟨rfl, hb⟩
  have HB2 : Hid (Below w.heap.size w w2) := to_call HB1.out hb
  clear hb HT
  go_wp2_with fail
  go_ret
  exact ⟨rfl, HB2.out⟩
set_option maxRecDepth 100000 in
set_option maxHeartbeats 1000000 in
theorem rowFrom (c h k i : Int) (x0 x1 x2 x3 x4 x5 x6 x7 x8 x9 x10 x11 x12 x13 : Value) (cs : List Int) (ws : List Nat) (b : Nat) (w : World)
    (hH : ∀ w, Calls Try.prog 22 #[.agg #[x0, x1, x2, x3, x4, x5, x6, x7, x8, x9, x10, x11, x12, x13], .agg #[.int .i64 c, .int .i64 h, .int .i64 k], .int .i64 i] w fun e w' => e = .returned (.int .i64 0) ∧ Below w.heap.size w w')
    (hT : ∀ wx, Below w.heap.size w wx → Calls Try.prog 23 #[.agg #[x0, x1, x2, x3, x4, x5, x6, x7, x8, x9, x10, x11, x12, x13], .agg #[.int .i64 c, .int .i64 h, .int .i64 k], .int .i64 i] wx fun e w' => ∃ v1 v2, e = .returned (.agg #[v1, v2, .float .f64 b]) ∧ v1.oneCell' = true ∧ v2.oneCell' = true ∧ RowV w' wx.heap.size v1 v2 cs ws ∧ Below wx.heap.size wx w') :
    Calls Try.prog 12 #[.agg #[x0, x1, x2, x3, x4, x5, x6, x7, x8, x9, x10, x11, x12, x13], .agg #[.int .i64 c, .int .i64 h, .int .i64 k], .int .i64 i] w fun e w' => ∃ v1 v2, e = .returned (.tuple #[v1, v2, .float .f64 b, .int .i64 0]) ∧ RowV w' w.heap.size v1 v2 cs ws ∧ Below w.heap.size w w' := by
  have HH : Hid _ := hH
  have HT : Hid _ := hT
  clear hH hT
  go_enter Try.func12, Try.ntmps12
  go_wp2_with fail
  refine Calls.mono (HH.out _) ?_
  rintro e w1 ⟨rfl, hb⟩
  have HB1 : Hid (Below w.heap.size w w1) := to_call (((Below.refl _ w).alloc (Nat.le_refl _) _).alloc (by simp only [alloc_size]; omega) _) hb
  have k0 := kept hb (alloc_kept (heap_alloc_new w _) _)
  have k1 := kept hb (heap_at _ _ (w.heap.size + 1) (by simp only [alloc_size]))
  have K0 : Hid _ := k0
  obtain ⟨b0, b1, b2⟩ := cells3 k1
  clear hb HH k0 k1
  go_wp2_with (first | (refine wpList_load_row (by rfl) 30 _ (by rfl) w.heap.size _ (by rfl) K0.out _ Try.underlying30 rfl 14 Try.infoLy (by rfl) ?_))
  refine Calls.mono (HT.out _ HB1.out) ?_
  rintro e w2 ⟨v1, v2, rfl, p1, p2, ov, hb⟩
  have HB2 : Hid (Below w.heap.size w w2) := to_call HB1.out hb
  have hs2 := HB2.out.size
  have HV : Hid (RowV w2 w.heap.size v1 v2 cs ws) := ov.mono HB1.out.size
  clear hb ov HT
  go_upto_region 5 with (first | (refine wpList_store_row (by rfl) 64 _ _ (by rfl) w w.heap.size w2.heap.size _ _ (by rfl) (by rfl) (heap_alloc_new w2 _) (HB2.out.alloc (by omega) _) (by omega) 3 Try.infoRow (by rfl) (by rfl) (by exact one_row _ _ _ p1 p2) ?_; intro W9 e9 hb9 hs9 ho9))
  have q0 := cellOf e9 0 v1 rfl
  have q1 := cellOf e9 1 v2 rfl
  have q2 := cellOf e9 2 (.float .f64 b) rfl
  have HV9 : Hid (RowV W9 w.heap.size v1 v2 cs ws) := HV.out.keep fun k hk hv => (ho9 k (by omega)).trans (Below.heap_alloc w2 _ k hk)
  have HB9 : Hid _ := hb9
  clear hb9 hs9 ho9 e9 HV b0 b1 b2
  go_quiet (fail)
  go_wp2_with fail
  refine bodyPost_ret (res_tmp4 _ 6 7 8 9 (by kernel_rfl) _ _ _ _ _ _ (by rfl) (by rfl) (by rfl) (by rfl)) rfl ?_
  exact ⟨v1, v2, rfl, HV9.out.later (below_drewN (Below.refl _ _) _), below_drewN HB9.out _⟩
end Go.Proofs.Ytokglpemefkmjaa

namespace Go.Proofs.Ytokglpemefkmjaa
open Go.RowKit
set_option linter.unusedVariables false
theorem Try.infoPlace : (Try.prog.info? 69).map (·.size) = some 3 := by kernel_rfl
set_option maxRecDepth 100000 in
set_option maxHeartbeats 1000000 in
theorem index_any (p0 p1 p2 c h k a b d r : Int) (h1 : IntKind.i64.wrap (p0 * h) = a) (h2 : IntKind.i64.wrap (a + p1) = b) (h3 : IntKind.i64.wrap (b * k) = d) (h4 : IntKind.i64.wrap (d + p2) = r) (w : World) :
    Calls Try.prog 28 #[.agg #[.int .i64 p0, .int .i64 p1, .int .i64 p2], .agg #[.int .i64 c, .int .i64 h, .int .i64 k]] w fun e w' => e = .returned (.int .i64 r) ∧ Below w.heap.size w w' := by
  have HB : Hid (∀ x y, Below w.heap.size w ((w.alloc x).alloc y)) := fun x y => ((Below.refl _ w).alloc (Nat.le_refl _) _).alloc (by simp only [alloc_size]; omega) _
  go_enter Try.func28, Try.ntmps28
  go_wp2_with fail
  go_ret
  exact ⟨rfl, HB.out _ _⟩
set_option maxRecDepth 100000 in
set_option maxHeartbeats 1000000 in
theorem from_any (p0 p1 p2 q0 q1 q2 a b d : Int) (h1 : IntKind.i64.wrap (p0 - q0) = a) (h2 : IntKind.i64.wrap (p1 - q1) = b) (h3 : IntKind.i64.wrap (p2 - q2) = d) (w : World) :
    Calls Try.prog 48 #[.agg #[.int .i64 p0, .int .i64 p1, .int .i64 p2], .agg #[.int .i64 q0, .int .i64 q1, .int .i64 q2]] w fun e w' => e = .returned (.agg #[.int .i64 a, .int .i64 b, .int .i64 d]) ∧ Below w.heap.size w w' := by
  have HB : Hid (∀ x y z, Below w.heap.size w (((w.alloc x).alloc y).alloc z)) := fun x y z => (((Below.refl _ w).alloc (Nat.le_refl _) _).alloc (by simp only [alloc_size]; omega) _).alloc (by simp only [alloc_size]; omega) _
  go_enter Try.func48, Try.ntmps48
  go_wp2_with (first | (refine wpList_store_row (by rfl) 69 _ _ (by rfl) w w.heap.size (w.heap.size + 1 + 1) _ _ (by rfl) (by rfl) (heap_at _ _ (w.heap.size + 1 + 1) (by simp only [alloc_size])) (HB.out _ _ _) (by omega) 3 Try.infoPlace (by rfl) (by rfl) (by exact one3 ..) ?_; intro W9 e9 hb9 hs9 ho9))
  exact bodyPost_ret (res_one _ 4 69 (by kernel_rfl) _ _ (w.heap.size + 1 + 1) _ (by rfl) _ Try.underlying69 rfl 3 Try.infoPlace rfl e9) rfl ⟨rfl, hb9⟩
set_option maxRecDepth 100000 in
set_option maxHeartbeats 1000000 in
theorem placeOf_any (i c h k m q t r s : Int) (hm : IntKind.i64.wrap (h * k) = m) (hm0 : ¬ m = 0) (hk0 : ¬ k = 0) (hh0 : ¬ h = 0) (hq : wrap64 (i.tdiv m) = q) (ht : wrap64 (i.tdiv k) = t) (hr : t.tmod h = r) (hs : i.tmod k = s) (w : World) :
    Calls Try.prog 27 #[.int .i64 i, .agg #[.int .i64 c, .int .i64 h, .int .i64 k]] w fun e w' => e = .returned (.agg #[.int .i64 q, .int .i64 r, .int .i64 s]) ∧ Below w.heap.size w w' := by
  have HB : Hid (∀ x y, Below w.heap.size w ((w.alloc x).alloc y)) := fun x y => ((Below.refl _ w).alloc (Nat.le_refl _) _).alloc (by simp only [alloc_size]; omega) _
  go_enter Try.func27, Try.ntmps27
  go_wp2_with fail
  go_region
  go_wp2_with fail
  exact bodyPost_ret (res_one _ 4 69 (by kernel_rfl) _ _ (w.heap.size + 1) _ (by rfl) _ Try.underlying69 rfl 3 Try.infoPlace rfl (heap_at _ _ (w.heap.size + 1) (by simp only [alloc_size]))) rfl ⟨rfl, (HB.out _ _).drew⟩
end Go.Proofs.Ytokglpemefkmjaa

namespace Go.Proofs.Ytokglpemefkmjaa
open Go.RowKit
set_option linter.unusedVariables false
/-- The whole numbers from a up to b. -/
def upto (a b : Int) : List Int := (List.range (b - a).toNat).map fun (n : Nat) => a + (n : Int)
theorem upto_none {a b : Int} (h : b ≤ a) : upto a b = [] := by unfold upto; rw [show (b - a).toNat = 0 by omega]; rfl
theorem upto_snoc {a x : Int} (h : a ≤ x) : upto a (x + 1) = upto a x ++ [x] := by
  unfold upto
  rw [show (x + 1 - a).toNat = (x - a).toNat + 1 by omega, List.range_succ, List.map_append]
  congr 1
  simp
  omega
theorem upto_len (a b : Int) : (upto a b).length = (b - a).toNat := by unfold upto; simp
theorem upto_max (a b : Int) : upto a (max a b) = upto a b := by
  by_cases h : a ≤ b
  · rw [show max a b = b by omega]
  · rw [upto_none (show b ≤ a by omega), upto_none (show max a b ≤ a by omega)]
abbrev P3 := Int × Int × Int
def xsP (c y x0 x : Int) : List P3 := (upto x0 x).map fun x' => (c, y, x')
def ysP (c y0 y x0 x1 : Int) : List P3 := (upto y0 y).flatMap fun y' => xsP c y' x0 x1
def csP (c0 c y0 y1 x0 x1 : Int) : List P3 := (upto c0 c).flatMap fun c' => ysP c' y0 y1 x0 x1
theorem xsP_snoc {c y x0 x : Int} (h : x0 ≤ x) : xsP c y x0 (x + 1) = xsP c y x0 x ++ [(c, y, x)] := by unfold xsP; rw [upto_snoc h, List.map_append]; rfl
theorem ysP_snoc {c y0 y x0 x1 : Int} (h : y0 ≤ y) : ysP c y0 (y + 1) x0 x1 = ysP c y0 y x0 x1 ++ xsP c y x0 x1 := by unfold ysP; rw [upto_snoc h, List.flatMap_append]; simp
theorem csP_snoc {c0 c y0 y1 x0 x1 : Int} (h : c0 ≤ c) : csP c0 (c + 1) y0 y1 x0 x1 = csP c0 c y0 y1 x0 x1 ++ ysP c y0 y1 x0 x1 := by unfold csP; rw [upto_snoc h, List.flatMap_append]; simp
theorem flat_le {α β : Type} (f : α → List β) (B : Nat) (hf : ∀ a, (f a).length ≤ B) : ∀ l : List α, (l.flatMap f).length ≤ l.length * B
  | [] => by simp
  | a :: l => by
    have ih := flat_le f B hf l
    have := hf a
    rw [List.flatMap_cons, List.length_append, List.length_cons, Nat.add_mul]
    omega
theorem xsP_le {c y x0 x : Int} (h : x - x0 ≤ 16) : (xsP c y x0 x).length ≤ 16 := by unfold xsP; rw [List.length_map, upto_len]; omega
theorem ysP_le {c y0 y x0 x1 : Int} (h : x1 - x0 ≤ 16) (h' : y - y0 ≤ 16) : (ysP c y0 y x0 x1).length ≤ 256 := by
  have := flat_le (fun y' => xsP c y' x0 x1) 16 (fun y' => xsP_le h) (upto y0 y)
  rw [upto_len] at this
  unfold ysP
  omega
theorem csP_le {c0 c y0 y1 x0 x1 : Int} (h : x1 - x0 ≤ 16) (h' : y1 - y0 ≤ 16) (h'' : c - c0 ≤ 256) : (csP c0 c y0 y1 x0 x1).length ≤ 65536 := by
  have := flat_le (fun c' => ysP c' y0 y1 x0 x1) 256 (fun c' => ysP_le h h') (upto c0 c)
  rw [upto_len] at this
  unfold csP
  omega
def pc (p : P3) : List Value := [.int .i64 p.1, .int .i64 p.2.1, .int .i64 p.2.2]
def pcs (ps : List P3) : List Value := ps.flatMap pc
theorem pcs_snoc (ps : List P3) (p : P3) : pcs (ps ++ [p]) = pcs ps ++ pc p := by unfold pcs; rw [List.flatMap_append]; simp
theorem pcs_at : ∀ (ts : List P3) (j : Nat) (h : j < ts.length), (pcs ts)[j * 3]? = some (.int .i64 ts[j].1) ∧ (pcs ts)[j * 3 + 1]? = some (.int .i64 ts[j].2.1) ∧ (pcs ts)[j * 3 + 2]? = some (.int .i64 ts[j].2.2)
  | t :: ts, 0, _ => ⟨rfl, rfl, rfl⟩
  | t :: ts, j + 1, h => by
    have ih := pcs_at ts j (by simpa using h)
    have e : ∀ i, (pcs (t :: ts))[(j + 1) * 3 + i]? = (pcs ts)[j * 3 + i]? := by
      intro i
      show (pc t ++ pcs ts)[(j + 1) * 3 + i]? = _
      rw [List.getElem?_append_right (by show 3 ≤ _; omega)]
      congr 1
      show (j + 1) * 3 + i - 3 = _
      omega
    have e0 := e 0
    rw [Nat.add_zero, Nat.add_zero] at e0
    rw [e0, e 1, e 2]
    exact ih
theorem Try.infoPl : (Try.prog.info? 69).map (fun i => (i.zero, i.size, i.bytes)) = some (some (.agg #[.int .i64 0, .int .i64 0, .int .i64 0]), 3, 24) := by kernel_rfl
/-- A slice of places that the call itself made. -/
def OwnP (w : World) (base : Nat) (v : Value) (ps : List P3) : Prop := w.ownsRow base 69 3 v ps.length (pcs ps)
theorem OwnP.nil (w : World) (base : Nat) : OwnP w base (.slice none 0 0) [] := World.ownsRow_nil w base _ 3
theorem OwnP.lt {w : World} {base : Nat} {v : Value} {ts : List P3} (h : OwnP w base v ts) : ∀ k, v.ownBlock = some k → base ≤ k ∧ k < w.heap.size := World.ownsRow.lt h
theorem OwnP.keep {w w' : World} {base : Nat} {v : Value} {ts : List P3} (h : OwnP w base v ts) (hb : ∀ k, v.ownBlock = some k → w'.heap[k]? = w.heap[k]?) : OwnP w' base v ts := by
  refine ⟨h.1, ?_⟩
  rcases h.2 with h2 | ⟨g, cap, cur, hv, hg, hh, r⟩
  · exact .inl h2
  · exact .inr ⟨g, cap, cur, hv, hg, by rw [hb g (by rw [hv]; rfl)]; exact hh, r⟩
theorem OwnP.later {w w' : World} {base : Nat} {v : Value} {ts : List P3} (h : OwnP w base v ts) (hb : Below w.heap.size w w') : OwnP w' base v ts := h.keep fun k hk => hb.block k (h.lt k hk).2
theorem OwnP.mono {w : World} {base b : Nat} {v : Value} {ts : List P3} (h : OwnP w base v ts) (hb : b ≤ base) : OwnP w b v ts := by
  refine ⟨h.1, ?_⟩
  rcases h.2 with h2 | ⟨g, cap, cur, hv, hg, r⟩
  · exact .inl h2
  · exact .inr ⟨g, cap, cur, hv, by omega, r⟩
/-- Where it lies, and its cells. -/
theorem OwnP.form {w : World} {base : Nat} {v : Value} {ts : List P3} (h : OwnP w base v ts) : (ts = [] ∧ v = .slice none 0 0) ∨ ∃ g cap, v = .slice (some ⟨g, 0, none⟩) ts.length cap ∧ base ≤ g ∧ g < w.heap.size ∧ ∀ j u, (pcs ts)[j]? = some u → w.cell? ⟨g, j, none⟩ = some u := by
  rcases h.2 with ⟨h0, h1⟩ | ⟨g, cap, cur, hv, hg, hh, hc, hx, hs, ht⟩
  · exact .inl ⟨List.length_eq_zero_iff.1 h1, h0⟩
  · refine .inr ⟨g, cap, hv, hg, (Array.getElem?_eq_some_iff.1 hh).1, fun j u hu => ?_⟩
    rw [cell_of_row _ g _ _ _ _ hh]
    rw [← ht, List.getElem?_take] at hu
    split at hu
    · rw [Array.getElem?_toList] at hu; exact hu
    · cases hu
/-- append of one place. -/
theorem appendP {ops : Array Oper} {rest : List Oper} {o : Oper} {a : Act} {Q : Exit → Act → World → Prop} (W : World) (hgd : o.guard = none) (s x : Operand)
    (ho : o.op = .call { callee := .builtin .append, args := #[s, x], argTypes := #[66, 66] })
    (base : Nat) (v : Value) (ts : List P3) (hs : a.eval s = v) (hown : OwnP W base v ts) (c y z : Int) (hx : a.eval x = .slice (some ⟨W.heap.size, 0, none⟩) 1 1)
    (hbound : ts.length + 1 ≤ 1000000) (hbase : base ≤ W.heap.size)
    (h : ∀ v' w', OwnP w' base v' (ts ++ [(c, y, z)]) → Below base W w' → (∀ k, k < W.heap.size → v.ownBlock ≠ some k → w'.heap[k]? = W.heap[k]?) → wpList Try.prog ops Q rest (a.put o.dst v') w') : wpList Try.prog ops Q (o :: rest) a (W.alloc (.cells #[.int .i64 c, .int .i64 y, .int .i64 z] 69)) := by
  obtain ⟨i0, hi, hz0, hz1, hz2⟩ := info3 Try.infoPl
  have hsz : (W.alloc (.cells #[.int .i64 c, .int .i64 y, .int .i64 z] 69)).heap.size = W.heap.size + 1 := Array.size_push ..
  refine wpList_append_own (W.alloc (.cells #[.int .i64 c, .int .i64 y, .int .i64 z] 69)) hgd s x 66 ho base 69 i0 _ 3 24 Try.underlying66 hi hz0 hz1 hz2 rfl (by decide) v ts.length _ hs (World.ownsRow.alloc hown _) ⟨W.heap.size, 0, none⟩ 1 1 (pc (c, y, z)) hx rfl ?_ ?_ (by simp only [maxLen]; omega) (by omega) (by omega) ?_
  · intro j u hu
    rw [Addr.add_lit, cell_of_row _ W.heap.size _ _ _ _ (heap_alloc_new W _), Nat.zero_add]
    rw [← hu]
    unfold pc
    simp
  · intro u hu
    simp only [pc, List.mem_cons, List.mem_nil_iff, or_false] at hu
    rcases hu with rfl | rfl | rfl <;> rfl
  · intro v' w' h2 h3 _
    refine h v' w' ?_ ?_ ?_
    · unfold OwnP; rw [List.length_append, pcs_snoc]; exact h2
    · exact ((Below.refl _ _).alloc hbase _).grown h3 (by omega) (fun k hk => (hown.lt k hk).1)
    · intro k hk hne
      rw [h3.block k (by omega) (fun e => hne e.symm), Below.heap_alloc W _ k hk]
end Go.Proofs.Ytokglpemefkmjaa

namespace Go.Proofs.Ytokglpemefkmjaa
open Go.RowKit
set_option linter.unusedVariables false
theorem res_two (f : Func) (i j : Nat) (ty : TypeId) (hf : f.results = #[ResultVar.cell i ty, ResultVar.cell j ty]) (tmps : Array Value) (W : World) (B C : Nat) (c c' : Array Value) (hp : tmps[i]? = some (.pointer (some ⟨B, 0, none⟩))) (hq : tmps[j]? = some (.pointer (some ⟨C, 0, none⟩)))
    (d : TypeDesc) (hu : Try.prog.underlying ty = some d) (hd : d.isRow = true) (n : Nat) (hi : (Try.prog.info? ty).map (·.size) = some n) (hc : c.size = n) (hc' : c'.size = n) (h : W.heap[B]? = some (.cells c ty)) (h' : W.heap[C]? = some (.cells c' ty)) : (results f tmps).run Try.prog W = .ok (.tuple #[.agg c, .agg c']) W := by
  have hr : W.rangeAt B 0 c.toList := by
    have := World.rangeAt_of_block h 0 c.size
    simpa using this
  have hr' : W.rangeAt C 0 c'.toList := by
    have := World.rangeAt_of_block h' 0 c'.size
    simpa using this
  have hl := run_loadVar_mid (P := Try.prog) W B 0 ty c.toList d hr hu hd (by rw [hi]; simp [hc])
  have hl2 : (loadVar ty ⟨B, 0, none⟩).run Try.prog W = .ok (.agg c) W := by simpa using hl
  have hk := run_loadVar_mid (P := Try.prog) W C 0 ty c'.toList d hr' hu hd (by rw [hi]; simp [hc'])
  have hk2 : (loadVar ty ⟨C, 0, none⟩).run Try.prog W = .ok (.agg c') W := by simpa using hk
  simp [results, hf, hp, hq, hl2, hk2, asAddr]
set_option maxRecDepth 100000 in
set_option maxHeartbeats 1000000 in
theorem windowC_any (o kh kw sh sw ph pw fr : Int) (A : Nat) (v1 v2 v3 v4 : Value) (c h k t0 t1 t2 a y b x yy xx cc : Int) (h1 : IntKind.i64.wrap (t1 * sh) = a) (h2 : IntKind.i64.wrap (a - ph) = y) (h3 : IntKind.i64.wrap (t2 * sw) = b) (h4 : IntKind.i64.wrap (b - pw) = x) (h5 : IntKind.i64.wrap (y + kh) = yy) (h6 : IntKind.i64.wrap (x + kw) = xx) (h7 : IntKind.i64.wrap c = cc) (w : World) :
    Calls Try.prog 42 #[.agg #[.int .i64 2, .int .i64 o, .int .i64 kh, .int .i64 kw, .int .i64 sh, .int .i64 sw, .int .i64 ph, .int .i64 pw, .int .i64 fr, .float .f64 A, v1, v2, v3, v4], .agg #[.int .i64 c, .int .i64 h, .int .i64 k], .agg #[.int .i64 t0, .int .i64 t1, .int .i64 t2]] w fun e w' =>
      e = .returned (.tuple #[.agg #[.int .i64 0, .int .i64 y, .int .i64 x], .agg #[.int .i64 cc, .int .i64 yy, .int .i64 xx]]) ∧ Below w.heap.size w w' := by
  have HB : Hid (∀ x1 x2 x3 x4 x5, Below w.heap.size w (((((w.alloc x1).alloc x2).alloc x3).alloc x4).alloc x5)) := fun x1 x2 x3 x4 x5 => (((((Below.refl _ w).alloc (Nat.le_refl _) _).alloc (by simp only [alloc_size]; omega) _).alloc (by simp only [alloc_size]; omega) _).alloc (by simp only [alloc_size]; omega) _).alloc (by simp only [alloc_size]; omega) _
  go_enter Try.func42, Try.ntmps42
  go_wp2_with fail
  go_region
  go_wp2_with fail
  go_region
  go_wp2_with fail
  exact bodyPost_ret (res_two _ 6 7 69 (by kernel_rfl) _ _ (w.heap.size + 1 + 1 + 1) (w.heap.size + 1 + 1 + 1 + 1) _ _ (by rfl) (by rfl) _ Try.underlying69 rfl 3 Try.infoPlace rfl rfl (alloc_kept (heap_at _ _ (w.heap.size + 1 + 1 + 1) (by simp only [alloc_size])) _) (heap_at _ _ (w.heap.size + 1 + 1 + 1 + 1) (by simp only [alloc_size]))) rfl ⟨rfl, (HB.out _ _ _ _ _).drew.drew⟩
set_option maxRecDepth 100000 in
set_option maxHeartbeats 1000000 in
theorem windowM_any (o kh kw sh sw ph pw fr : Int) (A : Nat) (v1 v2 v3 v4 : Value) (c h k t0 t1 t2 a y b x yy xx cc : Int) (h1 : IntKind.i64.wrap (t1 * sh) = a) (h2 : IntKind.i64.wrap (a - ph) = y) (h3 : IntKind.i64.wrap (t2 * sw) = b) (h4 : IntKind.i64.wrap (b - pw) = x) (h5 : IntKind.i64.wrap (y + kh) = yy) (h6 : IntKind.i64.wrap (x + kw) = xx) (h7 : IntKind.i64.wrap (t0 + 1) = cc) (w : World) :
    Calls Try.prog 42 #[.agg #[.int .i64 4, .int .i64 o, .int .i64 kh, .int .i64 kw, .int .i64 sh, .int .i64 sw, .int .i64 ph, .int .i64 pw, .int .i64 fr, .float .f64 A, v1, v2, v3, v4], .agg #[.int .i64 c, .int .i64 h, .int .i64 k], .agg #[.int .i64 t0, .int .i64 t1, .int .i64 t2]] w fun e w' =>
      e = .returned (.tuple #[.agg #[.int .i64 t0, .int .i64 y, .int .i64 x], .agg #[.int .i64 cc, .int .i64 yy, .int .i64 xx]]) ∧ Below w.heap.size w w' := by
  have HB : Hid (∀ x1 x2 x3 x4 x5, Below w.heap.size w (((((w.alloc x1).alloc x2).alloc x3).alloc x4).alloc x5)) := fun x1 x2 x3 x4 x5 => (((((Below.refl _ w).alloc (Nat.le_refl _) _).alloc (by simp only [alloc_size]; omega) _).alloc (by simp only [alloc_size]; omega) _).alloc (by simp only [alloc_size]; omega) _).alloc (by simp only [alloc_size]; omega) _
  go_enter Try.func42, Try.ntmps42
  go_wp2_with fail
  go_region
  go_wp2_with fail
  exact bodyPost_ret (res_two _ 6 7 69 (by kernel_rfl) _ _ (w.heap.size + 1 + 1 + 1) (w.heap.size + 1 + 1 + 1 + 1) _ _ (by rfl) (by rfl) _ Try.underlying69 rfl 3 Try.infoPlace rfl rfl (alloc_kept (heap_at _ _ (w.heap.size + 1 + 1 + 1) (by simp only [alloc_size])) _) (heap_at _ _ (w.heap.size + 1 + 1 + 1 + 1) (by simp only [alloc_size]))) rfl ⟨rfl, (HB.out _ _ _ _ _).drew⟩
end Go.Proofs.Ytokglpemefkmjaa
