import Derived.Test.YtogpkigpnflaoaaDoorChecked
import Derived.Test.YtogpkigpnflaoaaDoorPur
import Derived.Test.YtogpkigpnflaoaaDoorBase
import Derived.WalkKit
import Derived.WalkSmall
import Derived.WalkLawsBesides
import Derived.Laws.BitsAll
import Derived.Deep.QuietTactic
import Derived.Deep.RegionWith
import Derived.Deep.DeepCutAuto
import Derived.Deep.LoopGhost
import Derived.OwnWalk
namespace Go.Proofs.YtogpkigpnflaoaaDoor
open Go.RowKit
set_option linter.unusedVariables false

theorem w64 (n : Int) (h : -9223372036854775808 ≤ n ∧ n ≤ 9223372036854775807) : wrap64 n = n := by unfold wrap64; omega
/-! ### shapes -/
def szF : List Int → Int → Int × Int
  | [], n => (n, 0)
  | x :: xs, n => if x < 1 ∨ 256 / n < x then (0, 60) else szF xs (n * x)
def szV (p : Int × Int) : Value := .tuple #[.int .i64 p.1, .int .i64 p.2]
theorem szF_bad (x : Int) (xs : List Int) (n : Int) (h : x < 1 ∨ 256 / n < x) : szF (x :: xs) n = (0, 60) := by simp only [szF]; rw [if_pos h]
theorem szF_ok (x : Int) (xs : List Int) (n : Int) (h : ¬ (x < 1 ∨ 256 / n < x)) : szF (x :: xs) n = szF xs (n * x) := by simp only [szF]; rw [if_neg h]
theorem mul_le_256 {n x : Int} (h1 : 1 ≤ n) (h2 : 1 ≤ x) (h3 : x ≤ 256 / n) : 1 ≤ n * x ∧ n * x ≤ 256 := by
  have h4 : n * x ≤ n * (256 / n) := Int.mul_le_mul_of_nonneg_left h3 (by omega)
  have h5 := Int.mul_ediv_self_le (x := 256) (k := n) (by omega)
  have h6 : 1 * 1 ≤ n * x := Int.mul_le_mul h1 h2 (by omega) (by omega)
  omega
theorem ix3 (a b c : Int) (w : World) : (Instr.index 48 (.agg #[.int .i64 a, .int .i64 b, .int .i64 c]) (.int .i64 0)).run Tryd.prog w = .ok (.int .i64 a) w ∧ (Instr.index 48 (.agg #[.int .i64 a, .int .i64 b, .int .i64 c]) (.int .i64 1)).run Tryd.prog w = .ok (.int .i64 b) w ∧ (Instr.index 48 (.agg #[.int .i64 a, .int .i64 b, .int .i64 c]) (.int .i64 2)).run Tryd.prog w = .ok (.int .i64 c) w := ⟨by kernel_rfl, by kernel_rfl, by kernel_rfl⟩
set_option maxRecDepth 100000 in
theorem size_any (c h k : Int) (w : World) :
    Calls Tryd.prog 5 #[.agg #[.int .i64 c, .int .i64 h, .int .i64 k]] w fun e w' => e = .returned (szV (szF [c, h, k] 1)) ∧ Below w.heap.size w w' := by
  go_enter Tryd.func5, Tryd.ntmps5
  go_wp2_with fail
  go_loopg [4, 14] 3 (fun g v u wx => ∃ (n : Int) (i : Nat), v = .int .i64 n ∧ u = .int .i64 i ∧ i + g = 3 ∧ 1 ≤ n ∧ n ≤ 256 ∧ Below w.heap.size w wx ∧ Hid (szF ([c, h, k].drop i) n = szF [c, h, k] 1))
  case atStart => exact ⟨1, 0, rfl, rfl, by omega, by omega, by omega, (Below.refl _ w).alloc (Nat.le_refl _) _, rfl⟩
  case round =>
    obtain ⟨n, i, rfl, rfl, hi, h1, h2, hb, HR⟩ := hrel
    have hz : (n == 0) = false := by simp; omega
    have hq : Int.tdiv 256 n = 256 / n := Int.tdiv_eq_ediv_of_nonneg (by decide)
    have hlo : ∀ x : Int, ¬ (x < 1 ∨ 256 / n < x) → 1 ≤ n * x ∧ n * x ≤ 256 := fun x hx => mul_le_256 h1 (by omega) (by omega)
    have hq2 : 0 ≤ 256 / n ∧ 256 / n ≤ 256 := ⟨Int.ediv_nonneg (by decide) (by omega), Int.ediv_le_self _ (by decide)⟩
    obtain ⟨q, hqd⟩ : ∃ q, 256 / n = q := ⟨_, rfl⟩
    obtain rfl | rfl | rfl | rfl : i = 0 ∨ i = 1 ∨ i = 2 ∨ i = 3 := by omega
    · have hR := HR.out
      have hix := (ix3 c h k wr).1
      clear HR
      by_cases hx : c < 1
      · have H1 : Hid (szF [c, h, k] 1 = (0, 60)) := hR.symm.trans (szF_bad c _ n (.inl hx))
        clear hR hlo hq hq2 hqd
        have hd : decide (c < 1) = true := decide_eq_true hx
        go_wp2
        go_ret2
        exact ⟨by rw [H1.out]; rfl, hb⟩
      · have hd : decide (c < 1) = false := decide_eq_false hx
        by_cases hy : 256 / n < c
        · have H1 : Hid (szF [c, h, k] 1 = (0, 60)) := hR.symm.trans (szF_bad c _ n (.inr hy))
          rw [hqd] at hq hq2 hy
          have hwq : wrap64 q = q := w64 q (by omega)
          clear hR hlo hq2 hqd
          have hd2 : decide (q < c) = true := decide_eq_true hy
          go_wp2
          go_ret2
          exact ⟨by rw [H1.out]; rfl, hb⟩
        · have hm := hlo c (by omega)
          have H1 : Hid (szF ([c, h, k].drop 1) (n * c) = szF [c, h, k] 1) := (szF_ok c _ n (by omega)).symm.trans hR
          rw [hqd] at hq hq2 hy
          have hwq : wrap64 q = q := w64 q (by omega)
          clear hR hlo hq2 hqd
          have hd2 : decide (q < c) = false := decide_eq_false hy
          have hwr : wrap64 (n * c) = n * c := w64 _ (by omega)
          go_wp2
          go_roundg 2
          case measure => omega
          case rel => exact ⟨n * c, 1, rfl, rfl, by omega, hm.1, hm.2, hb, H1⟩
    · have hR := HR.out
      have hix := (ix3 c h k wr).2.1
      clear HR
      by_cases hx : h < 1
      · have H1 : Hid (szF [c, h, k] 1 = (0, 60)) := hR.symm.trans (szF_bad h _ n (.inl hx))
        clear hR hlo hq hq2 hqd
        have hd : decide (h < 1) = true := decide_eq_true hx
        go_wp2
        go_ret2
        exact ⟨by rw [H1.out]; rfl, hb⟩
      · have hd : decide (h < 1) = false := decide_eq_false hx
        by_cases hy : 256 / n < h
        · have H1 : Hid (szF [c, h, k] 1 = (0, 60)) := hR.symm.trans (szF_bad h _ n (.inr hy))
          rw [hqd] at hq hq2 hy
          have hwq : wrap64 q = q := w64 q (by omega)
          clear hR hlo hq2 hqd
          have hd2 : decide (q < h) = true := decide_eq_true hy
          go_wp2
          go_ret2
          exact ⟨by rw [H1.out]; rfl, hb⟩
        · have hm := hlo h (by omega)
          have H1 : Hid (szF ([c, h, k].drop 2) (n * h) = szF [c, h, k] 1) := (szF_ok h _ n (by omega)).symm.trans hR
          rw [hqd] at hq hq2 hy
          have hwq : wrap64 q = q := w64 q (by omega)
          clear hR hlo hq2 hqd
          have hd2 : decide (q < h) = false := decide_eq_false hy
          have hwr : wrap64 (n * h) = n * h := w64 _ (by omega)
          go_wp2
          go_roundg 1
          case measure => omega
          case rel => exact ⟨n * h, 2, rfl, rfl, by omega, hm.1, hm.2, hb, H1⟩
    · have hR := HR.out
      have hix := (ix3 c h k wr).2.2
      clear HR
      by_cases hx : k < 1
      · have H1 : Hid (szF [c, h, k] 1 = (0, 60)) := hR.symm.trans (szF_bad k _ n (.inl hx))
        clear hR hlo hq hq2 hqd
        have hd : decide (k < 1) = true := decide_eq_true hx
        go_wp2
        go_ret2
        exact ⟨by rw [H1.out]; rfl, hb⟩
      · have hd : decide (k < 1) = false := decide_eq_false hx
        by_cases hy : 256 / n < k
        · have H1 : Hid (szF [c, h, k] 1 = (0, 60)) := hR.symm.trans (szF_bad k _ n (.inr hy))
          rw [hqd] at hq hq2 hy
          have hwq : wrap64 q = q := w64 q (by omega)
          clear hR hlo hq2 hqd
          have hd2 : decide (q < k) = true := decide_eq_true hy
          go_wp2
          go_ret2
          exact ⟨by rw [H1.out]; rfl, hb⟩
        · have hm := hlo k (by omega)
          have H1 : Hid (szF ([c, h, k].drop 3) (n * k) = szF [c, h, k] 1) := (szF_ok k _ n (by omega)).symm.trans hR
          rw [hqd] at hq hq2 hy
          have hwq : wrap64 q = q := w64 q (by omega)
          clear hR hlo hq2 hqd
          have hd2 : decide (q < k) = false := decide_eq_false hy
          have hwr : wrap64 (n * k) = n * k := w64 _ (by omega)
          go_wp2
          go_roundg 0
          case measure => omega
          case rel => exact ⟨n * k, 3, rfl, rfl, by omega, hm.1, hm.2, hb, H1⟩
    · have H1 : Hid (szF [c, h, k] 1 = (n, 0)) := HR.out.symm
      clear HR
      go_wp2
      go_ret2
      exact ⟨by rw [H1.out]; rfl, hb⟩
end Go.Proofs.YtogpkigpnflaoaaDoor
