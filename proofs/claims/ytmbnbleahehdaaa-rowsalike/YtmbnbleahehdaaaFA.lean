import Derived.Test.YtmbnbleahehdaaaEM
import Derived.Test.YtmbnbleahehdaaaEU
namespace Go.Proofs.Ytmbnbleahehdaaa
open Go.RowKit
set_option linter.unusedVariables false

theorem quo_any (x y r : Nat) (h : FloatKind.f64.format.div x y = some r) (w : World) : (binOp BinOp.quo 26 (.float .f64 x) (.float .f64 y)).run Try.prog w = .ok (.float .f64 r) w := by
  have e : (binOp BinOp.quo 26 (.float .f64 x) (.float .f64 y)).run Try.prog w = (Op.floatArith .quo .f64 x y).run Try.prog w := by kernel_rfl
  rw [e]
  unfold Op.floatArith
  simp [h]
def qZ (v : Int) : Nat := (FloatKind.f64.format.div (flZ v) 4613937818241073152).getD 0
theorem qZ_all : ∀ n : _root_.Fin 19, FloatKind.f64.format.div (flZ ((n : Nat) - 9 : Int)) 4613937818241073152 = some (qZ ((n : Nat) - 9 : Int)) ∧ qZ ((n : Nat) - 9 : Int) < 18446744073709551616 ∧ frung (qZ ((n : Nat) - 9 : Int)) < infK := by decide +kernel
theorem qZ_ok {v : Int} (h : -9 ≤ v ∧ v ≤ 9) : FloatKind.f64.format.div (flZ v) 4613937818241073152 = some (qZ v) ∧ qZ v < 18446744073709551616 ∧ frung (qZ v) < infK := by
  have := qZ_all ⟨(v + 9).toNat, by omega⟩
  rw [show (((⟨(v + 9).toNat, by omega⟩ : _root_.Fin 19) : Nat) - 9 : Int) = v by simp; omega] at this
  exact this
theorem conv_any (v : Int) (w : World) : (convert 3 26 (.int .i64 v)).run Try.prog w = .ok (.float .f64 (flZ v)) w := by kernel_rfl
/-- The document's Size of any shape. -/
theorem refSize_all (c h k : Int) (hc : c ≤ 9223372036854775807) (hh : h ≤ 9223372036854775807) (hk : k ≤ 9223372036854775807) :
    (∃ C H K n : Nat, c = C ∧ h = H ∧ k = K ∧ 1 ≤ C ∧ 1 ≤ H ∧ 1 ≤ K ∧ C * H * K = n ∧ n ≤ 256 ∧ ∀ w, Calls Try.prog 12 #[.agg #[.int .i64 c, .int .i64 h, .int .i64 k]] w fun e w' => e = .returned (.tuple #[.int .i64 (n : Int), .int .i64 0]) ∧ Below w.heap.size w w') ∨
    ∀ w, Calls Try.prog 12 #[.agg #[.int .i64 c, .int .i64 h, .int .i64 k]] w fun e w' => e = .returned (.tuple #[.int .i64 0, .int .i64 60]) ∧ Below w.heap.size w w' := by
  by_cases h1 : 1 ≤ c
  · by_cases h2 : 1 ≤ h
    · by_cases h3 : 1 ≤ k
      · by_cases h4 : c ≤ 256
        · obtain ⟨C, rfl⟩ : ∃ C : Nat, c = C := ⟨c.toNat, by omega⟩
          obtain ⟨H, rfl⟩ : ∃ H : Nat, h = H := ⟨h.toNat, by omega⟩
          obtain ⟨K, rfl⟩ : ∃ K : Nat, k = K := ⟨k.toNat, by omega⟩
          have t1 : (256 : Int).tdiv (C : Int) = ((256 / C : Nat) : Int) := tdivN 256 C
          have q1 : 256 / C ≤ 256 := Nat.div_le_self _ _
          have w1 : IntKind.i64.wrap ((256 / C : Nat) : Int) = ((256 / C : Nat) : Int) := by rw [IntKind.wrap_i64]; generalize 256 / C = q at q1; omega
          by_cases h5 : H ≤ 256 / C
          · have hm : C * H ≤ 256 := by rw [Nat.le_div_iff_mul_le (by omega)] at h5; rw [Nat.mul_comm]; exact h5
            have hm1 : 1 ≤ C * H := Nat.mul_pos (by omega) (by omega)
            obtain ⟨m, hmm⟩ : ∃ m, C * H = m := ⟨_, rfl⟩
            rw [hmm] at hm hm1
            have mm : IntKind.i64.wrap ((C : Int) * (H : Int)) = (m : Int) := by rw [← Int.natCast_mul, hmm, IntKind.wrap_i64]; omega
            have t2 : (256 : Int).tdiv (m : Int) = ((256 / m : Nat) : Int) := tdivN 256 m
            have q2 : 256 / m ≤ 256 := Nat.div_le_self _ _
            have w2 : IntKind.i64.wrap ((256 / m : Nat) : Int) = ((256 / m : Nat) : Int) := by rw [IntKind.wrap_i64]; generalize 256 / m = q at q2; omega
            by_cases h6 : K ≤ 256 / m
            · have hn : m * K ≤ 256 := by rw [Nat.le_div_iff_mul_le (by omega)] at h6; rw [Nat.mul_comm]; exact h6
              refine .inl ⟨C, H, K, m * K, rfl, rfl, rfl, by omega, by omega, by omega, by rw [hmm], hn, fun w => ?_⟩
              have nn : IntKind.i64.wrap ((m : Int) * (K : Int)) = ((m * K : Nat) : Int) := by rw [← Int.natCast_mul, IntKind.wrap_i64]; generalize m * K = x at hn; omega
              exact refSize6 C H K m _ _ _ h1 h2 h3 h4 t1 w1 (Int.ofNat_le.2 h5) mm (by omega) t2 w2 (Int.ofNat_le.2 h6) nn w
            · exact .inr fun w => refSize5 C H K m _ _ h1 h2 h3 h4 t1 w1 (Int.ofNat_le.2 h5) mm (by omega) t2 w2 (Int.ofNat_lt.2 (Nat.lt_of_not_le h6)) w
          · exact .inr fun w => refSize4 C H K _ h1 h2 h3 h4 t1 w1 (Int.ofNat_lt.2 (Nat.lt_of_not_le h5)) w
        · exact .inr fun w => refSize3 c h k h1 h2 h3 (by omega) w
      · exact .inr fun w => refSize2 c h k h1 h2 (by omega) w
    · exact .inr fun w => refSize1 c h k h1 (by omega) w
  · exact .inr fun w => refSize0 c h k (by omega) w
theorem refSize_ok (c : Nat) (hc : 1 ≤ c ∧ c ≤ 256) (w : World) : Calls Try.prog 12 #[.agg #[.int .i64 (c : Int), .int .i64 1, .int .i64 1]] w fun e w' => e = .returned (.tuple #[.int .i64 (c : Int), .int .i64 0]) ∧ Below w.heap.size w w' := by
  have t1 : (256 : Int).tdiv (c : Int) = ((256 / c : Nat) : Int) := tdivN 256 c
  have q1 : 256 / c ≤ 256 := Nat.div_le_self _ _
  have q0 : 1 ≤ 256 / c := by rw [Nat.le_div_iff_mul_le (by omega)]; omega
  have w1 : IntKind.i64.wrap ((256 / c : Nat) : Int) = ((256 / c : Nat) : Int) := by rw [IntKind.wrap_i64]; generalize 256 / c = q at q1; omega
  have mm : IntKind.i64.wrap ((c : Int) * 1) = (c : Int) := by rw [Int.mul_one, IntKind.wrap_i64]; omega
  exact refSize6 c 1 1 c c _ _ (by omega) (by omega) (by omega) (by omega) t1 w1 (by generalize 256 / c = q at q0; omega) mm (by omega) t1 w1 (by generalize 256 / c = q at q0; omega) mm w
end Go.Proofs.Ytmbnbleahehdaaa
