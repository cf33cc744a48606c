import Derived.Test.YtmbnbleahehdaaaEZ
import Derived.Test.YtmbnbleahehdaaaFA
import Derived.Test.YtmbnbleahehdaaaES
import Derived.Test.YtmbnbleahehdaaaET
namespace Go.Proofs.Ytmbnbleahehdaaa
open Go.RowKit
set_option linter.unusedVariables false

theorem madeD (o c : Nat) (ho : 1 ≤ o ∧ o ≤ 30) (hc : 1 ≤ c ∧ c ≤ 30) (seed : Int) (w : World) :
    Calls Try.prog 5 #[.agg #[.int .i64 1, .int .i64 (o : Int), .int .i64 0, .int .i64 0, .int .i64 0, .int .i64 0, .int .i64 0, .int .i64 0, .int .i64 seed], .agg #[.int .i64 (c : Int), .int .i64 1, .int .i64 1]] w fun e w' => ∃ wo wc bo bc, e = .returned (.tuple #[.agg #[.int .i64 1, .int .i64 (o : Int), .int .i64 0, .int .i64 0, .int .i64 0, .int .i64 0, .int .i64 0, .int .i64 0, .int .i64 0, .float .f64 0, .slice wo (o * c) wc, .slice bo o bc, .slice none 0 0, .slice none 0 0], .bool true]) ∧ o * c ≤ wc ∧ RdF w' wo (o * c) wc (wL seed (o * c)) ∧ RdF w' bo o bc (bL seed o) ∧ Below w.heap.size w w' := by
  have hm : o * c ≤ 900 := Nat.mul_le_mul ho.2 hc.2
  have hp : IntKind.i64.wrap ((o : Int) * (c : Int)) = ((o * c : Nat) : Int) := by rw [← Int.natCast_mul, IntKind.wrap_i64]; omega
  have hpw : wrap64 ((o * c : Nat) : Int) = ((o * c : Nat) : Int) := by unfold wrap64; omega
  have hwk : IntKind.i64.wrap ((1 : Int) - 1) = 0 := by decide
  have hSc := refSize_ok c (by omega)
  have hSo := refSize_ok o (by omega)
  have hF := fun w => refFields_ok 1 (o : Int) 0 0 0 0 0 0 0 1 0 0 0 0 0 0 0 256 0 0 0 0 0 0 0 (.int .u64 0) (.slice none 0 0) (.slice none 0 0) (.slice none 0 0) (.slice none 0 0) (by omega) (by omega) (leL 0) (leL 0) (leL 0) (leL 0) (leL 0) (leL 0) (leL 0) (boundsDense (o : Int) 0 0 0 0 0 0 0 (.slice none 0 0) (.slice none 0 0) (.slice none 0 0) (.slice none 0 0)) (slopeDense (o : Int) 0 0 0 0 0 0 0 (.slice none 0 0) (.slice none 0 0) (.slice none 0 0) (.slice none 0 0)) w
  have hO := fun w => refOutD (o : Int) 0 0 0 0 0 0 0 (c : Int) 1 1 (c : Int) (o : Int) (.int .u64 0) (.slice none 0 0) (.slice none 0 0) (.slice none 0 0) (.slice none 0 0) hF hSc hSo w
  have hL := fun w => refListsD (o : Int) 0 0 0 0 0 0 0 (c : Int) 1 1 (c : Int) (o : Int) 1 1 (.int .u64 0) (.slice none 0 0) (.slice none 0 0) (.slice none 0 0) (.slice none 0 0) ((o * c : Nat) : Int) hp hO hSc w
  exact made_any 1 0 0 0 0 0 0 seed (c : Int) o (o * c) (by decide) ho.2 hm hL w
theorem madeC (o c : Nat) (ho : 1 ≤ o ∧ o ≤ 30) (hc : 1 ≤ c ∧ c ≤ 30) (seed : Int) (w : World) :
    Calls Try.prog 5 #[.agg #[.int .i64 2, .int .i64 (o : Int), .int .i64 1, .int .i64 1, .int .i64 1, .int .i64 1, .int .i64 0, .int .i64 0, .int .i64 seed], .agg #[.int .i64 (c : Int), .int .i64 1, .int .i64 1]] w fun e w' => ∃ wo wc bo bc, e = .returned (.tuple #[.agg #[.int .i64 2, .int .i64 (o : Int), .int .i64 1, .int .i64 1, .int .i64 1, .int .i64 1, .int .i64 0, .int .i64 0, .int .i64 0, .float .f64 0, .slice wo (o * c) wc, .slice bo o bc, .slice none 0 0, .slice none 0 0], .bool true]) ∧ o * c ≤ wc ∧ RdF w' wo (o * c) wc (wL seed (o * c)) ∧ RdF w' bo o bc (bL seed o) ∧ Below w.heap.size w w' := by
  have hm : o * c ≤ 900 := Nat.mul_le_mul ho.2 hc.2
  have hp : IntKind.i64.wrap ((o : Int) * (c : Int)) = ((o * c : Nat) : Int) := by rw [← Int.natCast_mul, IntKind.wrap_i64]; omega
  have hpw : wrap64 ((o * c : Nat) : Int) = ((o * c : Nat) : Int) := by unfold wrap64; omega
  have hwk : IntKind.i64.wrap ((1 : Int) - 1) = 0 := by decide
  have hSc := refSize_ok c (by omega)
  have hSo := refSize_ok o (by omega)
  have hF := fun w => refFields_ok 2 (o : Int) 1 1 1 1 0 0 0 1 1 1 1 1 0 0 0 256 16 16 16 16 0 0 0 (.int .u64 0) (.slice none 0 0) (.slice none 0 0) (.slice none 0 0) (.slice none 0 0) (by omega) (by omega) (by omega) (by omega) (by omega) (by omega) (leL 0) (leL 0) (leL 0) (boundsConv (o : Int) 1 1 1 1 0 0 0 0 0 hwk hwk (.slice none 0 0) (.slice none 0 0) (.slice none 0 0) (.slice none 0 0)) (slopeConv (o : Int) 1 1 1 1 0 0 0 (.slice none 0 0) (.slice none 0 0) (.slice none 0 0) (.slice none 0 0)) w
  have hO := fun w => refOutC (o : Int) 0 (c : Int) (c : Int) (o : Int) (.int .u64 0) (.slice none 0 0) (.slice none 0 0) (.slice none 0 0) (.slice none 0 0) hF hSc hSo w
  have hL := fun w => refListsC (o : Int) 0 (c : Int) (c : Int) (o : Int) 1 1 (.int .u64 0) (.slice none 0 0) (.slice none 0 0) (.slice none 0 0) (.slice none 0 0) ((o * c : Nat) : Int) hp hpw hO hSc w
  exact made_any 2 1 1 1 1 0 0 seed (c : Int) o (o * c) (by decide) ho.2 hm hL w
theorem alikeCD (o c i : Nat) (ho : 1 ≤ o ∧ o ≤ 30) (hc : 1 ≤ c ∧ c ≤ 30) (hi : i < o) (seed : Int) (wo bo wo' bo' : Option Addr) (wc bc wc' bc' : Nat) (h1 : o * c ≤ wc) (h2 : o * c ≤ wc') (w : World)
    (r1 : RdF w wo (o * c) wc (wL seed (o * c))) (r2 : RdF w bo o bc (bL seed o)) (r3 : RdF w wo' (o * c) wc' (wL seed (o * c))) (r4 : RdF w bo' o bc' (bL seed o)) :
    Calls Try.prog 11 #[.agg #[.int .i64 2, .int .i64 (o : Int), .int .i64 1, .int .i64 1, .int .i64 1, .int .i64 1, .int .i64 0, .int .i64 0, .int .i64 0, .float .f64 0, .slice wo (o * c) wc, .slice bo o bc, .slice none 0 0, .slice none 0 0], .agg #[.int .i64 1, .int .i64 (o : Int), .int .i64 0, .int .i64 0, .int .i64 0, .int .i64 0, .int .i64 0, .int .i64 0, .int .i64 0, .float .f64 0, .slice wo' (o * c) wc', .slice bo' o bc', .slice none 0 0, .slice none 0 0], .agg #[.int .i64 (c : Int), .int .i64 1, .int .i64 1], .int .i64 (i : Int)] w fun e w' => e = .returned (.bool true) ∧ Below w.heap.size w w' :=
  alike_any (c : Int) 1 1 (i : Int) (.int .i64 2) (.int .i64 (o : Int)) (.int .i64 1) (.int .i64 1) (.int .i64 1) (.int .i64 1) (.int .i64 0) (.int .i64 0) (.int .i64 0) (.float .f64 0) (.slice wo (o * c) wc) (.slice bo o bc) (.slice none 0 0) (.slice none 0 0) (.int .i64 1) (.int .i64 (o : Int)) (.int .i64 0) (.int .i64 0) (.int .i64 0) (.int .i64 0) (.int .i64 0) (.int .i64 0) (.int .i64 0) (.float .f64 0) (.slice wo' (o * c) wc') (.slice bo' o bc') (.slice none 0 0) (.slice none 0 0) (idx c) (pk (wL seed (o * c)) (i * c) c) ((bL seed o)[i]?.getD 0) (by rw [idx_len]; omega) (by rw [pk_len]; omega)
    (fun u hu => by unfold pk at hu; obtain ⟨j, -, rfl⟩ := List.mem_map.1 hu; cases hx : (wL seed (o * c))[i * c + j]? with | none => simp | some x => exact wL_lt seed _ x (List.mem_of_getElem? hx)) w
    (fun wx hb => rowConv o c i ho hc hi wo bo wc bc _ _ h1 wx (r1.later hb) (r2.later hb))
    (fun wx hb => rowDense o c i ho hc hi wo' bo' wc' bc' _ _ h2 wx (r3.later hb) (r4.later hb))
theorem alikeMS (c h k n i : Nat) (hc : 1 ≤ c) (hh : 1 ≤ h) (hk : 1 ≤ k) (hn : c * h * k = n) (hn2 : n ≤ 256) (hi : i < n) (A : Nat) (hA : A < 18446744073709551616) (hF : Fin A) (wo bo : Option Addr) (wc bc : Nat) (w : World) (hW : RdF w wo c wc (List.replicate c A)) (hB : RdF w bo c bc (List.replicate c 0)) :
    Calls Try.prog 11 #[.agg #[.int .i64 4, .int .i64 0, .int .i64 1, .int .i64 1, .int .i64 1, .int .i64 1, .int .i64 0, .int .i64 0, .int .i64 0, .float .f64 A, .slice none 0 0, .slice none 0 0, .slice none 0 0, .slice none 0 0], .agg #[.int .i64 3, .int .i64 0, .int .i64 0, .int .i64 0, .int .i64 0, .int .i64 0, .int .i64 0, .int .i64 0, .int .i64 0, .float .f64 0, .slice wo c wc, .slice bo c bc, .slice none 0 0, .slice none 0 0], .agg #[.int .i64 (c : Int), .int .i64 (h : Int), .int .i64 (k : Int)], .int .i64 (i : Int)] w fun e w' => e = .returned (.bool true) ∧ Below w.heap.size w w' := by
  have hm1 : 1 ≤ h * k := Nat.mul_pos hh hk
  have hq : i / (h * k) < c := by rw [Nat.div_lt_iff_lt_mul hm1, ← Nat.mul_assoc, hn]; exact hi
  have e1 : (List.replicate c A)[i / (h * k)]?.getD 0 = A := by rw [List.getElem?_replicate, if_pos hq]; rfl
  have e2 : (List.replicate c 0)[i / (h * k)]?.getD 0 = 0 := by rw [List.getElem?_replicate, if_pos hq]; rfl
  refine alike_any (c : Int) (h : Int) (k : Int) (i : Int) (.int .i64 4) (.int .i64 0) (.int .i64 1) (.int .i64 1) (.int .i64 1) (.int .i64 1) (.int .i64 0) (.int .i64 0) (.int .i64 0) (.float .f64 A) (.slice none 0 0) (.slice none 0 0) (.slice none 0 0) (.slice none 0 0) (.int .i64 3) (.int .i64 0) (.int .i64 0) (.int .i64 0) (.int .i64 0) (.int .i64 0) (.int .i64 0) (.int .i64 0) (.int .i64 0) (.float .f64 0) (.slice wo c wc) (.slice bo c bc) (.slice none 0 0) (.slice none 0 0) [(i : Int)] [A] 0 (by simp) (by simp) (fun u hu => by simp at hu; omega) w
    (fun wx hb => rowMean c h k n i hc hh hk hn hn2 hi A hA hF wx) (fun wx hb => ?_)
  have := rowScale c h k n i hc hh hk hn hn2 hi wo bo wc bc _ _ wx (hW.later hb) (hB.later hb)
  rw [e1, e2] at this
  exact this
end Go.Proofs.Ytmbnbleahehdaaa
