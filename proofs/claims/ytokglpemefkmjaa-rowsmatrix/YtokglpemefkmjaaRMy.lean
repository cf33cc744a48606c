import Derived.Test.YtokglpemefkmjaaRMv
import Derived.Test.YtokglpemefkmjaaRMk
import Derived.Test.YtokglpemefkmjaaRMd
import Derived.Test.YtokglpemefkmjaaRMs
import Derived.Test.YtokglpemefkmjaaRWu
namespace Go.Proofs.Ytokglpemefkmjaa
open Go.RowKit
set_option linter.unusedVariables false
set_option linter.unusedSimpArgs false
/-- What the law asks of a layer made. -/
structure Km (kd g0 g1 g2 g3 g4 g5 g6 c h k : Int) (AV : Nat) (v1 v2 v3 v4 : Value) (m4 : Int) (N n : Nat) (vs want : List Int) (w0 : World) : Prop where
  nn : 1 ≤ N ∧ N ≤ 256 ∧ 1 ≤ n ∧ n ≤ 256
  q4 : IntKind.i64.wrap (c * h) = m4
  q5 : IntKind.i64.wrap (m4 * k) = (n : Int)
  one : v1.oneCell' = true ∧ v2.oneCell' = true ∧ v3.oneCell' = true ∧ v4.oneCell' = true
  len : want.length = N
  cnt : ∀ w, Calls Try.prog 11 #[.agg #[.int .i64 kd, .int .i64 g0, .int .i64 g1, .int .i64 g2, .int .i64 g3, .int .i64 g4, .int .i64 g5, .int .i64 g6, .int .i64 0, .float .f64 AV, v1, v2, v3, v4], .agg #[.int .i64 c, .int .i64 h, .int .i64 k]] w fun e w' => e = .returned (.tuple #[.int .i64 (N : Int), .int .i64 0]) ∧ Below w.heap.size w w'
  row : ∀ i : Nat, i < N → ∀ w, Below w0.heap.size w0 w → Calls Try.prog 12 #[.agg #[.int .i64 kd, .int .i64 g0, .int .i64 g1, .int .i64 g2, .int .i64 g3, .int .i64 g4, .int .i64 g5, .int .i64 g6, .int .i64 0, .float .f64 AV, v1, v2, v3, v4], .agg #[.int .i64 c, .int .i64 h, .int .i64 k], .int .i64 (i : Int)] w fun e w' => ∃ u1 u2 b xs ws, e = .returned (.tuple #[u1, u2, .float .f64 b, .int .i64 0]) ∧ RowV w' w.heap.size u1 u2 xs ws ∧ RowG n vs xs ws b (want[i]?.getD 0) ∧ Below w.heap.size w w'
/-- plain tells l. -/
def PlT (kd g0 g1 g2 g3 g4 g5 g6 c h k : Int) (AV : Nat) (v1 v2 v3 v4 : Value) (n : Nat) (vs l : List Int) (w0 : World) : Prop := ∀ w ao cap, Below w0.heap.size w0 w → RdIn w ao n cap vs → Calls Try.prog 9 #[.agg #[.int .i64 kd, .int .i64 g0, .int .i64 g1, .int .i64 g2, .int .i64 g3, .int .i64 g4, .int .i64 g5, .int .i64 g6, .int .i64 0, .float .f64 AV, v1, v2, v3, v4], .agg #[.int .i64 c, .int .i64 h, .int .i64 k], .slice ao n cap] w fun e w' => ∃ v, e = .returned v ∧ OwnM w' w.heap.size 3 v (inV l) ∧ Below w.heap.size w w'
def WnT (kd g0 g1 g2 g3 g4 g5 g6 c h k : Int) (AV : Nat) (v1 v2 v3 v4 : Value) (n : Nat) (vs l : List Int) (w0 : World) : Prop := ∀ w ao cap, Below w0.heap.size w0 w → RdIn w ao n cap vs → Calls Try.prog 10 #[.agg #[.int .i64 kd, .int .i64 g0, .int .i64 g1, .int .i64 g2, .int .i64 g3, .int .i64 g4, .int .i64 g5, .int .i64 g6, .int .i64 0, .float .f64 AV, v1, v2, v3, v4], .agg #[.int .i64 c, .int .i64 h, .int .i64 k], .slice ao n cap] w fun e w' => ∃ v, e = .returned v ∧ OwnM w' w.heap.size 3 v (inV l) ∧ Below w.heap.size w w'
theorem inZ_bd (s : Int) (n j : Nat) : -9 ≤ (inZ s n)[j]?.getD 0 ∧ (inZ s n)[j]?.getD 0 ≤ 9 := by
  unfold inZ
  by_cases hj : j < n
  · rw [map_at _ hj]; exact smallZ_bd _ _
  · rw [List.getElem?_eq_none (by simp; omega)]; decide
/-- made's answer, told by Km. -/
def MdM (wn : Bool) (kd g0 g1 g2 g3 g4 g5 g6 c h k : Int) (AV : Nat) (s : Int) (w' : World) (e : Ending) : Prop :=
  e = .returned (.tuple #[.agg #[.int .i64 kd, .int .i64 g0, .int .i64 g1, .int .i64 g2, .int .i64 g3, .int .i64 g4, .int .i64 g5, .int .i64 g6, .int .i64 0, .float .f64 AV, .slice none 0 0, .slice none 0 0, .slice none 0 0, .slice none 0 0], .bool false]) ∨ ∃ v1 v2 v3 v4 m4 N n want, e = .returned (.tuple #[.agg #[.int .i64 kd, .int .i64 g0, .int .i64 g1, .int .i64 g2, .int .i64 g3, .int .i64 g4, .int .i64 g5, .int .i64 g6, .int .i64 0, .float .f64 AV, v1, v2, v3, v4], .bool true]) ∧ Km kd g0 g1 g2 g3 g4 g5 g6 c h k AV v1 v2 v3 v4 m4 N n (inZ s n) want w' ∧ PlT kd g0 g1 g2 g3 g4 g5 g6 c h k AV v1 v2 v3 v4 n (inZ s n) (if wn = true then [] else want) w' ∧ (wn = true → WnT kd g0 g1 g2 g3 g4 g5 g6 c h k AV v1 v2 v3 v4 n (inZ s n) want w')
theorem sum_bd {zs : Nat → Int} {vs : List Int} {xs : List Int} {L : Nat} (hz : ∀ k, k < L → -9 ≤ zs k ∧ zs k ≤ 9) (hv : ∀ j : Nat, -9 ≤ vs[j]?.getD 0 ∧ vs[j]?.getD 0 ≤ 9) : ∀ j, j ≤ L → -(81 * (j : Int)) ≤ Sg (fun k => zs k * vs[(xs[k]?.getD 0).toNat]?.getD 0) j ∧ Sg (fun k => zs k * vs[(xs[k]?.getD 0).toNat]?.getD 0) j ≤ 81 * (j : Int)
  | 0, _ => by simp [Sg]
  | j + 1, h => by
    have ih := sum_bd (xs := xs) hz hv j (by omega)
    have := mul_small (hz j (by omega)) (hv (xs[j]?.getD 0).toNat)
    unfold Sg
    omega
theorem Try.infoWholeM : (Try.prog.info? 23).map (·.size) = some 9 := by kernel_rfl
end Go.Proofs.Ytokglpemefkmjaa
