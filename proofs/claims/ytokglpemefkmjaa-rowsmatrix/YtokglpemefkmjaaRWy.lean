import Derived.Test.YtokglpemefkmjaaRWx
import Derived.Test.YtokglpemefkmjaaRWm
namespace Go.Proofs.Ytokglpemefkmjaa
open Go.RowKit
set_option linter.unusedVariables false
set_option linter.unusedSimpArgs false
/-- A row's answer: of the kinds that are not bent its places; else error 61. -/
def RowE (kd : Int) (cs : List Int) (base : Nat) (w' : World) (e : Ending) : Prop :=
  (kd = 12 ∧ e = .returned (.tuple #[.slice none 0 0, .slice none 0 0, .float .f64 0, .int .i64 61])) ∨ (¬ kd = 12 ∧ ∃ v1 v2 b ws, e = .returned (.tuple #[v1, v2, .float .f64 b, .int .i64 0]) ∧ RowV w' base v1 v2 cs ws)
/-- What the law asks of a layer made. -/
structure Kt (kd g0 g1 g2 g3 g4 g5 g6 c h k : Int) (AV : Nat) (v1 v2 v3 v4 : Value) (m1 m2 m3 m4 m5 z : Int) (N : Nat) (cs : Nat → List Int) (w0 : World) : Prop where
  n : 1 ≤ N ∧ N ≤ 256
  c0 : ¬ c = 0
  q1 : IntKind.i64.wrap (g1 * g2) = m1
  q2 : IntKind.i64.wrap (m1 * c) = m2
  q3 : IntKind.i64.wrap (h * k) = m3
  q0 : ¬ m3 = 0
  q4 : IntKind.i64.wrap (c * h) = m4
  q5 : IntKind.i64.wrap (m4 * k) = m5
  q6 : IntKind.i64.wrap ((N : Int).tdiv c) = z
  q7 : ¬ kd = 2 → ¬ z = 0
  one : v1.oneCell' = true ∧ v2.oneCell' = true ∧ v3.oneCell' = true ∧ v4.oneCell' = true
  len : ∀ i, i < N → 0 < (cs i).length ∧ ((cs i).length : Int) ≤ m2 ∧ (cs i).length ≤ 256
  rise : ∀ i, i < N → (cs i).Pairwise (· < ·)
  mem : ∀ i, i < N → ∀ x ∈ cs i, 0 ≤ x ∧ x < m5 ∧ (¬ kd = 2 → IntKind.i64.wrap (x.tdiv m3) = IntKind.i64.wrap ((i : Int).tdiv z))
  cnt : ∀ w, Calls Try.prog 11 #[.agg #[.int .i64 kd, .int .i64 g0, .int .i64 g1, .int .i64 g2, .int .i64 g3, .int .i64 g4, .int .i64 g5, .int .i64 g6, .int .i64 0, .float .f64 AV, v1, v2, v3, v4], .agg #[.int .i64 c, .int .i64 h, .int .i64 k]] w fun e w' => e = .returned (.tuple #[.int .i64 (N : Int), .int .i64 0]) ∧ Below w.heap.size w w'
  win : ∀ i : Nat, i < N → ∀ w, Calls Try.prog 13 #[.agg #[.int .i64 kd, .int .i64 g0, .int .i64 g1, .int .i64 g2, .int .i64 g3, .int .i64 g4, .int .i64 g5, .int .i64 g6, .int .i64 0, .float .f64 AV, v1, v2, v3, v4], .agg #[.int .i64 c, .int .i64 h, .int .i64 k], .int .i64 (i : Int)] w fun e w' => ∃ v, e = .returned (.tuple #[v, .int .i64 0]) ∧ OwnM w' w.heap.size 3 v (inV (cs i)) ∧ Below w.heap.size w w'
  row : ∀ i : Nat, i < N → ∀ w, Below w0.heap.size w0 w → Calls Try.prog 12 #[.agg #[.int .i64 kd, .int .i64 g0, .int .i64 g1, .int .i64 g2, .int .i64 g3, .int .i64 g4, .int .i64 g5, .int .i64 g6, .int .i64 0, .float .f64 AV, v1, v2, v3, v4], .agg #[.int .i64 c, .int .i64 h, .int .i64 k], .int .i64 (i : Int)] w fun e w' => RowE kd (cs i) w.heap.size w' e ∧ Below w.heap.size w w'
/-- made's answer. -/
def MdR (kd g0 g1 g2 g3 g4 g5 g6 c h k : Int) (AV : Nat) (w' : World) (e : Ending) : Prop :=
  e = .returned (.tuple #[.agg #[.int .i64 kd, .int .i64 g0, .int .i64 g1, .int .i64 g2, .int .i64 g3, .int .i64 g4, .int .i64 g5, .int .i64 g6, .int .i64 0, .float .f64 AV, .slice none 0 0, .slice none 0 0, .slice none 0 0, .slice none 0 0], .bool false]) ∨ ∃ v1 v2 v3 v4 m1 m2 m3 m4 m5 z N cs, e = .returned (.tuple #[.agg #[.int .i64 kd, .int .i64 g0, .int .i64 g1, .int .i64 g2, .int .i64 g3, .int .i64 g4, .int .i64 g5, .int .i64 g6, .int .i64 0, .float .f64 AV, v1, v2, v3, v4], .bool true]) ∧ Kt kd g0 g1 g2 g3 g4 g5 g6 c h k AV v1 v2 v3 v4 m1 m2 m3 m4 m5 z N cs w'
theorem rdM {w : World} {base : Nat} {v : Value} {cs : List Int} (h : OwnM w base 3 v (inV cs)) (hm : cs.length ≤ 1000) : ∃ ao cap, v = .slice ao cs.length cap ∧ RdIn w ao cs.length cap cs :=
  RowV.rdI (v2 := .slice none 0 0) (ws := []) ⟨h, World.ownsRow_nil w base _ 1⟩ hm
theorem RdIn.at {w : World} {ao : Option Addr} {len cap : Nat} {cs : List Int} (h : RdIn w ao len cap cs) (hl : 0 < len) : ∃ b off, ao = some ⟨b, off, none⟩ ∧ b < w.heap.size ∧ ∀ j, j < len → w.cell? ⟨b, off + j, none⟩ = some (.int .i64 (cs[j]?.getD 0)) := by
  rcases h.cells with h0 | ⟨b, off, ha, hc⟩
  · omega
  · exact ⟨b, off, ha, World.block_lt_of_cell? w _ (hc 0 hl), hc⟩
theorem rise_at {cs : List Int} (h : cs.Pairwise (· < ·)) {j : Nat} (hj : j + 1 < cs.length) : cs[j]?.getD 0 < cs[j + 1]?.getD 0 := by
  have h1 := List.pairwise_iff_getElem.1 h j (j + 1) (by omega) hj (by omega)
  rw [List.getElem?_eq_getElem (by omega), List.getElem?_eq_getElem hj]
  exact h1
theorem getD_memI {cs : List Int} {j : Nat} (hj : j < cs.length) : cs[j]?.getD 0 ∈ cs := by
  rw [List.getElem?_eq_getElem hj]
  exact List.getElem_mem hj
end Go.Proofs.Ytokglpemefkmjaa
