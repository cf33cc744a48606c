import Derived.Test.YtigaggkipmcgeaaNA
namespace Go.Proofs.Ytigaggkipmcgeaa
open Go.RowKit
set_option linter.unusedVariables false

def v4 (x : Nat) : Value := .int .u32 (x : Int)
/-- Words that the call itself made. -/
def Own4 (w : World) (base g n : Nat) (xs : List Nat) : Prop := xs.length = n ∧ w.ownsRow base 108 1 (.slice (some ⟨g, 0, none⟩) n n) n (xs.map v4)
theorem Own4.cell {w : World} {base g n : Nat} {xs : List Nat} (h : Own4 w base g n xs) (j : Nat) (hj : j < n) : w.cell? ⟨g, j, none⟩ = some (.int .u32 ((xs[j]?.getD 0 : Nat) : Int)) := by
  rw [World.ownsRow.cellAt h.2 j (by omega), List.getElem?_map, List.getElem?_eq_getElem (by rw [h.1]; exact hj)]
  rfl
theorem Own4.frozen {w : World} {base g n : Nat} {xs : List Nat} (h : Own4 w base g n xs) (j : Nat) : w.frozen? ⟨g, j, none⟩ = false := World.ownsRow.frozenAt h.2 j
theorem Own4.set {w : World} {base g n : Nat} {xs : List Nat} (h : Own4 w base g n xs) (j x : Nat) : Own4 (w.setCell ⟨g, j, none⟩ (.int .u32 (x : Int))) base g n (xs.set j x) := by
  refine ⟨by rw [List.length_set]; exact h.1, ?_⟩
  rw [List.map_set]
  exact (World.ownsRow.stored h.2 j (v4 x)).1
theorem Own4.base {w : World} {base g n : Nat} {xs : List Nat} (h : Own4 w base g n xs) : base ≤ g := by
  rcases h.2.2 with ⟨h1, _⟩ | ⟨g2, cap2, cur2, hv, hg2, _⟩
  · simp at h1
  · simp only [Value.slice.injEq, Option.some.injEq, Addr.mk.injEq, and_true, true_and] at hv
    obtain ⟨rfl, rfl⟩ := hv
    exact hg2
theorem Own4.rd {w : World} {base g n : Nat} {xs : List Nat} (h : Own4 w base g n xs) (hu : U4 xs) (hn : n ≤ 1000000) : Rd4 w (some ⟨g, 0, none⟩) n n xs :=
  ⟨h.1, Nat.le_refl _, hn, hu, (fun h => by cases h), .inr ⟨g, 0, rfl, fun j hj => by rw [Nat.zero_add]; exact h.cell j hj⟩⟩
/-- A store into the call's own words leaves what was there. -/
theorem below_set {w0 w : World} {base g j : Nat} {v : Value} (h : Below base w0 w) (hg : base ≤ g) : Below base w0 (w.setCell ⟨g, j, none⟩ v) := h.setCell (p := ⟨g, j, none⟩) hg v

/-- make([]uint32, n) -/
theorem make4 (w : World) (n : Nat) (hn : n ≤ 1000000) : ∃ w', (∀ z : Int, z = n → (Instr.makeSlice 25 (.int .i64 z) (.int .i64 z)).run Try.prog w = .ok (.slice (some ⟨w.heap.size, 0, none⟩) n n) w') ∧ Own4 w' w.heap.size w.heap.size n (List.replicate n 0) ∧ Below w.heap.size w w' := by
  obtain ⟨i0, hi, hz0, hz1, hz2⟩ := info_parts Try.infoU32
  obtain ⟨w', h1, h2, h3⟩ := run_make_full (P := Try.prog) w w.heap.size 25 108 i0 (.int .u32 0) 1 Try.underlying25 hi hz0 hz1 .i64 .i64 n (by rw [hz2]; omega) (by simp only [maxLen]; omega) (Nat.le_refl _)
  refine ⟨w', fun z hz => by rw [hz]; exact h1, ⟨List.length_replicate, ?_⟩, ?_⟩
  · have e : (madeCells (Value.int IntKind.u32 0).cells (n * 1)).toList = (List.replicate n 0).map v4 := by
      rw [List.map_replicate, Nat.mul_one]
      exact toList_madeCells_one _ _
    rw [e] at h2
    exact h2
  · exact (Below.refl _ _).grown h3 (Nat.le_refl _) (fun k hk => by cases hk)
end Go.Proofs.Ytigaggkipmcgeaa
