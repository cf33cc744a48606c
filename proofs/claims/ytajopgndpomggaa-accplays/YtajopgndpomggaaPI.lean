import Derived.Test.YtajopgndpomggaaPC
namespace Go.Proofs.Ytajopgndpomggaa
open Go.RowKit
set_option linter.unusedVariables false

/-- The law's four pairs as they are made: the first k have their Accs. -/
structure PZ (w : World) (base P k : Nat) (X : Nat → Nat) : Prop where
  acc : ∀ i, i < k → AccO w (X i) (some 0)
  inj : ∀ i j, i < k → j < k → X i = X j → i = j
  ge : ∀ i, i < k → base ≤ X i
  geP : base ≤ P
  ne : ∀ i, i < k → X i ≠ P
  ptr : ∀ i, i < 4 → i < k → w.cell? ⟨P, i * 5, none⟩ = some (.pointer (some ⟨X i, 0, none⟩))
  nil : ∀ i, i < 4 → k ≤ i → w.cell? ⟨P, i * 5, none⟩ = some (.pointer none)
  row : ∀ i, i < 4 → w.cell? ⟨P, i * 5 + 1, none⟩ = some (.bool false) ∧ w.cell? ⟨P, i * 5 + 1 + 1, none⟩ = some (.slice none 0 0) ∧ w.cell? ⟨P, i * 5 + 1 + 2, none⟩ = some (.int .i64 0) ∧ w.cell? ⟨P, i * 5 + 1 + 3, none⟩ = some (.bool false)
  frz : ∀ j, w.frozen? ⟨P, j, none⟩ = false
  n32 : ∀ j x, w.cell? ⟨P, j, none⟩ ≠ some (.int .u32 x)
theorem numC_zero (w : World) : NumC w (.agg #[.bool false, .slice none 0 0, .int .i64 0]) 2240 2560 0 :=
  ⟨false, 0, 0, ⟨none, 0, 0, [], rfl, Rd4.none _, .inl rfl, rfl⟩, by omega, by rw [bl_zero]; omega, zv_zero _ _ _, fun _ => rfl⟩
theorem PZ.done {w : World} {base P : Nat} {X : Nat → Nat} (h : PZ w base P 4 X) : PS w base P X (fun _ => some 0) (fun _ => some 0) := by
  refine ⟨fun i hi => h.acc i hi, h.inj, h.ge, h.geP, h.ne, fun i hi => ?_, h.frz, h.n32⟩
  obtain ⟨r1, r2, r3, r4⟩ := h.row i hi
  exact ⟨false, none, 0, 0, 0, ⟨h.ptr i hi hi, r1, r2, r3, r4, fun z hz => by cases hz; exact numC_zero w⟩⟩
theorem PZ.lt {w : World} {base P k : Nat} {X : Nat → Nat} (h : PZ w base P k X) : P < w.heap.size := World.block_lt_of_cell? w _ (h.row 0 (by omega)).1
theorem PZ.later {w w' : World} {base P k : Nat} {X : Nat → Nat} (h : PZ w base P k X) (hb : Below w.heap.size w w') : PZ w' base P k X := by
  have hh := hb.block P h.lt
  refine ⟨fun i hi => (h.acc i hi).below hb (h.acc i hi).block, h.inj, h.ge, h.geP, h.ne, fun i hi hk => (cell_of_heap hh _).1.trans (h.ptr i hi hk), fun i hi hk => (cell_of_heap hh _).1.trans (h.nil i hi hk), fun i hi => ?_, fun j => (cell_of_heap hh j).2.trans (h.frz j), fun j x => by rw [(cell_of_heap hh j).1]; exact h.n32 j x⟩
  obtain ⟨r1, r2, r3, r4⟩ := h.row i hi
  exact ⟨(cell_of_heap hh _).1.trans r1, (cell_of_heap hh _).1.trans r2, (cell_of_heap hh _).1.trans r3, (cell_of_heap hh _).1.trans r4⟩
theorem PZ.next {w : World} {base P k x : Nat} {X : Nat → Nat} (h : PZ w base P k X) (hk : k < 4) (ha : AccO w x (some 0)) (hx : base ≤ x) (hxP : x ≠ P) (hne : ∀ j, j < k → X j ≠ x) :
    PZ (w.setCell ⟨P, k * 5, none⟩ (.pointer (some ⟨x, 0, none⟩))) base P (k + 1) (updF X k x) := by
  have ho : ∀ b, b ≠ P → (w.setCell ⟨P, k * 5, none⟩ (.pointer (some ⟨x, 0, none⟩))).heap[b]? = w.heap[b]? := fun b hb => heap_setCell_other _ _ _ _ hb
  have s0 := World.cell?_setCell_same w ⟨P, k * 5, none⟩ (.pointer (some ⟨x, 0, none⟩)) (h.nil k hk (Nat.le_refl _))
  have sf : ∀ j, j ≠ k * 5 → (w.setCell ⟨P, k * 5, none⟩ (.pointer (some ⟨x, 0, none⟩))).cell? ⟨P, j, none⟩ = w.cell? ⟨P, j, none⟩ := fun j hj => World.cell?_setCell_other _ _ _ _ (addr_ne (by omega))
  refine ⟨fun j hj => ?_, fun j j' hj hj' he => ?_, fun j hj => ?_, h.geP, fun j hj => ?_, fun j hj hj' => ?_, fun j hj hj' => (sf _ (by omega)).trans (h.nil j hj (by omega)), fun j hj => ?_, fun j => (World.frozen?_setCell _ _ _ _).trans (h.frz j), fun j y => ?_⟩
  · by_cases ej : j = k
    · subst ej; rw [updF_same]; exact ha.heap (ho x hxP)
    · rw [updF_other _ _ _ ej]; exact (h.acc j (by omega)).heap (ho _ (h.ne j (by omega)))
  · by_cases ej : j = k <;> by_cases ej' : j' = k
    · omega
    · subst ej; rw [updF_same, updF_other _ _ _ ej'] at he; exact absurd he.symm (hne j' (by omega))
    · subst ej'; rw [updF_same, updF_other _ _ _ ej] at he; exact absurd he (hne j (by omega))
    · rw [updF_other _ _ _ ej, updF_other _ _ _ ej'] at he; exact h.inj j j' (by omega) (by omega) he
  · by_cases ej : j = k
    · subst ej; rw [updF_same]; exact hx
    · rw [updF_other _ _ _ ej]; exact h.ge j (by omega)
  · by_cases ej : j = k
    · subst ej; rw [updF_same]; exact hxP
    · rw [updF_other _ _ _ ej]; exact h.ne j (by omega)
  · by_cases ej : j = k
    · subst ej; rw [updF_same]; exact s0
    · rw [updF_other _ _ _ ej]; exact (sf _ (by omega)).trans (h.ptr j hj (by omega))
  · obtain ⟨r1, r2, r3, r4⟩ := h.row j hj
    exact ⟨(sf _ (by omega)).trans r1, (sf _ (by omega)).trans r2, (sf _ (by omega)).trans r3, (sf _ (by omega)).trans r4⟩
  · by_cases ej : j = k * 5
    · subst ej; rw [s0]; simp
    · rw [sf j ej]; exact h.n32 j y
theorem PZ.start {w : World} {base P : Nat} (hP : base ≤ P) (h : w.heap[P]? = some (.cells #[.pointer none, .bool false, .slice none 0 0, .int .i64 0, .bool false, .pointer none, .bool false, .slice none 0 0, .int .i64 0, .bool false, .pointer none, .bool false, .slice none 0 0, .int .i64 0, .bool false, .pointer none, .bool false, .slice none 0 0, .int .i64 0, .bool false] 32)) : PZ w base P 0 (fun _ => 0) := by
  refine ⟨fun i hi => by omega, fun i j hi => by omega, fun i hi => by omega, hP, fun i hi => by omega, fun i _ hi => by omega, fun i hi _ => ?_, fun i hi => ?_, fun j => frozen_of_row _ _ j _ _ h, fun j x => ?_⟩
  · match i, hi with
    | 0, _ => exact cell_of_row _ _ 0 _ _ _ h
    | 1, _ => exact cell_of_row _ _ 5 _ _ _ h
    | 2, _ => exact cell_of_row _ _ 10 _ _ _ h
    | 3, _ => exact cell_of_row _ _ 15 _ _ _ h
  · match i, hi with
    | 0, _ => exact ⟨cell_of_row _ _ 1 _ _ _ h, cell_of_row _ _ 2 _ _ _ h, cell_of_row _ _ 3 _ _ _ h, cell_of_row _ _ 4 _ _ _ h⟩
    | 1, _ => exact ⟨cell_of_row _ _ 6 _ _ _ h, cell_of_row _ _ 7 _ _ _ h, cell_of_row _ _ 8 _ _ _ h, cell_of_row _ _ 9 _ _ _ h⟩
    | 2, _ => exact ⟨cell_of_row _ _ 11 _ _ _ h, cell_of_row _ _ 12 _ _ _ h, cell_of_row _ _ 13 _ _ _ h, cell_of_row _ _ 14 _ _ _ h⟩
    | 3, _ => exact ⟨cell_of_row _ _ 16 _ _ _ h, cell_of_row _ _ 17 _ _ _ h, cell_of_row _ _ 18 _ _ _ h, cell_of_row _ _ 19 _ _ _ h⟩
  · unfold World.cell?
    simp only [h]
    match j with
    | 0 => simp
    | 1 => simp
    | 2 => simp
    | 3 => simp
    | 4 => simp
    | 5 => simp
    | 6 => simp
    | 7 => simp
    | 8 => simp
    | 9 => simp
    | 10 => simp
    | 11 => simp
    | 12 => simp
    | 13 => simp
    | 14 => simp
    | 15 => simp
    | 16 => simp
    | 17 => simp
    | 18 => simp
    | 19 => simp
    | n + 20 => simp
end Go.Proofs.Ytajopgndpomggaa
