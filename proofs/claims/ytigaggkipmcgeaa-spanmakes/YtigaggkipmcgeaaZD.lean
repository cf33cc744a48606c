import Derived.Test.YtigaggkipmcgeaaZC
namespace Go.Proofs.Ytigaggkipmcgeaa
open Go.RowKit
set_option linter.unusedVariables false

/-- What a function value tells at d, whatever new memory lies about. -/
def Tells (k : Nat) (caps : Array Value) (w : World) (d : Int) (p : Nat × Bool) : Prop := ∀ w', Below w.heap.size w w' → Calls Try.prog k (#[.int .i64 d] ++ caps) w' fun e w2 => e = .returned (.tuple #[.float .f64 p.1, .bool p.2]) ∧ Below w'.heap.size w' w2
theorem setsp_heap {w : World} {B : Nat} {t : TypeId} {a b c : Value} (x y z : Value) (h : w.heap[B]? = some (.cells #[a, b, c] t)) :
    (((w.setCell ⟨B, 0, none⟩ x).setCell ⟨B, 1, none⟩ y).setCell ⟨B, 2, none⟩ z).heap[B]? = some (.cells #[x, y, z] t) := by
  have h1 := heap_setCell_same w B 0 _ _ x h
  have h2 := heap_setCell_same _ B 1 _ _ y h1
  exact heap_setCell_same _ B 2 _ _ z h2
theorem below_setsp {w0 w : World} {base B : Nat} (x y z : Value) (h : Below base w0 w) (hB : base ≤ B) : Below base w0 (((w.setCell ⟨B, 0, none⟩ x).setCell ⟨B, 1, none⟩ y).setCell ⟨B, 2, none⟩ z) :=
  ((h.setCell (p := ⟨B, 0, none⟩) hB x).setCell (p := ⟨B, 1, none⟩) hB y).setCell (p := ⟨B, 2, none⟩) hB z
set_option maxRecDepth 100000 in
set_option maxHeartbeats 2000000 in
theorem spanOf_any (k : Nat) (caps : Array Value) (eg : ∀ args w, (callFunc k args).run Try.prog w = .ok (.enter k args) w) (w : World) (p q : Nat × Bool) (hp : Tells k caps w 2 p) (hq : Tells k caps w 1 q) :
    Calls Try.prog 82 #[.func (.func k) #[] caps] w fun e w' => e = .returned (.agg #[.float .f64 (spOf p q).1, .float .f64 (spOf p q).2.1, .bool (spOf p q).2.2]) ∧ Below w.heap.size w w' := by
  have HP : Hid (Tells k caps w 2 p) := hp
  have HQ : Hid (Tells k caps w 1 q) := hq
  clear hp hq
  have hsf := run_store_f
  have r0 : Hid _ := heap_alloc_new w (.cells #[.float .f64 0, .float .f64 0, .bool false] 68)
  have b0 : Hid (Below w.heap.size w (w.alloc (.cells #[.float .f64 0, .float .f64 0, .bool false] 68))) := (Below.refl _ w).alloc (Nat.le_refl _) _
  have z0 : Hid ((w.alloc (.cells #[.float .f64 0, .float .f64 0, .bool false] 68)).heap.size = w.heap.size + 1) := by unfold Hid; simp
  go_enter Try.func82, Try.ntmps82
  go_wp2_with fail
  refine (HP.out _ b0.out).mono ?_
  rintro e w1 ⟨rfl, b1⟩
  have r1 : Hid _ := (b1.block w.heap.size (by have := z0.out; omega)).trans r0.out
  have B1 : Hid (Below w.heap.size w w1) := b0.out.trans (b1.mono b0.out.size)
  have z1 : Hid (w.heap.size < w1.heap.size) := by have := b1.size; have := z0.out; unfold Hid; omega
  clear b1 r0 b0 z0
  go_wp2_with fail
  refine (HQ.out _ B1.out).mono ?_
  rintro e w2 ⟨rfl, b2⟩
  have r2 : Hid _ := (b2.block w.heap.size z1.out).trans r1.out
  have B2 : Hid (Below w.heap.size w w2) := B1.out.trans (b2.mono B1.out.size)
  have z2 : Hid (w.heap.size < w2.heap.size) := by have := b2.size; have := z1.out; unfold Hid; omega
  clear b2 r1 B1 z1 HP HQ eg
  by_cases hpq : p.2 = true ∧ q.2 = true
  · have hs : spOf p q = (p.1, q.1, false) := by unfold spOf; rw [if_pos hpq]
    have HS : Hid _ := hs
    obtain ⟨h1, h2⟩ := hpq
    rw [h1, h2]
    clear hs
    obtain ⟨c0, c1, c2⟩ := cells3 r2.out
    have fz := fun j => frozen_of_row _ _ j _ _ r2.out
    go_wp2_with fail
    refine bodyPost_ret (v := .agg #[.float .f64 p.1, .float .f64 q.1, .bool false]) (res_sp _ 2 (by kernel_rfl) _ _ w.heap.size _ _ _ ?_ (setsp_heap _ _ _ r2.out)) rfl ?_
    · rfl
    · exact ⟨by rw [HS.out], below_setsp _ _ _ B2.out (Nat.le_refl _)⟩
  · have hs : spOf p q = (0, 0, true) := by unfold spOf; rw [if_neg hpq]
    have HS : Hid _ := hs
    clear hs
    have step : ∀ (pb qb : Bool), ¬ (pb = true ∧ qb = true) → (pb = false ∨ (pb = true ∧ qb = false)) := by intro pb qb h; cases pb <;> cases qb <;> simp_all
    rcases step _ _ hpq with h1 | ⟨h1, h2⟩
    · rw [h1]
      clear step hpq
      go_wp2_with fail
      refine (spBad_any _).mono ?_
      rintro e w3 ⟨rfl, b3⟩
      have r3 : Hid _ := (b3.block w.heap.size z2.out).trans r2.out
      have B3 : Hid (Below w.heap.size w w3) := B2.out.trans (b3.mono B2.out.size)
      clear b3 r2 B2 z2
      obtain ⟨c0, c1, c2⟩ := cells3 r3.out
      have fz := fun j => frozen_of_row _ _ j _ _ r3.out
      go_wp2_with fail
      refine bodyPost_ret (v := .agg #[.float .f64 0, .float .f64 0, .bool true]) (res_sp _ 2 (by kernel_rfl) _ _ w.heap.size _ _ _ ?_ (setsp_heap _ _ _ r3.out)) rfl ?_
      · rfl
      · exact ⟨by rw [HS.out], below_setsp _ _ _ B3.out (Nat.le_refl _)⟩
    · rw [h1, h2]
      clear step hpq
      go_wp2_with fail
      refine (spBad_any _).mono ?_
      rintro e w3 ⟨rfl, b3⟩
      have r3 : Hid _ := (b3.block w.heap.size z2.out).trans r2.out
      have B3 : Hid (Below w.heap.size w w3) := B2.out.trans (b3.mono B2.out.size)
      clear b3 r2 B2 z2
      obtain ⟨c0, c1, c2⟩ := cells3 r3.out
      have fz := fun j => frozen_of_row _ _ j _ _ r3.out
      go_wp2_with fail
      refine bodyPost_ret (v := .agg #[.float .f64 0, .float .f64 0, .bool true]) (res_sp _ 2 (by kernel_rfl) _ _ w.heap.size _ _ _ ?_ (setsp_heap _ _ _ r3.out)) rfl ?_
      · rfl
      · exact ⟨by rw [HS.out], below_setsp _ _ _ B3.out (Nat.le_refl _)⟩
end Go.Proofs.Ytigaggkipmcgeaa
