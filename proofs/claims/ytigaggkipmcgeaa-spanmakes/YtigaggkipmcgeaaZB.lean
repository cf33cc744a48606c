import Derived.Test.YtigaggkipmcgeaaZA
import Derived.Test.YtigaggkipmcgeaaRO
import Derived.Test.YtigaggkipmcgeaaRM
namespace Go.Proofs.Ytigaggkipmcgeaa
open Go.RowKit
set_option linter.unusedVariables false

/-- THE SLICE OF Spans '.slice ao len cap' READS AS F. -/
structure RdS (w : World) (ao : Option Addr) (len cap : Nat) (F : Nat → Nat × Nat × Bool) : Prop where
  le : len ≤ cap
  max : cap ≤ maxLen
  lt : ∀ j, j < len → (F j).1 < 18446744073709551616 ∧ (F j).2.1 < 18446744073709551616
  cells : len = 0 ∨ ∃ b off, ao = some ⟨b, off, none⟩ ∧ ∀ j, j < len → w.cell? ⟨b, off + j * 3, none⟩ = some (.float .f64 (F j).1) ∧ w.cell? ⟨b, off + j * 3 + 1, none⟩ = some (.float .f64 (F j).2.1) ∧ w.cell? ⟨b, off + j * 3 + 2, none⟩ = some (.bool (F j).2.2)
theorem RdS.later {w w' : World} {ao : Option Addr} {len cap : Nat} {F : Nat → Nat × Nat × Bool} (h : RdS w ao len cap F) (hb : Below w.heap.size w w') : RdS w' ao len cap F := by
  refine ⟨h.le, h.max, h.lt, ?_⟩
  rcases h.cells with h0 | ⟨b, off, ha, hc⟩
  · exact .inl h0
  · refine .inr ⟨b, off, ha, fun j hj => ?_⟩
    obtain ⟨h1, h2, h3⟩ := hc j hj
    have hl := World.block_lt_of_cell? w _ h1
    exact ⟨by rw [hb.cell (p := ⟨b, off + j * 3, none⟩) hl]; exact h1, by rw [hb.cell (p := ⟨b, off + j * 3 + 1, none⟩) hl]; exact h2, by rw [hb.cell (p := ⟨b, off + j * 3 + 2, none⟩) hl]; exact h3⟩
def AllGood (F : Nat → Nat × Nat × Bool) (n : Nat) : Prop := ∀ j, j < n → Good (F j).1 (F j).2.1 (F j).2.2
instance (F : Nat → Nat × Nat × Bool) (n : Nat) : Decidable (AllGood F n) := inferInstanceAs (Decidable (∀ j, j < n → Good (F j).1 (F j).2.1 (F j).2.2))

theorem side_any (d : Int) (lo hi : Nat) (bad : Bool) (w : World) :
    Calls Try.prog 85 #[.int .i64 d, .agg #[.float .f64 lo, .float .f64 hi, .bool bad]] w fun e w' => e = .returned (.float .f64 (if d = 2 then lo else hi)) ∧ Below w.heap.size w w' := by
  by_cases hd : d = 2
  · subst hd
    go_enter Try.func85, Try.ntmps85
    go_wp2
    go_ret
    exact ⟨rfl, (Below.refl _ w).alloc (Nat.le_refl _) _⟩
  · have hdd : (d == 2) = false := by simpa using hd
    rw [if_neg hd]
    go_enter Try.func85, Try.ntmps85
    go_wp2
    go_ret
    exact ⟨rfl, (Below.refl _ w).alloc (Nat.le_refl _) _⟩
theorem cells3 {W : World} {B : Nat} {v0 v1 v2 : Value} {t : TypeId} (h : W.heap[B]? = some (.cells #[v0, v1, v2] t)) :
    W.cell? ⟨B, 0, none⟩ = some v0 ∧ W.cell? ⟨B, 1, none⟩ = some v1 ∧ W.cell? ⟨B, 2, none⟩ = some v2 :=
  ⟨cell_of_row _ _ 0 _ _ _ h, cell_of_row _ _ 1 _ _ _ h, cell_of_row _ _ 2 _ _ _ h⟩
theorem res_sp (f : Func) (i : Nat) (hf : f.results = #[ResultVar.cell i 68]) (tmps : Array Value) (W : World) (B : Nat) (v0 v1 v2 : Value) (hp : tmps[i]? = some (.pointer (some ⟨B, 0, none⟩)))
    (h : W.heap[B]? = some (.cells #[v0, v1, v2] 68)) : (results f tmps).run Try.prog W = .ok (.agg #[v0, v1, v2]) W := by
  obtain ⟨h0, h1, h2⟩ := cells3 h
  simp [results, hf, go_sem, hp, h0, h1, h2]
theorem res_su (f : Func) (i : Nat) (hf : f.results = #[ResultVar.cell i 71]) (tmps : Array Value) (W : World) (B : Nat) (v0 v1 v2 : Value) (hp : tmps[i]? = some (.pointer (some ⟨B, 0, none⟩)))
    (h : W.heap[B]? = some (.cells #[v0, v1, v2] 71)) : (results f tmps).run Try.prog W = .ok (.agg #[v0, v1, v2]) W := by
  obtain ⟨h0, h1, h2⟩ := cells3 h
  simp [results, hf, go_sem, hp, h0, h1, h2]
theorem run_store_f : ∀ (W : World) (a : Addr) (x : Nat), (store a (.float .f64 x)).run Try.prog W = stored Try.prog W a (.float .f64 x) .plain := fun W a x => run_store Try.prog W a _ .plain rfl
theorem spBad_any (w : World) : Calls Try.prog 81 #[] w fun e w' => e = .returned (.agg #[.float .f64 0, .float .f64 0, .bool true]) ∧ Below w.heap.size w w' := by
  have hsf := run_store_f
  go_enter Try.func81, Try.ntmps81
  go_wp2
  refine bodyPost_ret (v := .agg #[.float .f64 0, .float .f64 0, .bool true]) (res_sp _ 0 (by kernel_rfl) _ _ w.heap.size _ _ _ ?_ (heap_alloc_new w _)) rfl ?_
  · rfl
  · exact ⟨rfl, (Below.refl _ w).alloc (Nat.le_refl _) _⟩
end Go.Proofs.Ytigaggkipmcgeaa
