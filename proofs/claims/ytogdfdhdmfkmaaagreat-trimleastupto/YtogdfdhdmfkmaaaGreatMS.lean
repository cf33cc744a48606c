import Derived.Test.YtogdfdhdmfkmaaaGreatMR
import Derived.Test.YtogdfdhdmfkmaaaGreatPur
import Derived.Deep.RegionHeld3
import Derived.BigRegion
import Derived.Test.YtogdfdhdmfkmaaaGreatMQ
import Derived.Shelf.Abstract
namespace Go.Proofs.YtogdfdhdmfkmaaaGreat
open Go.RowKit
set_option linter.unusedVariables false

end Go.Proofs.YtogdfdhdmfkmaaaGreat


namespace Go.Proofs.YtogdfdhdmfkmaaaGreat
open Go.RowKit
set_option linter.unusedVariables false

def AllGood (F : Nat → Nat × Nat × Bool) (n : Nat) : Prop := ∀ j, j < n → Good (F j).1 (F j).2.1 (F j).2.2
instance (F : Nat → Nat × Nat × Bool) (n : Nat) : Decidable (AllGood F n) := inferInstanceAs (Decidable (∀ j, j < n → Good (F j).1 (F j).2.1 (F j).2.2))

theorem cells3 {W : World} {B : Nat} {v0 v1 v2 : Value} {t : TypeId} (h : W.heap[B]? = some (.cells #[v0, v1, v2] t)) :
    W.cell? ⟨B, 0, none⟩ = some v0 ∧ W.cell? ⟨B, 1, none⟩ = some v1 ∧ W.cell? ⟨B, 2, none⟩ = some v2 :=
  ⟨cell_of_row _ _ 0 _ _ _ h, cell_of_row _ _ 1 _ _ _ h, cell_of_row _ _ 2 _ _ _ h⟩
theorem run_store_f : ∀ (W : World) (a : Addr) (x : Nat), (store a (.float .f64 x)).run Tryz.prog W = stored Tryz.prog W a (.float .f64 x) .plain := fun W a x => run_store Tryz.prog W a _ .plain rfl
end Go.Proofs.YtogdfdhdmfkmaaaGreat


namespace Go.Proofs.YtogdfdhdmfkmaaaGreat
open Go.RowKit
set_option linter.unusedVariables false

theorem AllGood.succ {F : Nat → Nat × Nat × Bool} {k : Nat} (h : AllGood F k) (hg : Good (F k).1 (F k).2.1 (F k).2.2) : AllGood F (k + 1) := by
  intro j hj
  rcases Nat.lt_or_ge j k with h1 | h1
  · exact h j h1
  · obtain rfl : j = k := by omega
    exact hg
end Go.Proofs.YtogdfdhdmfkmaaaGreat


namespace Go.Proofs.YtogdfdhdmfkmaaaGreat
open Go.RowKit
set_option linter.unusedVariables false

end Go.Proofs.YtogdfdhdmfkmaaaGreat


namespace Go.Proofs.YtogdfdhdmfkmaaaGreat
open Go.RowKit
set_option linter.unusedVariables false

def two (a b : Nat × Nat × Bool) (j : Nat) : Nat × Nat × Bool := if j = 0 then a else b
theorem next_plain {x : Nat} (hx : x < 18446744073709551616) (hf : Fin x) (w : World) :
    Calls Tryz.prog 58 #[.int .i64 0, .float .f64 x] w fun e w' => e = .returned (.tuple #[.float .f64 (plainM x), .bool true]) ∧ w' = w := by
  obtain ⟨p, h1, -, c⟩ := next_any 0 x hx
  have h := h1 hf
  rw [show sideOf 0 = 0 from rfl, Int.add_zero] at h
  have := canon_rnd (D := 64) hx hf (by decide) (.inl rfl) h
  subst this
  exact c w
end Go.Proofs.YtogdfdhdmfkmaaaGreat

