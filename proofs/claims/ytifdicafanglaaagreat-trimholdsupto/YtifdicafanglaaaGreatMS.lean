import Derived.Test.YtifdicafanglaaaGreatMR
import Derived.Test.YtifdicafanglaaaGreatPur
import Derived.Deep.RegionHeld3
import Derived.BigRegion
import Derived.Test.YtifdicafanglaaaGreatMQ
import Derived.Shelf.Abstract
namespace Go.Proofs.YtifdicafanglaaaGreat
open Go.RowKit
set_option linter.unusedVariables false

end Go.Proofs.YtifdicafanglaaaGreat


namespace Go.Proofs.YtifdicafanglaaaGreat
open Go.RowKit
set_option linter.unusedVariables false

def AllGood (F : Nat → Nat × Nat × Bool) (n : Nat) : Prop := ∀ j, j < n → Good (F j).1 (F j).2.1 (F j).2.2
instance (F : Nat → Nat × Nat × Bool) (n : Nat) : Decidable (AllGood F n) := inferInstanceAs (Decidable (∀ j, j < n → Good (F j).1 (F j).2.1 (F j).2.2))

theorem run_store_f : ∀ (W : World) (a : Addr) (x : Nat), (store a (.float .f64 x)).run Tryz.prog W = stored Tryz.prog W a (.float .f64 x) .plain := fun W a x => run_store Tryz.prog W a _ .plain rfl
end Go.Proofs.YtifdicafanglaaaGreat


namespace Go.Proofs.YtifdicafanglaaaGreat
open Go.RowKit
set_option linter.unusedVariables false

theorem AllGood.succ {F : Nat → Nat × Nat × Bool} {k : Nat} (h : AllGood F k) (hg : Good (F k).1 (F k).2.1 (F k).2.2) : AllGood F (k + 1) := by
  intro j hj
  rcases Nat.lt_or_ge j k with h1 | h1
  · exact h j h1
  · obtain rfl : j = k := by omega
    exact hg
end Go.Proofs.YtifdicafanglaaaGreat


namespace Go.Proofs.YtifdicafanglaaaGreat
open Go.RowKit
set_option linter.unusedVariables false

end Go.Proofs.YtifdicafanglaaaGreat


namespace Go.Proofs.YtifdicafanglaaaGreat
open Go.RowKit
set_option linter.unusedVariables false

def two (a b : Nat × Nat × Bool) (j : Nat) : Nat × Nat × Bool := if j = 0 then a else b
theorem next_plain {x : Nat} (hx : x < 18446744073709551616) (hf : Fin x) (w : World) :
    Calls Tryz.prog 63 #[.int .i64 0, .float .f64 x] w fun e w' => e = .returned (.tuple #[.float .f64 (plainM x), .bool true]) ∧ w' = w := by
  obtain ⟨p, h1, -, c⟩ := next_any 0 x hx
  have h := h1 hf
  rw [show sideOf 0 = 0 from rfl, Int.add_zero] at h
  have := canon_rnd (D := 64) hx hf (by decide) (.inl rfl) h
  subst this
  exact c w
end Go.Proofs.YtifdicafanglaaaGreat

