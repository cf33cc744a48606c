import Derived.Test.YtmbnbleahehdaaaMVA
import Derived.Deep.RegionHeld3
import Derived.Deep.MidRow
import Derived.Laws.CopyOwn
namespace Go.Proofs.Ytmbnbleahehdaaa
open Go.RowKit
set_option linter.unusedVariables false

theorem MkU.mono {w : World} {base b : Nat} {v : Value} {uss : List (List Nat)} (h : MkU w base v uss) (hb : b ≤ base) : MkU w b v uss := by
  obtain ⟨vs, h1, h2, h3⟩ := h
  refine ⟨vs, ⟨h1.1, ?_⟩, h2, fun j x hx => (h3 j x hx).mono hb⟩
  rcases h1.2 with h4 | ⟨g, cap, cur, hv, hg, r⟩
  · exact .inl h4
  · exact .inr ⟨g, cap, cur, hv, by omega, r⟩
theorem MkU.sl {w : World} {base : Nat} {v : Value} {uss : List (List Nat)} (h : MkU w base v uss) : ∃ ao n cap, v = .slice ao n cap := by
  obtain ⟨vs, h1, _⟩ := h
  rcases h1.2 with ⟨rfl, h0⟩ | ⟨g, cap, cur, rfl, _⟩
  · exact ⟨none, 0, 0, rfl⟩
  · exact ⟨_, _, cap, rfl⟩
/-- A block that is written cell by cell. -/
structure Wr (w0 : World) (base B : Nat) (t : TypeId) (x W : World) (cur : Array Value) : Prop where
  blk : W.heap[B]? = some (.cells cur t)
  bel : Below base w0 W
  oth : ∀ k, k ≠ B → W.heap[k]? = x.heap[k]?
theorem Wr.step {w0 x W : World} {base B : Nat} {t : TypeId} {cur : Array Value} (hB : base ≤ B) (h : Wr w0 base B t x W cur) (o : Nat) (v : Value) : Wr w0 base B t x (W.setCell ⟨B, o, none⟩ v) (cur.setIfInBounds o v) := by
  have e : W.setCell ⟨B, o, none⟩ v = W.setRow B (cur.setIfInBounds o v) := setCell_eq_setRow W B o cur t (0, 0) v h.blk
  rw [e]
  exact ⟨setRow_heap W B _ _ t _ h.blk, below_setRow h.bel hB _, fun k hk => (setRow_other W B k _ hk).trans (h.oth k hk)⟩
theorem frz {w : World} {B : Nat} {c : Array Value} {t : TypeId} (h : w.heap[B]? = some (.cells c t)) (o : Nat) : w.frozen? ⟨B, o, none⟩ = false := by simp [World.frozen?, h]
end Go.Proofs.Ytmbnbleahehdaaa
