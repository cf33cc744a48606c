import Derived.Test.YtcpbccckjlnkaaaChecked
import Derived.Test.YtcpbccckjlnkaaaBase
import Derived.Laws.OwnMore
import Derived.ArgAppend
import Derived.OwnWalk
import Derived.Orders
import Derived.RegionTactic
import Derived.Deep.MidRow
import Derived.Deep.WholeRow
import Derived.Laws.CopyOwn
import Derived.WalkKit
import Derived.Below
namespace Go.Proofs.Ytcpbccckjlnkaaa
open Go.RowKit
set_option linter.unusedVariables false

theorem owns_keep {w w' : World} {E : TypeId} {base size : Nat} {v : Value} {n : Nat} {xs : List Value} (h : w.ownsRow base E size v n xs) (hb : ∀ k, v.ownBlock = some k → w'.heap[k]? = w.heap[k]?) : w'.ownsRow base E size v n xs := by
  refine ⟨h.1, ?_⟩
  rcases h.2 with h2 | ⟨g, cap, cur, hv, hg, hh, r⟩
  · exact .inl h2
  · exact .inr ⟨g, cap, cur, hv, hg, by rw [hb g (by rw [hv]; rfl)]; exact hh, r⟩
/-- A block's number tells its type. -/
theorem owns_type {w : World} {E : TypeId} {base size : Nat} {v : Value} {n : Nat} {xs : List Value} (h : w.ownsRow base E size v n xs) {k : Nat} (hk : v.ownBlock = some k) : ∃ cur, w.heap[k]? = some (.cells cur E) := by
  rcases h.2 with ⟨rfl, _⟩ | ⟨g, cap, cur, rfl, hg, hh, r⟩
  · simp [Value.ownBlock] at hk
  · simp only [Value.ownBlock, Option.some.injEq] at hk
    subst hk
    exact ⟨cur, hh⟩
/-- Of old memory nothing changed but, perhaps, the block r; v' lies there, or is new. -/
structure Grw (w w' : World) (r r' : Option Nat) : Prop where
  by' : w.grownBy w' r
  new : r' = r ∨ ∀ k, r' = some k → w.heap.size ≤ k
theorem info3' {P : Program} {t : TypeId} {z : Value} {s b : Nat} (h : (P.info? t).map (fun i => (i.zero, i.size, i.bytes)) = some (some z, s, b)) : ∃ i, P.info? t = some i ∧ i.zero = some z ∧ i.size = s ∧ i.bytes = b := by
  cases hi : P.info? t with
  | none => simp [hi] at h
  | some i =>
    simp [hi] at h
    exact ⟨i, rfl, h.1, h.2.1, h.2.2⟩
theorem Grw.refl (w : World) (r : Option Nat) : Grw w w r r := ⟨⟨rfl, rfl, rfl, Nat.le_refl _, fun _ _ _ => rfl⟩, .inl rfl⟩
theorem Grw.trans {w w1 w2 : World} {r r1 r2 : Option Nat} (h : Grw w w1 r r1) (k : Grw w1 w2 r1 r2) : Grw w w2 r r2 := by
  have hs := h.by'.size
  refine ⟨⟨k.by'.os.trans h.by'.os, k.by'.tape.trans h.by'.tape, k.by'.output.trans h.by'.output, Nat.le_trans hs k.by'.size, fun j hj hne => ?_⟩, ?_⟩
  · rw [k.by'.block j (by omega) ?_, h.by'.block j hj hne]
    intro c
    rcases h.new with h1 | h1
    · exact hne (by rw [c, h1])
    · have := h1 j c.symm
      omega
  · rcases k.new with k1 | k1
    · rw [k1]; exact h.new
    · exact .inr fun j hj => Nat.le_trans hs (k1 j hj)
theorem Grw.below {w w' : World} {r r' : Option Nat} {base : Nat} (h : Grw w w' r r') (hb : ∀ k, r = some k → base ≤ k) (hw : base ≤ w.heap.size) : Below base w w' :=
  ⟨h.by'.os, h.by'.tape, h.by'.output, h.by'.size, fun k hk => h.by'.block k (by omega) (fun c => by have := hb k c.symm; omega)⟩
end Go.Proofs.Ytcpbccckjlnkaaa

