import Derived.Test.YthmhgpadinecfaaGreatTDc
import Derived.Test.YthmhgpadinecfaaGreatTDe
set_option linter.unusedVariables false
set_option linter.unusedSimpArgs false
namespace Go.Proofs.YthmhgpadinecfaaGreat
open Go.RowKit Go.Shelf
structure NuL (w : World) (base : Nat) (v : Value) (E : Nat) (T : Int) (n : Nat) (L : Nat -> Int) : Prop where
 own : ∃ xs, w.ownsRow base 65 3 v n xs /\ ∀ j, j < n -> ∃ a o l c e, xs[j * 3]? = some (.bool a) /\ xs[j * 3 + 1]? = some (.slice o l c) /\ xs[j * 3 + 2]? = some (.int .i64 e) /\ NumC w (.agg #[.bool a, .slice o l c, .int .i64 e]) E T (L j)
 cl : ∀ g, v.ownBlock = some g -> Cl noU w g
theorem NuL.nil (w : World) (base E : Nat) (T : Int) (L : Nat -> Int) : NuL w base (.slice none 0 0) E T 0 L := ⟨⟨[], World.ownsRow_nil _ _ _ _, fun j hj => absurd hj (Nat.not_lt_zero _)⟩, fun g hg => by cases hg⟩
theorem NuL.later {w w' : World} {base E n : Nat} {v : Value} {T : Int} {L : Nat -> Int} (h : NuL w base v E T n L) (hb : Below w.heap.size w w') : NuL w' base v E T n L := by
 obtain ⟨xs, h1, h2⟩ := h.own
 exact ⟨⟨xs, owns_keep h1 fun k hk => hb.block k (World.ownsRow.lt h1 k hk).2, fun j hj => by obtain ⟨a, o, l, c, e, a1, a2, a3, a4⟩ := h2 j hj; exact ⟨a, o, l, c, e, a1, a2, a3, a4.later hb⟩⟩, fun g hg => (h.cl g hg).later hb⟩
theorem NuL.form {w : World} {base E n : Nat} {v : Value} {T : Int} {L : Nat -> Int} (h : NuL w base v E T n L) : ∃ ao cap, v = .slice ao n cap := by
 obtain ⟨xs, h1, h2⟩ := h.own
 rcases h1.2 with ⟨rfl, h0⟩ | ⟨g, cap, cur, rfl, _⟩
 ·exact ⟨none, 0, by rw [h0]⟩
 ·exact ⟨_, cap, rfl⟩
theorem NuL.range {w : World} {base E n : Nat} {v : Value} {T : Int} {L : Nat -> Int} (h : NuL w base v E T n L) {k : Nat} (hk : k < n) : ∃ b cap a o l c e, v = .slice (some ⟨b, 0, none⟩) n cap /\ w.rangeAt b (k * 3) [.bool a, .slice o l c, .int .i64 e] /\ NumC w (.agg #[.bool a, .slice o l c, .int .i64 e]) E T (L k) := by
 obtain ⟨xs, h1, h2⟩ := h.own
 obtain ⟨a, o, l, c, e, a1, a2, a3, a4⟩ := h2 k hk
 have h1' := h1
 rcases h1.2 with ⟨_, h0⟩ | ⟨g, cap, cur, rfl, _⟩
 ·omega
 ·exact ⟨g, cap, a, o, l, c, e, rfl, range3 (by rw [World.ownsRow.cellAt h1' (k * 3) (by omega)]; exact a1) (by rw [World.ownsRow.cellAt h1' (k * 3 + 1) (by omega)]; exact a2) (by rw [World.ownsRow.cellAt h1' (k * 3 + 2) (by omega)]; exact a3), a4⟩
theorem NuL.stored {w w' : World} {base E n B : Nat} {v : Value} {T : Int} {L : Nat -> Int} (h : NuL w base v E T n L) (hc : Cl noU w B) (ho : ∀ b, b ≠ B -> w'.heap[b]? = w.heap[b]?) (hB : ∀ g, v.ownBlock = some g -> g ≠ B) : NuL w' base v E T n L := by
 obtain ⟨xs, h1, h2⟩ := h.own
 refine ⟨⟨xs, owns_keep h1 fun k hk => ho k (hB k hk), fun j hj => ?_⟩, fun g hg => ?_⟩
 ·obtain ⟨a, o, l, c, e, a1, a2, a3, a4⟩ := h2 j hj
  exact ⟨a, o, l, c, e, a1, a2, a3, a4.cl hc (fun b hb _ => ho b hb)⟩
 ·obtain ⟨cur, t, h3, h4⟩ := h.cl g hg
  exact ⟨cur, t, (ho g (hB g hg)).trans h3, h4⟩
theorem NuL.push {w w' : World} {base E n : Nat} {v v' : Value} {T : Int} {L : Nat -> Int} {a : Bool} {o : Option Addr} {l c : Nat} {e : Int} {xs : List Value} (hx : w.ownsRow base 65 3 v n xs) (h2 : ∀ j, j < n -> ∃ a o l c e, xs[j * 3]? = some (.bool a) /\ xs[j * 3 + 1]? = some (.slice o l c) /\ xs[j * 3 + 2]? = some (.int .i64 e) /\ NumC w (.agg #[.bool a, .slice o l c, .int .i64 e]) E T (L j))
  (hcl : ∀ g, v.ownBlock = some g -> Cl noU w g) (hn : NumC w (.agg #[.bool a, .slice o l c, .int .i64 e]) E T (L n)) (ho : w'.ownsRow base 65 3 v' (n + 1) (xs ++ [.bool a, .slice o l c, .int .i64 e])) (hg : Grw w w' v.ownBlock v'.ownBlock) (hcl' : ∀ g, v'.ownBlock = some g -> Cl noU w' g) : NuL w' base v' E T (n + 1) L := by
 have keep : ∀ (y : Value) (z : Int), NumC w y E T z -> NumC w' y E T z := fun y z hy => by
  cases hv : v.ownBlock with
  | none => exact hy.later ⟨hg.by'.os, hg.by'.tape, hg.by'.output, hg.by'.size, fun k hk => hg.by'.block k hk (by rw [hv]; simp)⟩
  | some g => exact hy.cl (hcl g hv) fun b hb hlt => hg.by'.block b hlt (by rw [hv]; intro e; cases e; exact hb rfl)
 have hl : xs.length = n * 3 := hx.1
 refine ⟨⟨_, ho, fun j hj => ?_⟩, hcl'⟩
 by_cases ej : j < n
 ·obtain ⟨n1, o1, l1, c1, e1, a1, a2, a3, a4⟩ := h2 j ej
  refine ⟨n1, o1, l1, c1, e1, ?_, ?_, ?_, keep _ _ a4⟩
  ·rw [List.getElem?_append_left (by omega)]; exact a1
  ·rw [List.getElem?_append_left (by omega)]; exact a2
  ·rw [List.getElem?_append_left (by omega)]; exact a3
 ·have e2 : j = n := by omega
  subst e2
  refine ⟨a, o, l, c, e, ?_, ?_, ?_, keep _ _ hn⟩
  ·rw [List.getElem?_append_right (by omega), hl, Nat.sub_self]; rfl
  ·rw [List.getElem?_append_right (by omega), hl, show j * 3 + 1 - j * 3 = 1 by omega]; rfl
  ·rw [List.getElem?_append_right (by omega), hl, show j * 3 + 2 - j * 3 = 2 by omega]; rfl
end Go.Proofs.YthmhgpadinecfaaGreat
