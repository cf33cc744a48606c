import Derived.Test.YtfldgjkpkmnkbabDoorOwnL
import Derived.Test.YtfldgjkpkmnkbabDoorIntact
import Derived.Deep.AppendLies
namespace Go.Proofs.YtfldgjkpkmnkbabDoor
open Go.RowKit
set_option linter.unusedVariables false

/-- append(s, x) of one slice to a slice of slices: which block it lies in, and what of the call's own stays. -/
theorem appendW {ops : Array Oper} {rest : List Oper} {o : Oper} {a : Act} {Q : Exit → Act → World → Prop} (W : World) (hgd : o.guard = none) (s x : Operand)
    (ho : o.op = .call { callee := .builtin .append, args := #[s, x], argTypes := #[46, 46] })
    (base : Nat) (v : Value) (vs : List Value) (hs : a.eval s = v) (hown : OwnV W base v vs) (y : Value) (hy1 : y.oneCell' = true)
    (hx : a.eval x = .slice (some ⟨W.heap.size, 0, none⟩) 1 1)
    (hbound : vs.length ≤ 1000) (hbase : base ≤ W.heap.size)
    (h : ∀ g cap w', OwnV w' base (.slice (some ⟨g, 0, none⟩) (vs.length + 1) cap) (vs ++ [y]) → (v.ownBlock = some g ∨ g = W.heap.size + 1) → (∀ u us, OwnV W base u us → (∀ k, u.ownBlock = some k → v.ownBlock ≠ some k) → OwnV w' base u us) →
      (∀ u ys, Own W base u ys → Own w' base u ys) → Below base W w' → wpList Tryd.prog ops Q rest (a.put o.dst (.slice (some ⟨g, 0, none⟩) (vs.length + 1) cap)) w') : wpList Tryd.prog ops Q (o :: rest) a (W.alloc (.cells #[y] 23)) := by
  obtain ⟨i0, hi, hz0, hz1, hz2⟩ := info_parts Tryd.infoBytes
  have hown' := hown.alloc (.cells #[y] 23)
  refine wpList_append_lies _ hgd s x 46 ho base 23 i0 (.slice none 0 0) 1 24 Tryd.underlying46 hi hz0 hz1 hz2 rfl (by decide) v vs.length _ hs hown' ⟨W.heap.size, 0, none⟩ 1 1 [y] hx rfl ?_ ?_ (by decide) (by simp only [maxLen]; omega) (by omega) (by simp; omega) (W.heap.size + 1) (by simp) ?_
  · intro j u hu
    match j, hu with
    | 0, hu =>
      simp only [List.getElem?_cons_zero, Option.some.injEq] at hu
      subst hu
      rw [Addr.add_lit, cell_of_row _ W.heap.size _ _ _ _ (heap_alloc_new W _)]
      rfl
  · intro u hu
    simp only [List.mem_cons, List.mem_nil_iff, or_false] at hu
    subst hu
    exact hy1
  · intro g cap w' h1 h2 h3 h4
    refine h g cap w' ?_ h3 ?_ ?_ ?_
    · unfold OwnV; rw [List.length_append]; exact h1
    · intro u us hu hne
      refine ⟨hu.1, ?_⟩
      rcases hu.2 with h5 | ⟨g5, cap5, cur5, hv, hg, hh, r⟩
      · exact .inl h5
      · refine .inr ⟨g5, cap5, cur5, hv, hg, ?_, r⟩
        have hgl := (Array.getElem?_eq_some_iff.1 hh).1
        rw [h2.block g5 (by simp; omega) (fun e => hne g5 (by rw [hv]; rfl) e.symm), Below.heap_alloc W _ g5 hgl]
        exact hh
    · intro u ys hu
      refine ⟨hu.1, ?_⟩
      rcases hu.2 with h5 | ⟨g5, cap5, cur, hv, hg, hh, r⟩
      · exact .inl h5
      · refine .inr ⟨g5, cap5, cur, hv, hg, ?_, r⟩
        have hgl := (Array.getElem?_eq_some_iff.1 hh).1
        rw [h2.block g5 (by simp; omega) ?_, Below.heap_alloc W _ g5 hgl]
        · exact hh
        · intro e
          rcases hown.2 with ⟨rfl, _⟩ | ⟨g2, cap2, cur2, rfl, hg2, hh2, _⟩
          · simp [Value.ownBlock] at e
          · simp only [Value.ownBlock, Option.some.injEq] at e
            subst e
            rw [hh] at hh2
            simp at hh2
    · exact ((Below.refl _ _).alloc hbase _).grown h2 (by simp; omega) (fun k hk => (hown.lt k hk).1)

/-- The values are what Laid made of these. -/
def AllLaid (w : World) (base : Nat) (vs : List Value) (qss : List (List Int)) : Prop := vs.length = qss.length ∧ ∀ j, j < vs.length → ∃ v, vs[j]? = some v ∧ LaidAt w base v (qss[j]?.getD [])
theorem AllLaid.nil (w : World) (base : Nat) : AllLaid w base [] [] := ⟨rfl, fun j hj => by simp at hj⟩
theorem AllLaid.kept {w w' : World} {base : Nat} {vs : List Value} {qss : List (List Int)} (h : AllLaid w base vs qss) (hk : ∀ u ys, Own w base u ys → Own w' base u ys) : AllLaid w' base vs qss := by
  refine ⟨h.1, fun j hj => ?_⟩
  obtain ⟨v, h1, ⟨g, cap, hv, hg, ho⟩, hy, hs⟩ := h.2 j hj
  exact ⟨v, h1, ⟨g, cap, hv, hg, hk _ _ ho⟩, hy, hs⟩
theorem AllLaid.snoc {w : World} {base : Nat} {vs : List Value} {qss : List (List Int)} (h : AllLaid w base vs qss) {v : Value} {ys : List Int} (hr : LaidAt w base v ys) : AllLaid w base (vs ++ [v]) (qss ++ [ys]) := by
  refine ⟨by simp [h.1], fun j hj => ?_⟩
  by_cases hjl : j < vs.length
  · rw [List.getElem?_append_left hjl, List.getElem?_append_left (by rw [← h.1]; exact hjl)]
    exact h.2 j hjl
  · have : j = vs.length := by simp at hj; omega
    subst this
    refine ⟨v, by simp, ?_⟩
    rw [h.1]
    simpa using hr
theorem LaidAt.mono {w : World} {base base' : Nat} {v : Value} {xs : List Int} (h : LaidAt w base v xs) (hb : base' ≤ base) : LaidAt w base' v xs := by
  obtain ⟨⟨g, cap, hv, hg, ho⟩, hy, hs⟩ := h
  exact ⟨⟨g, cap, hv, by omega, ho.mono hb⟩, hy, hs⟩
theorem LaidAt.one {w : World} {base : Nat} {v : Value} {xs : List Int} (h : LaidAt w base v xs) : v.oneCell' = true := by
  obtain ⟨⟨g, cap, rfl, hg, ho⟩, hy, hs⟩ := h
  rfl
theorem AllLaid.rdL {w : World} {base : Nat} {v : Value} {vs : List Value} {qss : List (List Int)} (h : AllLaid w base vs qss) (ho : OwnV w base v vs) (hl : vs.length ≤ 1000) :
    ∃ ao cap, v = .slice ao vs.length cap ∧ RdL w ao vs.length qss := by
  rcases ho.2 with ⟨rfl, h0⟩ | ⟨g, cap, cur, rfl, hg, hh, hnc, hcm, hcs, ht⟩
  · exact ⟨none, 0, by rw [h0], by rw [← h.1], by omega, .inl h0⟩
  · refine ⟨_, cap, rfl, by rw [← h.1], by omega, ?_⟩
    by_cases h0 : vs.length = 0
    · exact .inl h0
    · refine .inr ⟨g, 0, rfl, fun j hj => ?_⟩
      obtain ⟨x, h1, h2⟩ := h.2 j hj
      obtain ⟨a, c, hx, hr⟩ := h2.rd
      subst hx
      refine ⟨a, _, c, ?_, hr⟩
      have := World.ownsRow.cells ho (g := g) rfl j _ h1
      rw [Addr.add_lit] at this
      exact this
end Go.Proofs.YtfldgjkpkmnkbabDoor
