import Derived.Test.YtfldgjkpkmnkbabDoorFrame
import Derived.Laws.OwnMore
import Derived.OneCell

namespace Go.Proofs.YtfldgjkpkmnkbabDoor
open Go.RowKit
set_option linter.unusedVariables false

theorem Tryd.infoInt : (Tryd.prog.info? 3).map (fun i => (i.zero, i.size, i.bytes)) = some (some (.int .i64 0), 1, 8) := by kernel_rfl

/-- A slice of ints that the call itself made. -/
def OwnI (w : World) (base : Nat) (v : Value) (vs : List Int) : Prop := w.ownsRow base 3 1 v vs.length (vs.map (Value.int .i64))
theorem OwnI.later {w w' : World} {base : Nat} {v : Value} {vs : List Int} (h : OwnI w base v vs) (hb : Below w.heap.size w w') : OwnI w' base v vs := by
  refine ⟨h.1, ?_⟩
  rcases h.2 with h2 | ⟨g, cap, cur, hv, hg, hh, r⟩
  · exact .inl h2
  · exact .inr ⟨g, cap, cur, hv, hg, by rw [hb.block g (Array.getElem?_eq_some_iff.1 hh).1]; exact hh, r⟩
theorem OwnI.nil (w : World) (base : Nat) : OwnI w base (.slice none 0 0) [] := World.ownsRow_nil w base _ 1
theorem OwnI.alloc {w : World} {base : Nat} {v : Value} {vs : List Int} (h : OwnI w base v vs) (o : Obj) : OwnI (w.alloc o) base v vs := World.ownsRow.alloc h o
/-- What is read of it. -/
theorem OwnI.rd {w : World} {base : Nat} {v : Value} {vs : List Int} (h : OwnI w base v vs) : (vs = [] ∧ v = .slice none 0 0) ∨ ∃ g cap, v = .slice (some ⟨g, 0, none⟩) vs.length cap ∧ ∀ j, j < vs.length → w.cell? ⟨g, j, none⟩ = some (.int .i64 (vs[j]?.getD 0)) := by
  have h' := h
  rcases h.2 with ⟨h1, h2⟩ | ⟨g, cap, cur, hv, hg, hh, r⟩
  · exact .inl ⟨List.eq_nil_of_length_eq_zero h2, h1⟩
  · subst hv
    refine .inr ⟨g, cap, rfl, fun j hj => ?_⟩
    have := World.ownsRow.cellAt h' j (by omega)
    rw [this, List.getElem?_map, List.getElem?_eq_getElem hj]
    rfl

/-- append(s, x) of one int to a slice of ints: what is owned else (bytes, in blocks of bytes) stays. -/
theorem appendI {ops : Array Oper} {rest : List Oper} {o : Oper} {a : Act} {Q : Exit → Act → World → Prop} (W : World) (hgd : o.guard = none) (s x : Operand)
    (ho : o.op = .call { callee := .builtin .append, args := #[s, x], argTypes := #[37, 37] })
    (base : Nat) (v : Value) (vs : List Int) (hs : a.eval s = v) (hown : OwnI W base v vs) (y : Int)
    (hx : a.eval x = .slice (some ⟨W.heap.size, 0, none⟩) 1 1)
    (hbound : vs.length ≤ 1000) (hbase : base ≤ W.heap.size)
    (h : ∀ v' w', OwnI w' base v' (vs ++ [y]) → (∀ u ys, Own W base u ys → Own w' base u ys) → Below base W w' → wpList Tryd.prog ops Q rest (a.put o.dst v') w') : wpList Tryd.prog ops Q (o :: rest) a (W.alloc (.cells #[.int .i64 y] 3)) := by
  obtain ⟨i0, hi, hz0, hz1, hz2⟩ := info_parts Tryd.infoInt
  have hown' := hown.alloc (.cells #[.int .i64 y] 3)
  refine wpList_append_own _ hgd s x 37 ho base 3 i0 (.int .i64 0) 1 8 Tryd.underlying37 hi hz0 hz1 hz2 rfl (by decide) v vs.length _ hs hown' ⟨W.heap.size, 0, none⟩ 1 1 [.int .i64 y] hx rfl ?_ ?_ (by simp only [maxLen]; omega) (by omega) (by simp; omega) ?_
  · intro j u hu
    match j, hu with
    | 0, hu =>
      simp only [List.getElem?_cons_zero, Option.some.injEq] at hu
      subst hu
      rw [Addr.add_lit, cell_of_row _ W.heap.size _ _ _ _ (heap_alloc_new W _)]
      rfl
  · intro u hu
    simp only [List.mem_cons, List.mem_nil_iff, or_false] at hu
    subst hu
    rfl
  · intro v' w' h1 h2 _
    refine h v' w' ?_ ?_ ?_
    · unfold OwnI
      rw [List.length_append, List.map_append]
      exact h1
    · intro u ys hu
      refine ⟨hu.1, ?_⟩
      rcases hu.2 with h3 | ⟨g, cap, cur, hv, hg, hh, r⟩
      · exact .inl h3
      · refine .inr ⟨g, cap, cur, hv, hg, ?_, r⟩
        have hgl := (Array.getElem?_eq_some_iff.1 hh).1
        rw [h2.block g (by simp; omega) ?_, Below.heap_alloc W _ g hgl]
        · exact hh
        · intro e
          rcases hown.2 with ⟨rfl, _⟩ | ⟨g2, cap2, cur2, rfl, hg2, hh2, _⟩
          · simp [Value.ownBlock] at e
          · simp only [Value.ownBlock, Option.some.injEq] at e
            subst e
            rw [hh] at hh2
            simp at hh2
    · exact ((Below.refl _ _).alloc hbase _).grown h2 (by simp; omega) (fun k hk => (hown.lt k hk).1)

/-- A byte of a row of the call's own is written over: what is owned of ints stays. -/
theorem Own.set {w : World} {base g L C : Nat} {ys : List Int} (hL : ys.length = L) (h : Own w base (.slice (some ⟨g, 0, none⟩) L C) ys) (t : Nat) (b : Int) :
    Own (w.setCell ⟨g, t, none⟩ (.int .u8 b)) base (.slice (some ⟨g, 0, none⟩) L C) (ys.set t b) ∧ (∀ u vs, OwnI w base u vs → OwnI (w.setCell ⟨g, t, none⟩ (.int .u8 b)) base u vs) := by
  subst hL
  have h' := h
  unfold Own at h'
  refine ⟨?_, fun u vs hu => ?_⟩
  · unfold Own
    rw [List.length_set, List.map_set]
    exact (World.ownsRow.stored h' t (.int .u8 b)).1
  · refine ownsRow_setCell_other hu ?_ _
    rcases h.2 with ⟨h1, _⟩ | ⟨g2, cap2, cur2, hv, hg2, hh2, _⟩
    · simp at h1
    · simp only [Value.slice.injEq, Option.some.injEq, Addr.mk.injEq, and_true, true_and] at hv
      obtain ⟨rfl, rfl⟩ := hv
      intro e
      rcases hu.2 with ⟨rfl, _⟩ | ⟨g3, cap3, cur3, rfl, hg3, hh3, _⟩
      · simp [Value.ownBlock] at e
      · simp only [Value.ownBlock, Option.some.injEq] at e
        subst e
        rw [hh2] at hh3
        simp at hh3
theorem Own.frozen {w : World} {base g L C : Nat} {ys : List Int} (hL : ys.length = L) (h : Own w base (.slice (some ⟨g, 0, none⟩) L C) ys) (j : Nat) : w.frozen? ⟨g, j, none⟩ = false := by
  subst hL
  exact World.ownsRow.frozenAt h j
theorem Own.form {w : World} {base : Nat} {v : Value} {ys : List Int} (h : Own w base v ys) (h0 : ys ≠ []) : ∃ g C, v = .slice (some ⟨g, 0, none⟩) ys.length C ∧ base ≤ g := by
  rcases h.2 with ⟨_, h2⟩ | ⟨g, cap, cur, hv, hg, hh, r⟩
  · exact absurd (List.eq_nil_of_length_eq_zero h2) h0
  · exact ⟨g, cap, hv, hg⟩
end Go.Proofs.YtfldgjkpkmnkbabDoor
