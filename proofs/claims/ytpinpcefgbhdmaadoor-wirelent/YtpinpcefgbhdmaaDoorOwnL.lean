import Derived.Test.YtpinpcefgbhdmaaDoorFrame
namespace Go.Proofs.YtpinpcefgbhdmaaDoor
open Go.RowKit
set_option linter.unusedVariables false

theorem Tryd.infoBytes : (Tryd.prog.info? 23).map (fun i => (i.zero, i.size, i.bytes)) = some (some (.slice none 0 0), 1, 24) := by kernel_rfl

/-- A slice of slices of bytes that the call itself made: which values it holds. -/
def OwnV (w : World) (base : Nat) (v : Value) (vs : List Value) : Prop := w.ownsRow base 23 1 v vs.length vs
theorem OwnV.later {w w' : World} {base : Nat} {v : Value} {vs : List Value} (h : OwnV w base v vs) (hb : Below w.heap.size w w') : OwnV w' base v vs := by
  refine ⟨h.1, ?_⟩
  rcases h.2 with h2 | ⟨g, cap, cur, hv, hg, hh, r⟩
  · exact .inl h2
  · exact .inr ⟨g, cap, cur, hv, hg, by rw [hb.block g (Array.getElem?_eq_some_iff.1 hh).1]; exact hh, r⟩
theorem OwnV.nil (w : World) (base : Nat) : OwnV w base (.slice none 0 0) [] := World.ownsRow_nil w base _ 1
theorem OwnV.alloc {w : World} {base : Nat} {v : Value} {vs : List Value} (h : OwnV w base v vs) (o : Obj) : OwnV (w.alloc o) base v vs := World.ownsRow.alloc h o

/-- append(s, x) of one slice of bytes to a slice of such: what is owned else (bytes, in blocks of bytes) stays. -/
theorem appendV {ops : Array Oper} {rest : List Oper} {o : Oper} {a : Act} {Q : Exit → Act → World → Prop} (W : World) (hgd : o.guard = none) (s x : Operand)
    (ho : o.op = .call { callee := .builtin .append, args := #[s, x], argTypes := #[27, 27] })
    (base : Nat) (v : Value) (vs : List Value) (hs : a.eval s = v) (hown : OwnV W base v vs) (y : Value) (hy1 : y.oneCell' = true)
    (hx : a.eval x = .slice (some ⟨W.heap.size, 0, none⟩) 1 1)
    (hbound : vs.length ≤ 1000) (hbase : base ≤ W.heap.size)
    (h : ∀ v' w', OwnV w' base v' (vs ++ [y]) → (∀ u ys, Own W base u ys → Own w' base u ys) → Below base W w' → wpList Tryd.prog ops Q rest (a.put o.dst v') w') : wpList Tryd.prog ops Q (o :: rest) a (W.alloc (.cells #[y] 23)) := by
  obtain ⟨i0, hi, hz0, hz1, hz2⟩ := info_parts Tryd.infoBytes
  have hown' := hown.alloc (.cells #[y] 23)
  refine wpList_append_own _ hgd s x 27 ho base 23 i0 (.slice none 0 0) 1 24 Tryd.underlying27 hi hz0 hz1 hz2 rfl (by decide) v vs.length _ hs hown' ⟨W.heap.size, 0, none⟩ 1 1 [y] hx rfl ?_ ?_ (by simp only [maxLen]; omega) (by omega) (by simp; omega) ?_
  · intro j u hu
    match j, hu with
    | 0, hu =>
      simp only [List.getElem?_cons_zero, Option.some.injEq] at hu
      subst hu
      rw [Addr.add_lit, cell_of_row _ W.heap.size _ _ _ _ (heap_alloc_new W _)]
      rfl
  · intro u hu
    simp only [List.mem_cons, List.mem_nil_iff, or_false] at hu
    subst hu
    exact hy1
  · intro v' w' h1 h2 _
    refine h v' w' ?_ ?_ ?_
    · unfold OwnV; rw [List.length_append]; exact h1
    · intro u ys hu
      refine ⟨hu.1, ?_⟩
      rcases hu.2 with h3 | ⟨g, cap, cur, hv, hg, hh, r⟩
      · exact .inl h3
      · refine .inr ⟨g, cap, cur, hv, hg, ?_, r⟩
        have hgl := (Array.getElem?_eq_some_iff.1 hh).1
        rw [h2.block g (by simp; omega) ?_, Below.heap_alloc W _ g hgl]
        · exact hh
        · intro e
          rcases hown.2 with ⟨rfl, _⟩ | ⟨g2, cap2, cur2, rfl, hg2, hh2, _⟩
          · simp [Value.ownBlock] at e
          · simp only [Value.ownBlock, Option.some.injEq] at e
            subst e
            rw [hh] at hh2
            simp at hh2
    · exact ((Below.refl _ _).alloc hbase _).grown h2 (by simp; omega) (fun k hk => (hown.lt k hk).1)

/-- append(s, x...) on bytes leaves what is owned of slices. -/
theorem append_rdV {ops : Array Oper} {rest : List Oper} {o : Oper} {a : Act} {Q : Exit → Act → World → Prop} (W : World) (hgd : o.guard = none) (s x : Operand)
    (ho : o.op = .call { callee := .builtin .append, args := #[s, x], argTypes := #[23, 23] })
    (base : Nat) (v : Value) (ys : List Int) (hs : a.eval s = v) (hown : Own W base v ys)
    (ao : Option Addr) (m c : Nat) (news : List Int) (hx : a.eval x = .slice ao m c) (hr : Rd W ao m c news)
    (hbound : ys.length + m ≤ 70368744177664) (hbase : base ≤ W.heap.size)
    (h : ∀ v' w', Own w' base v' (ys ++ news) → (∀ u vs, OwnV W base u vs → OwnV w' base u vs) → Below base W w' → wpList Tryd.prog ops Q rest (a.put o.dst v') w') : wpList Tryd.prog ops Q (o :: rest) a W := by
  obtain ⟨i0, hi, hz0, hz1, hz2⟩ := info_parts Tryd.infoByte
  have hlen := hr.length
  cases ao with
  | none =>
    have hc := hr.nil rfl
    have hm : m = 0 := by have := hr.le; omega
    subst hc hm
    have hn : news = [] := List.eq_nil_of_length_eq_zero hlen
    subst hn
    exact wpList_append_own_none hgd s x 23 ho base 5 i0 1 Tryd.underlying23 hi v ys.length _ hs hown hx (h v W (by rw [List.append_nil]; exact hown) (fun _ _ hu => hu) (Below.refl _ _))
  | some ad =>
    refine wpList_append_own W hgd s x 23 ho base 5 i0 (.int .u8 0) 1 1 Tryd.underlying23 hi hz0 hz1 hz2 rfl (by decide) v ys.length _ hs hown ad m c (news.map (Value.int .u8)) hx (by simp [hlen]) ?_ ?_ (by simp only [maxLen]; omega) (by omega) hbase ?_
    · intro j u hu
      rcases hr.cells with h0 | ⟨b, off, he, hc⟩
      · subst h0
        have : news = [] := List.eq_nil_of_length_eq_zero hlen
        subst this
        simp at hu
      · cases he
        rw [List.getElem?_map] at hu
        have hj : j < m := by
          by_cases hj : j < news.length
          · omega
          · rw [List.getElem?_eq_none (by omega)] at hu; simp at hu
        rw [Addr.add_lit, hc j hj]
        rw [List.getElem?_eq_getElem (by omega)] at hu ⊢
        simpa using hu
    · intro u hu
      rw [List.mem_map] at hu
      obtain ⟨y, _, rfl⟩ := hu
      rfl
    · intro v' w' h1 h2 _
      refine h v' w' ?_ ?_ ?_
      · have : (ys ++ news).map (Value.int .u8) = ys.map (Value.int .u8) ++ news.map (Value.int .u8) := List.map_append
        unfold Own
        rw [this, List.length_append, hlen]
        exact h1
      · intro u vs hu
        refine ⟨hu.1, ?_⟩
        rcases hu.2 with h3 | ⟨g, cap, cur, hv, hg, hh, r⟩
        · exact .inl h3
        · refine .inr ⟨g, cap, cur, hv, hg, ?_, r⟩
          have hgl := (Array.getElem?_eq_some_iff.1 hh).1
          rw [h2.block g hgl ?_]
          · exact hh
          · intro e
            rcases hown.2 with ⟨rfl, _⟩ | ⟨g2, cap2, cur2, rfl, hg2, hh2, _⟩
            · simp [Value.ownBlock] at e
            · simp only [Value.ownBlock, Option.some.injEq] at e
              subst e
              rw [hh] at hh2
              simp at hh2
      · exact (Below.refl _ _).grown h2 hbase (fun k hk => (hown.lt k hk).1)
end Go.Proofs.YtpinpcefgbhdmaaDoor
