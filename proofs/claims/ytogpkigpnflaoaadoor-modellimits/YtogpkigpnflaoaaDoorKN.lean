import Derived.Test.YtogpkigpnflaoaaDoorKM
import Derived.Laws.AppendOwnNone
namespace Go.Proofs.YtogpkigpnflaoaaDoor
open Go.RowKit
set_option linter.unusedVariables false

theorem Tryd.infoShape3 : (Tryd.prog.info? 24).map (fun i => (i.zero, i.size, i.bytes)) = some (some (.agg #[.int .i64 0, .int .i64 0, .int .i64 0]), 3, 24) := by kernel_rfl
theorem info_of {P : Program} {t : TypeId} {z : Value} {s b : Nat} (h : (P.info? t).map (fun i => (i.zero, i.size, i.bytes)) = some (some z, s, b)) : ∃ i, P.info? t = some i ∧ i.zero = some z ∧ i.size = s ∧ i.bytes = b := by
  cases hi : P.info? t with
  | none => rw [hi] at h; cases h
  | some i => rw [hi] at h; simp at h; exact ⟨i, rfl, h.1, h.2.1, h.2.2⟩
/-- The cells of shapes. -/
def shC : List (Int × Int × Int) → List Value
  | [] => []
  | p :: l => .int .i64 p.1 :: .int .i64 p.2.1 :: .int .i64 p.2.2 :: shC l
theorem shC_append (l m : List (Int × Int × Int)) : shC (l ++ m) = shC l ++ shC m := by
  induction l with
  | nil => rfl
  | cons p l ih => simp [shC, ih]
theorem shC_len (l : List (Int × Int × Int)) : (shC l).length = l.length * 3 := by
  induction l with
  | nil => rfl
  | cons p l ih => simp [shC, ih]; omega
theorem shC_at (l : List (Int × Int × Int)) : ∀ j, j < l.length → (shC l)[j * 3]? = some (.int .i64 (l[j]?.getD (0, 0, 0)).1) ∧ (shC l)[j * 3 + 1]? = some (.int .i64 (l[j]?.getD (0, 0, 0)).2.1) ∧ (shC l)[j * 3 + 2]? = some (.int .i64 (l[j]?.getD (0, 0, 0)).2.2) := by
  induction l with
  | nil => intro j hj; simp at hj
  | cons p l ih =>
    intro j hj
    cases j with
    | zero => simp [shC]
    | succ j =>
      have := ih j (by simpa using hj)
      rw [show (j + 1) * 3 = j * 3 + 1 + 1 + 1 by omega]
      simpa [shC] using this
def OwnSh (w : World) (base : Nat) (v : Value) (l : List (Int × Int × Int)) : Prop := w.ownsRow base 24 3 v l.length (shC l)
theorem OwnSh.alloc {w : World} {base : Nat} {v : Value} {l : List (Int × Int × Int)} (h : OwnSh w base v l) (o : Obj) : OwnSh (w.alloc o) base v l := World.ownsRow.alloc h o
theorem OwnSh.lt {w : World} {base : Nat} {v : Value} {l : List (Int × Int × Int)} (h : OwnSh w base v l) : ∀ k, v.ownBlock = some k → base ≤ k ∧ k < w.heap.size := World.ownsRow.lt h
theorem OwnSh.later {w w' : World} {base : Nat} {v : Value} {l : List (Int × Int × Int)} (h : OwnSh w base v l) (hb : Below w.heap.size w w') : OwnSh w' base v l := by
  refine ⟨h.1, ?_⟩
  rcases h.2 with h2 | ⟨g, cap, cur, hv, hg, hh, r⟩
  · exact .inl h2
  · exact .inr ⟨g, cap, cur, hv, hg, by rw [hb.block g (Array.getElem?_eq_some_iff.1 hh).1]; exact hh, r⟩
theorem OwnSh.form {w : World} {base : Nat} {v : Value} {l : List (Int × Int × Int)} (h : OwnSh w base v l) (hm : l.length ≤ 1000) : ∃ so sc, v = .slice so l.length sc ∧ RdSh w so l.length (fun j => l[j]?.getD (0, 0, 0)) := by
  have h' := h
  rcases h'.2 with ⟨rfl, h0⟩ | ⟨g, cap, cur, rfl, hg, hh, r⟩
  · have : l = [] := List.eq_nil_of_length_eq_zero h0
    subst this
    exact ⟨none, 0, rfl, by omega, .inl rfl⟩
  · refine ⟨_, cap, rfl, hm, .inr ⟨g, 0, rfl, fun j hj => ?_⟩⟩
    obtain ⟨c0, c1, c2⟩ := shC_at l j hj
    have q0 := World.ownsRow.cells h (g := g) rfl _ _ c0
    have q1 := World.ownsRow.cells h (g := g) rfl _ _ c1
    have q2 := World.ownsRow.cells h (g := g) rfl _ _ c2
    rw [Addr.add_lit] at q0 q1 q2
    exact ⟨q0, by rw [Nat.add_assoc]; exact q1, by rw [Nat.add_assoc]; exact q2⟩
theorem OwnSh.first (w : World) (c h k : Int) : OwnSh (w.alloc (.cells #[.int .i64 c, .int .i64 h, .int .i64 k] 24)) w.heap.size (.slice (some ⟨w.heap.size, 0, none⟩) 1 1) [(c, h, k)] := by
  refine ⟨rfl, .inr ⟨w.heap.size, 1, _, rfl, Nat.le_refl _, heap_alloc_new w _, Nat.le_refl _, by decide, by rfl, by rfl⟩⟩
theorem appendSh {ops : Array Oper} {rest : List Oper} {o : Oper} {a : Act} {Q : Exit → Act → World → Prop} (W : World) (hgd : o.guard = none) (s x : Operand)
    (ho : o.op = .call { callee := .builtin .append, args := #[s, x], argTypes := #[49, 49] })
    (base : Nat) (v : Value) (l : List (Int × Int × Int)) (hs : a.eval s = v) (hown : OwnSh W base v l) (c h k : Int)
    (hx : a.eval x = .slice (some ⟨W.heap.size, 0, none⟩) 1 1)
    (hbound : l.length ≤ 1000) (hbase : base ≤ W.heap.size)
    (hh : ∀ v' w', OwnSh w' base v' (l ++ [(c, h, k)]) → Below base W w' → wpList Tryd.prog ops Q rest (a.put o.dst v') w') : wpList Tryd.prog ops Q (o :: rest) a (W.alloc (.cells #[.int .i64 c, .int .i64 h, .int .i64 k] 24)) := by
  obtain ⟨i0, hi, hz0, hz1, hz2⟩ := info_of Tryd.infoShape3
  have hown' := hown.alloc (.cells #[.int .i64 c, .int .i64 h, .int .i64 k] 24)
  refine wpList_append_own _ hgd s x 49 ho base 24 i0 (.agg #[.int .i64 0, .int .i64 0, .int .i64 0]) 3 24 Tryd.underlying49 hi hz0 hz1 hz2 rfl (by decide) v l.length _ hs hown' ⟨W.heap.size, 0, none⟩ 1 1 [.int .i64 c, .int .i64 h, .int .i64 k] hx rfl ?_ ?_ (by simp only [maxLen]; omega) (by omega) (by simp; omega) ?_
  · intro j u hu
    match j, hu with
    | 0, hu =>
      simp only [List.getElem?_cons_zero, Option.some.injEq] at hu
      subst hu
      rw [Addr.add_lit, cell_of_row _ W.heap.size _ _ _ _ (heap_alloc_new W _)]
      rfl
    | 1, hu =>
      simp only [List.getElem?_cons_succ, List.getElem?_cons_zero, Option.some.injEq] at hu
      subst hu
      rw [Addr.add_lit, cell_of_row _ W.heap.size _ _ _ _ (heap_alloc_new W _)]
      rfl
    | 2, hu =>
      simp only [List.getElem?_cons_succ, List.getElem?_cons_zero, Option.some.injEq] at hu
      subst hu
      rw [Addr.add_lit, cell_of_row _ W.heap.size _ _ _ _ (heap_alloc_new W _)]
      rfl
  · intro u hu
    simp only [List.mem_cons, List.mem_nil_iff, or_false] at hu
    rcases hu with rfl | rfl | rfl <;> rfl
  · intro v' w' h1 h2 _
    refine hh v' w' ?_ ?_
    · unfold OwnSh; rw [List.length_append, shC_append]; exact h1
    · exact ((Below.refl _ _).alloc hbase _).grown h2 (by simp; omega) (fun k hk => (hown.lt k hk).1)

/-- THE SLICE OF LAYERS READS AS Ls. -/
structure RdLay (w : World) (lo : Option Addr) (n : Nat) (Ls : Nat → Array Value) : Prop where
  max : n ≤ maxLen
  cells : n = 0 ∨ ∃ b off, lo = some ⟨b, off, none⟩ ∧ ∀ j, j < n → (Ls j).size = 14 ∧ (Ls j).all (·.oneCell') = true ∧ w.rangeAt b (off + j * 14) (Ls j).toList
theorem RdLay.later {w w' : World} {lo : Option Addr} {n : Nat} {Ls : Nat → Array Value} (h : RdLay w lo n Ls) (hb : Below w.heap.size w w') : RdLay w' lo n Ls := by
  refine ⟨h.max, ?_⟩
  rcases h.cells with h0 | ⟨b, off, ha, hc⟩
  · exact .inl h0
  · refine .inr ⟨b, off, ha, fun j hj => ?_⟩
    obtain ⟨h1, h2, h3⟩ := hc j hj
    refine ⟨h1, h2, fun i v hv => ?_⟩
    have hl := World.block_lt_of_cell? w _ (h3 i v hv)
    rw [hb.cell (p := ⟨b, off + j * 14 + i, none⟩) hl]
    exact h3 i v hv
theorem Tryd.infoLayer : (Tryd.prog.info? 33).map (·.size) = some 14 := by kernel_rfl
def wsum (wt : Nat → Int) : Nat → Int
  | 0 => 0
  | n + 1 => wsum wt n + wt n
theorem names_none (no : Option Addr) (nc : Nat) (v : Value) (hv : ∃ c h k, v = .agg #[.int .i64 c, .int .i64 h, .int .i64 k]) (w : World) :
    Calls Tryd.prog 20 #[.slice no 0 nc, v] w fun e w' => e = .returned (.int .i64 0) ∧ Below w.heap.size w w' := by
  obtain ⟨c, h, k, rfl⟩ := hv
  go_enter Tryd.func20, Tryd.ntmps20
  go_wp2
  go_ret
  exact ⟨rfl, (Below.refl _ w).alloc (Nat.le_refl _) _⟩
end Go.Proofs.YtogpkigpnflaoaaDoor
