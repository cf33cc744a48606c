import Derived.Test.YtmbnbleahehdaaaEB
import Derived.Test.YtmbnbleahehdaaaMVA
namespace Go.Proofs.Ytmbnbleahehdaaa
open Go.RowKit
set_option linter.unusedVariables false

/-- The whole numbers from a up to b. -/
def upto (a b : Int) : List Int := (List.range (b - a).toNat).map fun (n : Nat) => a + (n : Int)
theorem upto_none {a b : Int} (h : b ≤ a) : upto a b = [] := by unfold upto; rw [show (b - a).toNat = 0 by omega]; rfl
theorem upto_snoc {a x : Int} (h : a ≤ x) : upto a (x + 1) = upto a x ++ [x] := by
  unfold upto
  rw [show (x + 1 - a).toNat = (x - a).toNat + 1 by omega, List.range_succ, List.map_append]
  congr 1
  simp
  omega
theorem upto_len (a b : Int) : (upto a b).length = (b - a).toNat := by unfold upto; simp
theorem upto_max (a b : Int) : upto a (max a b) = upto a b := by
  by_cases h : a ≤ b
  · rw [show max a b = b by omega]
  · rw [upto_none (show b ≤ a by omega), upto_none (show max a b ≤ a by omega)]
abbrev P3 := Int × Int × Int
def xsP (c y x0 x : Int) : List P3 := (upto x0 x).map fun x' => (c, y, x')
def ysP (c y0 y x0 x1 : Int) : List P3 := (upto y0 y).flatMap fun y' => xsP c y' x0 x1
def csP (c0 c y0 y1 x0 x1 : Int) : List P3 := (upto c0 c).flatMap fun c' => ysP c' y0 y1 x0 x1
theorem xsP_snoc {c y x0 x : Int} (h : x0 ≤ x) : xsP c y x0 (x + 1) = xsP c y x0 x ++ [(c, y, x)] := by unfold xsP; rw [upto_snoc h, List.map_append]; rfl
theorem ysP_snoc {c y0 y x0 x1 : Int} (h : y0 ≤ y) : ysP c y0 (y + 1) x0 x1 = ysP c y0 y x0 x1 ++ xsP c y x0 x1 := by unfold ysP; rw [upto_snoc h, List.flatMap_append]; simp
theorem csP_snoc {c0 c y0 y1 x0 x1 : Int} (h : c0 ≤ c) : csP c0 (c + 1) y0 y1 x0 x1 = csP c0 c y0 y1 x0 x1 ++ ysP c y0 y1 x0 x1 := by unfold csP; rw [upto_snoc h, List.flatMap_append]; simp
theorem flat_le {α β : Type} (f : α → List β) (B : Nat) (hf : ∀ a, (f a).length ≤ B) : ∀ l : List α, (l.flatMap f).length ≤ l.length * B
  | [] => by simp
  | a :: l => by
    have ih := flat_le f B hf l
    have := hf a
    rw [List.flatMap_cons, List.length_append, List.length_cons, Nat.add_mul]
    omega
theorem xsP_le {c y x0 x : Int} (h : x - x0 ≤ 16) : (xsP c y x0 x).length ≤ 16 := by unfold xsP; rw [List.length_map, upto_len]; omega
theorem ysP_le {c y0 y x0 x1 : Int} (h : x1 - x0 ≤ 16) (h' : y - y0 ≤ 16) : (ysP c y0 y x0 x1).length ≤ 256 := by
  have := flat_le (fun y' => xsP c y' x0 x1) 16 (fun y' => xsP_le h) (upto y0 y)
  rw [upto_len] at this
  unfold ysP
  omega
theorem csP_le {c0 c y0 y1 x0 x1 : Int} (h : x1 - x0 ≤ 16) (h' : y1 - y0 ≤ 16) (h'' : c - c0 ≤ 256) : (csP c0 c y0 y1 x0 x1).length ≤ 65536 := by
  have := flat_le (fun c' => ysP c' y0 y1 x0 x1) 256 (fun c' => ysP_le h h') (upto c0 c)
  rw [upto_len] at this
  unfold csP
  omega
def pc (p : P3) : List Value := [.int .i64 p.1, .int .i64 p.2.1, .int .i64 p.2.2]
def pcs (ps : List P3) : List Value := ps.flatMap pc
theorem pcs_snoc (ps : List P3) (p : P3) : pcs (ps ++ [p]) = pcs ps ++ pc p := by unfold pcs; rw [List.flatMap_append]; simp
theorem pcs_at : ∀ (ts : List P3) (j : Nat) (h : j < ts.length), (pcs ts)[j * 3]? = some (.int .i64 ts[j].1) ∧ (pcs ts)[j * 3 + 1]? = some (.int .i64 ts[j].2.1) ∧ (pcs ts)[j * 3 + 2]? = some (.int .i64 ts[j].2.2)
  | t :: ts, 0, _ => ⟨rfl, rfl, rfl⟩
  | t :: ts, j + 1, h => by
    have ih := pcs_at ts j (by simpa using h)
    have e : ∀ i, (pcs (t :: ts))[(j + 1) * 3 + i]? = (pcs ts)[j * 3 + i]? := by
      intro i
      show (pc t ++ pcs ts)[(j + 1) * 3 + i]? = _
      rw [List.getElem?_append_right (by show 3 ≤ _; omega)]
      congr 1
      show (j + 1) * 3 + i - 3 = _
      omega
    have e0 := e 0
    rw [Nat.add_zero, Nat.add_zero] at e0
    rw [e0, e 1, e 2]
    exact ih
theorem Try.infoPl : (Try.prog.info? 67).map (fun i => (i.zero, i.size, i.bytes)) = some (some (.agg #[.int .i64 0, .int .i64 0, .int .i64 0]), 3, 24) := by kernel_rfl
/-- A slice of places that the call itself made. -/
def OwnP (w : World) (base : Nat) (v : Value) (ps : List P3) : Prop := w.ownsRow base 67 3 v ps.length (pcs ps)
theorem OwnP.nil (w : World) (base : Nat) : OwnP w base (.slice none 0 0) [] := World.ownsRow_nil w base _ 3
theorem OwnP.lt {w : World} {base : Nat} {v : Value} {ts : List P3} (h : OwnP w base v ts) : ∀ k, v.ownBlock = some k → base ≤ k ∧ k < w.heap.size := World.ownsRow.lt h
theorem OwnP.keep {w w' : World} {base : Nat} {v : Value} {ts : List P3} (h : OwnP w base v ts) (hb : ∀ k, v.ownBlock = some k → w'.heap[k]? = w.heap[k]?) : OwnP w' base v ts := by
  refine ⟨h.1, ?_⟩
  rcases h.2 with h2 | ⟨g, cap, cur, hv, hg, hh, r⟩
  · exact .inl h2
  · exact .inr ⟨g, cap, cur, hv, hg, by rw [hb g (by rw [hv]; rfl)]; exact hh, r⟩
theorem OwnP.later {w w' : World} {base : Nat} {v : Value} {ts : List P3} (h : OwnP w base v ts) (hb : Below w.heap.size w w') : OwnP w' base v ts := h.keep fun k hk => hb.block k (h.lt k hk).2
theorem OwnP.mono {w : World} {base b : Nat} {v : Value} {ts : List P3} (h : OwnP w base v ts) (hb : b ≤ base) : OwnP w b v ts := by
  refine ⟨h.1, ?_⟩
  rcases h.2 with h2 | ⟨g, cap, cur, hv, hg, r⟩
  · exact .inl h2
  · exact .inr ⟨g, cap, cur, hv, by omega, r⟩
/-- Where it lies, and its cells. -/
theorem OwnP.form {w : World} {base : Nat} {v : Value} {ts : List P3} (h : OwnP w base v ts) : (ts = [] ∧ v = .slice none 0 0) ∨ ∃ g cap, v = .slice (some ⟨g, 0, none⟩) ts.length cap ∧ base ≤ g ∧ g < w.heap.size ∧ ∀ j u, (pcs ts)[j]? = some u → w.cell? ⟨g, j, none⟩ = some u := by
  rcases h.2 with ⟨h0, h1⟩ | ⟨g, cap, cur, hv, hg, hh, hc, hx, hs, ht⟩
  · exact .inl ⟨List.length_eq_zero_iff.1 h1, h0⟩
  · refine .inr ⟨g, cap, hv, hg, (Array.getElem?_eq_some_iff.1 hh).1, fun j u hu => ?_⟩
    rw [cell_of_row _ g _ _ _ _ hh]
    rw [← ht, List.getElem?_take] at hu
    split at hu
    · rw [Array.getElem?_toList] at hu; exact hu
    · cases hu
/-- append of one place. -/
theorem appendP {ops : Array Oper} {rest : List Oper} {o : Oper} {a : Act} {Q : Exit → Act → World → Prop} (W : World) (hgd : o.guard = none) (s x : Operand)
    (ho : o.op = .call { callee := .builtin .append, args := #[s, x], argTypes := #[64, 64] })
    (base : Nat) (v : Value) (ts : List P3) (hs : a.eval s = v) (hown : OwnP W base v ts) (c y z : Int) (hx : a.eval x = .slice (some ⟨W.heap.size, 0, none⟩) 1 1)
    (hbound : ts.length + 1 ≤ 1000000) (hbase : base ≤ W.heap.size)
    (h : ∀ v' w', OwnP w' base v' (ts ++ [(c, y, z)]) → Below base W w' → (∀ k, k < W.heap.size → v.ownBlock ≠ some k → w'.heap[k]? = W.heap[k]?) → wpList Try.prog ops Q rest (a.put o.dst v') w') : wpList Try.prog ops Q (o :: rest) a (W.alloc (.cells #[.int .i64 c, .int .i64 y, .int .i64 z] 67)) := by
  obtain ⟨i0, hi, hz0, hz1, hz2⟩ := info3 Try.infoPl
  have hsz : (W.alloc (.cells #[.int .i64 c, .int .i64 y, .int .i64 z] 67)).heap.size = W.heap.size + 1 := Array.size_push ..
  refine wpList_append_own (W.alloc (.cells #[.int .i64 c, .int .i64 y, .int .i64 z] 67)) hgd s x 64 ho base 67 i0 _ 3 24 Try.underlying64 hi hz0 hz1 hz2 rfl (by decide) v ts.length _ hs (World.ownsRow.alloc hown _) ⟨W.heap.size, 0, none⟩ 1 1 (pc (c, y, z)) hx rfl ?_ ?_ (by simp only [maxLen]; omega) (by omega) (by omega) ?_
  · intro j u hu
    rw [Addr.add_lit, cell_of_row _ W.heap.size _ _ _ _ (heap_alloc_new W _), Nat.zero_add]
    rw [← hu]
    unfold pc
    simp
  · intro u hu
    simp only [pc, List.mem_cons, List.mem_nil_iff, or_false] at hu
    rcases hu with rfl | rfl | rfl <;> rfl
  · intro v' w' h2 h3 _
    refine h v' w' ?_ ?_ ?_
    · unfold OwnP; rw [List.length_append, pcs_snoc]; exact h2
    · exact ((Below.refl _ _).alloc hbase _).grown h3 (by omega) (fun k hk => (hown.lt k hk).1)
    · intro k hk hne
      rw [h3.block k (by omega) (fun e => hne e.symm), Below.heap_alloc W _ k hk]
end Go.Proofs.Ytmbnbleahehdaaa
