import Derived.Test.YtjeghdmclmelfaaGreatJXo
namespace Go.Proofs.YtjeghdmclmelfaaGreat
open Go.RowKit Go.Shelf
set_option linter.unusedVariables false
set_option linter.unusedSimpArgs false
theorem tmod_turn (a : Int) (n : Nat) (hn : 0 < n) : 0 ≤ (a.tmod n + n).tmod n ∧ (a.tmod n + n).tmod n < n := by
 have h0 : (0 : Int) < (n : Int) := by omega
 have h1 := Int.lt_tmod_of_pos a h0
 exact ⟨Int.tmod_nonneg _ (by omega), Int.tmod_lt_of_pos _ h0⟩
def FlB (W : World) (base : Nat) (v : Value) : Prop := ∃ g n c cur, v = .slice (some ⟨g, 0, none⟩) n c ∧ base ≤ g ∧ W.heap[g]? = some (.cells cur 37) ∧ ∀ j, j < n → ∃ u : Nat, cur[j]? = some (.float .f64 u)
def InZ (W : World) (base : Nat) (x : ZD) : Prop := ∀ v ∈ lsV x, FlB W base v
theorem WdB.fl {W : World} {base g c : Nat} {us : List Nat} (h : WdB W base g c us) : FlB W base (.slice (some ⟨g, 0, none⟩) us.length c) := by
 obtain ⟨cur, h1, h2, _⟩ := h.cur
 exact ⟨g, us.length, c, cur, rfl, h.lo, h1, fun j hj => ⟨_, h2 j hj⟩⟩
theorem FlB.mono {W : World} {base base' : Nat} {v : Value} (h : FlB W base v) (hb : base' ≤ base) : FlB W base' v := by
 obtain ⟨g, n, c, cur, h1, h2, h3⟩ := h
 exact ⟨g, n, c, cur, h1, by omega, h3⟩
theorem FlB.later {W W' : World} {base : Nat} {v : Value} (h : FlB W base v) (hb : Below W.heap.size W W') : FlB W' base v := by
 obtain ⟨g, n, c, cur, h1, h2, h3, h4⟩ := h
 exact ⟨g, n, c, cur, h1, h2, kept hb h3, h4⟩
theorem FlB.stored {W W' : World} {base g i u' : Nat} {cur : Array Value} {v : Value} (h : FlB W base v) (hg : W.heap[g]? = some (.cells cur 37)) (h' : W'.heap[g]? = some (.cells (cur.toList.take i ++ [Value.float .f64 u'] ++ cur.toList.drop (i + 1)).toArray 37)) (hi : i < cur.size) (ho : ∀ k, k ≠ g → W'.heap[k]? = W.heap[k]?) : FlB W' base v := by
 obtain ⟨g2, n, c, cur2, h1, h2, h3, h4⟩ := h
 by_cases he : g2 = g
 ·subst he
  rw [hg] at h3
  obtain rfl : cur = cur2 := by injection h3 with h3; injection h3
  refine ⟨g2, n, c, _, h1, h2, h', fun j hj => ?_⟩
  have e1 : cur.toList.take i ++ [Value.float .f64 u'] ++ cur.toList.drop (i + 1) = cur.toList.set i (Value.float .f64 u') := by
   rw [List.set_eq_take_append_cons_drop, if_pos (by rw [Array.length_toList]; exact hi)]
   simp
  rw [e1, List.getElem?_toArray]
  by_cases hj' : i = j
  ·subst hj'
   exact ⟨u', List.getElem?_set_self (by rw [Array.length_toList]; exact hi)⟩
  ·obtain ⟨u, hu⟩ := h4 j hj
   exact ⟨u, by rw [List.getElem?_set_ne hj', Array.getElem?_toList]; exact hu⟩
 ·exact ⟨g2, n, c, cur2, h1, h2, (ho g2 he).trans h3, h4⟩
theorem InZ.later {W W' : World} {base : Nat} {x : ZD} (h : InZ W base x) (hb : Below W.heap.size W W') : InZ W' base x := fun v hv => (h v hv).later hb
theorem InZ.mono {W : World} {base base' : Nat} {x : ZD} (h : InZ W base x) (hb : base' ≤ base) : InZ W base' x := fun v hv => (h v hv).mono hb
theorem LdR.inZ {W : World} {base : Nat} {z x : ZD} (h : LdR W base z x) : InZ W base x := by
 intro v hv
 unfold lsV gvL at hv
 rcases List.mem_append.1 hv with hv | hv
 ·simp only [List.mem_cons, List.not_mem_nil, or_false] at hv
  rcases hv with rfl | rfl
  ·obtain ⟨g, h1, h2, h3⟩ := h.c
   rw [h1, h3]
   exact h2.fl
  ·obtain ⟨g, h1, h2, h3⟩ := h.r
   rw [h1, h3]
   exact h2.fl
 ·obtain ⟨j, hj, rfl⟩ := List.mem_map.1 hv
  obtain ⟨b, h1, h2⟩ := h.col j (List.mem_range.1 hj)
  have e1 : (x.gv j).1 = some ⟨b, 0, none⟩ := congrArg Prod.fst h1
  have e2 : (x.gv j).2.1 = (x.gs[j]?.getD []).length := congrArg (fun p => p.2.1) h1
  rw [e1, e2]
  exact h2.fl
theorem LdR.noG {W : World} {base : Nat} {z x : ZD} (h : LdR W base z x) : x.go ≠ none := by
 obtain ⟨g, _, h1, _⟩ := h.g
 rw [h1]
 exact fun h => by cases h
theorem InZ.stored {W W' : World} {base g i u' : Nat} {cur : Array Value} {x : ZD} (hx : ZR W x) (h : InZ W base x) (hg : W.heap[g]? = some (.cells cur 37)) (h' : W'.heap[g]? = some (.cells (cur.toList.take i ++ [Value.float .f64 u'] ++ cur.toList.drop (i + 1)).toArray 37)) (hi : ∃ u : Nat, cur[i]? = some (.float .f64 u)) (hu : u' < 18446744073709551616) (ho : ∀ k, k ≠ g → W'.heap[k]? = W.heap[k]?) : ∃ cs rs gs, ZR W' { x with cs := cs, rs := rs, gs := gs } ∧ InZ W' base { x with cs := cs, rs := rs, gs := gs } := by
 obtain ⟨u, hi⟩ := hi
 have hlt : i < cur.size := by
  rcases Nat.lt_or_ge i cur.size with h1 | h1
  ·exact h1
  ·rw [Array.getElem?_eq_none h1] at hi; cases hi
 obtain ⟨cs, rs, gs, hz⟩ := hx.stored (Flo.of_store hg hi hu h' ho)
 exact ⟨cs, rs, gs, hz, fun v hv => (h v hv).stored hg h' hlt ho⟩
end Go.Proofs.YtjeghdmclmelfaaGreat
