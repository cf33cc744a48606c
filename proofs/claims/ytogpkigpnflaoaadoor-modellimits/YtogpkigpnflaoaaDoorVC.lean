import Derived.Test.YtogpkigpnflaoaaDoorVB
import Derived.Test.YtogpkigpnflaoaaDoorKD
namespace Go.Proofs.YtogpkigpnflaoaaDoor
open Go.RowKit
set_option linter.unusedVariables false

/-- A slice of slices of floats that came in. -/
structure RdQ (w : World) (ao : Option Addr) (len cap : Nat) (uss : List (List Nat)) : Prop where
  length : uss.length = len
  max : len ≤ maxLen
  cells : len = 0 ∨ ∃ b off, ao = some ⟨b, off, none⟩ ∧ ∀ j, j < len → ∃ aj lj cj, w.cell? ⟨b, off + j, none⟩ = some (.slice aj lj cj) ∧ RdF w aj lj cj (uss[j]?.getD []) ∧ lj ≤ cj ∧ (aj = none → cj = 0) ∧ cj ≤ maxLen
theorem RdQ.later {w w' : World} {ao : Option Addr} {len cap : Nat} {uss : List (List Nat)} (h : RdQ w ao len cap uss) (hb : Below w.heap.size w w') : RdQ w' ao len cap uss := by
  refine ⟨h.length, h.max, ?_⟩
  rcases h.cells with h0 | ⟨b, off, ha, hc⟩
  · exact .inl h0
  · refine .inr ⟨b, off, ha, fun j hj => ?_⟩
    obtain ⟨aj, lj, cj, h1, h2, r⟩ := hc j hj
    refine ⟨aj, lj, cj, ?_, h2.later hb, r⟩
    have hlt := World.block_lt_of_cell? w _ h1
    rw [hb.cell (p := ⟨b, off + j, none⟩) hlt]
    exact h1
def OwnLs (w : World) (base : Nat) (v : Value) (vs : List Value) : Prop := w.ownsRow base 30 1 v vs.length vs
theorem OwnLs.nil (w : World) (base : Nat) : OwnLs w base (.slice none 0 0) [] := World.ownsRow_nil w base _ 1
theorem OwnLs.later {w w' : World} {base : Nat} {v : Value} {vs : List Value} (h : OwnLs w base v vs) (hb : Below w.heap.size w w') : OwnLs w' base v vs := by
  refine ⟨h.1, ?_⟩
  rcases h.2 with h2 | ⟨g, cap, cur, hv, hg, hh, r⟩
  · exact .inl h2
  · exact .inr ⟨g, cap, cur, hv, hg, by rw [hb.block g (Array.getElem?_eq_some_iff.1 hh).1]; exact hh, r⟩
/-- Rows of floats stay while rows of slices grow. -/
theorem mk_kept {W w' : World} {base b : Nat} {v u : Value} {vs : List Value} {us : List Nat} (hown : OwnLs W base v vs) (hk : ∀ k, k < W.heap.size → v.ownBlock ≠ some k → w'.heap[k]? = W.heap[k]?) (h : Mk W b u us) : Mk w' b u us := by
  refine h.keep fun k hlt cur hc => hk k hlt fun e => ?_
  rcases hown.2 with ⟨rfl, _⟩ | ⟨g, cap, cur2, rfl, _, hh, _⟩
  · simp [Value.ownBlock] at e
  · simp only [Value.ownBlock, Option.some.injEq] at e
    subst e
    rw [hc] at hh
    simp at hh
theorem to_callB {w w1 : World} {b : Nat} (h : Below w.heap.size w w1) (hb : b ≤ w.heap.size) : Below b w w1 := h.mono hb
/-- Lists of numbers in new memory, marks behind all. -/
def MkL (w : World) (base : Nat) (v : Value) (uss : List (List Nat)) : Prop :=
  ∃ G cap cur, v = .slice (some ⟨G, 0, none⟩) uss.length cap ∧ base ≤ G ∧ w.heap[G]? = some (.cells cur 30) ∧ uss.length + 1 ≤ cap ∧ cap ≤ maxLen ∧ uss.length ≤ 300 ∧
    (∀ j, j < uss.length → ∃ u, cur[j]? = some u ∧ Mk w base u (uss[j]?.getD [])) ∧
    (∃ m, cur[uss.length]? = some (.slice (some ⟨m, 0, none⟩) 1 1) ∧ w.heap[m]? = some (.cells #[.float .f64 13852790978814935040] 29))
theorem MkL.later {w w' : World} {base : Nat} {v : Value} {uss : List (List Nat)} (h : MkL w base v uss) (hb : Below w.heap.size w w') : MkL w' base v uss := by
  obtain ⟨G, cap, cur, h1, h2, h3, h4, h5, h6, h7, m, h8, h9⟩ := h
  refine ⟨G, cap, cur, h1, h2, (hb.block G (Array.getElem?_eq_some_iff.1 h3).1).trans h3, h4, h5, h6, fun j hj => ?_, m, h8, (hb.block m (Array.getElem?_eq_some_iff.1 h9).1).trans h9⟩
  obtain ⟨u, a, b⟩ := h7 j hj
  exact ⟨u, a, b.later hb⟩
theorem MkL.mono {w : World} {base b : Nat} {v : Value} {uss : List (List Nat)} (h : MkL w base v uss) (hb : b ≤ base) : MkL w b v uss := by
  obtain ⟨G, cap, cur, h1, h2, h3, h4, h5, h6, h7, r⟩ := h
  exact ⟨G, cap, cur, h1, by omega, h3, h4, h5, h6, fun j hj => by obtain ⟨u, a, c⟩ := h7 j hj; exact ⟨u, a, c.mono hb⟩, r⟩
theorem MkL.rd {w : World} {base : Nat} {v : Value} {uss : List (List Nat)} (h : MkL w base v uss) : ∃ ao cap, v = .slice ao uss.length cap ∧ RdLL w ao uss.length cap uss := by
  obtain ⟨G, cap, cur, h1, h2, h3, h4, h5, h6, h7, r⟩ := h
  refine ⟨_, cap, h1, rfl, by simp only [maxLen]; omega, .inr ⟨G, 0, rfl, fun j hj => ?_⟩⟩
  obtain ⟨u, a, b⟩ := h7 j hj
  obtain ⟨ao, c, rfl, hr⟩ := b.rd
  exact ⟨ao, _, c, by rw [Nat.zero_add, cell_of_row _ G j _ _ _ h3]; exact a, hr⟩
theorem Tryd.elemFs : Tryd.prog.elem 40 = 30 := by kernel_rfl
theorem sizeFs (w : World) : (sizeOf 30).run Tryd.prog w = .ok 1 w := by kernel_rfl
theorem cutFs (ao : Option Addr) (len cap q : Nat) (hq : q ≤ cap) (w : World) :
    (Instr.slice 40 (.slice ao len cap) none (some (.int .i64 q)) none).run Tryd.prog w = .ok (.slice (if cap = 0 then ao else ao.map (·.add (0 * 1))) q cap) w := by
  rw [run_slice_h w _ _ _ _ (by rw [Tryd.elemFs]; exact Tryd.underlying40) .i64 q (by omega) (by omega), Tryd.elemFs, sizeFs]
  simp [Result.andThen, sliced]
theorem Mk.one {w : World} {base : Nat} {v : Value} {us : List Nat} (h : Mk w base v us) : v.oneCell' = true := by
  obtain ⟨g, cap, cur, rfl, _⟩ := h; rfl
theorem Mk.sl {w : World} {base : Nat} {v : Value} {us : List Nat} (h : Mk w base v us) : ∃ (g n cap : Nat), v = .slice (some ⟨g, 0, none⟩) n cap := by
  obtain ⟨g, cap, cur, h1, _⟩ := h; exact ⟨g, _, cap, h1⟩
theorem mk_block_ne {W : World} {base k : Nat} {v : Value} {vs : List Value} {cur : Array Value} (hown : OwnLs W base v vs) (hc : W.heap[k]? = some (.cells cur 29)) : v.ownBlock ≠ some k := by
  intro e
  rcases hown.2 with ⟨rfl, _⟩ | ⟨g, cap, cur2, rfl, _, hh, _⟩
  · simp [Value.ownBlock] at e
  · simp only [Value.ownBlock, Option.some.injEq] at e
    subst e
    rw [hc] at hh
    simp at hh
theorem OwnLs.form {w : World} {base : Nat} {v : Value} {vs : List Value} (h : OwnLs w base v vs) : ∃ ao cap, v = .slice ao vs.length cap := by
  rcases h.2 with ⟨rfl, h0⟩ | ⟨g, cap, cur, rfl, _⟩
  · exact ⟨none, 0, by rw [h0]⟩
  · exact ⟨_, cap, rfl⟩
theorem MkL.of {w : World} {base m : Nat} {v x : Value} {vs : List Value} {uss : List (List Nat)} (hl : uss.length = vs.length) (hm : vs.length ≤ 300) (h : OwnLs w base v (vs ++ [.slice (some ⟨m, 0, none⟩) 1 1, x]))
    (hM : ∀ (j : Nat) (y : Value), vs[j]? = some y → Mk w base y (uss[j]?.getD [])) (hk : w.heap[m]? = some (.cells #[.float .f64 13852790978814935040] 29)) :
    ∃ G cap, v = .slice (some ⟨G, 0, none⟩) (vs.length + 2) cap ∧ vs.length + 2 ≤ cap ∧ MkL w base (.slice (some ⟨G, 0, none⟩) vs.length cap) uss := by
  have hll : (vs ++ [.slice (some ⟨m, 0, none⟩) 1 1, x]).length = vs.length + 2 := by simp
  unfold OwnLs at h
  rw [hll] at h
  rcases h.2 with ⟨_, h0⟩ | ⟨g, cap, cur, rfl, hg, hh, hc, hx, hs, ht⟩
  · omega
  · have hat : ∀ j, j < vs.length + 2 → cur[j]? = (vs ++ [.slice (some ⟨m, 0, none⟩) 1 1, x])[j]? := by
      intro j hj
      rw [← ht, List.getElem?_take, if_pos (by omega), Array.getElem?_toList]
    refine ⟨g, cap, rfl, hc, g, cap, cur, by rw [hl], hg, hh, by omega, hx, by omega, fun j hj => ?_, m, ?_, hk⟩
    · have hj2 : j < vs.length := by omega
      refine ⟨vs[j], ?_, hM j _ (List.getElem?_eq_getElem hj2)⟩
      rw [hat j (by omega), List.getElem?_append_left hj2, List.getElem?_eq_getElem hj2]
    · rw [hl, hat _ (by omega), List.getElem?_append_right (Nat.le_refl _), Nat.sub_self]
      rfl
def tk (uss : List (List Nat)) : List (List Nat) := (uss.take 300).map (·.take 300)
theorem tk_at (uss : List (List Nat)) {j : Nat} (h : j < uss.length) (h2 : j < 300) : (tk uss)[j]?.getD [] = (uss[j]?.getD []).take 300 := by
  simp [tk, h2, List.getElem?_eq_getElem h]
theorem tk_len (uss : List (List Nat)) : (tk uss).length = min uss.length 300 := by simp [tk]; omega
end Go.Proofs.YtogpkigpnflaoaaDoor
