import Derived.Test.YtogpkigpnflaoaaDoorUB
import Derived.Test.YtogpkigpnflaoaaDoorVA
import Derived.Test.YtogpkigpnflaoaaDoorVE
namespace Go.Proofs.YtogpkigpnflaoaaDoor
open Go.RowKit
set_option linter.unusedVariables false

/-! ### the law's question -/
def clN (n : Nat) : Array Value := madeCells #[.slice none 0 0] n
theorem clN_size (n : Nat) : (clN n).size = n := size_madeCells _ _
theorem makeCl (n : Nat) (hn : n ≤ 1000) (w : World) :
    (Instr.makeSlice 40 (.int .i64 (n : Int)) (.int .i64 (n : Int))).run Tryd.prog w = .ok (.slice (some ⟨w.heap.size, 0, none⟩) n n) (w.alloc (.cells (clN n) 30)) := by
  obtain ⟨i0, hi, hz0, hz1, hz2⟩ := info3 Tryd.infoFs
  have h := run_makeSlice (P := Tryd.prog) w 40 30 i0 (.slice none 0 0) Tryd.underlying40 hi hz0 .i64 .i64 (n : Int) (n : Int) (by omega) (by omega) (by rw [hz1, Int.toNat_natCast]; omega) (by rw [hz2]; omega) (by omega)
  rw [Int.toNat_natCast, hz1, Nat.mul_one] at h
  exact h
/-- The cells of a question: C in block g, G as v, the claims as u. -/
def prL (g k : Nat) (v u : Value) (K D L : Int) : Array Value := #[.slice (some ⟨g, 0, none⟩) k k, v, .int .i64 (-1), u, .int .i64 K, .int .i64 D, .int .i64 L]
theorem build_pr (g0 g1 k : Nat) (w : World) : (Instr.build 42 #[(0, .slice (some ⟨g0, 0, none⟩) k k), (2, .int .i64 (-1)), (3, .slice (some ⟨g1, 0, none⟩) 64 64), (4, .int .i64 8), (5, .int .i64 8), (6, .int .i64 1024)]).run Tryd.prog w = .ok (.agg (prL g0 k (.slice none 0 0) (.slice (some ⟨g1, 0, none⟩) 64 64) 8 8 1024)) w := by kernel_rfl
theorem one7 (g k : Nat) (v u : Value) (K D L : Int) (h1 : v.oneCell' = true) (h2 : u.oneCell' = true) : (prL g k v u K D L).all (·.oneCell') = true := by
  unfold prL
  simp only [Array.all_eq_true_iff_forall_mem]
  intro x hx
  simp only [List.mem_toArray, List.mem_cons, List.not_mem_nil, or_false] at hx
  rcases hx with rfl | rfl | rfl | rfl | rfl | rfl | rfl
  · rfl
  · exact h1
  · rfl
  · exact h2
  · rfl
  · rfl
  · rfl
/-- So many claims are made already. -/
def ClU (w : World) (g i : Nat) : Prop := ∃ cur, w.heap[g]? = some (.cells cur 30) ∧ cur.size = 64 ∧ ∀ j, j < i → ∃ b, cur[j]? = some (.slice (some ⟨b, 0, none⟩) 2 2) ∧ w.heap[b]? = some (.cells (flN 2) 29)
theorem ClU.zero {w : World} {g : Nat} (h : w.heap[g]? = some (.cells (clN 64) 30)) : ClU w g 0 := ⟨_, h, clN_size 64, fun j hj => by omega⟩
theorem ClU.later {w w' : World} {g i : Nat} (h : ClU w g i) (hb : Below w.heap.size w w') : ClU w' g i := by
  obtain ⟨cur, h1, h2, h3⟩ := h
  refine ⟨cur, kept hb h1, h2, fun j hj => ?_⟩
  obtain ⟨b, q1, q2⟩ := h3 j hj
  exact ⟨b, q1, kept hb q2⟩
/-- Another block is written. -/
theorem ClU.keep {w w' : World} {g i B : Nat} {c : Array Value} {t : TypeId} (h : ClU w g i) (hB : w.heap[B]? = some (.cells c t)) (h1 : t ≠ 30) (h2 : t ≠ 29) (ho : ∀ k, k < w.heap.size → k ≠ B → w'.heap[k]? = w.heap[k]?) : ClU w' g i := by
  have ne : ∀ {k : Nat} {cu : Array Value} {t' : TypeId}, w.heap[k]? = some (.cells cu t') → t ≠ t' → k ≠ B := by
    intro k cu t' hk ht e
    subst e
    rw [hk] at hB
    simp only [Option.some.injEq, Obj.cells.injEq] at hB
    exact ht hB.2.1.symm
  obtain ⟨cur, q1, q2, q3⟩ := h
  refine ⟨cur, (ho _ (blk_lt q1) (ne q1 h1)).trans q1, q2, fun j hj => ?_⟩
  obtain ⟨b, p1, p2⟩ := q3 j hj
  exact ⟨b, p1, (ho _ (blk_lt p2) (ne p2 h2)).trans p2⟩
theorem ClU.step {w0 wr : World} {base g i : Nat} (hi : i < 64) (h : ClU wr g i) (hb : Below base w0 wr) (hg : base ≤ g) (hs : base ≤ wr.heap.size) :
    ClU ((wr.alloc (.cells (flN 2) 29)).setCell ⟨g, i, none⟩ (.slice (some ⟨wr.heap.size, 0, none⟩) 2 2)) g (i + 1) ∧ Below base w0 ((wr.alloc (.cells (flN 2) 29)).setCell ⟨g, i, none⟩ (.slice (some ⟨wr.heap.size, 0, none⟩) 2 2)) ∧ ∀ k, k < wr.heap.size → k ≠ g → ((wr.alloc (.cells (flN 2) 29)).setCell ⟨g, i, none⟩ (.slice (some ⟨wr.heap.size, 0, none⟩) 2 2)).heap[k]? = wr.heap[k]? := by
  obtain ⟨cur, h1, h2, h3⟩ := h
  have hw : Wr w0 base g 30 (wr.alloc (.cells (flN 2) 29)) (wr.alloc (.cells (flN 2) 29)) cur := ⟨alloc_kept h1 _, hb.alloc hs _, fun _ _ => rfl⟩
  have hst := hw.step hg i (.slice (some ⟨wr.heap.size, 0, none⟩) 2 2)
  have hlg := blk_lt h1
  refine ⟨⟨_, hst.blk, by rw [Array.size_setIfInBounds]; exact h2, fun j hj => ?_⟩, hst.bel, fun k hk hne => (hst.oth k hne).trans (Below.heap_alloc wr _ k hk)⟩
  by_cases hji : j = i
  · subst hji
    refine ⟨wr.heap.size, by simp [h2, hi], ?_⟩
    rw [hst.oth _ (by omega)]
    exact heap_alloc_new wr _
  · obtain ⟨b, q1, q2⟩ := h3 j (by omega)
    refine ⟨b, by rw [Array.getElem?_setIfInBounds, if_neg (fun e => hji e.symm)]; exact q1, ?_⟩
    rw [hst.oth b (fun e => by subst e; rw [h1] at q2; simp at q2)]
    exact alloc_kept q2 _
theorem repl_get (m j : Nat) (x : List Nat) (h : j < m) : (List.replicate m x)[j]?.getD [] = x := by simp [h]
theorem ClU.rd {w : World} {g : Nat} (h : ClU w g 64) : RdLL w (some ⟨g, 0, none⟩) 64 64 (List.replicate 64 (List.replicate 2 0)) := by
  obtain ⟨cur, h1, h2, h3⟩ := h
  refine ⟨by simp, by decide, .inr ⟨g, 0, rfl, fun j hj => ?_⟩⟩
  obtain ⟨b, q1, q2⟩ := h3 j hj
  refine ⟨_, 2, 2, by rw [Nat.zero_add, cell_of_row _ g j _ _ _ h1]; exact q1, ?_⟩
  rw [repl_get 64 j _ hj]
  exact rdF_zero (by omega) q2
/-- So many columns of k noughts, a slice of the law's own. -/
structure GU (w : World) (base : Nat) (v : Value) (k : Nat) (vs : List Value) : Prop where
  own : w.ownsRow base 30 1 v vs.length vs
  col : ∀ j, j < vs.length → ∃ b, vs[j]? = some (.slice (some ⟨b, 0, none⟩) k k) ∧ w.heap[b]? = some (.cells (flN k) 29)
theorem GU.nil (w : World) (base k : Nat) : GU w base (.slice none 0 0) k [] := ⟨World.ownsRow_nil w base _ 1, fun j hj => by simp at hj⟩
theorem GU.keepB {w w' : World} {base k : Nat} {v : Value} {vs : List Value} (h : GU w base v k vs) (ho : ∀ (j : Nat) (cu : Array Value) (t : TypeId), w.heap[j]? = some (.cells cu t) → t = 30 ∨ t = 29 → w'.heap[j]? = w.heap[j]?) : GU w' base v k vs := by
  refine ⟨⟨h.own.1, ?_⟩, fun j hj => ?_⟩
  · rcases h.own.2 with h2 | ⟨g, cap, cu, e, hg, hh, r⟩
    · exact .inl h2
    · exact .inr ⟨g, cap, cu, e, hg, (ho g _ _ hh (.inl rfl)).trans hh, r⟩
  · obtain ⟨b, q1, q2⟩ := h.col j hj
    exact ⟨b, q1, (ho b _ _ q2 (.inr rfl)).trans q2⟩
theorem GU.later {w w' : World} {base k : Nat} {v : Value} {vs : List Value} (h : GU w base v k vs) (hb : Below w.heap.size w w') : GU w' base v k vs := h.keepB fun j cu t hj _ => hb.block j (blk_lt hj)
theorem GU.rd {w : World} {base k : Nat} {v : Value} {vs : List Value} (h : GU w base v k vs) (hk : k ≤ 1000) (hl : vs.length ≤ 1000) : ∃ ao cap, v = .slice ao vs.length cap ∧ RdLL w ao vs.length cap (List.replicate vs.length (List.replicate k 0)) := by
  rcases h.own.2 with ⟨e, h0⟩ | ⟨g, cap, cu, e, hg, hh, r⟩
  · exact ⟨none, 0, by rw [e, h0], by simp, by simp only [maxLen]; omega, .inl h0⟩
  · refine ⟨_, cap, e, by simp, by simp only [maxLen]; omega, .inr ⟨g, 0, rfl, fun j hj => ?_⟩⟩
    obtain ⟨b, q1, q2⟩ := h.col j hj
    have q := World.ownsRow.cells h.own (g := g) (by rw [e]; rfl) j _ q1
    rw [Addr.add_lit] at q
    refine ⟨_, k, k, q, ?_⟩
    rw [repl_get _ j _ hj]
    exact rdF_zero (by omega) q2
/-- One more column. -/
theorem GU.snoc {W w' : World} {base k b : Nat} {v v' : Value} {vs : List Value} (h : GU W base v k vs) (hb : W.heap[b]? = some (.cells (flN k) 29)) (ho : w'.ownsRow base 30 1 v' (vs ++ [Value.slice (some ⟨b, 0, none⟩) k k]).length (vs ++ [Value.slice (some ⟨b, 0, none⟩) k k])) (hk : ∀ j, j < W.heap.size → v.ownBlock ≠ some j → w'.heap[j]? = W.heap[j]?) : GU w' base v' k (vs ++ [Value.slice (some ⟨b, 0, none⟩) k k]) := by
  have hne : ∀ {j : Nat} {cu : Array Value}, W.heap[j]? = some (.cells cu 29) → v.ownBlock ≠ some j := by
    intro j cu hj e
    rcases h.own.2 with ⟨e2, _⟩ | ⟨g, cap, cu2, e2, hg, hh, r⟩
    · rw [e2] at e; simp [Value.ownBlock] at e
    · rw [e2] at e
      simp only [Value.ownBlock, Option.some.injEq] at e
      subst e
      rw [hh] at hj
      simp at hj
  refine ⟨ho, fun j hj => ?_⟩
  rw [List.length_append] at hj
  by_cases hlt : j < vs.length
  · obtain ⟨b', q1, q2⟩ := h.col j hlt
    exact ⟨b', by rw [List.getElem?_append_left hlt]; exact q1, (hk _ (blk_lt q2) (hne q2)).trans q2⟩
  · have : j = vs.length := by simp at hj; omega
    subst this
    exact ⟨b, by simp, (hk _ (blk_lt hb) (hne hb)).trans hb⟩
end Go.Proofs.YtogpkigpnflaoaaDoor
