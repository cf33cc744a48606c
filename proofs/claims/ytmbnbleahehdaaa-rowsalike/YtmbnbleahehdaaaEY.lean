import Derived.Test.YtmbnbleahehdaaaEX
import Derived.Test.YtmbnbleahehdaaaEM
import Derived.Test.YtmbnbleahehdaaaEQ
namespace Go.Proofs.Ytmbnbleahehdaaa
open Go.RowKit
set_option linter.unusedVariables false
set_option linter.unusedSimpArgs false

theorem own_val {w : World} {base n : Nat} {E : TypeId} {v : Value} {xs : List Value} (h : w.ownsRow base E 1 v n xs) : v.oneCell' = true ∧ v.cells = #[v] := by
  rcases h.2 with ⟨rfl, _⟩ | ⟨g, cap, cu, rfl, hg, hh, r⟩ <;> exact ⟨rfl, rfl⟩
theorem own_kp {w w' : World} {base n : Nat} {E : TypeId} {v : Value} {xs : List Value} (h : w.ownsRow base E 1 v n xs) (hk : ∀ k, v.ownBlock = some k → w'.heap[k]? = w.heap[k]?) : w'.ownsRow base E 1 v n xs := by
  refine ⟨h.1, ?_⟩
  rcases h.2 with h2 | ⟨g, cap, cu, rfl, hg, hh, r⟩
  · exact .inl h2
  · exact .inr ⟨g, cap, cu, rfl, hg, (hk g rfl).trans hh, r⟩
def OwnF (w : World) (base : Nat) (v : Value) (us : List Nat) : Prop := w.ownsRow base 26 1 v (flV' us).length (flV' us)
theorem OwnF.nil (w : World) (base : Nat) : OwnF w base (.slice none 0 0) [] := World.ownsRow_nil w base _ 1
theorem OwnF.rd {w : World} {base : Nat} {v : Value} {us : List Nat} (h : OwnF w base v us) (hm : us.length ≤ 1000) (hl : ∀ u ∈ us, u < 18446744073709551616) : ∃ ao cap, v = .slice ao us.length cap ∧ us.length ≤ cap ∧ RdF w ao us.length cap us := by
  have hmx : us.length ≤ maxLen := Nat.le_trans hm (by decide)
  have hfl : (flV' us).length = us.length := by simp [flV']
  rcases h.2 with ⟨h0, h1⟩ | ⟨g, cap, cur, hv, hg, hh, hc, hx, hs, ht⟩
  · have hl0 : us.length = 0 := by rw [hfl] at h1; exact h1
    exact ⟨none, 0, by rw [h0, hl0], by omega, ⟨rfl, hmx, hl, .inl hl0⟩⟩
  · rw [hfl] at hv hc
    refine ⟨some ⟨g, 0, none⟩, cap, hv, hc, ⟨rfl, hmx, hl, .inr ⟨g, 0, rfl, fun j hj => ?_⟩⟩⟩
    rw [cell_of_row _ g _ _ _ _ hh]
    have hu := flV'_at us j hj
    rw [← ht, List.getElem?_take] at hu
    split at hu
    · rw [Array.getElem?_toList] at hu; rw [Nat.zero_add]; exact hu
    · cases hu
theorem flV'_snoc (us : List Nat) (u : Nat) : flV' (us ++ [u]) = flV' us ++ [.float .f64 u] := by simp [flV']
/-- The numbers that the law's made writes. -/
def wL (seed : Int) (p : Nat) : List Nat := (List.range p).map fun (i : Nat) => flZ (smallZ seed (3 * (i : Int)))
def bL (seed : Int) (p : Nat) : List Nat := (List.range p).map fun (i : Nat) => flZ (smallZ seed (5 * (i : Int) + 1))
theorem wL_snoc (seed : Int) (p : Nat) : wL seed (p + 1) = wL seed p ++ [flZ (smallZ seed (3 * (p : Int)))] := by unfold wL; rw [List.range_succ, List.map_append]; rfl
theorem bL_snoc (seed : Int) (p : Nat) : bL seed (p + 1) = bL seed p ++ [flZ (smallZ seed (5 * (p : Int) + 1))] := by unfold bL; rw [List.range_succ, List.map_append]; rfl
theorem wL_len (seed : Int) (p : Nat) : (wL seed p).length = p := by unfold wL; simp
theorem bL_len (seed : Int) (p : Nat) : (bL seed p).length = p := by unfold bL; simp
theorem wL_lt (seed : Int) (p : Nat) : ∀ u ∈ wL seed p, u < 18446744073709551616 := by
  unfold wL; intro u hu
  obtain ⟨i, -, rfl⟩ := List.mem_map.1 hu
  exact (flZ_lt (smallZ_bd _ _)).1
theorem bL_lt (seed : Int) (p : Nat) : ∀ u ∈ bL seed p, u < 18446744073709551616 := by
  unfold bL; intro u hu
  obtain ⟨i, -, rfl⟩ := List.mem_map.1 hu
  exact (flZ_lt (smallZ_bd _ _)).1
theorem ex_loadR {P : Program} {ρ : Operand → Value} (o : Oper) (ty : TypeId) (p : Operand) (ho : o.op = .load ty p) (B : Nat) (hp : ρ p = .pointer (some ⟨B, 0, none⟩)) (w : World) (c : Array Value) (h : w.heap[B]? = some (.cells c ty)) (d : TypeDesc) (hu : P.underlying ty = some d) (hd : d.isRow = true) (n : Nat) (hi : (P.info? ty).map (·.size) = some n) (hn : c.size = n) : (execOp ρ o).run P w = .ok (.value (.agg c)) w := by
  have hr : w.rangeAt B 0 c.toList := by
    have := World.rangeAt_of_block h 0 c.size
    simpa using this
  have hl := run_loadVar_mid (P := P) w B 0 ty c.toList d hr hu hd (by rw [hi]; simp [hn])
  have hl2 : (loadVar ty ⟨B, 0, none⟩).run P w = .ok (.agg c) w := by simpa using hl
  unfold execOp
  simp only [ho, hp, Instr.loadAt, Instr.sureAddr, Sem.run_bind, Sem.run_pure, Result.andThen_ok, hl2]
theorem ex_load1 {P : Program} {ρ : Operand → Value} (o : Oper) (ty : TypeId) (p : Operand) (ho : o.op = .load ty p) (A : Addr) (hp : ρ p = .pointer (some A)) (w : World) (v : Value) (h : w.cell? A = some v) (hag : ∀ w, (isAgg ty).run P w = .ok false w) : (execOp ρ o).run P w = .ok (.value v) w := by
  unfold execOp
  simp only [ho, hp]
  simp [go_sem, hag, h, Result.andThen]
theorem agF (w : World) : (isAgg 27).run Try.prog w = .ok false w := by kernel_rfl
theorem madeK_alloc (w : World) : (Instr.alloc 49 true (.tuple #[])).run Try.prog w = .ok (.pointer (some ⟨w.heap.size, 0, none⟩)) (w.alloc (.cells #[.int .i64 0, .int .i64 0, .int .i64 0, .int .i64 0] 49)) := by kernel_rfl
theorem one14i (a0 a1 a2 a3 a4 a5 a6 a7 a8 : Int) (A : Nat) (v1 v2 v3 v4 : Value) (h1 : v1.oneCell' = true) (h2 : v2.oneCell' = true) (h3 : v3.oneCell' = true) (h4 : v4.oneCell' = true) : (#[.int .i64 a0, .int .i64 a1, .int .i64 a2, .int .i64 a3, .int .i64 a4, .int .i64 a5, .int .i64 a6, .int .i64 a7, .int .i64 a8, .float .f64 A, v1, v2, v3, v4] : Array Value).all (·.oneCell') = true := by
  simp only [Array.all_eq_true_iff_forall_mem]
  intro v hv
  simp only [List.mem_toArray, List.mem_cons, List.not_mem_nil, or_false] at hv
  rcases hv with rfl | rfl | rfl | rfl | rfl | rfl | rfl | rfl | rfl | rfl | rfl | rfl | rfl | rfl <;> first | rfl | assumption
/-- What the law's made holds between its loops. -/
structure MD (w wx : World) (xs lay ks : Array Value) (D : Nat) : Prop where
  bel : Below w.heap.size w wx
  x : wx.heap[w.heap.size]? = some (.cells xs 23)
  r : wx.heap[w.heap.size + 1 + 1]? = some (.cells #[.int .i64 0, .int .i64 0, .int .i64 0, .int .i64 0, .int .i64 0, .int .i64 0, .int .i64 0, .int .i64 0, .int .i64 0, .float .f64 0, .slice none 0 0, .slice none 0 0, .slice none 0 0, .slice none 0 0] 30)
  l : wx.heap[w.heap.size + 1 + 1 + 1]? = some (.cells lay 30)
  k : wx.heap[D]? = some (.cells ks 49)
  d : w.heap.size + 1 + 1 + 1 < D
theorem MD.later {w wx wy : World} {xs lay ks : Array Value} {D : Nat} (h : MD w wx xs lay ks D) (hb : Below wx.heap.size wx wy) : MD w wy xs lay ks D :=
  ⟨to_call h.bel hb, kept hb h.x, kept hb h.r, kept hb h.l, kept hb h.k, h.d⟩
/-- One number more in a list, and the list into the layer. -/
theorem MD.app {w wx W w5 w9 : World} {xs lay lay' ks : Array Value} {D base : Nat} {v : Value} {us : List Nat} (h : MD w wx xs lay ks D) (hb : Below wx.heap.size wx W) (ho : OwnF wx base v us) (hbs : w.heap.size ≤ base)
    (hk : ∀ k, k < W.heap.size → v.ownBlock ≠ some k → w5.heap[k]? = W.heap[k]?) (h9 : w9.heap[w.heap.size + 1 + 1 + 1]? = some (.cells lay' 30)) (b9 : Below w.heap.size w w9) (k9 : ∀ k, k ≠ w.heap.size + 1 + 1 + 1 → w9.heap[k]? = w5.heap[k]?) : MD w w9 xs lay' ks D := by
  have hsz := hb.size
  have lx := blk_lt h.x
  have lr := blk_lt h.r
  have lk := blk_lt h.k
  have hd := h.d
  refine ⟨b9, ?_, ?_, h9, ?_, h.d⟩
  · exact (k9 _ (by omega)).trans ((hk _ (by omega) (own_ne ho h.x (by decide))).trans (kept hb h.x))
  · exact (k9 _ (by omega)).trans ((hk _ (by omega) (own_ne ho h.r (by decide))).trans (kept hb h.r))
  · exact (k9 _ (by omega)).trans ((hk _ (by omega) (own_ne ho h.k (by decide))).trans (kept hb h.k))
end Go.Proofs.Ytmbnbleahehdaaa
