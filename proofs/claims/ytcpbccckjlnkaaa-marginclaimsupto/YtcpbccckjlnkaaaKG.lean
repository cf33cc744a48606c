import Derived.Test.YtcpbccckjlnkaaaMKA
import Derived.Deep.WholeRow
import Derived.Deep.MidRow
import Derived.Laws.CopyOwn
namespace Go.Proofs.Ytcpbccckjlnkaaa
open Go.RowKit
set_option linter.unusedVariables false

/-- A whole row into a block: what comes behind knows the block, and that nothing else changed. -/
theorem wpList_store_row {P : Program} {ops : Array Oper} {rest : List Oper} {op : Oper} {a : Act} {w : World} {Q : Exit → Act → World → Prop} (hgd : op.guard = none) (ty : TypeId) (x y : Operand) (ho : op.op = .store ty x y)
    (w0 : World) (base B : Nat) (c cur : Array Value) (hx : a.eval x = .pointer (some ⟨B, 0, none⟩)) (hy : a.eval y = .agg c) (hB : w.heap[B]? = some (.cells cur ty)) (hb : Below base w0 w) (hbB : base ≤ B)
    (n : Nat) (hi : (P.info? ty).map (·.size) = some n) (hn : c.size = n) (hc : cur.size = n) (h1 : c.all (·.oneCell') = true)
    (h : ∀ W, W.heap[B]? = some (.cells c ty) → Below base w0 W → W.heap.size = w.heap.size → (∀ k, k ≠ B → W.heap[k]? = w.heap[k]?) → wpList P ops Q rest (a.put op.dst undef) W) : wpList P ops Q (op :: rest) a w := by
  refine wpList_plain hgd fun K hK => ?_
  have hs := run_storeVar_row (P := P) _ _ ty ty cur c hB (hn ▸ hi) (hc.trans hn.symm) h1
  unfold Oper.wp execOp
  simp only [ho, hx, hy, Instr.storeAt, Instr.sureAddr, Sem.run_bind, Sem.run_pure, Result.andThen_ok, hs]
  exact hK _ _ (h _ (setRow_heap w B _ _ ty _ hB) (below_setRow hb hbB _) (by simp [World.setRow]) (fun k hk => setRow_other w B k _ hk))
/-- Some cells into a block, from a place on. -/
theorem wpList_store_at {P : Program} {ops : Array Oper} {rest : List Oper} {op : Oper} {a : Act} {w : World} {Q : Exit → Act → World → Prop} (hgd : op.guard = none) (ty : TypeId) (x y : Operand) (ho : op.op = .store ty x y)
    (w0 : World) (base B o : Nat) (v : Value) (cur c : Array Value) (t : TypeId) (hx : a.eval x = .pointer (some ⟨B, o, none⟩)) (hy : a.eval y = v) (hB : w.heap[B]? = some (.cells cur t)) (hb : Below base w0 w) (hbB : base ≤ B)
    (n : Nat) (hi : (P.info? ty).map (·.size) = some n) (hn : v.cells.size = n) (hl : o + n ≤ cur.size) (h1 : ∀ u ∈ v.cells.toList, u.oneCell' = true)
    (hc : (cur.toList.take o ++ v.cells.toList ++ cur.toList.drop (o + n)).toArray = c)
    (h : ∀ W, W.heap[B]? = some (.cells c t) → Below base w0 W → W.heap.size = w.heap.size → (∀ k, k ≠ B → W.heap[k]? = w.heap[k]?) → wpList P ops Q rest (a.put op.dst undef) W) : wpList P ops Q (op :: rest) a w := by
  refine wpList_plain hgd fun K hK => ?_
  have hs := run_storeCells_at (P := P) B o t v.cells.toList 0 cur w hB (by simp [hn]; omega) h1
  simp only [Nat.add_zero, Array.length_toList, hn] at hs
  rw [hc] at hs
  have hs2 : (storeVar ty ⟨B, o, none⟩ v).run P w = .ok () (w.setRow B c) := by
    cases hq : P.info? ty with
    | none => simp [hq] at hi
    | some i =>
      have hz : v.cells.size = i.size := by simp [hq] at hi; omega
      simp [storeVar, sizeOf, typeInfo, hq, hz, hs]
  unfold Oper.wp execOp
  simp only [ho, hx, hy, Instr.storeAt, Instr.sureAddr, Sem.run_bind, Sem.run_pure, Result.andThen_ok, hs2]
  exact hK _ _ (h _ (setRow_heap w B _ _ t _ hB) (below_setRow hb hbB _) (by simp [World.setRow]) (fun k hk => setRow_other w B k _ hk))
/-- A whole row out of a block. -/
theorem wpList_load_row {P : Program} {ops : Array Oper} {rest : List Oper} {op : Oper} {a : Act} {w : World} {Q : Exit → Act → World → Prop} (hgd : op.guard = none) (ty : TypeId) (x : Operand) (ho : op.op = .load ty x)
    (B : Nat) (c : Array Value) (hx : a.eval x = .pointer (some ⟨B, 0, none⟩)) (hB : w.heap[B]? = some (.cells c ty)) (d : TypeDesc) (hu : P.underlying ty = some d) (hd : d.isRow = true)
    (n : Nat) (hi : (P.info? ty).map (·.size) = some n) (hn : c.size = n)
    (h : wpList P ops Q rest (a.put op.dst (.agg c)) w) : wpList P ops Q (op :: rest) a w := by
  have hr : w.rangeAt B 0 c.toList := by
    have := World.rangeAt_of_block hB 0 c.size
    simpa using this
  refine wpList_load_mid hgd ty x ho B 0 hx c.toList d hr hu hd (by simpa [hn] using hi) ?_
  simpa using h
end Go.Proofs.Ytcpbccckjlnkaaa

