import Derived.Test.YtbncdcenckagcaaGreatDC
import Derived.Deep.WholeRow
import Derived.Deep.MidRow
import Derived.Laws.CopyOwn
import Derived.Deep.DeepCutAuto
import Derived.Deep.RegionHeld3
namespace Go.Proofs.YtbncdcenckagcaaGreat
open Go.RowKit
set_option linter.unusedVariables false
set_option linter.unusedSimpArgs false

/-- Some cells into a block, from a place on. -/
theorem wpList_store_at {P : Program} {ops : Array Oper} {rest : List Oper} {op : Oper} {a : Act} {w : World} {Q : Exit → Act → World → Prop} (hgd : op.guard = none) (ty : TypeId) (x y : Operand) (ho : op.op = .store ty x y)
    (w0 : World) (base B o : Nat) (v : Value) (cur c : Array Value) (t : TypeId) (hx : a.eval x = .pointer (some ⟨B, o, none⟩)) (hy : a.eval y = v) (hB : w.heap[B]? = some (.cells cur t)) (hb : Below base w0 w) (hbB : base ≤ B)
    (n : Nat) (hi : (P.info? ty).map (·.size) = some n) (hn : v.cells.size = n) (hl : o + n ≤ cur.size) (h1 : ∀ u ∈ v.cells.toList, u.oneCell' = true)
    (hc : (cur.toList.take o ++ v.cells.toList ++ cur.toList.drop (o + n)).toArray = c)
    (h : ∀ W, W.heap[B]? = some (.cells c t) → Below base w0 W → W.heap.size = w.heap.size → (∀ k, k ≠ B → W.heap[k]? = w.heap[k]?) → wpList P ops Q rest (a.put op.dst undef) W) : wpList P ops Q (op :: rest) a w := by
  refine wpList_plain hgd fun K hK => ?_
  have hs := run_storeCells_at (P := P) B o t v.cells.toList 0 cur w hB (by simp [hn]; omega) h1
  simp only [Nat.add_zero, Array.length_toList, hn] at hs
  rw [hc] at hs
  have hs2 : (storeVar ty ⟨B, o, none⟩ v).run P w = .ok () (w.setRow B c) := by
    cases hq : P.info? ty with
    | none => simp [hq] at hi
    | some i =>
      have hz : v.cells.size = i.size := by simp [hq] at hi; omega
      simp [storeVar, sizeOf, typeInfo, hq, hz, hs]
  unfold Oper.wp execOp
  simp only [ho, hx, hy, Instr.storeAt, Instr.sureAddr, Sem.run_bind, Sem.run_pure, Result.andThen_ok, hs2]
  exact hK _ _ (h _ (setRow_heap w B _ _ t _ hB) (below_setRow hb hbB _) (by simp [World.setRow]) (fun k hk => setRow_other w B k _ hk))
/-- What comes behind one operation, put in the place of the normal exit. -/
def QK (Q : Exit → Act → World → Prop) (K : Act → World → Prop) : Exit → Act → World → Prop
  | .normal => K
  | .exit i => Q (.exit i)
  | .goto l => Q (.goto l)
  | .ret => Q .ret
  | .panic c => Q (.panic c)
  | .outgrown => Q .outgrown
theorem upon_QK {P : Program} {o : Oper} {a : Act} {next : Act → World → Prop} {Q : Exit → Act → World → Prop} {K : Act → World → Prop} (r : Result Next) (h : o.upon P a next (QK Q K) r) : o.upon P a next Q r := by
  cases r with
  | ok n w => cases n <;> exact h
  | halt s w => cases s <;> exact h
theorem op_of_list {P : Program} {ops : Array Oper} {Q : Exit → Act → World → Prop} {K : Act → World → Prop} {a : Act} {w : World} {i : Nat} {o : Oper} (ho : ops[i]? = some o) (h : wpList P ops (QK Q K) [o] a w) : wpOp P ops Q i K a w := by
  unfold wpOp
  rw [ho]
  unfold wpList at h
  show if Region.wanted o (yielded ops a.tmps) = true then _ else _
  split
  · rename_i hw
    rw [if_pos hw] at h
    rcases h with h | h
    · exact .inl (upon_QK _ h)
    · exact .inr ⟨h.1, h.2⟩
  · rename_i hw
    rw [if_neg hw] at h
    exact h
theorem hopVd {P : Program} {ops : Array Oper} {Q : Exit → Act → World → Prop} {i : Nat} {o : Oper} {K : Act → World → Prop} {a : Act} {w w' : World} {v : Value} (d : Nat) (ho : ops[i]? = some o) (hg : o.guard = none) (hd : o.dst = some d) (hr : (execOp a.eval o).run P w = .ok (.value v) w') (h : K (a.put (some d) v) w') : wpOp P ops Q i K a w :=
  wpOp_step ho fun K' hK => by
    rw [if_pos (by simp [Region.wanted, hg])]
    unfold Oper.wp
    rw [hr]
    rw [← hd] at h
    exact hK _ _ h
theorem put_nn {P : Program} {ops : Array Oper} {Q : Exit → Act → World → Prop} {rest : List Oper} {o : Oper} {a : Act} {w : World} {v : Value} (hd : o.dst = none) (h : wpList P ops Q rest a w) : wpList P ops Q rest (a.put o.dst v) w := by rw [hd]; exact h
theorem Tryz.infoNum3 : (Tryz.prog.info? 44).map (·.size) = some 3 := by kernel_rfl
theorem Tryz.infoSpU : (Tryz.prog.info? 30).map (·.size) = some 3 := by kernel_rfl
theorem one_num (n : Bool) (so : Option Addr) (l c : Nat) (e : Int) : ∀ u ∈ (Value.agg #[.bool n, .slice so l c, .int .i64 e]).cells.toList, u.oneCell' = true := by
  intro u hu
  simp only [Value.cells, List.mem_cons, List.not_mem_nil, or_false] at hu
  rcases hu with rfl | rfl | rfl <;> rfl
theorem one_spu (x y : Int) (b : Bool) : ∀ u ∈ (Value.agg #[.int .u64 x, .int .u64 y, .bool b]).cells.toList, u.oneCell' = true := by
  intro u hu
  simp only [Value.cells, List.mem_cons, List.not_mem_nil, or_false] at hu
  rcases hu with rfl | rfl | rfl <;> rfl
theorem rd4C_keep {w w' : World} {B : Nat} (hB : ∀ j x, w.cell? ⟨B, j, none⟩ ≠ some (.int .u32 x)) (ho : ∀ b, b ≠ B → w'.heap[b]? = w.heap[b]?) {ao : Option Addr} {len cap : Nat} {xs : List Nat} (h : Rd4 w ao len cap xs) : Rd4 w' ao len cap xs := by
  refine ⟨h.length, h.le, h.max, h.lt, h.nil, ?_⟩
  rcases h.cells with h0 | ⟨b, off, ha, hc⟩
  · exact .inl h0
  · by_cases e : b = B
    · by_cases h0 : len = 0
      · exact .inl h0
      · subst e; exact absurd (hc 0 (by omega)) (hB _ _)
    · exact .inr ⟨b, off, ha, fun j hj => by rw [World.cell?_of_block (a := ⟨b, off + j, none⟩) (ho b e)]; exact hc j hj⟩
theorem NumC.keep {w w' : World} {B : Nat} (hB : NumB w B) (ho : ∀ b, b ≠ B → w'.heap[b]? = w.heap[b]?) {v : Value} {s : Nat} {T z : Int} (h : NumC w v s T z) : NumC w' v s T z := by
  obtain ⟨neg, m, e, ⟨ao, len, cap, xs, h1, h2, h3, h4⟩, h5⟩ := h
  exact ⟨neg, m, e, ⟨ao, len, cap, xs, h1, rd4C_keep hB.not ho h2, h3, h4⟩, h5⟩
theorem NumZ.keep {w w' : World} {B : Nat} (hB : NumB w B) (ho : ∀ b, b ≠ B → w'.heap[b]? = w.heap[b]?) {v : Value} {s : Nat} {T z : Int} (h : NumZ w v s T z) : NumZ w' v s T z := by
  obtain ⟨neg, m, e, ⟨ao, len, cap, xs, h1, h2, h3, h4⟩, h5⟩ := h
  exact ⟨neg, m, e, ⟨ao, len, cap, xs, h1, rd4C_keep hB.not ho h2, h3, h4⟩, h5⟩
/-- A variable that holds one of the document's numbers. -/
def BoxC (w : World) (B : Nat) (s : Nat) (T z : Int) : Prop := ∃ n ao l c e, w.heap[B]? = some (Obj.cells #[Value.bool n, Value.slice ao l c, Value.int .i64 e] 44) ∧ NumC w (.agg #[.bool n, .slice ao l c, .int .i64 e]) s T z
theorem BoxC.numB {w : World} {B s : Nat} {T z : Int} (h : BoxC w B s T z) : NumB w B := by
  obtain ⟨n, ao, l, c, e, h1, -⟩ := h
  exact ⟨n, ao, l, c, e, h1⟩
theorem BoxC.lt {w : World} {B s : Nat} {T z : Int} (h : BoxC w B s T z) : B < w.heap.size := by
  obtain ⟨n, ao, l, c, e, h1, -⟩ := h
  exact blk_lt h1
theorem BoxC.later {w w' : World} {B s : Nat} {T z : Int} (h : BoxC w B s T z) (hb : Below w.heap.size w w') : BoxC w' B s T z := by
  obtain ⟨n, ao, l, c, e, h1, h2⟩ := h
  exact ⟨n, ao, l, c, e, (hb.block B (blk_lt h1)).trans h1, h2.later hb⟩
theorem BoxC.keep {w w' : World} {B C s : Nat} {T z : Int} (h : BoxC w B s T z) (hC : NumB w C) (ho : ∀ b, b ≠ C → w'.heap[b]? = w.heap[b]?) (hne : B ≠ C) : BoxC w' B s T z := by
  obtain ⟨n, ao, l, c, e, h1, h2⟩ := h
  exact ⟨n, ao, l, c, e, (ho B hne).trans h1, h2.keep hC ho⟩
theorem BoxC.zero (w : World) (s : Nat) (T : Int) (hT : 0 ≤ T) : NumC w (.agg #[.bool false, .slice none 0 0, .int .i64 0]) s T 0 :=
  ⟨false, 0, 0, ⟨none, 0, 0, [], rfl, Rd4.none _, .inl rfl, rfl⟩, by omega, by rw [bl_zero]; omega, zv_zero _ _ _, fun _ => rfl⟩
/-- THE SLICE OF uint64 READS AS U. -/
structure RdW (w : World) (ao : Option Addr) (len cap : Nat) (U : Nat → Nat) : Prop where
  le : len ≤ cap
  max : cap ≤ maxLen
  lt : ∀ j, j < len → U j < 18446744073709551616
  cells : len = 0 ∨ ∃ b off, ao = some ⟨b, off, none⟩ ∧ ∀ j, j < len → w.cell? ⟨b, off + j, none⟩ = some (.int .u64 (U j : Int))
theorem RdW.later {w w' : World} {ao : Option Addr} {len cap : Nat} {U : Nat → Nat} (h : RdW w ao len cap U) (hb : Below w.heap.size w w') : RdW w' ao len cap U := by
  refine ⟨h.le, h.max, h.lt, ?_⟩
  rcases h.cells with h0 | ⟨b, off, ha, hc⟩
  · exact .inl h0
  · refine .inr ⟨b, off, ha, fun j hj => ?_⟩
    have hlt := World.block_lt_of_cell? w _ (hc j hj)
    rw [hb.cell (p := ⟨b, off + j, none⟩) hlt]
    exact hc j hj
/-- THE SLICE OF the document's Spans READS AS F. -/
structure RdV (w : World) (ao : Option Addr) (len cap : Nat) (F : Nat → Nat × Nat × Bool) : Prop where
  le : len ≤ cap
  max : cap ≤ maxLen
  lt : ∀ j, j < len → (F j).1 < 18446744073709551616 ∧ (F j).2.1 < 18446744073709551616
  cells : len = 0 ∨ ∃ b off, ao = some ⟨b, off, none⟩ ∧ ∀ j, j < len → w.cell? ⟨b, off + j * 3, none⟩ = some (.int .u64 ((F j).1 : Int)) ∧ w.cell? ⟨b, off + j * 3 + 1, none⟩ = some (.int .u64 ((F j).2.1 : Int)) ∧ w.cell? ⟨b, off + j * 3 + 2, none⟩ = some (.bool (F j).2.2)
theorem RdV.later {w w' : World} {ao : Option Addr} {len cap : Nat} {F : Nat → Nat × Nat × Bool} (h : RdV w ao len cap F) (hb : Below w.heap.size w w') : RdV w' ao len cap F := by
  refine ⟨h.le, h.max, h.lt, ?_⟩
  rcases h.cells with h0 | ⟨b, off, ha, hc⟩
  · exact .inl h0
  · refine .inr ⟨b, off, ha, fun j hj => ?_⟩
    obtain ⟨h1, h2, h3⟩ := hc j hj
    have hl := World.block_lt_of_cell? w _ h1
    exact ⟨by rw [hb.cell (p := ⟨b, off + j * 3, none⟩) hl]; exact h1, by rw [hb.cell (p := ⟨b, off + j * 3 + 1, none⟩) hl]; exact h2, by rw [hb.cell (p := ⟨b, off + j * 3 + 2, none⟩) hl]; exact h3⟩
/-- One more term. -/
theorem sum_step {w : World} {v : Value} {s : Nat} {T : Int} {d : Int} {U : Nat → Nat} {F : Nat → Nat × Nat × Bool} {k : Nat} {t : Int} (h : NumC w v s T (dsum d U F k + t)) (ht : t = tmD d (U k) (F k).1 (F k).2.1) (hf : ∀ j, j < k + 1 → Fin (U j) ∧ Good (F j).1 (F j).2.1 (F j).2.2) (hk : k + 1 ≤ 9223372036854775807) (hs : s = 2148) : NumC w v s 2112 (dsum d U F (k + 1)) := by
  have e : dsum d U F k + t = dsum d U F (k + 1) := by rw [ht]; rfl
  rw [e] at h
  obtain ⟨M, hM⟩ : ∃ M : Nat, M = 4196 := ⟨_, rfl⟩
  have hb := dsum_lt (d := d) hM (k + 1) hf
  obtain ⟨X, hX⟩ : ∃ X : Nat, X = 4260 := ⟨_, rfl⟩
  refine h.tight (by omega) (X := X) (by omega) (Nat.lt_of_le_of_lt hb ?_)
  have h2 : (2 : Nat) ^ X = 2 ^ 64 * 2 ^ M := by rw [← Nat.pow_add, show 64 + M = X by omega]
  rw [h2]
  refine Nat.mul_lt_mul_of_pos_right ?_ (Nat.two_pow_pos _)
  have : (2 : Nat) ^ 64 = 18446744073709551616 := by decide
  omega
theorem keep0 {X w : World} {B : Nat} {o : Obj} (h : X.heap[B]? = some o) (b : Below X.heap.size X w) : w.heap[B]? = some o := (b.block B (Array.getElem?_eq_some_iff.1 h).1).trans h
theorem hopCd {P : Program} {ops : Array Oper} {Q : Exit → Act → World → Prop} {i : Nat} {o : Oper} {K : Act → World → Prop} {a : Act} {w : World} {f : FuncId} {args : Array Value} (d : Nat) (ho : ops[i]? = some o) (hw : Region.wanted o (yielded ops a.tmps) = true) (hd : o.dst = some d) (hr : (execOp a.eval o).run P w = .ok (.enter f args) w) (hc : Calls P f args w fun e w'' => ∃ v, e = .returned v ∧ K (a.put (some d) v) w'') : wpOp P ops Q i K a w :=
  wpOp_step ho fun K' hK => by
    rw [if_pos hw]
    unfold Oper.wp
    rw [hr, Oper.upon_enter]
    refine Calls.mono hc ?_
    rintro e w'' ⟨v, rfl, h⟩
    rw [← hd] at h
    exact hK _ _ h
theorem consH {P : Program} {md : Region.Mode} {ops : Array Oper} {Q : Exit → Act → World → Prop} {S : World → Prop} {fuel : Nat} {listed : Array Bool} {a : Act} {w : World} {i : Nat} {rs : List Nat} (l' : Array Bool) (hl : listed.setIfInBounds i true = l')
    (h : wpOp P ops Q i (fun a' w' => S w' ∧ wpAnyH P md ops Q S fuel l' a' w') a w) (hs : AllReadyH P md ops Q S fuel listed a w rs) : AllReadyH P md ops Q S fuel listed a w (i :: rs) := by
  subst hl
  intro j hj
  rcases List.mem_cons.1 hj with rfl | hj
  · exact h
  · exact hs j hj
theorem takeH {P : Program} {md : Region.Mode} {ops : Array Oper} {Q : Exit → Act → World → Prop} {S : World → Prop} (d : Nat) {i : Nat} {oi : Oper} {v : Value} {fuel : Nat} {listed : Array Bool} {a : Act} {w : World} (hi : ops[i]? = some oi) (hd : oi.dst = some d)
    (hs : Region.noSelect ops = true) (hf : Region.free md ops listed i = true) (hr : (Region.ready md ops listed).contains i = true)
    (hQ : ∀ c a w, Q (.panic c) (a.put (some d) v) w → Q (.panic c) a w) (hy : YieldsIf P ops S oi v a) (hS : S w)
    (h : wpAnyH P md ops Q S fuel (listed.setIfInBounds i true) (a.put (some d) v) w) : wpAnyH P md ops Q S (fuel + 1) listed a w :=
  wpAnyH_take hi hs hf hr (by rw [hd]; exact hQ) hy hS (by rw [hd]; exact h)
set_option maxRecDepth 100000 in
theorem ex_load3 {ρ : Operand → Value} (o : Oper) (p : Operand) (ho : o.op = .load 44 p) (B : Nat) (hp : ρ p = .pointer (some ⟨B, 0, none⟩)) (w : World) (n : Bool) (so : Option Addr) (l c : Nat) (e : Int) (h : w.cell? ⟨B, 0, none⟩ = some (.bool n) ∧ w.cell? ⟨B, 1, none⟩ = some (.slice so l c) ∧ w.cell? ⟨B, 2, none⟩ = some (.int .i64 e)) : (execOp ρ o).run Tryz.prog w = .ok (.value (.agg #[.bool n, .slice so l c, .int .i64 e])) w := by
  obtain ⟨x0, x1, x2⟩ := h
  simp only [execOp, ho, hp]
  simp [go_sem, x0, x1, x2, Result.andThen]
end Go.Proofs.YtbncdcenckagcaaGreat
