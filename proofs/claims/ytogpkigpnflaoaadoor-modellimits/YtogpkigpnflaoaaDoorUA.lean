import Derived.Test.YtogpkigpnflaoaaDoorKV
import Derived.Test.YtogpkigpnflaoaaDoorKG
namespace Go.Proofs.YtogpkigpnflaoaaDoor
open Go.RowKit
set_option linter.unusedVariables false

def ZP : Array Value := #[.slice none 0 0, .slice none 0 0, .int .i64 0, .slice none 0 0, .int .i64 0, .int .i64 0, .int .i64 0]
def dnL (o : Int) (wn bn gw gb : Nat) : Array Value := #[.int .i64 1, .int .i64 o, .int .i64 0, .int .i64 0, .int .i64 0, .int .i64 0, .int .i64 0, .int .i64 0, .int .i64 0, .float .f64 0, .slice (some ⟨gw, 0, none⟩) wn wn, .slice (some ⟨gb, 0, none⟩) bn bn, .slice none 0 0, .slice none 0 0]
theorem build_dn (o : Int) (wn bn gw gb : Nat) (w : World) : (Instr.build 33 #[(0, .int .i64 1), (1, .int .i64 o), (10, .slice (some ⟨gw, 0, none⟩) wn wn), (11, .slice (some ⟨gb, 0, none⟩) bn bn)]).run Tryd.prog w = .ok (.agg (dnL o wn bn gw gb)) w := by kernel_rfl
/-- What comes behind one operation, put in the place of the normal exit. -/
def QK (Q : Exit → Act → World → Prop) (K : Act → World → Prop) : Exit → Act → World → Prop
  | .normal => K
  | .exit i => Q (.exit i)
  | .goto l => Q (.goto l)
  | .ret => Q .ret
  | .panic c => Q (.panic c)
  | .outgrown => Q .outgrown
theorem upon_QK {P : Program} {o : Oper} {a : Act} {next : Act → World → Prop} {Q : Exit → Act → World → Prop} {K : Act → World → Prop} (r : Result Next) (h : o.upon P a next (QK Q K) r) : o.upon P a next Q r := by
  cases r with
  | ok n w => cases n <;> exact h
  | halt s w => cases s <;> exact h
theorem ready_one {P : Program} {md : Region.Mode} {ops : Array Oper} {Q : Exit → Act → World → Prop} {fuel : Nat} {listed : Array Bool} {a : Act} {w : World} {i : Nat} {o : Oper} {rs : List Nat} (ho : ops[i]? = some o) (l' : Array Bool) (hl : listed.setIfInBounds i true = l')
    (h : wpList P ops (QK Q (wpAny P md ops Q fuel l')) [o] a w) (hs : AllReady P md ops Q fuel listed a w rs) : AllReady P md ops Q fuel listed a w (i :: rs) := by
  subst hl
  intro j hj
  rcases List.mem_cons.1 hj with rfl | hj
  · unfold wpOp
    rw [ho]
    unfold wpList at h
    show if Region.wanted o (yielded ops a.tmps) = true then _ else _
    split
    · rename_i hw
      rw [if_pos hw] at h
      rcases h with h | h
      · exact .inl (upon_QK _ h)
      · exact .inr ⟨h.1, h.2⟩
    · rename_i hw
      rw [if_neg hw] at h
      exact h
  · exact hs j hj
theorem wpl_value {P : Program} {ops : Array Oper} {Q : Exit → Act → World → Prop} {rest : List Oper} {o : Oper} {a : Act} {w w' : World} {v : Value} (hg : o.guard = none) (hr : (execOp a.eval o).run P w = .ok (.value v) w') (h : wpList P ops Q rest (a.put o.dst v) w') : wpList P ops Q (o :: rest) a w :=
  wpList_plain hg fun K hK => by unfold Oper.wp; rw [hr]; exact hK _ _ h
theorem put_none (a : Act) (v : Value) : a.put none v = a := rfl
theorem put_comm (a : Act) (i j : Nat) (u v : Value) (h : i ≠ j) : (a.put (some i) u).put (some j) v = (a.put (some j) v).put (some i) u := by
  simp only [Act.put]
  congr 1
  exact Array.setIfInBounds_comm _ _ h
theorem ex_make {P : Program} {ρ : Operand → Value} (o : Oper) (t : TypeId) (x y : Operand) (ho : o.op = .makeSlice t x y) (u1 u2 : Value) (hx : ρ x = u1) (hy : ρ y = u2) (v : Value) (w w' : World) (h : (Instr.makeSlice t u1 u2).run P w = .ok v w') : (execOp ρ o).run P w = .ok (.value v) w' := by
  unfold execOp
  simp only [ho, hx, hy, h, Sem.run_bind, Sem.run_pure, Result.andThen_ok]
theorem ex_build {P : Program} {ρ : Operand → Value} (o : Oper) (t : TypeId) (parts : Array (Nat × Operand)) (ho : o.op = .build t parts) (vals : Array (Nat × Value)) (hv : (parts.map fun p => (p.1, ρ p.2)) = vals) (v : Value) (w : World) (h : (Instr.build t vals).run P w = .ok v w) : (execOp ρ o).run P w = .ok (.value v) w := by
  unfold execOp
  simp only [ho, hv, h, Sem.run_bind, Sem.run_pure, Result.andThen_ok]
theorem ex_alloc {P : Program} {ρ : Operand → Value} (o : Oper) (t : TypeId) (ho : o.op = .alloc t) (v : Value) (w w' : World) (h : (Instr.alloc t true (.tuple #[])).run P w = .ok v w') : (execOp ρ o).run P w = .ok (.value v) w' := by
  unfold execOp
  simp only [ho, h, Sem.run_bind, Sem.run_pure, Result.andThen_ok]
theorem alloc_lay (w : World) : (Instr.alloc 33 true (.tuple #[])).run Tryd.prog w = .ok (.pointer (some ⟨w.heap.size, 0, none⟩)) (w.alloc (.cells ZL 33)) := by kernel_rfl
theorem alloc_prop (w : World) : (Instr.alloc 42 true (.tuple #[])).run Tryd.prog w = .ok (.pointer (some ⟨w.heap.size, 0, none⟩)) (w.alloc (.cells ZP 42)) := by kernel_rfl
theorem litRegion {P : Program} {ops : Array Oper} {Q : Exit → Act → World → Prop} (TY : TypeId) (o0 o1 o2 o3 o4 : Oper) (i0 i1 i2 i3 i4 d0 d1 d2 d3 n0 n1 : Nat) (L : Bool → Bool → Bool → Bool → Bool → Array Bool) (a : Act) (w : World) (ob0 ob1 : Obj) (zc : Array Value) (c : Nat → Nat → Array Value) (s4 p4 : Operand) (sz : Nat)
    (gt0 : ops[i0]? = some o0) (gt1 : ops[i1]? = some o1) (gt2 : ops[i2]? = some o2) (gt3 : ops[i3]? = some o3) (gt4 : ops[i4]? = some o4)
    (gd0 : o0.guard = none) (gd1 : o1.guard = none) (gd2 : o2.guard = none) (gd3 : o3.guard = none) (gd4 : o4.guard = none)
    (e0 : o0.dst = some d0) (e1 : o1.dst = some d1) (e2 : o2.dst = some d2) (e3 : o3.dst = some d3) (e4 : o4.dst = none)
    (d01 : d0 ≠ d1) (d03 : d0 ≠ d3) (d13 : d1 ≠ d3) (d23 : d2 ≠ d3)
    (st0 : ∀ b c d e, (L false b c d e).setIfInBounds i0 true = L true b c d e) (st1 : ∀ b c d e, (L b false c d e).setIfInBounds i1 true = L b true c d e) (st2 : ∀ b c d e, (L b c false d e).setIfInBounds i2 true = L b c true d e) (st3 : ∀ b c d e, (L b c d false e).setIfInBounds i3 true = L b c d true e) (st4 : ∀ b c d e, (L b c d e false).setIfInBounds i4 true = L b c d e true)
    (rc0123 : Region.ready .any ops (L true true true true false) = [i4])
    (rc012 : Region.ready .any ops (L true true true false false) = [i3])
    (rc013 : Region.ready .any ops (L true true false true false) = [i2])
    (rc01 : Region.ready .any ops (L true true false false false) = [i2, i3])
    (rc03 : Region.ready .any ops (L true false false true false) = [i1])
    (rc13 : Region.ready .any ops (L false true false true false) = [i0])
    (rc0 : Region.ready .any ops (L true false false false false) = [i1, i3])
    (rc1 : Region.ready .any ops (L false true false false false) = [i0, i3])
    (rc3 : Region.ready .any ops (L false false false true false) = [i0, i1])
    (rcN : Region.ready .any ops (L false false false false false) = [i0, i1, i3])
    (rE : Region.ready .any ops (L true true true true true) = [])
    (ex0_cN : ∀ (g0 g1 D : Nat) (W : World), (execOp a.eval o0).run P W = .ok (.value (.slice (some ⟨W.heap.size, 0, none⟩) n0 n0)) (W.alloc ob0))
    (ex0_c1 : ∀ (g0 g1 D : Nat) (W : World), (execOp (a.put (some d1) (.slice (some ⟨g1, 0, none⟩) n1 n1)).eval o0).run P W = .ok (.value (.slice (some ⟨W.heap.size, 0, none⟩) n0 n0)) (W.alloc ob0))
    (ex0_c3 : ∀ (g0 g1 D : Nat) (W : World), (execOp (a.put (some d3) (.pointer (some ⟨D, 0, none⟩))).eval o0).run P W = .ok (.value (.slice (some ⟨W.heap.size, 0, none⟩) n0 n0)) (W.alloc ob0))
    (ex0_c13 : ∀ (g0 g1 D : Nat) (W : World), (execOp ((a.put (some d1) (.slice (some ⟨g1, 0, none⟩) n1 n1)).put (some d3) (.pointer (some ⟨D, 0, none⟩))).eval o0).run P W = .ok (.value (.slice (some ⟨W.heap.size, 0, none⟩) n0 n0)) (W.alloc ob0))
    (ex1_cN : ∀ (g0 g1 D : Nat) (W : World), (execOp a.eval o1).run P W = .ok (.value (.slice (some ⟨W.heap.size, 0, none⟩) n1 n1)) (W.alloc ob1))
    (ex1_c0 : ∀ (g0 g1 D : Nat) (W : World), (execOp (a.put (some d0) (.slice (some ⟨g0, 0, none⟩) n0 n0)).eval o1).run P W = .ok (.value (.slice (some ⟨W.heap.size, 0, none⟩) n1 n1)) (W.alloc ob1))
    (ex1_c3 : ∀ (g0 g1 D : Nat) (W : World), (execOp (a.put (some d3) (.pointer (some ⟨D, 0, none⟩))).eval o1).run P W = .ok (.value (.slice (some ⟨W.heap.size, 0, none⟩) n1 n1)) (W.alloc ob1))
    (ex1_c03 : ∀ (g0 g1 D : Nat) (W : World), (execOp ((a.put (some d0) (.slice (some ⟨g0, 0, none⟩) n0 n0)).put (some d3) (.pointer (some ⟨D, 0, none⟩))).eval o1).run P W = .ok (.value (.slice (some ⟨W.heap.size, 0, none⟩) n1 n1)) (W.alloc ob1))
    (ex3 : ∀ (b : Act) (W : World), (execOp b.eval o3).run P W = .ok (.value (.pointer (some ⟨W.heap.size, 0, none⟩))) (W.alloc (.cells zc TY)))
    (ex2_c01 : ∀ (g0 g1 D : Nat) (W : World), (execOp ((a.put (some d0) (.slice (some ⟨g0, 0, none⟩) n0 n0)).put (some d1) (.slice (some ⟨g1, 0, none⟩) n1 n1)).eval o2).run P W = .ok (.value (.agg (c g0 g1))) W)
    (ex2_c013 : ∀ (g0 g1 D : Nat) (W : World), (execOp (((a.put (some d0) (.slice (some ⟨g0, 0, none⟩) n0 n0)).put (some d1) (.slice (some ⟨g1, 0, none⟩) n1 n1)).put (some d3) (.pointer (some ⟨D, 0, none⟩))).eval o2).run P W = .ok (.value (.agg (c g0 g1))) W)
    (op4 : o4.op = .store TY s4 p4) (hs4 : ∀ g0 g1 D : Nat, ((((a.put (some d0) (.slice (some ⟨g0, 0, none⟩) n0 n0)).put (some d1) (.slice (some ⟨g1, 0, none⟩) n1 n1)).put (some d2) (.agg (c g0 g1))).put (some d3) (.pointer (some ⟨D, 0, none⟩))).eval s4 = .pointer (some ⟨D, 0, none⟩)) (hp4 : ∀ g0 g1 D : Nat, ((((a.put (some d0) (.slice (some ⟨g0, 0, none⟩) n0 n0)).put (some d1) (.slice (some ⟨g1, 0, none⟩) n1 n1)).put (some d2) (.agg (c g0 g1))).put (some d3) (.pointer (some ⟨D, 0, none⟩))).eval p4 = .agg (c g0 g1))
    (hi : (P.info? TY).map (·.size) = some sz) (hc : ∀ g0 g1, (c g0 g1).size = sz) (hz : zc.size = sz) (h1 : ∀ g0 g1, (c g0 g1).all (·.oneCell') = true)
    (hQ : ∀ (W : World) (g0 g1 D : Nat), Below w.heap.size w W → W.heap[g0]? = some ob0 → W.heap[g1]? = some ob1 → W.heap[D]? = some (.cells (c g0 g1) TY) → w.heap.size ≤ g0 → w.heap.size ≤ g1 → w.heap.size ≤ D → Q .normal ((((a.put (some d0) (.slice (some ⟨g0, 0, none⟩) n0 n0)).put (some d1) (.slice (some ⟨g1, 0, none⟩) n1 n1)).put (some d2) (.agg (c g0 g1))).put (some d3) (.pointer (some ⟨D, 0, none⟩))) W)
    (w0 : World) (hw0 : Below w.heap.size w w0) : wpAny P .any ops Q 5 (L false false false false false) a w0 := by
  have c0123 : ∀ (W : World) (g0 : Nat) (g1 : Nat) (D : Nat), Below w.heap.size w W → (W.heap[g0]? = some ob0 ∧ w.heap.size ≤ g0) → (W.heap[g1]? = some ob1 ∧ w.heap.size ≤ g1) → (W.heap[D]? = some (.cells zc TY) ∧ w.heap.size ≤ D) → (g0 ≠ D) → (g1 ≠ D) → wpAny P .any ops Q 1 (L true true true true false) ((((a.put (some d0) (.slice (some ⟨g0, 0, none⟩) n0 n0)).put (some d1) (.slice (some ⟨g1, 0, none⟩) n1 n1)).put (some d2) (.agg (c g0 g1))).put (some d3) (.pointer (some ⟨D, 0, none⟩))) W := by
    intro W g0 g1 D hb H0 H1 H3 N0 N1
    refine wpAny_ready (rs := [i4]) rc0123 (by simp) ?_
    refine (ready_one gt4 (L true true true true true) (by first | exact st4 _ _ _ _) ?_ AllReady.nil)
    · refine wpList_store_row gd4 TY s4 p4 op4 w w.heap.size D (c g0 g1) zc (hs4 g0 g1 D) (hp4 g0 g1 D) H3.1 hb H3.2 sz hi (hc g0 g1) hz (h1 g0 g1) ?_
      intro W2 k2 b2 z2 t2
      rw [e4, put_none]
      refine wpAny_done rE ?_ _
      exact hQ W2 g0 g1 D b2 ((t2 _ N0).trans H0.1) ((t2 _ N1).trans H1.1) k2 H0.2 H1.2 H3.2
  have c012 : ∀ (W : World) (g0 : Nat) (g1 : Nat), Below w.heap.size w W → (W.heap[g0]? = some ob0 ∧ w.heap.size ≤ g0) → (W.heap[g1]? = some ob1 ∧ w.heap.size ≤ g1) → wpAny P .any ops Q 2 (L true true true false false) (((a.put (some d0) (.slice (some ⟨g0, 0, none⟩) n0 n0)).put (some d1) (.slice (some ⟨g1, 0, none⟩) n1 n1)).put (some d2) (.agg (c g0 g1))) W := by
    intro W g0 g1 hb H0 H1
    refine wpAny_ready (rs := [i3]) rc012 (by simp) ?_
    refine (ready_one gt3 (L true true true true false) (by first | exact st3 _ _ _ _) ?_ AllReady.nil)
    · refine wpl_value gd3 (ex3 _ W) ?_
      rw [e3]
      exact c0123 _ g0 g1 W.heap.size (hb.alloc hb.size _) ⟨alloc_kept H0.1 _, H0.2⟩ ⟨alloc_kept H1.1 _, H1.2⟩ ⟨heap_alloc_new W _, hb.size⟩ (by have := blk_lt H0.1; omega) (by have := blk_lt H1.1; omega)
  have c013 : ∀ (W : World) (g0 : Nat) (g1 : Nat) (D : Nat), Below w.heap.size w W → (W.heap[g0]? = some ob0 ∧ w.heap.size ≤ g0) → (W.heap[g1]? = some ob1 ∧ w.heap.size ≤ g1) → (W.heap[D]? = some (.cells zc TY) ∧ w.heap.size ≤ D) → (g0 ≠ D) → (g1 ≠ D) → wpAny P .any ops Q 2 (L true true false true false) (((a.put (some d0) (.slice (some ⟨g0, 0, none⟩) n0 n0)).put (some d1) (.slice (some ⟨g1, 0, none⟩) n1 n1)).put (some d3) (.pointer (some ⟨D, 0, none⟩))) W := by
    intro W g0 g1 D hb H0 H1 H3 N0 N1
    refine wpAny_ready (rs := [i2]) rc013 (by simp) ?_
    refine (ready_one gt2 (L true true true true false) (by first | exact st2 _ _ _ _) ?_ AllReady.nil)
    · refine wpl_value gd2 (ex2_c013 g0 g1 D W) ?_
      rw [e2]
      rw [put_comm _ d3 d2 _ _ d23.symm]
      exact c0123 _ g0 g1 D hb H0 H1 H3 N0 N1
  have c01 : ∀ (W : World) (g0 : Nat) (g1 : Nat), Below w.heap.size w W → (W.heap[g0]? = some ob0 ∧ w.heap.size ≤ g0) → (W.heap[g1]? = some ob1 ∧ w.heap.size ≤ g1) → wpAny P .any ops Q 3 (L true true false false false) ((a.put (some d0) (.slice (some ⟨g0, 0, none⟩) n0 n0)).put (some d1) (.slice (some ⟨g1, 0, none⟩) n1 n1)) W := by
    intro W g0 g1 hb H0 H1
    refine wpAny_ready (rs := [i2, i3]) rc01 (by simp) ?_
    refine (ready_one gt2 (L true true true false false) (by first | exact st2 _ _ _ _) ?_ (ready_one gt3 (L true true false true false) (by first | exact st3 _ _ _ _) ?_ AllReady.nil))
    · refine wpl_value gd2 (ex2_c01 g0 g1 0 W) ?_
      rw [e2]
      exact c012 _ g0 g1 hb H0 H1
    · refine wpl_value gd3 (ex3 _ W) ?_
      rw [e3]
      exact c013 _ g0 g1 W.heap.size (hb.alloc hb.size _) ⟨alloc_kept H0.1 _, H0.2⟩ ⟨alloc_kept H1.1 _, H1.2⟩ ⟨heap_alloc_new W _, hb.size⟩ (by have := blk_lt H0.1; omega) (by have := blk_lt H1.1; omega)
  have c03 : ∀ (W : World) (g0 : Nat) (D : Nat), Below w.heap.size w W → (W.heap[g0]? = some ob0 ∧ w.heap.size ≤ g0) → (W.heap[D]? = some (.cells zc TY) ∧ w.heap.size ≤ D) → (g0 ≠ D) → wpAny P .any ops Q 3 (L true false false true false) ((a.put (some d0) (.slice (some ⟨g0, 0, none⟩) n0 n0)).put (some d3) (.pointer (some ⟨D, 0, none⟩))) W := by
    intro W g0 D hb H0 H3 N0
    refine wpAny_ready (rs := [i1]) rc03 (by simp) ?_
    refine (ready_one gt1 (L true true false true false) (by first | exact st1 _ _ _ _) ?_ AllReady.nil)
    · refine wpl_value gd1 (ex1_c03 g0 0 D W) ?_
      rw [e1]
      rw [put_comm _ d3 d1 _ _ d13.symm]
      exact c013 _ g0 W.heap.size D (hb.alloc hb.size _) ⟨alloc_kept H0.1 _, H0.2⟩ ⟨heap_alloc_new W _, hb.size⟩ ⟨alloc_kept H3.1 _, H3.2⟩ N0 (by have := blk_lt H3.1; omega)
  have c13 : ∀ (W : World) (g1 : Nat) (D : Nat), Below w.heap.size w W → (W.heap[g1]? = some ob1 ∧ w.heap.size ≤ g1) → (W.heap[D]? = some (.cells zc TY) ∧ w.heap.size ≤ D) → (g1 ≠ D) → wpAny P .any ops Q 3 (L false true false true false) ((a.put (some d1) (.slice (some ⟨g1, 0, none⟩) n1 n1)).put (some d3) (.pointer (some ⟨D, 0, none⟩))) W := by
    intro W g1 D hb H1 H3 N1
    refine wpAny_ready (rs := [i0]) rc13 (by simp) ?_
    refine (ready_one gt0 (L true true false true false) (by first | exact st0 _ _ _ _) ?_ AllReady.nil)
    · refine wpl_value gd0 (ex0_c13 0 g1 D W) ?_
      rw [e0]
      rw [put_comm _ d3 d0 _ _ d03.symm]
      rw [put_comm _ d1 d0 _ _ d01.symm]
      exact c013 _ W.heap.size g1 D (hb.alloc hb.size _) ⟨heap_alloc_new W _, hb.size⟩ ⟨alloc_kept H1.1 _, H1.2⟩ ⟨alloc_kept H3.1 _, H3.2⟩ (by have := blk_lt H3.1; omega) N1
  have c0 : ∀ (W : World) (g0 : Nat), Below w.heap.size w W → (W.heap[g0]? = some ob0 ∧ w.heap.size ≤ g0) → wpAny P .any ops Q 4 (L true false false false false) (a.put (some d0) (.slice (some ⟨g0, 0, none⟩) n0 n0)) W := by
    intro W g0 hb H0
    refine wpAny_ready (rs := [i1, i3]) rc0 (by simp) ?_
    refine (ready_one gt1 (L true true false false false) (by first | exact st1 _ _ _ _) ?_ (ready_one gt3 (L true false false true false) (by first | exact st3 _ _ _ _) ?_ AllReady.nil))
    · refine wpl_value gd1 (ex1_c0 g0 0 0 W) ?_
      rw [e1]
      exact c01 _ g0 W.heap.size (hb.alloc hb.size _) ⟨alloc_kept H0.1 _, H0.2⟩ ⟨heap_alloc_new W _, hb.size⟩
    · refine wpl_value gd3 (ex3 _ W) ?_
      rw [e3]
      exact c03 _ g0 W.heap.size (hb.alloc hb.size _) ⟨alloc_kept H0.1 _, H0.2⟩ ⟨heap_alloc_new W _, hb.size⟩ (by have := blk_lt H0.1; omega)
  have c1 : ∀ (W : World) (g1 : Nat), Below w.heap.size w W → (W.heap[g1]? = some ob1 ∧ w.heap.size ≤ g1) → wpAny P .any ops Q 4 (L false true false false false) (a.put (some d1) (.slice (some ⟨g1, 0, none⟩) n1 n1)) W := by
    intro W g1 hb H1
    refine wpAny_ready (rs := [i0, i3]) rc1 (by simp) ?_
    refine (ready_one gt0 (L true true false false false) (by first | exact st0 _ _ _ _) ?_ (ready_one gt3 (L false true false true false) (by first | exact st3 _ _ _ _) ?_ AllReady.nil))
    · refine wpl_value gd0 (ex0_c1 0 g1 0 W) ?_
      rw [e0]
      rw [put_comm _ d1 d0 _ _ d01.symm]
      exact c01 _ W.heap.size g1 (hb.alloc hb.size _) ⟨heap_alloc_new W _, hb.size⟩ ⟨alloc_kept H1.1 _, H1.2⟩
    · refine wpl_value gd3 (ex3 _ W) ?_
      rw [e3]
      exact c13 _ g1 W.heap.size (hb.alloc hb.size _) ⟨alloc_kept H1.1 _, H1.2⟩ ⟨heap_alloc_new W _, hb.size⟩ (by have := blk_lt H1.1; omega)
  have c3 : ∀ (W : World) (D : Nat), Below w.heap.size w W → (W.heap[D]? = some (.cells zc TY) ∧ w.heap.size ≤ D) → wpAny P .any ops Q 4 (L false false false true false) (a.put (some d3) (.pointer (some ⟨D, 0, none⟩))) W := by
    intro W D hb H3
    refine wpAny_ready (rs := [i0, i1]) rc3 (by simp) ?_
    refine (ready_one gt0 (L true false false true false) (by first | exact st0 _ _ _ _) ?_ (ready_one gt1 (L false true false true false) (by first | exact st1 _ _ _ _) ?_ AllReady.nil))
    · refine wpl_value gd0 (ex0_c3 0 0 D W) ?_
      rw [e0]
      rw [put_comm _ d3 d0 _ _ d03.symm]
      exact c03 _ W.heap.size D (hb.alloc hb.size _) ⟨heap_alloc_new W _, hb.size⟩ ⟨alloc_kept H3.1 _, H3.2⟩ (by have := blk_lt H3.1; omega)
    · refine wpl_value gd1 (ex1_c3 0 0 D W) ?_
      rw [e1]
      rw [put_comm _ d3 d1 _ _ d13.symm]
      exact c13 _ W.heap.size D (hb.alloc hb.size _) ⟨heap_alloc_new W _, hb.size⟩ ⟨alloc_kept H3.1 _, H3.2⟩ (by have := blk_lt H3.1; omega)
  have cN : ∀ (W : World) , Below w.heap.size w W → wpAny P .any ops Q 5 (L false false false false false) a W := by
    intro W  hb 
    refine wpAny_ready (rs := [i0, i1, i3]) rcN (by simp) ?_
    refine (ready_one gt0 (L true false false false false) (by first | exact st0 _ _ _ _) ?_ (ready_one gt1 (L false true false false false) (by first | exact st1 _ _ _ _) ?_ (ready_one gt3 (L false false false true false) (by first | exact st3 _ _ _ _) ?_ AllReady.nil)))
    · refine wpl_value gd0 (ex0_cN 0 0 0 W) ?_
      rw [e0]
      exact c0 _ W.heap.size (hb.alloc hb.size _) ⟨heap_alloc_new W _, hb.size⟩
    · refine wpl_value gd1 (ex1_cN 0 0 0 W) ?_
      rw [e1]
      exact c1 _ W.heap.size (hb.alloc hb.size _) ⟨heap_alloc_new W _, hb.size⟩
    · refine wpl_value gd3 (ex3 _ W) ?_
      rw [e3]
      exact c3 _ W.heap.size (hb.alloc hb.size _) ⟨heap_alloc_new W _, hb.size⟩
  exact cN w0 hw0
end Go.Proofs.YtogpkigpnflaoaaDoor
