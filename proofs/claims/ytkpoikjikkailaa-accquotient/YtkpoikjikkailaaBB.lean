import Derived.Test.YtkpoikjikkailaaBA
import Derived.Deep.RegionHeld3
namespace Go.Proofs.Ytkpoikjikkailaa
open Go.RowKit
set_option linter.unusedVariables false

theorem keep0 {X w : World} {B : Nat} {o : Obj} (h : X.heap[B]? = some o) (b : Below X.heap.size X w) : w.heap[B]? = some o := (b.block B (Array.getElem?_eq_some_iff.1 h).1).trans h
theorem put_none (a : Act) (v : Value) : a.put none v = a := rfl
theorem put_comm (a : Act) (i j : Nat) (u v : Value) (h : i ≠ j) : (a.put (some i) u).put (some j) v = (a.put (some j) v).put (some i) u := by
  simp only [Act.put]
  congr 1
  exact Array.setIfInBounds_comm _ _ h
theorem hopV {P : Program} {ops : Array Oper} {Q : Exit → Act → World → Prop} {i : Nat} {o : Oper} {K : Act → World → Prop} {a : Act} {w w' : World} {v : Value} (ho : ops[i]? = some o) (hg : o.guard = none) (hr : (execOp a.eval o).run P w = .ok (.value v) w') (h : K (a.put o.dst v) w') : wpOp P ops Q i K a w :=
  wpOp_step ho fun K' hK => by
    rw [if_pos (by simp [Region.wanted, hg])]
    unfold Oper.wp
    rw [hr]
    exact hK _ _ h
theorem hopC {P : Program} {ops : Array Oper} {Q : Exit → Act → World → Prop} {i : Nat} {o : Oper} {K : Act → World → Prop} {a : Act} {w w' : World} {f : FuncId} {args : Array Value} (ho : ops[i]? = some o) (hg : o.guard = none) (hr : (execOp a.eval o).run P w = .ok (.enter f args) w') (hc : Calls P f args w' fun e w'' => ∃ v, e = .returned v ∧ K (a.put o.dst v) w'') : wpOp P ops Q i K a w :=
  wpOp_step ho fun K' hK => by
    rw [if_pos (by simp [Region.wanted, hg])]
    unfold Oper.wp
    rw [hr, Oper.upon_enter]
    refine Calls.mono hc ?_
    rintro e w'' ⟨v, rfl, h⟩
    exact hK _ _ h
theorem hopCd {P : Program} {ops : Array Oper} {Q : Exit → Act → World → Prop} {i : Nat} {o : Oper} {K : Act → World → Prop} {a : Act} {w : World} {f : FuncId} {args : Array Value} (d : Nat) (ho : ops[i]? = some o) (hw : Region.wanted o (yielded ops a.tmps) = true) (hd : o.dst = some d) (hr : (execOp a.eval o).run P w = .ok (.enter f args) w) (hc : Calls P f args w fun e w'' => ∃ v, e = .returned v ∧ K (a.put (some d) v) w'') : wpOp P ops Q i K a w :=
  wpOp_step ho fun K' hK => by
    rw [if_pos hw]
    unfold Oper.wp
    rw [hr, Oper.upon_enter]
    refine Calls.mono hc ?_
    rintro e w'' ⟨v, rfl, h⟩
    rw [← hd] at h
    exact hK _ _ h
theorem consH {P : Program} {md : Region.Mode} {ops : Array Oper} {Q : Exit → Act → World → Prop} {S : World → Prop} {fuel : Nat} {listed : Array Bool} {a : Act} {w : World} {i : Nat} {rs : List Nat} (l' : Array Bool) (hl : listed.setIfInBounds i true = l')
    (h : wpOp P ops Q i (fun a' w' => S w' ∧ wpAnyH P md ops Q S fuel l' a' w') a w) (hs : AllReadyH P md ops Q S fuel listed a w rs) : AllReadyH P md ops Q S fuel listed a w (i :: rs) := by
  subst hl
  intro j hj
  rcases List.mem_cons.1 hj with rfl | hj
  · exact h
  · exact hs j hj
theorem takeH {P : Program} {md : Region.Mode} {ops : Array Oper} {Q : Exit → Act → World → Prop} {S : World → Prop} (d : Nat) {i : Nat} {oi : Oper} {v : Value} {fuel : Nat} {listed : Array Bool} {a : Act} {w : World} (hi : ops[i]? = some oi) (hd : oi.dst = some d)
    (hs : Region.noSelect ops = true) (hf : Region.free md ops listed i = true) (hr : (Region.ready md ops listed).contains i = true)
    (hQ : ∀ c a w, Q (.panic c) (a.put (some d) v) w → Q (.panic c) a w) (hy : YieldsIf P ops S oi v a) (hS : S w)
    (h : wpAnyH P md ops Q S fuel (listed.setIfInBounds i true) (a.put (some d) v) w) : wpAnyH P md ops Q S (fuel + 1) listed a w :=
  wpAnyH_take hi hs hf hr (by rw [hd]; exact hQ) hy hS (by rw [hd]; exact h)
theorem ex_alloc {P : Program} {ρ : Operand → Value} (o : Oper) (t : TypeId) (ho : o.op = .alloc t) (v : Value) (w w' : World) (h : (Instr.alloc t true (.tuple #[])).run P w = .ok v w') : (execOp ρ o).run P w = .ok (.value v) w' := by
  unfold execOp
  simp only [ho, h, Sem.run_bind, Sem.run_pure, Result.andThen_ok]
theorem alloc_num (w : World) : (Instr.alloc 27 true (.tuple #[])).run Try.prog w = .ok (.pointer (some ⟨w.heap.size, 0, none⟩)) (w.alloc (Obj.cells #[Value.bool false, Value.slice none 0 0, Value.int IntKind.i64 0] 27)) := by kernel_rfl
set_option maxRecDepth 100000 in
theorem ex_load3 {ρ : Operand → Value} (o : Oper) (p : Operand) (ho : o.op = .load 27 p) (B : Nat) (hp : ρ p = .pointer (some ⟨B, 0, none⟩)) (w : World) (n : Bool) (so : Option Addr) (l c : Nat) (e : Int) (h : w.cell? ⟨B, 0, none⟩ = some (.bool n) ∧ w.cell? ⟨B, 1, none⟩ = some (.slice so l c) ∧ w.cell? ⟨B, 2, none⟩ = some (.int .i64 e)) : (execOp ρ o).run Try.prog w = .ok (.value (.agg #[.bool n, .slice so l c, .int .i64 e])) w := by
  obtain ⟨x0, x1, x2⟩ := h
  simp only [execOp, ho, hp]
  simp [go_sem, x0, x1, x2, Result.andThen]
set_option maxRecDepth 100000 in
theorem hopS {ops : Array Oper} {Q : Exit → Act → World → Prop} {i : Nat} {o : Oper} {K : Act → World → Prop} {a : Act} {W : World} (hi : ops[i]? = some o) (hgd : o.guard = none) (hdst : o.dst = none) (p v : Operand) (ho : o.op = .store 27 p v)
    (P : Nat) (hp : a.eval p = .pointer (some ⟨P, 0, none⟩)) (n : Bool) (so : Option Addr) (l c : Nat) (e : Int) (hv : a.eval v = .agg #[.bool n, .slice so l c, .int .i64 e]) (b0 : Bool) (o0 : Option Addr) (l0 c0 : Nat) (e0 : Int) (hP : W.heap[P]? = some (Obj.cells #[Value.bool b0, Value.slice o0 l0 c0, Value.int IntKind.i64 e0] 27))
    (h : ∀ w', w'.heap[P]? = some (Obj.cells #[Value.bool n, Value.slice so l c, Value.int IntKind.i64 e] 27) → (∀ B, B ≠ P → w'.heap[B]? = W.heap[B]?) → (∀ u s T z, NumZ W u s T z → NumZ w' u s T z) → (∀ m w0, Below m w0 W → m ≤ P → Below m w0 w') → K a w') : wpOp Try.prog ops Q i K a W :=
  wpOp_step hi fun K' hK => by
    rw [if_pos (by simp [Region.wanted, hgd])]
    obtain ⟨x0, x1, x2⟩ := three_cells hP
    have fz := fun j => frozen_of_row _ _ j _ _ hP
    have hh := hK _ _ (h _ (set3_heap (.bool n) (.slice so l c) (.int .i64 e) hP) (fun B hB => set3_other _ _ _ hB) (fun u s T z hz => NumZ.set3 _ _ _ ⟨_, _, _, _, _, hP⟩ hz) (fun m w0 hb hm => below_set3 _ _ _ hb hm))
    unfold Oper.wp
    simp only [execOp, ho, hp, hv]
    simp [go_sem, x0, x1, x2, fz, Result.andThen, hdst]
    exact hh
set_option maxHeartbeats 4000000 in
theorem btRegion {ops : Array Oper} {Q : Exit → Act → World → Prop} (o0 o1 o2 o3 oA oB oS oE : Oper) (i0 i1 i2 i3 iA iB iS iE du dx dt dy dA dB : Nat) (L : Bool → Bool → Bool → Bool → Bool → Bool → Bool → Bool → Array Bool) (a : Act) (w : World) (f1 f2 : FuncId) (vdn vup v0 : Value) (su sx st sy : Nat) (Tu zu Tx zx Tt zt Ty zy : Int) (p8 q8 p9 q9 : Operand)
    (gt0 : ops[i0]? = some o0) (gt1 : ops[i1]? = some o1) (gt2 : ops[i2]? = some o2) (gt3 : ops[i3]? = some o3) (gtA : ops[iA]? = some oA) (gtB : ops[iB]? = some oB) (gtS : ops[iS]? = some oS) (gtE : ops[iE]? = some oE)
    (gd0 : o0.guard = none) (gd1 : o1.guard = none) (gd2 : o2.guard = none) (gd3 : o3.guard = none) (gdA : oA.guard = none) (gdB : oB.guard = none) (gdS : oS.guard = none) (gdE : oE.guard = none)
    (ed0 : o0.dst = some du) (ed1 : o1.dst = some dx) (ed2 : o2.dst = some dt) (ed3 : o3.dst = some dy) (edA : oA.dst = some dA) (edB : oB.dst = some dB) (edS : oS.dst = none) (edE : oE.dst = none)
    (ne0A : du ≠ dA) (ne0B : du ≠ dB) (ne1A : dx ≠ dA) (ne1B : dx ≠ dB) (ne2A : dt ≠ dA) (ne2B : dt ≠ dB) (ne3A : dy ≠ dA) (ne3B : dy ≠ dB) (neAB : dA ≠ dB)
    (sl0 : ∀ b1 b2 b3 b4 b5 b6 b7, (L false b1 b2 b3 b4 b5 b6 b7).setIfInBounds i0 true = L true b1 b2 b3 b4 b5 b6 b7)
    (sl1 : ∀ b0 b2 b3 b4 b5 b6 b7, (L b0 false b2 b3 b4 b5 b6 b7).setIfInBounds i1 true = L b0 true b2 b3 b4 b5 b6 b7)
    (sl2 : ∀ b0 b1 b3 b4 b5 b6 b7, (L b0 b1 false b3 b4 b5 b6 b7).setIfInBounds i2 true = L b0 b1 true b3 b4 b5 b6 b7)
    (sl3 : ∀ b0 b1 b2 b4 b5 b6 b7, (L b0 b1 b2 false b4 b5 b6 b7).setIfInBounds i3 true = L b0 b1 b2 true b4 b5 b6 b7)
    (slA : ∀ b0 b1 b2 b3 b5 b6 b7, (L b0 b1 b2 b3 false b5 b6 b7).setIfInBounds iA true = L b0 b1 b2 b3 true b5 b6 b7)
    (slB : ∀ b0 b1 b2 b3 b4 b6 b7, (L b0 b1 b2 b3 b4 false b6 b7).setIfInBounds iB true = L b0 b1 b2 b3 b4 true b6 b7)
    (slS : ∀ b0 b1 b2 b3 b4 b5 b7, (L b0 b1 b2 b3 b4 b5 false b7).setIfInBounds iS true = L b0 b1 b2 b3 b4 b5 true b7)
    (slE : ∀ b0 b1 b2 b3 b4 b5 b6, (L b0 b1 b2 b3 b4 b5 b6 false).setIfInBounds iE true = L b0 b1 b2 b3 b4 b5 b6 true)
    (rk411 : Region.ready .any ops (L true true true true true true false false) = [iS])
    (rk410 : Region.ready .any ops (L true true true true true false false false) = [iB])
    (rk401 : Region.ready .any ops (L true true true true false true false false) = [iA])
    (rk400 : Region.ready .any ops (L true true true true false false false false) = [iA, iB])
    (rk311 : Region.ready .any ops (L true true true false true true false false) = [i3])
    (rk310 : Region.ready .any ops (L true true true false true false false false) = [i3, iB])
    (rk301 : Region.ready .any ops (L true true true false false true false false) = [i3, iA])
    (rk300 : Region.ready .any ops (L true true true false false false false false) = [i3, iA, iB])
    (rk211 : Region.ready .any ops (L true true false false true true false false) = [i2])
    (rk210 : Region.ready .any ops (L true true false false true false false false) = [i2, iB])
    (rk201 : Region.ready .any ops (L true true false false false true false false) = [i2, iA])
    (rk200 : Region.ready .any ops (L true true false false false false false false) = [i2, iA, iB])
    (rk111 : Region.ready .any ops (L true false false false true true false false) = [i1])
    (rk110 : Region.ready .any ops (L true false false false true false false false) = [i1, iB])
    (rk101 : Region.ready .any ops (L true false false false false true false false) = [i1, iA])
    (rk100 : Region.ready .any ops (L true false false false false false false false) = [i1, iA, iB])
    (rk011 : Region.ready .any ops (L false false false false true true false false) = [i0])
    (rk010 : Region.ready .any ops (L false false false false true false false false) = [i0, iB])
    (rk001 : Region.ready .any ops (L false false false false false true false false) = [i0, iA])
    (rk000 : Region.ready .any ops (L false false false false false false false false) = [i0, iA, iB])
    (rS : Region.ready .any ops (L true true true true true true true false) = [iE]) (rE : Region.ready .any ops (L true true true true true true true true) = [])
    (xk011 : ∀ (u x t : Value) (P8 P9 : Nat) (W : World), (execOp ((a.put (some dA) (.pointer (some ⟨P8, 0, none⟩))).put (some dB) (.pointer (some ⟨P9, 0, none⟩))).eval o0).run Try.prog W = .ok (.enter f1 #[vdn]) W)
    (xk010 : ∀ (u x t : Value) (P8 P9 : Nat) (W : World), (execOp (a.put (some dA) (.pointer (some ⟨P8, 0, none⟩))).eval o0).run Try.prog W = .ok (.enter f1 #[vdn]) W)
    (xk001 : ∀ (u x t : Value) (P8 P9 : Nat) (W : World), (execOp (a.put (some dB) (.pointer (some ⟨P9, 0, none⟩))).eval o0).run Try.prog W = .ok (.enter f1 #[vdn]) W)
    (xk000 : ∀ (u x t : Value) (P8 P9 : Nat) (W : World), (execOp a.eval o0).run Try.prog W = .ok (.enter f1 #[vdn]) W)
    (xk111 : ∀ (u x t : Value) (P8 P9 : Nat) (W : World), (execOp (((a.put (some du) u).put (some dA) (.pointer (some ⟨P8, 0, none⟩))).put (some dB) (.pointer (some ⟨P9, 0, none⟩))).eval o1).run Try.prog W = .ok (.enter f2 #[v0, u]) W)
    (xk110 : ∀ (u x t : Value) (P8 P9 : Nat) (W : World), (execOp ((a.put (some du) u).put (some dA) (.pointer (some ⟨P8, 0, none⟩))).eval o1).run Try.prog W = .ok (.enter f2 #[v0, u]) W)
    (xk101 : ∀ (u x t : Value) (P8 P9 : Nat) (W : World), (execOp ((a.put (some du) u).put (some dB) (.pointer (some ⟨P9, 0, none⟩))).eval o1).run Try.prog W = .ok (.enter f2 #[v0, u]) W)
    (xk100 : ∀ (u x t : Value) (P8 P9 : Nat) (W : World), (execOp (a.put (some du) u).eval o1).run Try.prog W = .ok (.enter f2 #[v0, u]) W)
    (xk211 : ∀ (u x t : Value) (P8 P9 : Nat) (W : World), (execOp ((((a.put (some du) u).put (some dx) x).put (some dA) (.pointer (some ⟨P8, 0, none⟩))).put (some dB) (.pointer (some ⟨P9, 0, none⟩))).eval o2).run Try.prog W = .ok (.enter f1 #[vup]) W)
    (xk210 : ∀ (u x t : Value) (P8 P9 : Nat) (W : World), (execOp (((a.put (some du) u).put (some dx) x).put (some dA) (.pointer (some ⟨P8, 0, none⟩))).eval o2).run Try.prog W = .ok (.enter f1 #[vup]) W)
    (xk201 : ∀ (u x t : Value) (P8 P9 : Nat) (W : World), (execOp (((a.put (some du) u).put (some dx) x).put (some dB) (.pointer (some ⟨P9, 0, none⟩))).eval o2).run Try.prog W = .ok (.enter f1 #[vup]) W)
    (xk200 : ∀ (u x t : Value) (P8 P9 : Nat) (W : World), (execOp ((a.put (some du) u).put (some dx) x).eval o2).run Try.prog W = .ok (.enter f1 #[vup]) W)
    (xk311 : ∀ (u x t : Value) (P8 P9 : Nat) (W : World), (execOp (((((a.put (some du) u).put (some dx) x).put (some dt) t).put (some dA) (.pointer (some ⟨P8, 0, none⟩))).put (some dB) (.pointer (some ⟨P9, 0, none⟩))).eval o3).run Try.prog W = .ok (.enter f2 #[t, v0]) W)
    (xk310 : ∀ (u x t : Value) (P8 P9 : Nat) (W : World), (execOp ((((a.put (some du) u).put (some dx) x).put (some dt) t).put (some dA) (.pointer (some ⟨P8, 0, none⟩))).eval o3).run Try.prog W = .ok (.enter f2 #[t, v0]) W)
    (xk301 : ∀ (u x t : Value) (P8 P9 : Nat) (W : World), (execOp ((((a.put (some du) u).put (some dx) x).put (some dt) t).put (some dB) (.pointer (some ⟨P9, 0, none⟩))).eval o3).run Try.prog W = .ok (.enter f2 #[t, v0]) W)
    (xk300 : ∀ (u x t : Value) (P8 P9 : Nat) (W : World), (execOp (((a.put (some du) u).put (some dx) x).put (some dt) t).eval o3).run Try.prog W = .ok (.enter f2 #[t, v0]) W)
    (xA : ∀ (c : Act) (W : World), (execOp c.eval oA).run Try.prog W = .ok (.value (.pointer (some ⟨W.heap.size, 0, none⟩))) (W.alloc (Obj.cells #[Value.bool false, Value.slice none 0 0, Value.int IntKind.i64 0] 27)))
    (xB : ∀ (c : Act) (W : World), (execOp c.eval oB).run Try.prog W = .ok (.value (.pointer (some ⟨W.heap.size, 0, none⟩))) (W.alloc (Obj.cells #[Value.bool false, Value.slice none 0 0, Value.int IntKind.i64 0] 27)))
    (opS : oS.op = .store 27 p8 q8) (opE : oE.op = .store 27 p9 q9) (ev : ∀ (u x t y : Value) (P8 P9 : Nat), ((((((a.put (some du) u).put (some dx) x).put (some dt) t).put (some dy) y).put (some dA) (.pointer (some ⟨P8, 0, none⟩))).put (some dB) (.pointer (some ⟨P9, 0, none⟩))).eval p8 = .pointer (some ⟨P8, 0, none⟩) ∧ ((((((a.put (some du) u).put (some dx) x).put (some dt) t).put (some dy) y).put (some dA) (.pointer (some ⟨P8, 0, none⟩))).put (some dB) (.pointer (some ⟨P9, 0, none⟩))).eval q8 = x ∧ ((((((a.put (some du) u).put (some dx) x).put (some dt) t).put (some dy) y).put (some dA) (.pointer (some ⟨P8, 0, none⟩))).put (some dB) (.pointer (some ⟨P9, 0, none⟩))).eval p9 = .pointer (some ⟨P9, 0, none⟩) ∧ ((((((a.put (some du) u).put (some dx) x).put (some dt) t).put (some dy) y).put (some dA) (.pointer (some ⟨P8, 0, none⟩))).put (some dB) (.pointer (some ⟨P9, 0, none⟩))).eval q9 = y)
    (c0 : ∀ W, Below w.heap.size w W → Calls Try.prog f1 #[vdn] W fun e W' => ∃ v, e = .returned v ∧ NumZ W' v su Tu zu ∧ Below W.heap.size W W')
    (c1 : ∀ W u, Below w.heap.size w W → NumZ W u su Tu zu → Calls Try.prog f2 #[v0, u] W fun e W' => ∃ v, e = .returned v ∧ NumZ W' v sx Tx zx ∧ Below W.heap.size W W')
    (c2 : ∀ W, Below w.heap.size w W → Calls Try.prog f1 #[vup] W fun e W' => ∃ v, e = .returned v ∧ NumZ W' v st Tt zt ∧ Below W.heap.size W W')
    (c3 : ∀ W t, Below w.heap.size w W → NumZ W t st Tt zt → Calls Try.prog f2 #[t, v0] W fun e W' => ∃ v, e = .returned v ∧ NumZ W' v sy Ty zy ∧ Below W.heap.size W W')
    (hQ : ∀ (W : World) (u t : Value) (nx : Bool) (ox : Option Addr) (lx cx : Nat) (ex : Int) (ny : Bool) (oy : Option Addr) (ly cy : Nat) (ey : Int) (P8 P9 : Nat), Below w.heap.size w W → W.heap[P8]? = some (Obj.cells #[Value.bool nx, Value.slice ox lx cx, Value.int IntKind.i64 ex] 27) → W.heap[P9]? = some (Obj.cells #[Value.bool ny, Value.slice oy ly cy, Value.int IntKind.i64 ey] 27) → NumZ W (Value.agg #[Value.bool nx, Value.slice ox lx cx, Value.int IntKind.i64 ex]) sx Tx zx → NumZ W (Value.agg #[Value.bool ny, Value.slice oy ly cy, Value.int IntKind.i64 ey]) sy Ty zy → Q .normal ((((((a.put (some du) u).put (some dx) (Value.agg #[Value.bool nx, Value.slice ox lx cx, Value.int IntKind.i64 ex])).put (some dt) t).put (some dy) (Value.agg #[Value.bool ny, Value.slice oy ly cy, Value.int IntKind.i64 ey])).put (some dA) (.pointer (some ⟨P8, 0, none⟩))).put (some dB) (.pointer (some ⟨P9, 0, none⟩))) W)
    (w0 : World) (hw0 : Below w.heap.size w w0) : wpAnyH Try.prog .any ops Q (fun W' => Below w.heap.size w W') 8 (L false false false false false false false false) a w0 := by
  have k411 : ∀ (W : World) (u : Value) (x : Value) (t : Value) (y : Value) (P8 : Nat) (P9 : Nat), Below w.heap.size w W → (NumZ W x sx Tx zx) → (NumZ W y sy Ty zy) → (W.heap[P8]? = some (Obj.cells #[Value.bool false, Value.slice none 0 0, Value.int IntKind.i64 0] 27) ∧ w.heap.size ≤ P8) → (W.heap[P9]? = some (Obj.cells #[Value.bool false, Value.slice none 0 0, Value.int IntKind.i64 0] 27) ∧ w.heap.size ≤ P9) → (P8 ≠ P9) → wpAnyH Try.prog .any ops Q (fun W' => Below w.heap.size w W') 2 (L true true true true true true false false) ((((((a.put (some du) u).put (some dx) x).put (some dt) t).put (some dy) y).put (some dA) (.pointer (some ⟨P8, 0, none⟩))).put (some dB) (.pointer (some ⟨P9, 0, none⟩))) W := by
    intro W u x t y P8 P9 hb Hx Hy HA HB HN
    refine wpAnyH_ready (rs := [iS]) rk411 (by simp) ?_
    refine (consH (L true true true true true true true false) (slS _ _ _ _ _ _ _) ?_ AllReadyH.nil)
    · have Zx := Hx
      have Zy := Hy
      obtain ⟨nx, mx, ex, ⟨ox, lx, cx, xx, rfl, -⟩, -⟩ := Hx
      obtain ⟨ny, my, ey, ⟨oy, ly, cy, xy, rfl, -⟩, -⟩ := Hy
      refine hopS gtS gdS edS p8 q8 opS P8 (ev u (Value.agg #[Value.bool nx, Value.slice ox lx cx, Value.int IntKind.i64 ex]) t (Value.agg #[Value.bool ny, Value.slice oy ly cy, Value.int IntKind.i64 ey]) P8 P9).1 nx ox lx cx ex (ev u (Value.agg #[Value.bool nx, Value.slice ox lx cx, Value.int IntKind.i64 ex]) t (Value.agg #[Value.bool ny, Value.slice oy ly cy, Value.int IntKind.i64 ey]) P8 P9).2.1 false none 0 0 0 HA.1 ?_
      intro W1 a1 t1 z1 b1
      have hb1 := b1 _ _ hb HA.2
      refine ⟨hb1, ?_⟩
      refine wpAnyH_ready (rs := [iE]) rS (by simp) ?_
      refine consH (L true true true true true true true true) (slE _ _ _ _ _ _ _) ?_ AllReadyH.nil
      refine hopS gtE gdE edE p9 q9 opE P9 (ev u (Value.agg #[Value.bool nx, Value.slice ox lx cx, Value.int IntKind.i64 ex]) t (Value.agg #[Value.bool ny, Value.slice oy ly cy, Value.int IntKind.i64 ey]) P8 P9).2.2.1 ny oy ly cy ey (ev u (Value.agg #[Value.bool nx, Value.slice ox lx cx, Value.int IntKind.i64 ex]) t (Value.agg #[Value.bool ny, Value.slice oy ly cy, Value.int IntKind.i64 ey]) P8 P9).2.2.2 false none 0 0 0 ((t1 P9 (Ne.symm HN)).trans HB.1) ?_
      intro W2 a2 t2 z2 b2
      have hb2 := b2 _ _ hb1 HB.2
      refine ⟨hb2, wpAnyH_done rE ?_ _⟩
      exact hQ W2 u t nx ox lx cx ex ny oy ly cy ey P8 P9 hb2 ((t2 P8 HN).trans a1) a2 (z2 _ _ _ _ (z1 _ _ _ _ Zx)) (z2 _ _ _ _ (z1 _ _ _ _ Zy))
  have k410 : ∀ (W : World) (u : Value) (x : Value) (t : Value) (y : Value) (P8 : Nat), Below w.heap.size w W → (NumZ W x sx Tx zx) → (NumZ W y sy Ty zy) → (W.heap[P8]? = some (Obj.cells #[Value.bool false, Value.slice none 0 0, Value.int IntKind.i64 0] 27) ∧ w.heap.size ≤ P8) → wpAnyH Try.prog .any ops Q (fun W' => Below w.heap.size w W') 3 (L true true true true true false false false) (((((a.put (some du) u).put (some dx) x).put (some dt) t).put (some dy) y).put (some dA) (.pointer (some ⟨P8, 0, none⟩))) W := by
    intro W u x t y P8 hb Hx Hy HA
    refine wpAnyH_ready (rs := [iB]) rk410 (by simp) ?_
    refine (consH (L true true true true true true false false) (slB _ _ _ _ _ _ _) ?_ AllReadyH.nil)
    · refine hopV gtB gdB (xB _ W) ⟨hb.alloc hb.size _, ?_⟩
      rw [edB]
      exact k411 _ u x t y P8 W.heap.size (hb.alloc hb.size _) (Hx.later ((Below.refl _ W).alloc (Nat.le_refl _) _)) (Hy.later ((Below.refl _ W).alloc (Nat.le_refl _) _)) ⟨keep0 HA.1 ((Below.refl _ W).alloc (Nat.le_refl _) _), HA.2⟩ ⟨heap_alloc_new W _, hb.size⟩ (by have := (Array.getElem?_eq_some_iff.1 HA.1).1; omega)
  have k401 : ∀ (W : World) (u : Value) (x : Value) (t : Value) (y : Value) (P9 : Nat), Below w.heap.size w W → (NumZ W x sx Tx zx) → (NumZ W y sy Ty zy) → (W.heap[P9]? = some (Obj.cells #[Value.bool false, Value.slice none 0 0, Value.int IntKind.i64 0] 27) ∧ w.heap.size ≤ P9) → wpAnyH Try.prog .any ops Q (fun W' => Below w.heap.size w W') 3 (L true true true true false true false false) (((((a.put (some du) u).put (some dx) x).put (some dt) t).put (some dy) y).put (some dB) (.pointer (some ⟨P9, 0, none⟩))) W := by
    intro W u x t y P9 hb Hx Hy HB
    refine wpAnyH_ready (rs := [iA]) rk401 (by simp) ?_
    refine (consH (L true true true true true true false false) (slA _ _ _ _ _ _ _) ?_ AllReadyH.nil)
    · refine hopV gtA gdA (xA _ W) ⟨hb.alloc hb.size _, ?_⟩
      rw [edA]
      rw [put_comm _ dB dA _ _ neAB.symm]
      exact k411 _ u x t y W.heap.size P9 (hb.alloc hb.size _) (Hx.later ((Below.refl _ W).alloc (Nat.le_refl _) _)) (Hy.later ((Below.refl _ W).alloc (Nat.le_refl _) _)) ⟨heap_alloc_new W _, hb.size⟩ ⟨keep0 HB.1 ((Below.refl _ W).alloc (Nat.le_refl _) _), HB.2⟩ (by have := (Array.getElem?_eq_some_iff.1 HB.1).1; omega)
  have k400 : ∀ (W : World) (u : Value) (x : Value) (t : Value) (y : Value), Below w.heap.size w W → (NumZ W x sx Tx zx) → (NumZ W y sy Ty zy) → wpAnyH Try.prog .any ops Q (fun W' => Below w.heap.size w W') 4 (L true true true true false false false false) ((((a.put (some du) u).put (some dx) x).put (some dt) t).put (some dy) y) W := by
    intro W u x t y hb Hx Hy
    refine wpAnyH_ready (rs := [iA, iB]) rk400 (by simp) ?_
    refine (consH (L true true true true true false false false) (slA _ _ _ _ _ _ _) ?_ (consH (L true true true true false true false false) (slB _ _ _ _ _ _ _) ?_ AllReadyH.nil))
    · refine hopV gtA gdA (xA _ W) ⟨hb.alloc hb.size _, ?_⟩
      rw [edA]
      exact k410 _ u x t y W.heap.size (hb.alloc hb.size _) (Hx.later ((Below.refl _ W).alloc (Nat.le_refl _) _)) (Hy.later ((Below.refl _ W).alloc (Nat.le_refl _) _)) ⟨heap_alloc_new W _, hb.size⟩
    · refine hopV gtB gdB (xB _ W) ⟨hb.alloc hb.size _, ?_⟩
      rw [edB]
      exact k401 _ u x t y W.heap.size (hb.alloc hb.size _) (Hx.later ((Below.refl _ W).alloc (Nat.le_refl _) _)) (Hy.later ((Below.refl _ W).alloc (Nat.le_refl _) _)) ⟨heap_alloc_new W _, hb.size⟩
  have k311 : ∀ (W : World) (u : Value) (x : Value) (t : Value) (P8 : Nat) (P9 : Nat), Below w.heap.size w W → (NumZ W x sx Tx zx) → (NumZ W t st Tt zt) → (W.heap[P8]? = some (Obj.cells #[Value.bool false, Value.slice none 0 0, Value.int IntKind.i64 0] 27) ∧ w.heap.size ≤ P8) → (W.heap[P9]? = some (Obj.cells #[Value.bool false, Value.slice none 0 0, Value.int IntKind.i64 0] 27) ∧ w.heap.size ≤ P9) → (P8 ≠ P9) → wpAnyH Try.prog .any ops Q (fun W' => Below w.heap.size w W') 3 (L true true true false true true false false) (((((a.put (some du) u).put (some dx) x).put (some dt) t).put (some dA) (.pointer (some ⟨P8, 0, none⟩))).put (some dB) (.pointer (some ⟨P9, 0, none⟩))) W := by
    intro W u x t P8 P9 hb Hx Ht HA HB HN
    refine wpAnyH_ready (rs := [i3]) rk311 (by simp) ?_
    refine (consH (L true true true true true true false false) (sl3 _ _ _ _ _ _ _) ?_ AllReadyH.nil)
    · refine hopC gt3 gd3 (xk311 u x t P8 P9 W) (Calls.mono (c3 W t hb Ht) ?_)
      rintro e W' ⟨v, rfl, hz, hb'⟩
      refine ⟨v, rfl, hb.trans (hb'.mono hb.size), ?_⟩
      rw [ed3]
      rw [put_comm _ dB dy _ _ ne3B.symm]
      rw [put_comm _ dA dy _ _ ne3A.symm]
      exact k411 W' u x t v P8 P9 (hb.trans (hb'.mono hb.size)) (Hx.later hb') hz ⟨keep0 HA.1 hb', HA.2⟩ ⟨keep0 HB.1 hb', HB.2⟩ HN
  have k310 : ∀ (W : World) (u : Value) (x : Value) (t : Value) (P8 : Nat), Below w.heap.size w W → (NumZ W x sx Tx zx) → (NumZ W t st Tt zt) → (W.heap[P8]? = some (Obj.cells #[Value.bool false, Value.slice none 0 0, Value.int IntKind.i64 0] 27) ∧ w.heap.size ≤ P8) → wpAnyH Try.prog .any ops Q (fun W' => Below w.heap.size w W') 4 (L true true true false true false false false) ((((a.put (some du) u).put (some dx) x).put (some dt) t).put (some dA) (.pointer (some ⟨P8, 0, none⟩))) W := by
    intro W u x t P8 hb Hx Ht HA
    refine wpAnyH_ready (rs := [i3, iB]) rk310 (by simp) ?_
    refine (consH (L true true true true true false false false) (sl3 _ _ _ _ _ _ _) ?_ (consH (L true true true false true true false false) (slB _ _ _ _ _ _ _) ?_ AllReadyH.nil))
    · refine hopC gt3 gd3 (xk310 u x t P8 0 W) (Calls.mono (c3 W t hb Ht) ?_)
      rintro e W' ⟨v, rfl, hz, hb'⟩
      refine ⟨v, rfl, hb.trans (hb'.mono hb.size), ?_⟩
      rw [ed3]
      rw [put_comm _ dA dy _ _ ne3A.symm]
      exact k410 W' u x t v P8 (hb.trans (hb'.mono hb.size)) (Hx.later hb') hz ⟨keep0 HA.1 hb', HA.2⟩
    · refine hopV gtB gdB (xB _ W) ⟨hb.alloc hb.size _, ?_⟩
      rw [edB]
      exact k311 _ u x t P8 W.heap.size (hb.alloc hb.size _) (Hx.later ((Below.refl _ W).alloc (Nat.le_refl _) _)) (Ht.later ((Below.refl _ W).alloc (Nat.le_refl _) _)) ⟨keep0 HA.1 ((Below.refl _ W).alloc (Nat.le_refl _) _), HA.2⟩ ⟨heap_alloc_new W _, hb.size⟩ (by have := (Array.getElem?_eq_some_iff.1 HA.1).1; omega)
  have k301 : ∀ (W : World) (u : Value) (x : Value) (t : Value) (P9 : Nat), Below w.heap.size w W → (NumZ W x sx Tx zx) → (NumZ W t st Tt zt) → (W.heap[P9]? = some (Obj.cells #[Value.bool false, Value.slice none 0 0, Value.int IntKind.i64 0] 27) ∧ w.heap.size ≤ P9) → wpAnyH Try.prog .any ops Q (fun W' => Below w.heap.size w W') 4 (L true true true false false true false false) ((((a.put (some du) u).put (some dx) x).put (some dt) t).put (some dB) (.pointer (some ⟨P9, 0, none⟩))) W := by
    intro W u x t P9 hb Hx Ht HB
    refine wpAnyH_ready (rs := [i3, iA]) rk301 (by simp) ?_
    refine (consH (L true true true true false true false false) (sl3 _ _ _ _ _ _ _) ?_ (consH (L true true true false true true false false) (slA _ _ _ _ _ _ _) ?_ AllReadyH.nil))
    · refine hopC gt3 gd3 (xk301 u x t 0 P9 W) (Calls.mono (c3 W t hb Ht) ?_)
      rintro e W' ⟨v, rfl, hz, hb'⟩
      refine ⟨v, rfl, hb.trans (hb'.mono hb.size), ?_⟩
      rw [ed3]
      rw [put_comm _ dB dy _ _ ne3B.symm]
      exact k401 W' u x t v P9 (hb.trans (hb'.mono hb.size)) (Hx.later hb') hz ⟨keep0 HB.1 hb', HB.2⟩
    · refine hopV gtA gdA (xA _ W) ⟨hb.alloc hb.size _, ?_⟩
      rw [edA]
      rw [put_comm _ dB dA _ _ neAB.symm]
      exact k311 _ u x t W.heap.size P9 (hb.alloc hb.size _) (Hx.later ((Below.refl _ W).alloc (Nat.le_refl _) _)) (Ht.later ((Below.refl _ W).alloc (Nat.le_refl _) _)) ⟨heap_alloc_new W _, hb.size⟩ ⟨keep0 HB.1 ((Below.refl _ W).alloc (Nat.le_refl _) _), HB.2⟩ (by have := (Array.getElem?_eq_some_iff.1 HB.1).1; omega)
  have k300 : ∀ (W : World) (u : Value) (x : Value) (t : Value), Below w.heap.size w W → (NumZ W x sx Tx zx) → (NumZ W t st Tt zt) → wpAnyH Try.prog .any ops Q (fun W' => Below w.heap.size w W') 5 (L true true true false false false false false) (((a.put (some du) u).put (some dx) x).put (some dt) t) W := by
    intro W u x t hb Hx Ht
    refine wpAnyH_ready (rs := [i3, iA, iB]) rk300 (by simp) ?_
    refine (consH (L true true true true false false false false) (sl3 _ _ _ _ _ _ _) ?_ (consH (L true true true false true false false false) (slA _ _ _ _ _ _ _) ?_ (consH (L true true true false false true false false) (slB _ _ _ _ _ _ _) ?_ AllReadyH.nil)))
    · refine hopC gt3 gd3 (xk300 u x t 0 0 W) (Calls.mono (c3 W t hb Ht) ?_)
      rintro e W' ⟨v, rfl, hz, hb'⟩
      refine ⟨v, rfl, hb.trans (hb'.mono hb.size), ?_⟩
      rw [ed3]
      exact k400 W' u x t v (hb.trans (hb'.mono hb.size)) (Hx.later hb') hz
    · refine hopV gtA gdA (xA _ W) ⟨hb.alloc hb.size _, ?_⟩
      rw [edA]
      exact k310 _ u x t W.heap.size (hb.alloc hb.size _) (Hx.later ((Below.refl _ W).alloc (Nat.le_refl _) _)) (Ht.later ((Below.refl _ W).alloc (Nat.le_refl _) _)) ⟨heap_alloc_new W _, hb.size⟩
    · refine hopV gtB gdB (xB _ W) ⟨hb.alloc hb.size _, ?_⟩
      rw [edB]
      exact k301 _ u x t W.heap.size (hb.alloc hb.size _) (Hx.later ((Below.refl _ W).alloc (Nat.le_refl _) _)) (Ht.later ((Below.refl _ W).alloc (Nat.le_refl _) _)) ⟨heap_alloc_new W _, hb.size⟩
  have k211 : ∀ (W : World) (u : Value) (x : Value) (P8 : Nat) (P9 : Nat), Below w.heap.size w W → (NumZ W x sx Tx zx) → (W.heap[P8]? = some (Obj.cells #[Value.bool false, Value.slice none 0 0, Value.int IntKind.i64 0] 27) ∧ w.heap.size ≤ P8) → (W.heap[P9]? = some (Obj.cells #[Value.bool false, Value.slice none 0 0, Value.int IntKind.i64 0] 27) ∧ w.heap.size ≤ P9) → (P8 ≠ P9) → wpAnyH Try.prog .any ops Q (fun W' => Below w.heap.size w W') 4 (L true true false false true true false false) ((((a.put (some du) u).put (some dx) x).put (some dA) (.pointer (some ⟨P8, 0, none⟩))).put (some dB) (.pointer (some ⟨P9, 0, none⟩))) W := by
    intro W u x P8 P9 hb Hx HA HB HN
    refine wpAnyH_ready (rs := [i2]) rk211 (by simp) ?_
    refine (consH (L true true true false true true false false) (sl2 _ _ _ _ _ _ _) ?_ AllReadyH.nil)
    · refine hopC gt2 gd2 (xk211 u x undef P8 P9 W) (Calls.mono (c2 W hb) ?_)
      rintro e W' ⟨v, rfl, hz, hb'⟩
      refine ⟨v, rfl, hb.trans (hb'.mono hb.size), ?_⟩
      rw [ed2]
      rw [put_comm _ dB dt _ _ ne2B.symm]
      rw [put_comm _ dA dt _ _ ne2A.symm]
      exact k311 W' u x v P8 P9 (hb.trans (hb'.mono hb.size)) (Hx.later hb') hz ⟨keep0 HA.1 hb', HA.2⟩ ⟨keep0 HB.1 hb', HB.2⟩ HN
  have k210 : ∀ (W : World) (u : Value) (x : Value) (P8 : Nat), Below w.heap.size w W → (NumZ W x sx Tx zx) → (W.heap[P8]? = some (Obj.cells #[Value.bool false, Value.slice none 0 0, Value.int IntKind.i64 0] 27) ∧ w.heap.size ≤ P8) → wpAnyH Try.prog .any ops Q (fun W' => Below w.heap.size w W') 5 (L true true false false true false false false) (((a.put (some du) u).put (some dx) x).put (some dA) (.pointer (some ⟨P8, 0, none⟩))) W := by
    intro W u x P8 hb Hx HA
    refine wpAnyH_ready (rs := [i2, iB]) rk210 (by simp) ?_
    refine (consH (L true true true false true false false false) (sl2 _ _ _ _ _ _ _) ?_ (consH (L true true false false true true false false) (slB _ _ _ _ _ _ _) ?_ AllReadyH.nil))
    · refine hopC gt2 gd2 (xk210 u x undef P8 0 W) (Calls.mono (c2 W hb) ?_)
      rintro e W' ⟨v, rfl, hz, hb'⟩
      refine ⟨v, rfl, hb.trans (hb'.mono hb.size), ?_⟩
      rw [ed2]
      rw [put_comm _ dA dt _ _ ne2A.symm]
      exact k310 W' u x v P8 (hb.trans (hb'.mono hb.size)) (Hx.later hb') hz ⟨keep0 HA.1 hb', HA.2⟩
    · refine hopV gtB gdB (xB _ W) ⟨hb.alloc hb.size _, ?_⟩
      rw [edB]
      exact k211 _ u x P8 W.heap.size (hb.alloc hb.size _) (Hx.later ((Below.refl _ W).alloc (Nat.le_refl _) _)) ⟨keep0 HA.1 ((Below.refl _ W).alloc (Nat.le_refl _) _), HA.2⟩ ⟨heap_alloc_new W _, hb.size⟩ (by have := (Array.getElem?_eq_some_iff.1 HA.1).1; omega)
  have k201 : ∀ (W : World) (u : Value) (x : Value) (P9 : Nat), Below w.heap.size w W → (NumZ W x sx Tx zx) → (W.heap[P9]? = some (Obj.cells #[Value.bool false, Value.slice none 0 0, Value.int IntKind.i64 0] 27) ∧ w.heap.size ≤ P9) → wpAnyH Try.prog .any ops Q (fun W' => Below w.heap.size w W') 5 (L true true false false false true false false) (((a.put (some du) u).put (some dx) x).put (some dB) (.pointer (some ⟨P9, 0, none⟩))) W := by
    intro W u x P9 hb Hx HB
    refine wpAnyH_ready (rs := [i2, iA]) rk201 (by simp) ?_
    refine (consH (L true true true false false true false false) (sl2 _ _ _ _ _ _ _) ?_ (consH (L true true false false true true false false) (slA _ _ _ _ _ _ _) ?_ AllReadyH.nil))
    · refine hopC gt2 gd2 (xk201 u x undef 0 P9 W) (Calls.mono (c2 W hb) ?_)
      rintro e W' ⟨v, rfl, hz, hb'⟩
      refine ⟨v, rfl, hb.trans (hb'.mono hb.size), ?_⟩
      rw [ed2]
      rw [put_comm _ dB dt _ _ ne2B.symm]
      exact k301 W' u x v P9 (hb.trans (hb'.mono hb.size)) (Hx.later hb') hz ⟨keep0 HB.1 hb', HB.2⟩
    · refine hopV gtA gdA (xA _ W) ⟨hb.alloc hb.size _, ?_⟩
      rw [edA]
      rw [put_comm _ dB dA _ _ neAB.symm]
      exact k211 _ u x W.heap.size P9 (hb.alloc hb.size _) (Hx.later ((Below.refl _ W).alloc (Nat.le_refl _) _)) ⟨heap_alloc_new W _, hb.size⟩ ⟨keep0 HB.1 ((Below.refl _ W).alloc (Nat.le_refl _) _), HB.2⟩ (by have := (Array.getElem?_eq_some_iff.1 HB.1).1; omega)
  have k200 : ∀ (W : World) (u : Value) (x : Value), Below w.heap.size w W → (NumZ W x sx Tx zx) → wpAnyH Try.prog .any ops Q (fun W' => Below w.heap.size w W') 6 (L true true false false false false false false) ((a.put (some du) u).put (some dx) x) W := by
    intro W u x hb Hx
    refine wpAnyH_ready (rs := [i2, iA, iB]) rk200 (by simp) ?_
    refine (consH (L true true true false false false false false) (sl2 _ _ _ _ _ _ _) ?_ (consH (L true true false false true false false false) (slA _ _ _ _ _ _ _) ?_ (consH (L true true false false false true false false) (slB _ _ _ _ _ _ _) ?_ AllReadyH.nil)))
    · refine hopC gt2 gd2 (xk200 u x undef 0 0 W) (Calls.mono (c2 W hb) ?_)
      rintro e W' ⟨v, rfl, hz, hb'⟩
      refine ⟨v, rfl, hb.trans (hb'.mono hb.size), ?_⟩
      rw [ed2]
      exact k300 W' u x v (hb.trans (hb'.mono hb.size)) (Hx.later hb') hz
    · refine hopV gtA gdA (xA _ W) ⟨hb.alloc hb.size _, ?_⟩
      rw [edA]
      exact k210 _ u x W.heap.size (hb.alloc hb.size _) (Hx.later ((Below.refl _ W).alloc (Nat.le_refl _) _)) ⟨heap_alloc_new W _, hb.size⟩
    · refine hopV gtB gdB (xB _ W) ⟨hb.alloc hb.size _, ?_⟩
      rw [edB]
      exact k201 _ u x W.heap.size (hb.alloc hb.size _) (Hx.later ((Below.refl _ W).alloc (Nat.le_refl _) _)) ⟨heap_alloc_new W _, hb.size⟩
  have k111 : ∀ (W : World) (u : Value) (P8 : Nat) (P9 : Nat), Below w.heap.size w W → (NumZ W u su Tu zu) → (W.heap[P8]? = some (Obj.cells #[Value.bool false, Value.slice none 0 0, Value.int IntKind.i64 0] 27) ∧ w.heap.size ≤ P8) → (W.heap[P9]? = some (Obj.cells #[Value.bool false, Value.slice none 0 0, Value.int IntKind.i64 0] 27) ∧ w.heap.size ≤ P9) → (P8 ≠ P9) → wpAnyH Try.prog .any ops Q (fun W' => Below w.heap.size w W') 5 (L true false false false true true false false) (((a.put (some du) u).put (some dA) (.pointer (some ⟨P8, 0, none⟩))).put (some dB) (.pointer (some ⟨P9, 0, none⟩))) W := by
    intro W u P8 P9 hb Hu HA HB HN
    refine wpAnyH_ready (rs := [i1]) rk111 (by simp) ?_
    refine (consH (L true true false false true true false false) (sl1 _ _ _ _ _ _ _) ?_ AllReadyH.nil)
    · refine hopC gt1 gd1 (xk111 u undef undef P8 P9 W) (Calls.mono (c1 W u hb Hu) ?_)
      rintro e W' ⟨v, rfl, hz, hb'⟩
      refine ⟨v, rfl, hb.trans (hb'.mono hb.size), ?_⟩
      rw [ed1]
      rw [put_comm _ dB dx _ _ ne1B.symm]
      rw [put_comm _ dA dx _ _ ne1A.symm]
      exact k211 W' u v P8 P9 (hb.trans (hb'.mono hb.size)) hz ⟨keep0 HA.1 hb', HA.2⟩ ⟨keep0 HB.1 hb', HB.2⟩ HN
  have k110 : ∀ (W : World) (u : Value) (P8 : Nat), Below w.heap.size w W → (NumZ W u su Tu zu) → (W.heap[P8]? = some (Obj.cells #[Value.bool false, Value.slice none 0 0, Value.int IntKind.i64 0] 27) ∧ w.heap.size ≤ P8) → wpAnyH Try.prog .any ops Q (fun W' => Below w.heap.size w W') 6 (L true false false false true false false false) ((a.put (some du) u).put (some dA) (.pointer (some ⟨P8, 0, none⟩))) W := by
    intro W u P8 hb Hu HA
    refine wpAnyH_ready (rs := [i1, iB]) rk110 (by simp) ?_
    refine (consH (L true true false false true false false false) (sl1 _ _ _ _ _ _ _) ?_ (consH (L true false false false true true false false) (slB _ _ _ _ _ _ _) ?_ AllReadyH.nil))
    · refine hopC gt1 gd1 (xk110 u undef undef P8 0 W) (Calls.mono (c1 W u hb Hu) ?_)
      rintro e W' ⟨v, rfl, hz, hb'⟩
      refine ⟨v, rfl, hb.trans (hb'.mono hb.size), ?_⟩
      rw [ed1]
      rw [put_comm _ dA dx _ _ ne1A.symm]
      exact k210 W' u v P8 (hb.trans (hb'.mono hb.size)) hz ⟨keep0 HA.1 hb', HA.2⟩
    · refine hopV gtB gdB (xB _ W) ⟨hb.alloc hb.size _, ?_⟩
      rw [edB]
      exact k111 _ u P8 W.heap.size (hb.alloc hb.size _) (Hu.later ((Below.refl _ W).alloc (Nat.le_refl _) _)) ⟨keep0 HA.1 ((Below.refl _ W).alloc (Nat.le_refl _) _), HA.2⟩ ⟨heap_alloc_new W _, hb.size⟩ (by have := (Array.getElem?_eq_some_iff.1 HA.1).1; omega)
  have k101 : ∀ (W : World) (u : Value) (P9 : Nat), Below w.heap.size w W → (NumZ W u su Tu zu) → (W.heap[P9]? = some (Obj.cells #[Value.bool false, Value.slice none 0 0, Value.int IntKind.i64 0] 27) ∧ w.heap.size ≤ P9) → wpAnyH Try.prog .any ops Q (fun W' => Below w.heap.size w W') 6 (L true false false false false true false false) ((a.put (some du) u).put (some dB) (.pointer (some ⟨P9, 0, none⟩))) W := by
    intro W u P9 hb Hu HB
    refine wpAnyH_ready (rs := [i1, iA]) rk101 (by simp) ?_
    refine (consH (L true true false false false true false false) (sl1 _ _ _ _ _ _ _) ?_ (consH (L true false false false true true false false) (slA _ _ _ _ _ _ _) ?_ AllReadyH.nil))
    · refine hopC gt1 gd1 (xk101 u undef undef 0 P9 W) (Calls.mono (c1 W u hb Hu) ?_)
      rintro e W' ⟨v, rfl, hz, hb'⟩
      refine ⟨v, rfl, hb.trans (hb'.mono hb.size), ?_⟩
      rw [ed1]
      rw [put_comm _ dB dx _ _ ne1B.symm]
      exact k201 W' u v P9 (hb.trans (hb'.mono hb.size)) hz ⟨keep0 HB.1 hb', HB.2⟩
    · refine hopV gtA gdA (xA _ W) ⟨hb.alloc hb.size _, ?_⟩
      rw [edA]
      rw [put_comm _ dB dA _ _ neAB.symm]
      exact k111 _ u W.heap.size P9 (hb.alloc hb.size _) (Hu.later ((Below.refl _ W).alloc (Nat.le_refl _) _)) ⟨heap_alloc_new W _, hb.size⟩ ⟨keep0 HB.1 ((Below.refl _ W).alloc (Nat.le_refl _) _), HB.2⟩ (by have := (Array.getElem?_eq_some_iff.1 HB.1).1; omega)
  have k100 : ∀ (W : World) (u : Value), Below w.heap.size w W → (NumZ W u su Tu zu) → wpAnyH Try.prog .any ops Q (fun W' => Below w.heap.size w W') 7 (L true false false false false false false false) (a.put (some du) u) W := by
    intro W u hb Hu
    refine wpAnyH_ready (rs := [i1, iA, iB]) rk100 (by simp) ?_
    refine (consH (L true true false false false false false false) (sl1 _ _ _ _ _ _ _) ?_ (consH (L true false false false true false false false) (slA _ _ _ _ _ _ _) ?_ (consH (L true false false false false true false false) (slB _ _ _ _ _ _ _) ?_ AllReadyH.nil)))
    · refine hopC gt1 gd1 (xk100 u undef undef 0 0 W) (Calls.mono (c1 W u hb Hu) ?_)
      rintro e W' ⟨v, rfl, hz, hb'⟩
      refine ⟨v, rfl, hb.trans (hb'.mono hb.size), ?_⟩
      rw [ed1]
      exact k200 W' u v (hb.trans (hb'.mono hb.size)) hz
    · refine hopV gtA gdA (xA _ W) ⟨hb.alloc hb.size _, ?_⟩
      rw [edA]
      exact k110 _ u W.heap.size (hb.alloc hb.size _) (Hu.later ((Below.refl _ W).alloc (Nat.le_refl _) _)) ⟨heap_alloc_new W _, hb.size⟩
    · refine hopV gtB gdB (xB _ W) ⟨hb.alloc hb.size _, ?_⟩
      rw [edB]
      exact k101 _ u W.heap.size (hb.alloc hb.size _) (Hu.later ((Below.refl _ W).alloc (Nat.le_refl _) _)) ⟨heap_alloc_new W _, hb.size⟩
  have k011 : ∀ (W : World) (P8 : Nat) (P9 : Nat), Below w.heap.size w W → (W.heap[P8]? = some (Obj.cells #[Value.bool false, Value.slice none 0 0, Value.int IntKind.i64 0] 27) ∧ w.heap.size ≤ P8) → (W.heap[P9]? = some (Obj.cells #[Value.bool false, Value.slice none 0 0, Value.int IntKind.i64 0] 27) ∧ w.heap.size ≤ P9) → (P8 ≠ P9) → wpAnyH Try.prog .any ops Q (fun W' => Below w.heap.size w W') 6 (L false false false false true true false false) ((a.put (some dA) (.pointer (some ⟨P8, 0, none⟩))).put (some dB) (.pointer (some ⟨P9, 0, none⟩))) W := by
    intro W P8 P9 hb HA HB HN
    refine wpAnyH_ready (rs := [i0]) rk011 (by simp) ?_
    refine (consH (L true false false false true true false false) (sl0 _ _ _ _ _ _ _) ?_ AllReadyH.nil)
    · refine hopC gt0 gd0 (xk011 undef undef undef P8 P9 W) (Calls.mono (c0 W hb) ?_)
      rintro e W' ⟨v, rfl, hz, hb'⟩
      refine ⟨v, rfl, hb.trans (hb'.mono hb.size), ?_⟩
      rw [ed0]
      rw [put_comm _ dB du _ _ ne0B.symm]
      rw [put_comm _ dA du _ _ ne0A.symm]
      exact k111 W' v P8 P9 (hb.trans (hb'.mono hb.size)) hz ⟨keep0 HA.1 hb', HA.2⟩ ⟨keep0 HB.1 hb', HB.2⟩ HN
  have k010 : ∀ (W : World) (P8 : Nat), Below w.heap.size w W → (W.heap[P8]? = some (Obj.cells #[Value.bool false, Value.slice none 0 0, Value.int IntKind.i64 0] 27) ∧ w.heap.size ≤ P8) → wpAnyH Try.prog .any ops Q (fun W' => Below w.heap.size w W') 7 (L false false false false true false false false) (a.put (some dA) (.pointer (some ⟨P8, 0, none⟩))) W := by
    intro W P8 hb HA
    refine wpAnyH_ready (rs := [i0, iB]) rk010 (by simp) ?_
    refine (consH (L true false false false true false false false) (sl0 _ _ _ _ _ _ _) ?_ (consH (L false false false false true true false false) (slB _ _ _ _ _ _ _) ?_ AllReadyH.nil))
    · refine hopC gt0 gd0 (xk010 undef undef undef P8 0 W) (Calls.mono (c0 W hb) ?_)
      rintro e W' ⟨v, rfl, hz, hb'⟩
      refine ⟨v, rfl, hb.trans (hb'.mono hb.size), ?_⟩
      rw [ed0]
      rw [put_comm _ dA du _ _ ne0A.symm]
      exact k110 W' v P8 (hb.trans (hb'.mono hb.size)) hz ⟨keep0 HA.1 hb', HA.2⟩
    · refine hopV gtB gdB (xB _ W) ⟨hb.alloc hb.size _, ?_⟩
      rw [edB]
      exact k011 _ P8 W.heap.size (hb.alloc hb.size _) ⟨keep0 HA.1 ((Below.refl _ W).alloc (Nat.le_refl _) _), HA.2⟩ ⟨heap_alloc_new W _, hb.size⟩ (by have := (Array.getElem?_eq_some_iff.1 HA.1).1; omega)
  have k001 : ∀ (W : World) (P9 : Nat), Below w.heap.size w W → (W.heap[P9]? = some (Obj.cells #[Value.bool false, Value.slice none 0 0, Value.int IntKind.i64 0] 27) ∧ w.heap.size ≤ P9) → wpAnyH Try.prog .any ops Q (fun W' => Below w.heap.size w W') 7 (L false false false false false true false false) (a.put (some dB) (.pointer (some ⟨P9, 0, none⟩))) W := by
    intro W P9 hb HB
    refine wpAnyH_ready (rs := [i0, iA]) rk001 (by simp) ?_
    refine (consH (L true false false false false true false false) (sl0 _ _ _ _ _ _ _) ?_ (consH (L false false false false true true false false) (slA _ _ _ _ _ _ _) ?_ AllReadyH.nil))
    · refine hopC gt0 gd0 (xk001 undef undef undef 0 P9 W) (Calls.mono (c0 W hb) ?_)
      rintro e W' ⟨v, rfl, hz, hb'⟩
      refine ⟨v, rfl, hb.trans (hb'.mono hb.size), ?_⟩
      rw [ed0]
      rw [put_comm _ dB du _ _ ne0B.symm]
      exact k101 W' v P9 (hb.trans (hb'.mono hb.size)) hz ⟨keep0 HB.1 hb', HB.2⟩
    · refine hopV gtA gdA (xA _ W) ⟨hb.alloc hb.size _, ?_⟩
      rw [edA]
      rw [put_comm _ dB dA _ _ neAB.symm]
      exact k011 _ W.heap.size P9 (hb.alloc hb.size _) ⟨heap_alloc_new W _, hb.size⟩ ⟨keep0 HB.1 ((Below.refl _ W).alloc (Nat.le_refl _) _), HB.2⟩ (by have := (Array.getElem?_eq_some_iff.1 HB.1).1; omega)
  have k000 : ∀ (W : World) , Below w.heap.size w W → wpAnyH Try.prog .any ops Q (fun W' => Below w.heap.size w W') 8 (L false false false false false false false false) a W := by
    intro W  hb 
    refine wpAnyH_ready (rs := [i0, iA, iB]) rk000 (by simp) ?_
    refine (consH (L true false false false false false false false) (sl0 _ _ _ _ _ _ _) ?_ (consH (L false false false false true false false false) (slA _ _ _ _ _ _ _) ?_ (consH (L false false false false false true false false) (slB _ _ _ _ _ _ _) ?_ AllReadyH.nil)))
    · refine hopC gt0 gd0 (xk000 undef undef undef 0 0 W) (Calls.mono (c0 W hb) ?_)
      rintro e W' ⟨v, rfl, hz, hb'⟩
      refine ⟨v, rfl, hb.trans (hb'.mono hb.size), ?_⟩
      rw [ed0]
      exact k100 W' v (hb.trans (hb'.mono hb.size)) hz
    · refine hopV gtA gdA (xA _ W) ⟨hb.alloc hb.size _, ?_⟩
      rw [edA]
      exact k010 _ W.heap.size (hb.alloc hb.size _) ⟨heap_alloc_new W _, hb.size⟩
    · refine hopV gtB gdB (xB _ W) ⟨hb.alloc hb.size _, ?_⟩
      rw [edB]
      exact k001 _ W.heap.size (hb.alloc hb.size _) ⟨heap_alloc_new W _, hb.size⟩
  exact k000 w0 hw0
set_option maxHeartbeats 4000000 in
theorem lpRegion {ops : Array Oper} {Q : Exit → Act → World → Prop} {S : World → Prop} (o0 o1 o2 oL oS : Oper) (i0 i1 i2 iL iS d0 d1 d2 dL : Nat) (L : Bool → Bool → Bool → Bool → Bool → Array Bool) (a : Act) (w : World) (f0 f1 f2 : FuncId) (va vb vN : Value) (s1 s2 s3 : Nat) (T1 z1 T2 z2 T3 z3 : Int) (pS qS : Operand) (Pv : Nat) (n0 : Bool) (o0' : Option Addr) (l0 c0 : Nat) (e0 : Int)
    (gt0 : ops[i0]? = some o0) (gt1 : ops[i1]? = some o1) (gt2 : ops[i2]? = some o2) (gtL : ops[iL]? = some oL) (gtS : ops[iS]? = some oS)
    (gd0 : o0.guard = none) (gd1 : o1.guard = none) (gd2 : o2.guard = none) (gdL : oL.guard = none) (gdS : oS.guard = none)
    (ed0 : o0.dst = some d0) (ed1 : o1.dst = some d1) (ed2 : o2.dst = some d2) (edL : oL.dst = some dL) (edS : oS.dst = none)
    (ne0L : d0 ≠ dL) (ne1L : d1 ≠ dL) (ne2L : d2 ≠ dL)
    (sl0 : ∀ b1 b2 b3 b4, (L false b1 b2 b3 b4).setIfInBounds i0 true = L true b1 b2 b3 b4)
    (sl1 : ∀ b0 b2 b3 b4, (L b0 false b2 b3 b4).setIfInBounds i1 true = L b0 true b2 b3 b4)
    (sl2 : ∀ b0 b1 b3 b4, (L b0 b1 false b3 b4).setIfInBounds i2 true = L b0 b1 true b3 b4)
    (slL : ∀ b0 b1 b2 b4, (L b0 b1 b2 false b4).setIfInBounds iL true = L b0 b1 b2 true b4)
    (slS : ∀ b0 b1 b2 b3, (L b0 b1 b2 b3 false).setIfInBounds iS true = L b0 b1 b2 b3 true)
    (rj31 : Region.ready .any ops (L true true true true false) = [iS])
    (rj21 : Region.ready .any ops (L true true false true false) = [i2])
    (rj20 : Region.ready .any ops (L true true false false false) = [iL])
    (rj11 : Region.ready .any ops (L true false false true false) = [i1])
    (rj10 : Region.ready .any ops (L true false false false false) = [iL, i1])
    (rj01 : Region.ready .any ops (L false false false true false) = [i0])
    (rj00 : Region.ready .any ops (L false false false false false) = [iL, i0])
    (rE : Region.ready .any ops (L true true true true true) = [])
    (xj00 : ∀ (u x : Value) (W : World), (execOp a.eval o0).run Try.prog W = .ok (.enter f0 #[va, vb]) W)
    (xj01 : ∀ (u x : Value) (W : World), (execOp (a.put (some dL) (Value.agg #[Value.bool n0, Value.slice o0' l0 c0, Value.int IntKind.i64 e0])).eval o0).run Try.prog W = .ok (.enter f0 #[va, vb]) W)
    (xj10 : ∀ (u x : Value) (W : World), (execOp (a.put (some d0) u).eval o1).run Try.prog W = .ok (.enter f1 #[u, vN]) W)
    (xj11 : ∀ (u x : Value) (W : World), (execOp ((a.put (some d0) u).put (some dL) (Value.agg #[Value.bool n0, Value.slice o0' l0 c0, Value.int IntKind.i64 e0])).eval o1).run Try.prog W = .ok (.enter f1 #[u, vN]) W)
    (xj21 : ∀ (u x : Value) (W : World), (execOp (((a.put (some d0) u).put (some d1) x).put (some dL) (Value.agg #[Value.bool n0, Value.slice o0' l0 c0, Value.int IntKind.i64 e0])).eval o2).run Try.prog W = .ok (.enter f2 #[(Value.agg #[Value.bool n0, Value.slice o0' l0 c0, Value.int IntKind.i64 e0]), x]) W)
    (y0 : ∀ (u x : Value) (W : World), Below w.heap.size w W → (execOp a.eval oL).run Try.prog W = .ok (.value (Value.agg #[Value.bool n0, Value.slice o0' l0 c0, Value.int IntKind.i64 e0])) W)
    (y1 : ∀ (u x : Value) (W : World), Below w.heap.size w W → (execOp (a.put (some d0) u).eval oL).run Try.prog W = .ok (.value (Value.agg #[Value.bool n0, Value.slice o0' l0 c0, Value.int IntKind.i64 e0])) W)
    (y2 : ∀ (u x : Value) (W : World), Below w.heap.size w W → (execOp ((a.put (some d0) u).put (some d1) x).eval oL).run Try.prog W = .ok (.value (Value.agg #[Value.bool n0, Value.slice o0' l0 c0, Value.int IntKind.i64 e0])) W)
    (opS : oS.op = .store 27 pS qS) (ev : ∀ (u x y : Value), ((((a.put (some d0) u).put (some d1) x).put (some d2) y).put (some dL) (Value.agg #[Value.bool n0, Value.slice o0' l0 c0, Value.int IntKind.i64 e0])).eval pS = .pointer (some ⟨Pv, 0, none⟩) ∧ ((((a.put (some d0) u).put (some d1) x).put (some d2) y).put (some dL) (Value.agg #[Value.bool n0, Value.slice o0' l0 c0, Value.int IntKind.i64 e0])).eval qS = y)
    (c0' : ∀ W, Below w.heap.size w W → Calls Try.prog f0 #[va, vb] W fun e W' => ∃ v, e = .returned v ∧ NumZ W' v s1 T1 z1 ∧ Below W.heap.size W W')
    (c1' : ∀ W u, Below w.heap.size w W → NumZ W u s1 T1 z1 → Calls Try.prog f1 #[u, vN] W fun e W' => ∃ v, e = .returned v ∧ NumZ W' v s2 T2 z2 ∧ Below W.heap.size W W')
    (c2' : ∀ W x, Below w.heap.size w W → NumZ W x s2 T2 z2 → Calls Try.prog f2 #[(Value.agg #[Value.bool n0, Value.slice o0' l0 c0, Value.int IntKind.i64 e0]), x] W fun e W' => ∃ v, e = .returned v ∧ NumZ W' v s3 T3 z3 ∧ Below W.heap.size W W')
    (hP : w.heap[Pv]? = some (Obj.cells #[Value.bool n0, Value.slice o0' l0 c0, Value.int IntKind.i64 e0] 27)) (hS : ∀ W, Below w.heap.size w W → S W)
    (hQ : ∀ (Wf W : World) (u x : Value) (ny : Bool) (oy : Option Addr) (ly cy : Nat) (ey : Int), Below w.heap.size w Wf → NumZ Wf (Value.agg #[Value.bool ny, Value.slice oy ly cy, Value.int IntKind.i64 ey]) s3 T3 z3 → Wf.heap[Pv]? = some (Obj.cells #[Value.bool n0, Value.slice o0' l0 c0, Value.int IntKind.i64 e0] 27) → W.heap[Pv]? = some (Obj.cells #[Value.bool ny, Value.slice oy ly cy, Value.int IntKind.i64 ey] 27) → (∀ B, B ≠ Pv → W.heap[B]? = Wf.heap[B]?) → (∀ u s T z, NumZ Wf u s T z → NumZ W u s T z) → (∀ m w0, Below m w0 Wf → m ≤ Pv → Below m w0 W) → S W ∧ Q .normal ((((a.put (some d0) u).put (some d1) x).put (some d2) (Value.agg #[Value.bool ny, Value.slice oy ly cy, Value.int IntKind.i64 ey])).put (some dL) (Value.agg #[Value.bool n0, Value.slice o0' l0 c0, Value.int IntKind.i64 e0])) W)
    (w0 : World) (hw0 : Below w.heap.size w w0) : wpAnyH Try.prog .any ops Q S 5 (L false false false false false) a w0 := by
  have j31 : ∀ (W : World) (u : Value) (x : Value) (y : Value), Below w.heap.size w W → (NumZ W y s3 T3 z3) → wpAnyH Try.prog .any ops Q S 1 (L true true true true false) ((((a.put (some d0) u).put (some d1) x).put (some d2) y).put (some dL) (Value.agg #[Value.bool n0, Value.slice o0' l0 c0, Value.int IntKind.i64 e0])) W := by
    intro W u x y hb Hz
    refine wpAnyH_ready (rs := [iS]) rj31 (by simp) ?_
    refine (consH (L true true true true true) (slS _ _ _ _) ?_ AllReadyH.nil)
    · have Zy := Hz
      obtain ⟨ny, my, ey, ⟨oy, ly, cy, xy, rfl, -⟩, -⟩ := Hz
      have hPW := keep0 hP hb
      refine hopS gtS gdS edS pS qS opS Pv (ev u x (Value.agg #[Value.bool ny, Value.slice oy ly cy, Value.int IntKind.i64 ey])).1 ny oy ly cy ey (ev u x (Value.agg #[Value.bool ny, Value.slice oy ly cy, Value.int IntKind.i64 ey])).2 n0 o0' l0 c0 e0 hPW ?_
      intro W1 a1 t1 z1' b1
      have hq := hQ W W1 u x ny oy ly cy ey hb Zy hPW a1 t1 z1' b1
      exact ⟨hq.1, wpAnyH_done rE hq.2 _⟩
  have j21 : ∀ (W : World) (u : Value) (x : Value), Below w.heap.size w W → (NumZ W x s2 T2 z2) → wpAnyH Try.prog .any ops Q S 2 (L true true false true false) (((a.put (some d0) u).put (some d1) x).put (some dL) (Value.agg #[Value.bool n0, Value.slice o0' l0 c0, Value.int IntKind.i64 e0])) W := by
    intro W u x hb Hz
    refine wpAnyH_ready (rs := [i2]) rj21 (by simp) ?_
    refine (consH (L true true true true false) (sl2 _ _ _ _) ?_ AllReadyH.nil)
    · refine hopC gt2 gd2 (xj21 u x W) (Calls.mono (c2' W x hb Hz) ?_)
      rintro e W' ⟨v, rfl, hz, hb'⟩
      have hB := hb.trans (hb'.mono hb.size)
      refine ⟨v, rfl, hS _ hB, ?_⟩
      rw [ed2]
      rw [put_comm _ dL d2 _ _ ne2L.symm]
      exact j31 W' u x v hB hz
  have j20 : ∀ (W : World) (u : Value) (x : Value), Below w.heap.size w W → (NumZ W x s2 T2 z2) → wpAnyH Try.prog .any ops Q S 3 (L true true false false false) ((a.put (some d0) u).put (some d1) x) W := by
    intro W u x hb Hz
    refine wpAnyH_ready (rs := [iL]) rj20 (by simp) ?_
    refine (consH (L true true false true false) (slL _ _ _ _) ?_ AllReadyH.nil)
    · refine hopV gtL gdL (y2 u x W hb) ⟨hS _ hb, ?_⟩
      rw [edL]
      exact j21 W u x hb Hz
  have j11 : ∀ (W : World) (u : Value), Below w.heap.size w W → (NumZ W u s1 T1 z1) → wpAnyH Try.prog .any ops Q S 3 (L true false false true false) ((a.put (some d0) u).put (some dL) (Value.agg #[Value.bool n0, Value.slice o0' l0 c0, Value.int IntKind.i64 e0])) W := by
    intro W u hb Hz
    refine wpAnyH_ready (rs := [i1]) rj11 (by simp) ?_
    refine (consH (L true true false true false) (sl1 _ _ _ _) ?_ AllReadyH.nil)
    · refine hopC gt1 gd1 (xj11 u undef W) (Calls.mono (c1' W u hb Hz) ?_)
      rintro e W' ⟨v, rfl, hz, hb'⟩
      have hB := hb.trans (hb'.mono hb.size)
      refine ⟨v, rfl, hS _ hB, ?_⟩
      rw [ed1]
      rw [put_comm _ dL d1 _ _ ne1L.symm]
      exact j21 W' u v hB hz
  have j10 : ∀ (W : World) (u : Value), Below w.heap.size w W → (NumZ W u s1 T1 z1) → wpAnyH Try.prog .any ops Q S 4 (L true false false false false) (a.put (some d0) u) W := by
    intro W u hb Hz
    refine wpAnyH_ready (rs := [iL, i1]) rj10 (by simp) ?_
    refine (consH (L true false false true false) (slL _ _ _ _) ?_ (consH (L true true false false false) (sl1 _ _ _ _) ?_ AllReadyH.nil))
    · refine hopV gtL gdL (y1 u undef W hb) ⟨hS _ hb, ?_⟩
      rw [edL]
      exact j11 W u hb Hz
    · refine hopC gt1 gd1 (xj10 u undef W) (Calls.mono (c1' W u hb Hz) ?_)
      rintro e W' ⟨v, rfl, hz, hb'⟩
      have hB := hb.trans (hb'.mono hb.size)
      refine ⟨v, rfl, hS _ hB, ?_⟩
      rw [ed1]
      exact j20 W' u v hB hz
  have j01 : ∀ (W : World) , Below w.heap.size w W → wpAnyH Try.prog .any ops Q S 4 (L false false false true false) (a.put (some dL) (Value.agg #[Value.bool n0, Value.slice o0' l0 c0, Value.int IntKind.i64 e0])) W := by
    intro W  hb 
    refine wpAnyH_ready (rs := [i0]) rj01 (by simp) ?_
    refine (consH (L true false false true false) (sl0 _ _ _ _) ?_ AllReadyH.nil)
    · refine hopC gt0 gd0 (xj01 undef undef W) (Calls.mono (c0' W hb) ?_)
      rintro e W' ⟨v, rfl, hz, hb'⟩
      have hB := hb.trans (hb'.mono hb.size)
      refine ⟨v, rfl, hS _ hB, ?_⟩
      rw [ed0]
      rw [put_comm _ dL d0 _ _ ne0L.symm]
      exact j11 W' v hB hz
  have j00 : ∀ (W : World) , Below w.heap.size w W → wpAnyH Try.prog .any ops Q S 5 (L false false false false false) a W := by
    intro W  hb 
    refine wpAnyH_ready (rs := [iL, i0]) rj00 (by simp) ?_
    refine (consH (L false false false true false) (slL _ _ _ _) ?_ (consH (L true false false false false) (sl0 _ _ _ _) ?_ AllReadyH.nil))
    · refine hopV gtL gdL (y0 undef undef W hb) ⟨hS _ hb, ?_⟩
      rw [edL]
      exact j01 W  hb 
    · refine hopC gt0 gd0 (xj00 undef undef W) (Calls.mono (c0' W hb) ?_)
      rintro e W' ⟨v, rfl, hz, hb'⟩
      have hB := hb.trans (hb'.mono hb.size)
      refine ⟨v, rfl, hS _ hB, ?_⟩
      rw [ed0]
      exact j10 W' v hB hz
  exact j00 w0 hw0
end Go.Proofs.Ytkpoikjikkailaa
