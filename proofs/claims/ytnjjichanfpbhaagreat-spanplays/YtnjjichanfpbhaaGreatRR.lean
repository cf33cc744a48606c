import Derived.Test.YtnjjichanfpbhaaGreatHA
import Derived.Deep.RegionHeld3
namespace Go.Proofs.YtnjjichanfpbhaaGreat
open Go.RowKit
set_option linter.unusedVariables false

theorem keep0 {X w : World} {B : Nat} {o : Obj} (h : X.heap[B]? = some o) (b : Below X.heap.size X w) : w.heap[B]? = some o := (b.block B (Array.getElem?_eq_some_iff.1 h).1).trans h
theorem put_none (a : Act) (v : Value) : a.put none v = a := rfl
theorem hopV {P : Program} {ops : Array Oper} {Q : Exit → Act → World → Prop} {i : Nat} {o : Oper} {K : Act → World → Prop} {a : Act} {w w' : World} {v : Value} (ho : ops[i]? = some o) (hg : o.guard = none) (hr : (execOp a.eval o).run P w = .ok (.value v) w') (h : K (a.put o.dst v) w') : wpOp P ops Q i K a w :=
  wpOp_step ho fun K' hK => by
    rw [if_pos (by simp [Region.wanted, hg])]
    unfold Oper.wp
    rw [hr]
    exact hK _ _ h
theorem hopCd {P : Program} {ops : Array Oper} {Q : Exit → Act → World → Prop} {i : Nat} {o : Oper} {K : Act → World → Prop} {a : Act} {w : World} {f : FuncId} {args : Array Value} (d : Nat) (ho : ops[i]? = some o) (hw : Region.wanted o (yielded ops a.tmps) = true) (hd : o.dst = some d) (hr : (execOp a.eval o).run P w = .ok (.enter f args) w) (hc : Calls P f args w fun e w'' => ∃ v, e = .returned v ∧ K (a.put (some d) v) w'') : wpOp P ops Q i K a w :=
  wpOp_step ho fun K' hK => by
    rw [if_pos hw]
    unfold Oper.wp
    rw [hr, Oper.upon_enter]
    refine Calls.mono hc ?_
    rintro e w'' ⟨v, rfl, h⟩
    rw [← hd] at h
    exact hK _ _ h
theorem consH {P : Program} {md : Region.Mode} {ops : Array Oper} {Q : Exit → Act → World → Prop} {S : World → Prop} {fuel : Nat} {listed : Array Bool} {a : Act} {w : World} {i : Nat} {rs : List Nat} (l' : Array Bool) (hl : listed.setIfInBounds i true = l')
    (h : wpOp P ops Q i (fun a' w' => S w' ∧ wpAnyH P md ops Q S fuel l' a' w') a w) (hs : AllReadyH P md ops Q S fuel listed a w rs) : AllReadyH P md ops Q S fuel listed a w (i :: rs) := by
  subst hl
  intro j hj
  rcases List.mem_cons.1 hj with rfl | hj
  · exact h
  · exact hs j hj
theorem takeH {P : Program} {md : Region.Mode} {ops : Array Oper} {Q : Exit → Act → World → Prop} {S : World → Prop} (d : Nat) {i : Nat} {oi : Oper} {v : Value} {fuel : Nat} {listed : Array Bool} {a : Act} {w : World} (hi : ops[i]? = some oi) (hd : oi.dst = some d)
    (hs : Region.noSelect ops = true) (hf : Region.free md ops listed i = true) (hr : (Region.ready md ops listed).contains i = true)
    (hQ : ∀ c a w, Q (.panic c) (a.put (some d) v) w → Q (.panic c) a w) (hy : YieldsIf P ops S oi v a) (hS : S w)
    (h : wpAnyH P md ops Q S fuel (listed.setIfInBounds i true) (a.put (some d) v) w) : wpAnyH P md ops Q S (fuel + 1) listed a w :=
  wpAnyH_take hi hs hf hr (by rw [hd]; exact hQ) hy hS (by rw [hd]; exact h)
set_option maxRecDepth 100000 in
theorem ex_load3 {ρ : Operand → Value} (o : Oper) (p : Operand) (ho : o.op = .load 61 p) (B : Nat) (hp : ρ p = .pointer (some ⟨B, 0, none⟩)) (w : World) (n : Bool) (so : Option Addr) (l c : Nat) (e : Int) (h : w.cell? ⟨B, 0, none⟩ = some (.bool n) ∧ w.cell? ⟨B, 1, none⟩ = some (.slice so l c) ∧ w.cell? ⟨B, 2, none⟩ = some (.int .i64 e)) : (execOp ρ o).run Tryz.prog w = .ok (.value (.agg #[.bool n, .slice so l c, .int .i64 e])) w := by
  obtain ⟨x0, x1, x2⟩ := h
  simp only [execOp, ho, hp]
  simp [go_sem, x0, x1, x2, Result.andThen]
set_option maxRecDepth 100000 in
theorem hopS {ops : Array Oper} {Q : Exit → Act → World → Prop} {i : Nat} {o : Oper} {K : Act → World → Prop} {a : Act} {W : World} (hi : ops[i]? = some o) (hgd : o.guard = none) (hdst : o.dst = none) (p v : Operand) (ho : o.op = .store 61 p v)
    (P : Nat) (hp : a.eval p = .pointer (some ⟨P, 0, none⟩)) (n : Bool) (so : Option Addr) (l c : Nat) (e : Int) (hv : a.eval v = .agg #[.bool n, .slice so l c, .int .i64 e]) (b0 : Bool) (o0 : Option Addr) (l0 c0 : Nat) (e0 : Int) (hP : W.heap[P]? = some (Obj.cells #[Value.bool b0, Value.slice o0 l0 c0, Value.int IntKind.i64 e0] 61))
    (h : ∀ w', w'.heap[P]? = some (Obj.cells #[Value.bool n, Value.slice so l c, Value.int IntKind.i64 e] 61) → (∀ B, B ≠ P → w'.heap[B]? = W.heap[B]?) → (∀ u s T z, NumZ W u s T z → NumZ w' u s T z) → (∀ m w0, Below m w0 W → m ≤ P → Below m w0 w') → K a w') : wpOp Tryz.prog ops Q i K a W :=
  wpOp_step hi fun K' hK => by
    rw [if_pos (by simp [Region.wanted, hgd])]
    obtain ⟨x0, x1, x2⟩ := three_cells hP
    have fz := fun j => frozen_of_row _ _ j _ _ hP
    have hh := hK _ _ (h _ (set3_heap (.bool n) (.slice so l c) (.int .i64 e) hP) (fun B hB => set3_other _ _ _ hB) (fun u s T z hz => NumZ.set3 _ _ _ ⟨_, _, _, _, _, hP⟩ hz) (fun m w0 hb hm => below_set3 _ _ _ hb hm))
    unfold Oper.wp
    simp only [execOp, ho, hp, hv]
    simp [go_sem, x0, x1, x2, fz, Result.andThen, hdst]
    exact hh
set_option maxRecDepth 100000 in
theorem ex_loadU {ρ : Operand → Value} (o : Oper) (p : Operand) (ho : o.op = .load 36 p) (B : Nat) (hp : ρ p = .pointer (some ⟨B, 0, none⟩)) (w : World) (x y : Int) (b : Bool) (h : w.heap[B]? = some (Obj.cells #[Value.int .u64 x, .int .u64 y, .bool b] 36)) : (execOp ρ o).run Tryz.prog w = .ok (.value (.agg #[.int .u64 x, .int .u64 y, .bool b])) w := by
  obtain ⟨x0, x1, x2⟩ := cells3 h
  simp only [execOp, ho, hp]
  simp [go_sem, x0, x1, x2, Result.andThen]
set_option maxRecDepth 100000 in
theorem hopSU {ops : Array Oper} {Q : Exit → Act → World → Prop} {i : Nat} {o : Oper} {K : Act → World → Prop} {a : Act} {W : World} (hi : ops[i]? = some o) (hgd : o.guard = none) (hdst : o.dst = none) (p v : Operand) (ho : o.op = .store 36 p v)
    (P : Nat) (hp : a.eval p = .pointer (some ⟨P, 0, none⟩)) (x y : Int) (b : Bool) (hv : a.eval v = .agg #[.int .u64 x, .int .u64 y, .bool b]) (x' y' : Int) (b' : Bool) (hP : W.heap[P]? = some (Obj.cells #[Value.int .u64 x', .int .u64 y', .bool b'] 36))
    (h : ∀ w', w'.heap[P]? = some (Obj.cells #[Value.int .u64 x, .int .u64 y, .bool b] 36) → (∀ B, B ≠ P → w'.heap[B]? = W.heap[B]?) → (∀ m w0, Below m w0 W → m ≤ P → Below m w0 w') → K a w') : wpOp Tryz.prog ops Q i K a W :=
  wpOp_step hi fun K' hK => by
    rw [if_pos (by simp [Region.wanted, hgd])]
    obtain ⟨x0, x1, x2⟩ := cells3 hP
    have fz := fun j => frozen_of_row _ _ j _ _ hP
    have hh := hK _ _ (h _ (setsp_heap (.int .u64 x) (.int .u64 y) (.bool b) hP) (fun B hB => set3_other _ _ _ hB) (fun m w0 hb hm => below_setsp _ _ _ hb hm))
    unfold Oper.wp
    simp only [execOp, ho, hp, hv]
    simp [go_sem, x0, x1, x2, fz, Result.andThen, hdst]
    exact hh
end Go.Proofs.YtnjjichanfpbhaaGreat
