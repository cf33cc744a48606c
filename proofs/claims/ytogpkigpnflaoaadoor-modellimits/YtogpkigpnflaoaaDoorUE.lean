import Derived.Test.YtogpkigpnflaoaaDoorUD
namespace Go.Proofs.YtogpkigpnflaoaaDoor
open Go.RowKit
set_option linter.unusedVariables false

set_option maxHeartbeats 1000000 in
theorem appRegion {ops : Array Oper} {Q : Exit → Act → World → Prop} (ol om ob oc op os : Oper) (il im ib ic ip is dl dm db dc dp : Nat) (L : Bool → Bool → Bool → Bool → Bool → Bool → Array Bool) (a : Act) (w : World) (vs : List Value) (k B f b0 : Nat) (vG : Value) (xc xd xs xp : Operand) (cur : Array Value) (c' : Value → Array Value) (TB : TypeId) (w00 : World) (wb : Nat)
    (gtl : ops[il]? = some ol) (gtm : ops[im]? = some om) (gtb : ops[ib]? = some ob) (gtc : ops[ic]? = some oc) (gtp : ops[ip]? = some op) (gts : ops[is]? = some os)
    (gdl : ol.guard = none) (gdm : om.guard = none) (gdb : ob.guard = none) (gdc : oc.guard = none) (gdp : op.guard = none) (gds : os.guard = none)
    (el : ol.dst = some dl) (em : om.dst = some dm) (eb : ob.dst = some db) (ec : oc.dst = some dc) (ep : op.dst = some dp) (es : os.dst = none)
    (dlm : dl ≠ dm) (dlb : dl ≠ db)
    (stl : ∀ x y z u v, (L false x y z u v).setIfInBounds il true = L true x y z u v) (stm : ∀ x y z u v, (L x false y z u v).setIfInBounds im true = L x true y z u v) (stb : ∀ x y z u v, (L x y false z u v).setIfInBounds ib true = L x y true z u v) (stc : ∀ x y z u v, (L x y z false u v).setIfInBounds ic true = L x y z true u v) (stp : ∀ x y z u v, (L x y z u false v).setIfInBounds ip true = L x y z u true v) (sts : ∀ x y z u v, (L x y z u v false).setIfInBounds is true = L x y z u v true)
    (rclmbcp : Region.ready .any ops (L true true true true true false) = [is])
    (rclmbc : Region.ready .any ops (L true true true true false false) = [ip])
    (rclmb : Region.ready .any ops (L true true true false false false) = [ic])
    (rclm : Region.ready .any ops (L true true false false false false) = [ib])
    (rcl : Region.ready .any ops (L true false false false false false) = [im])
    (rcmb : Region.ready .any ops (L false true true false false false) = [il])
    (rcm : Region.ready .any ops (L false true false false false false) = [il, ib])
    (rcN : Region.ready .any ops (L false false false false false false) = [il, im])
    (rE : Region.ready .any ops (L true true true true true true) = [])
    (exl_cN : ∀ (gm gb : Nat) (W : World), Below w.heap.size w W → (execOp a.eval ol).run Tryd.prog W = .ok (.value vG) W)
    (exl_cm : ∀ (gm gb : Nat) (W : World), Below w.heap.size w W → (execOp (a.put (some dm) (.slice (some ⟨gm, 0, none⟩) k k)).eval ol).run Tryd.prog W = .ok (.value vG) W)
    (exl_cmb : ∀ (gm gb : Nat) (W : World), Below w.heap.size w W → (execOp ((a.put (some dm) (.slice (some ⟨gm, 0, none⟩) k k)).put (some db) (.slice (some ⟨gb, 0, none⟩) 1 1)).eval ol).run Tryd.prog W = .ok (.value vG) W)
    (exm_cN : ∀ (gm gb : Nat) (W : World), (execOp a.eval om).run Tryd.prog W = .ok (.value (.slice (some ⟨W.heap.size, 0, none⟩) k k)) (W.alloc (.cells (flN k) 29)))
    (exm_cl : ∀ (gm gb : Nat) (W : World), (execOp (a.put (some dl) vG).eval om).run Tryd.prog W = .ok (.value (.slice (some ⟨W.heap.size, 0, none⟩) k k)) (W.alloc (.cells (flN k) 29)))
    (exb_cm : ∀ (gm gb : Nat) (W : World), (execOp (a.put (some dm) (.slice (some ⟨gm, 0, none⟩) k k)).eval ob).run Tryd.prog W = .ok (.value (.slice (some ⟨W.heap.size, 0, none⟩) 1 1)) (W.alloc (.cells #[.slice (some ⟨gm, 0, none⟩) k k] 30)))
    (exb_clm : ∀ (gm gb : Nat) (W : World), (execOp ((a.put (some dl) vG).put (some dm) (.slice (some ⟨gm, 0, none⟩) k k)).eval ob).run Tryd.prog W = .ok (.value (.slice (some ⟨W.heap.size, 0, none⟩) 1 1)) (W.alloc (.cells #[.slice (some ⟨gm, 0, none⟩) k k] 30)))
    (opc : oc.op = .call { callee := .builtin .append, args := #[xc, xd], argTypes := #[40, 40] }) (evc : ∀ (gm gb : Nat), (((a.put (some dl) vG).put (some dm) (.slice (some ⟨gm, 0, none⟩) k k)).put (some db) (.slice (some ⟨gb, 0, none⟩) 1 1)).eval xc = vG ∧ (((a.put (some dl) vG).put (some dm) (.slice (some ⟨gm, 0, none⟩) k k)).put (some db) (.slice (some ⟨gb, 0, none⟩) 1 1)).eval xd = .slice (some ⟨gb, 0, none⟩) 1 1)
    (ops' : os.op = .store 40 xs xp) (evs : ∀ (v2 : Value) (gm gb : Nat), (((((a.put (some dl) vG).put (some dm) (.slice (some ⟨gm, 0, none⟩) k k)).put (some db) (.slice (some ⟨gb, 0, none⟩) 1 1)).put (some dc) v2).put (some dp) (.pointer (some ⟨B, f, none⟩))).eval xs = .pointer (some ⟨B, f, none⟩) ∧ (((((a.put (some dl) vG).put (some dm) (.slice (some ⟨gm, 0, none⟩) k k)).put (some db) (.slice (some ⟨gb, 0, none⟩) 1 1)).put (some dc) v2).put (some dp) (.pointer (some ⟨B, f, none⟩))).eval xp = v2)
    (exp_ : ∀ (v2 : Value) (gm gb : Nat) (W : World), (execOp ((((a.put (some dl) vG).put (some dm) (.slice (some ⟨gm, 0, none⟩) k k)).put (some db) (.slice (some ⟨gb, 0, none⟩) 1 1)).put (some dc) v2).eval op).run Tryd.prog W = .ok (.value (.pointer (some ⟨B, f, none⟩))) W)
    (hown : w.ownsRow b0 30 1 vG vs.length vs) (hm : vs.length ≤ 1000) (hb0 : b0 ≤ w.heap.size)
    (hcur : w.heap[B]? = some (.cells cur TB)) (hTB : 30 ≠ TB) (hTB2 : 29 ≠ TB) (hf : f + 1 ≤ cur.size) (hc' : ∀ v : Value, v.cells = #[v] → (cur.toList.take f ++ v.cells.toList ++ cur.toList.drop (f + 1)).toArray = c' v)
    (hw00 : Below wb w00 w) (hwb : wb ≤ B) (hwb2 : wb ≤ b0)
    (hQ : ∀ (W : World) (v2 : Value) (gm gb : Nat), Below wb w00 W → W.ownsRow b0 30 1 v2 (vs ++ [Value.slice (some ⟨gm, 0, none⟩) k k]).length (vs ++ [Value.slice (some ⟨gm, 0, none⟩) k k]) → W.heap[gm]? = some (.cells (flN k) 29) → W.heap[B]? = some (.cells (c' v2) TB) → (∀ j, j < w.heap.size → j ≠ B → vG.ownBlock ≠ some j → W.heap[j]? = w.heap[j]?) → w.heap.size ≤ W.heap.size → Q .normal (((((a.put (some dl) vG).put (some dm) (.slice (some ⟨gm, 0, none⟩) k k)).put (some db) (.slice (some ⟨gb, 0, none⟩) 1 1)).put (some dc) v2).put (some dp) (.pointer (some ⟨B, f, none⟩))) W)
    (w0 : World) (hw0 : Below w.heap.size w w0) : wpAny Tryd.prog .any ops Q 6 (L false false false false false false) a w0 := by
  have clmbcp : ∀ (W : World) (gb : Nat) (v2 : Value) (gm : Nat), Below b0 w W → (∀ j, j < w.heap.size → vG.ownBlock ≠ some j → W.heap[j]? = w.heap[j]?) → (W.ownsRow b0 30 1 v2 (vs ++ [Value.slice (some ⟨gm, 0, none⟩) k k]).length (vs ++ [Value.slice (some ⟨gm, 0, none⟩) k k])) → (W.heap[gm]? = some (.cells (flN k) 29)) → wpAny Tryd.prog .any ops Q 1 (L true true true true true false) (((((a.put (some dl) vG).put (some dm) (.slice (some ⟨gm, 0, none⟩) k k)).put (some db) (.slice (some ⟨gb, 0, none⟩) 1 1)).put (some dc) v2).put (some dp) (.pointer (some ⟨B, f, none⟩))) W := by
    intro W gb v2 gm hb kp HC HM
    refine wpAny_ready (rs := [is]) rclmbcp (by simp) ?_
    refine (ready_one gts (L true true true true true true) (sts _ _ _ _ _) ?_ AllReady.nil)
    · have hBW : W.heap[B]? = some (.cells cur TB) := (kp B (blk_lt hcur) (ne_own hown hcur hTB)).trans hcur
      refine wpList_store_at gds 40 xs xp ops' w00 wb B f v2 cur (c' v2) TB (evs v2 gm gb).1 (evs v2 gm gb).2 hBW (hw00.trans (hb.mono hwb2)) hwb 1 Tryd.infoFsS (by rw [(own_val HC).2]; rfl) hf (by intro u hu; rw [(own_val HC).2] at hu; simp at hu; subst hu; exact (own_val HC).1) (hc' v2 (own_val HC).2) ?_
      intro W2 k2 b2 z2 t2
      rw [es, put_none]
      refine wpAny_done rE ?_ _
      exact hQ W2 v2 gm gb b2 (own_kp HC fun j hj => t2 j fun e => ne_own HC hBW hTB (e ▸ hj)) ((t2 gm fun e => by subst e; rw [HM] at hBW; simp only [Option.some.injEq, Obj.cells.injEq] at hBW; exact hTB2 hBW.2.1).trans HM) k2 (fun j hj hne hn2 => (t2 j hne).trans (kp j hj hn2)) (by have := hb.size; omega)
  have clmbc : ∀ (W : World) (gb : Nat) (v2 : Value) (gm : Nat), Below b0 w W → (∀ j, j < w.heap.size → vG.ownBlock ≠ some j → W.heap[j]? = w.heap[j]?) → (W.ownsRow b0 30 1 v2 (vs ++ [Value.slice (some ⟨gm, 0, none⟩) k k]).length (vs ++ [Value.slice (some ⟨gm, 0, none⟩) k k])) → (W.heap[gm]? = some (.cells (flN k) 29)) → wpAny Tryd.prog .any ops Q 2 (L true true true true false false) ((((a.put (some dl) vG).put (some dm) (.slice (some ⟨gm, 0, none⟩) k k)).put (some db) (.slice (some ⟨gb, 0, none⟩) 1 1)).put (some dc) v2) W := by
    intro W gb v2 gm hb kp HC HM
    refine wpAny_ready (rs := [ip]) rclmbc (by simp) ?_
    refine (ready_one gtp (L true true true true true false) (stp _ _ _ _ _) ?_ AllReady.nil)
    · refine wpl_value gdp (exp_ v2 gm gb W) ?_
      rw [ep]
      exact clmbcp W gb v2 gm hb kp HC HM
  have clmb : ∀ (W : World) (gm : Nat) (gb : Nat), Below w.heap.size w W → (W.ownsRow b0 30 1 vG vs.length vs) → (W.heap[gm]? = some (.cells (flN k) 29)) → (W.heap[gb]? = some (.cells #[.slice (some ⟨gm, 0, none⟩) k k] 30)) → wpAny Tryd.prog .any ops Q 3 (L true true true false false false) (((a.put (some dl) vG).put (some dm) (.slice (some ⟨gm, 0, none⟩) k k)).put (some db) (.slice (some ⟨gb, 0, none⟩) 1 1)) W := by
    intro W gm gb hb HV HM HG
    refine wpAny_ready (rs := [ic]) rclmb (by simp) ?_
    refine (ready_one gtc (L true true true true false false) (stc _ _ _ _ _) ?_ AllReady.nil)
    · have hsz := hb.size
      refine appendG Tryd.underlying40 Tryd.infoFs rfl (by decide) W gdc xc xd opc b0 vG vs (evc gm gb).1 HV ⟨gb, 0, none⟩ 1 1 [Value.slice (some ⟨gm, 0, none⟩) k k] (evc gm gb).2 rfl (fun j u hu => ?_) (by intro u hu; simp at hu; subst hu; rfl) (by omega) (by omega) ?_
      · match j, hu with
        | 0, hu =>
          simp only [List.getElem?_cons_zero, Option.some.injEq] at hu
          subst hu
          rw [Addr.add_lit, cell_of_row _ gb _ _ _ _ HG]
          rfl
      · intro v2 w' o2 t2 b2
        rw [ec]
        exact clmbc w' gb v2 gm ((hb.mono hb0).trans b2) (fun j hj hne => (t2 j (by omega) hne).trans (hb.block j hj)) o2 ((t2 _ (blk_lt HM) (ne_own HV HM (by decide))).trans HM)
  have clm : ∀ (W : World) (gm : Nat), Below w.heap.size w W → (W.ownsRow b0 30 1 vG vs.length vs) → (W.heap[gm]? = some (.cells (flN k) 29)) → wpAny Tryd.prog .any ops Q 4 (L true true false false false false) ((a.put (some dl) vG).put (some dm) (.slice (some ⟨gm, 0, none⟩) k k)) W := by
    intro W gm hb HV HM
    refine wpAny_ready (rs := [ib]) rclm (by simp) ?_
    refine (ready_one gtb (L true true true false false false) (stb _ _ _ _ _) ?_ AllReady.nil)
    · refine wpl_value gdb (exb_clm gm 0 W) ?_
      rw [eb]
      exact clmb _ gm W.heap.size (hb.alloc hb.size _) (World.ownsRow.alloc HV _) (alloc_kept HM _) (heap_alloc_new W _)
  have cl : ∀ (W : World) , Below w.heap.size w W → (W.ownsRow b0 30 1 vG vs.length vs) → wpAny Tryd.prog .any ops Q 5 (L true false false false false false) (a.put (some dl) vG) W := by
    intro W  hb HV
    refine wpAny_ready (rs := [im]) rcl (by simp) ?_
    refine (ready_one gtm (L true true false false false false) (stm _ _ _ _ _) ?_ AllReady.nil)
    · refine wpl_value gdm (exm_cl 0 0 W) ?_
      rw [em]
      exact clm _ W.heap.size (hb.alloc hb.size _) (World.ownsRow.alloc HV _) (heap_alloc_new W _)
  have cmb : ∀ (W : World) (gm : Nat) (gb : Nat), Below w.heap.size w W → (W.ownsRow b0 30 1 vG vs.length vs) → (W.heap[gm]? = some (.cells (flN k) 29)) → (W.heap[gb]? = some (.cells #[.slice (some ⟨gm, 0, none⟩) k k] 30)) → wpAny Tryd.prog .any ops Q 4 (L false true true false false false) ((a.put (some dm) (.slice (some ⟨gm, 0, none⟩) k k)).put (some db) (.slice (some ⟨gb, 0, none⟩) 1 1)) W := by
    intro W gm gb hb HV HM HG
    refine wpAny_ready (rs := [il]) rcmb (by simp) ?_
    refine (ready_one gtl (L true true true false false false) (stl _ _ _ _ _) ?_ AllReady.nil)
    · refine wpl_value gdl (exl_cmb gm gb W hb) ?_
      rw [el]
      rw [put_comm _ db dl _ _ dlb.symm]
      rw [put_comm _ dm dl _ _ dlm.symm]
      exact clmb W gm gb hb HV HM HG
  have cm : ∀ (W : World) (gm : Nat), Below w.heap.size w W → (W.ownsRow b0 30 1 vG vs.length vs) → (W.heap[gm]? = some (.cells (flN k) 29)) → wpAny Tryd.prog .any ops Q 5 (L false true false false false false) (a.put (some dm) (.slice (some ⟨gm, 0, none⟩) k k)) W := by
    intro W gm hb HV HM
    refine wpAny_ready (rs := [il, ib]) rcm (by simp) ?_
    refine (ready_one gtl (L true true false false false false) (stl _ _ _ _ _) ?_ (ready_one gtb (L false true true false false false) (stb _ _ _ _ _) ?_ AllReady.nil))
    · refine wpl_value gdl (exl_cm gm 0 W hb) ?_
      rw [el]
      rw [put_comm _ dm dl _ _ dlm.symm]
      exact clm W gm hb HV HM
    · refine wpl_value gdb (exb_cm gm 0 W) ?_
      rw [eb]
      exact cmb _ gm W.heap.size (hb.alloc hb.size _) (World.ownsRow.alloc HV _) (alloc_kept HM _) (heap_alloc_new W _)
  have cN : ∀ (W : World) , Below w.heap.size w W → (W.ownsRow b0 30 1 vG vs.length vs) → wpAny Tryd.prog .any ops Q 6 (L false false false false false false) a W := by
    intro W  hb HV
    refine wpAny_ready (rs := [il, im]) rcN (by simp) ?_
    refine (ready_one gtl (L true false false false false false) (stl _ _ _ _ _) ?_ (ready_one gtm (L false true false false false false) (stm _ _ _ _ _) ?_ AllReady.nil))
    · refine wpl_value gdl (exl_cN 0 0 W hb) ?_
      rw [el]
      exact cl W  hb HV
    · refine wpl_value gdm (exm_cN 0 0 W) ?_
      rw [em]
      exact cm _ W.heap.size (hb.alloc hb.size _) (World.ownsRow.alloc HV _) (heap_alloc_new W _)
  exact cN w0 hw0 (own_kp hown fun j hj => hw0.block j (World.ownsRow.lt hown j hj).2)
end Go.Proofs.YtogpkigpnflaoaaDoor
