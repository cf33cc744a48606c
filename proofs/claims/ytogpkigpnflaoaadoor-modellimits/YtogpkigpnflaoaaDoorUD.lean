import Derived.Test.YtogpkigpnflaoaaDoorUC
namespace Go.Proofs.YtogpkigpnflaoaaDoor
open Go.RowKit
set_option linter.unusedVariables false

theorem ne_own {w : World} {base n b : Nat} {E T : TypeId} {v : Value} {xs : List Value} {cu : Array Value} (h : w.ownsRow base E 1 v n xs) (hb : w.heap[b]? = some (.cells cu T)) (hne : E ≠ T) : v.ownBlock ≠ some b := by
  rcases h.2 with ⟨rfl, _⟩ | ⟨g, cap, c2, rfl, hg, hh, r⟩
  · simp [Value.ownBlock]
  · intro e
    simp only [Value.ownBlock, Option.some.injEq] at e
    subst e
    rw [hh] at hb
    simp only [Option.some.injEq, Obj.cells.injEq] at hb
    exact hne hb.2.1
theorem own_val {w : World} {base n : Nat} {E : TypeId} {v : Value} {xs : List Value} (h : w.ownsRow base E 1 v n xs) : v.oneCell' = true ∧ v.cells = #[v] := by
  rcases h.2 with ⟨rfl, _⟩ | ⟨g, cap, cu, rfl, hg, hh, r⟩ <;> exact ⟨rfl, rfl⟩
theorem own_kp {w w' : World} {base n : Nat} {E : TypeId} {v : Value} {xs : List Value} (h : w.ownsRow base E 1 v n xs) (hk : ∀ k, v.ownBlock = some k → w'.heap[k]? = w.heap[k]?) : w'.ownsRow base E 1 v n xs := by
  refine ⟨h.1, ?_⟩
  rcases h.2 with h2 | ⟨g, cap, cu, rfl, hg, hh, r⟩
  · exact .inl h2
  · exact .inr ⟨g, cap, cu, rfl, hg, (hk g rfl).trans hh, r⟩
theorem Tryd.infoFsS : (Tryd.prog.info? 40).map (·.size) = some 1 := by kernel_rfl
set_option maxHeartbeats 1000000 in
theorem dupRegion {ops : Array Oper} {Q : Exit → Act → World → Prop} (ol oa om ob oc op os : Oper) (il ia im ib ic ip is dl da dm db dc dp : Nat) (L : Bool → Bool → Bool → Bool → Bool → Bool → Bool → Array Bool) (a : Act) (w : World) (vs : List Value) (k ad m cc B f : Nat) (vG : Value) (hvG : vG = .slice (some ⟨ad, 0, none⟩) m cc) (xa xb xc xd xs xp : Operand) (cur : Array Value) (c' : Value → Array Value) (TB : TypeId) (w00 : World) (wb : Nat)
    (gtl : ops[il]? = some ol) (gta : ops[ia]? = some oa) (gtm : ops[im]? = some om) (gtb : ops[ib]? = some ob) (gtc : ops[ic]? = some oc) (gtp : ops[ip]? = some op) (gts : ops[is]? = some os)
    (gdl : ol.guard = none) (gda : oa.guard = none) (gdm : om.guard = none) (gdb : ob.guard = none) (gdc : oc.guard = none) (gdp : op.guard = none) (gds : os.guard = none)
    (el : ol.dst = some dl) (ea : oa.dst = some da) (em : om.dst = some dm) (eb : ob.dst = some db) (ec : oc.dst = some dc) (ep : op.dst = some dp) (es : os.dst = none)
    (dlm : dl ≠ dm) (dlb : dl ≠ db) (dam : da ≠ dm) (dab : da ≠ db)
    (stl : ∀ x y z u v q, (L false x y z u v q).setIfInBounds il true = L true x y z u v q) (sta : ∀ x y z u v q, (L x false y z u v q).setIfInBounds ia true = L x true y z u v q) (stm : ∀ x y z u v q, (L x y false z u v q).setIfInBounds im true = L x y true z u v q) (stb : ∀ x y z u v q, (L x y z false u v q).setIfInBounds ib true = L x y z true u v q) (stc : ∀ x y z u v q, (L x y z u false v q).setIfInBounds ic true = L x y z u true v q) (stp : ∀ x y z u v q, (L x y z u v false q).setIfInBounds ip true = L x y z u v true q) (sts : ∀ x y z u v q, (L x y z u v q false).setIfInBounds is true = L x y z u v q true)
    (rclambcp : Region.ready .any ops (L true true true true true true false) = [is])
    (rclambc : Region.ready .any ops (L true true true true true false false) = [ip])
    (rclamb : Region.ready .any ops (L true true true true false false false) = [ic])
    (rclam : Region.ready .any ops (L true true true false false false false) = [ib])
    (rcla : Region.ready .any ops (L true true false false false false false) = [im])
    (rclmb : Region.ready .any ops (L true false true true false false false) = [ia])
    (rclm : Region.ready .any ops (L true false true false false false false) = [ia, ib])
    (rcl : Region.ready .any ops (L true false false false false false false) = [ia, im])
    (rcmb : Region.ready .any ops (L false false true true false false false) = [il])
    (rcm : Region.ready .any ops (L false false true false false false false) = [il, ib])
    (rcN : Region.ready .any ops (L false false false false false false false) = [il, im])
    (rE : Region.ready .any ops (L true true true true true true true) = [])
    (exl_cN : ∀ (v1 : Value) (gm gb : Nat) (W : World), Below w.heap.size w W → (execOp a.eval ol).run Tryd.prog W = .ok (.value vG) W)
    (exl_cm : ∀ (v1 : Value) (gm gb : Nat) (W : World), Below w.heap.size w W → (execOp (a.put (some dm) (.slice (some ⟨gm, 0, none⟩) k k)).eval ol).run Tryd.prog W = .ok (.value vG) W)
    (exl_cmb : ∀ (v1 : Value) (gm gb : Nat) (W : World), Below w.heap.size w W → (execOp ((a.put (some dm) (.slice (some ⟨gm, 0, none⟩) k k)).put (some db) (.slice (some ⟨gb, 0, none⟩) 1 1)).eval ol).run Tryd.prog W = .ok (.value vG) W)
    (opa : oa.op = .call { callee := .builtin .append, args := #[xa, xb], argTypes := #[40, 40] })
    (ev_cl : ∀ (v1 : Value) (gm gb : Nat), (a.put (some dl) vG).eval xa = .slice none 0 0 ∧ (a.put (some dl) vG).eval xb = vG)
    (ev_clm : ∀ (v1 : Value) (gm gb : Nat), ((a.put (some dl) vG).put (some dm) (.slice (some ⟨gm, 0, none⟩) k k)).eval xa = .slice none 0 0 ∧ ((a.put (some dl) vG).put (some dm) (.slice (some ⟨gm, 0, none⟩) k k)).eval xb = vG)
    (ev_clmb : ∀ (v1 : Value) (gm gb : Nat), (((a.put (some dl) vG).put (some dm) (.slice (some ⟨gm, 0, none⟩) k k)).put (some db) (.slice (some ⟨gb, 0, none⟩) 1 1)).eval xa = .slice none 0 0 ∧ (((a.put (some dl) vG).put (some dm) (.slice (some ⟨gm, 0, none⟩) k k)).put (some db) (.slice (some ⟨gb, 0, none⟩) 1 1)).eval xb = vG)
    (exm_cN : ∀ (v1 : Value) (gm gb : Nat) (W : World), (execOp a.eval om).run Tryd.prog W = .ok (.value (.slice (some ⟨W.heap.size, 0, none⟩) k k)) (W.alloc (.cells (flN k) 29)))
    (exm_cl : ∀ (v1 : Value) (gm gb : Nat) (W : World), (execOp (a.put (some dl) vG).eval om).run Tryd.prog W = .ok (.value (.slice (some ⟨W.heap.size, 0, none⟩) k k)) (W.alloc (.cells (flN k) 29)))
    (exm_cla : ∀ (v1 : Value) (gm gb : Nat) (W : World), (execOp ((a.put (some dl) vG).put (some da) v1).eval om).run Tryd.prog W = .ok (.value (.slice (some ⟨W.heap.size, 0, none⟩) k k)) (W.alloc (.cells (flN k) 29)))
    (exb_cm : ∀ (v1 : Value) (gm gb : Nat) (W : World), (execOp (a.put (some dm) (.slice (some ⟨gm, 0, none⟩) k k)).eval ob).run Tryd.prog W = .ok (.value (.slice (some ⟨W.heap.size, 0, none⟩) 1 1)) (W.alloc (.cells #[.slice (some ⟨gm, 0, none⟩) k k] 30)))
    (exb_clm : ∀ (v1 : Value) (gm gb : Nat) (W : World), (execOp ((a.put (some dl) vG).put (some dm) (.slice (some ⟨gm, 0, none⟩) k k)).eval ob).run Tryd.prog W = .ok (.value (.slice (some ⟨W.heap.size, 0, none⟩) 1 1)) (W.alloc (.cells #[.slice (some ⟨gm, 0, none⟩) k k] 30)))
    (exb_clam : ∀ (v1 : Value) (gm gb : Nat) (W : World), (execOp (((a.put (some dl) vG).put (some da) v1).put (some dm) (.slice (some ⟨gm, 0, none⟩) k k)).eval ob).run Tryd.prog W = .ok (.value (.slice (some ⟨W.heap.size, 0, none⟩) 1 1)) (W.alloc (.cells #[.slice (some ⟨gm, 0, none⟩) k k] 30)))
    (opc : oc.op = .call { callee := .builtin .append, args := #[xc, xd], argTypes := #[40, 40] }) (evc : ∀ (v1 : Value) (gm gb : Nat), ((((a.put (some dl) vG).put (some da) v1).put (some dm) (.slice (some ⟨gm, 0, none⟩) k k)).put (some db) (.slice (some ⟨gb, 0, none⟩) 1 1)).eval xc = v1 ∧ ((((a.put (some dl) vG).put (some da) v1).put (some dm) (.slice (some ⟨gm, 0, none⟩) k k)).put (some db) (.slice (some ⟨gb, 0, none⟩) 1 1)).eval xd = .slice (some ⟨gb, 0, none⟩) 1 1)
    (ops' : os.op = .store 40 xs xp) (evs : ∀ (v1 v2 : Value) (gm gb : Nat), ((((((a.put (some dl) vG).put (some da) v1).put (some dm) (.slice (some ⟨gm, 0, none⟩) k k)).put (some db) (.slice (some ⟨gb, 0, none⟩) 1 1)).put (some dc) v2).put (some dp) (.pointer (some ⟨B, f, none⟩))).eval xs = .pointer (some ⟨B, f, none⟩) ∧ ((((((a.put (some dl) vG).put (some da) v1).put (some dm) (.slice (some ⟨gm, 0, none⟩) k k)).put (some db) (.slice (some ⟨gb, 0, none⟩) 1 1)).put (some dc) v2).put (some dp) (.pointer (some ⟨B, f, none⟩))).eval xp = v2)
    (exp_ : ∀ (v1 v2 : Value) (gm gb : Nat) (W : World), (execOp (((((a.put (some dl) vG).put (some da) v1).put (some dm) (.slice (some ⟨gm, 0, none⟩) k k)).put (some db) (.slice (some ⟨gb, 0, none⟩) 1 1)).put (some dc) v2).eval op).run Tryd.prog W = .ok (.value (.pointer (some ⟨B, f, none⟩))) W)
    (hvs : vs.length = m) (hm : m ≤ 1000) (hnews : ∀ j u, vs[j]? = some u → w.cell? ((⟨ad, 0, none⟩ : Addr).add j) = some u) (had : ad < w.heap.size) (hone : ∀ u ∈ vs, u.oneCell' = true)
    (hcur : w.heap[B]? = some (.cells cur TB)) (hTB : 30 ≠ TB) (hTB2 : 29 ≠ TB) (hf : f + 1 ≤ cur.size) (hc' : ∀ v : Value, v.cells = #[v] → (cur.toList.take f ++ v.cells.toList ++ cur.toList.drop (f + 1)).toArray = c' v)
    (hw00 : Below wb w00 w) (hwb : wb ≤ B) (hwb2 : wb ≤ w.heap.size)
    (hQ : ∀ (W : World) (v1 v2 : Value) (gm gb : Nat), Below wb w00 W → W.ownsRow w.heap.size 30 1 v2 (vs ++ [Value.slice (some ⟨gm, 0, none⟩) k k]).length (vs ++ [Value.slice (some ⟨gm, 0, none⟩) k k]) → W.heap[gm]? = some (.cells (flN k) 29) → W.heap[B]? = some (.cells (c' v2) TB) → (∀ j, j < w.heap.size → j ≠ B → W.heap[j]? = w.heap[j]?) → Q .normal ((((((a.put (some dl) vG).put (some da) v1).put (some dm) (.slice (some ⟨gm, 0, none⟩) k k)).put (some db) (.slice (some ⟨gb, 0, none⟩) 1 1)).put (some dc) v2).put (some dp) (.pointer (some ⟨B, f, none⟩))) W)
    (w0 : World) (hw0 : Below w.heap.size w w0) : wpAny Tryd.prog .any ops Q 7 (L false false false false false false false) a w0 := by
  have clambcp : ∀ (W : World) (v1 : Value) (gb : Nat) (v2 : Value) (gm : Nat), Below w.heap.size w W → (W.ownsRow w.heap.size 30 1 v2 (vs ++ [Value.slice (some ⟨gm, 0, none⟩) k k]).length (vs ++ [Value.slice (some ⟨gm, 0, none⟩) k k])) → (W.heap[gm]? = some (.cells (flN k) 29)) → wpAny Tryd.prog .any ops Q 1 (L true true true true true true false) ((((((a.put (some dl) vG).put (some da) v1).put (some dm) (.slice (some ⟨gm, 0, none⟩) k k)).put (some db) (.slice (some ⟨gb, 0, none⟩) 1 1)).put (some dc) v2).put (some dp) (.pointer (some ⟨B, f, none⟩))) W := by
    intro W v1 gb v2 gm hb HC HM
    refine wpAny_ready (rs := [is]) rclambcp (by simp) ?_
    refine (ready_one gts (L true true true true true true true) (sts _ _ _ _ _ _) ?_ AllReady.nil)
    · have hBW : W.heap[B]? = some (.cells cur TB) := (hb.block B (blk_lt hcur)).trans hcur
      refine wpList_store_at gds 40 xs xp ops' w00 wb B f v2 cur (c' v2) TB (evs v1 v2 gm gb).1 (evs v1 v2 gm gb).2 hBW (hw00.trans (hb.mono hwb2)) hwb 1 Tryd.infoFsS (by rw [(own_val HC).2]; rfl) hf (by intro u hu; rw [(own_val HC).2] at hu; simp at hu; subst hu; exact (own_val HC).1) (hc' v2 (own_val HC).2) ?_
      intro W2 k2 b2 z2 t2
      rw [es, put_none]
      refine wpAny_done rE ?_ _
      exact hQ W2 v1 v2 gm gb b2 (own_kp HC fun j hj => t2 j fun e => ne_own HC hBW hTB (e ▸ hj)) ((t2 gm fun e => by subst e; rw [HM] at hBW; simp only [Option.some.injEq, Obj.cells.injEq] at hBW; exact hTB2 hBW.2.1).trans HM) k2 (fun j hj hne => (t2 j hne).trans (hb.block j hj))
  have clambc : ∀ (W : World) (v1 : Value) (gb : Nat) (v2 : Value) (gm : Nat), Below w.heap.size w W → (W.ownsRow w.heap.size 30 1 v2 (vs ++ [Value.slice (some ⟨gm, 0, none⟩) k k]).length (vs ++ [Value.slice (some ⟨gm, 0, none⟩) k k])) → (W.heap[gm]? = some (.cells (flN k) 29)) → wpAny Tryd.prog .any ops Q 2 (L true true true true true false false) (((((a.put (some dl) vG).put (some da) v1).put (some dm) (.slice (some ⟨gm, 0, none⟩) k k)).put (some db) (.slice (some ⟨gb, 0, none⟩) 1 1)).put (some dc) v2) W := by
    intro W v1 gb v2 gm hb HC HM
    refine wpAny_ready (rs := [ip]) rclambc (by simp) ?_
    refine (ready_one gtp (L true true true true true true false) (stp _ _ _ _ _ _) ?_ AllReady.nil)
    · refine wpl_value gdp (exp_ v1 v2 gm gb W) ?_
      rw [ep]
      exact clambcp W v1 gb v2 gm hb HC HM
  have clamb : ∀ (W : World) (v1 : Value) (gm : Nat) (gb : Nat), Below w.heap.size w W → (W.ownsRow w.heap.size 30 1 v1 vs.length vs) → (W.heap[gm]? = some (.cells (flN k) 29)) → (W.heap[gb]? = some (.cells #[.slice (some ⟨gm, 0, none⟩) k k] 30)) → wpAny Tryd.prog .any ops Q 3 (L true true true true false false false) ((((a.put (some dl) vG).put (some da) v1).put (some dm) (.slice (some ⟨gm, 0, none⟩) k k)).put (some db) (.slice (some ⟨gb, 0, none⟩) 1 1)) W := by
    intro W v1 gm gb hb HA HM HG
    refine wpAny_ready (rs := [ic]) rclamb (by simp) ?_
    refine (ready_one gtc (L true true true true true false false) (stc _ _ _ _ _ _) ?_ AllReady.nil)
    · refine appendG Tryd.underlying40 Tryd.infoFs rfl (by decide) W gdc xc xd opc w.heap.size v1 vs (evc v1 gm gb).1 HA ⟨gb, 0, none⟩ 1 1 [Value.slice (some ⟨gm, 0, none⟩) k k] (evc v1 gm gb).2 rfl (fun j u hu => ?_) (by intro u hu; simp at hu; subst hu; rfl) (by omega) hb.size ?_
      · match j, hu with
        | 0, hu =>
          simp only [List.getElem?_cons_zero, Option.some.injEq] at hu
          subst hu
          rw [Addr.add_lit, cell_of_row _ gb _ _ _ _ HG]
          rfl
      · intro v2 w' o2 t2 b2
        rw [ec]
        exact clambc w' v1 gb v2 gm (hb.trans b2) o2 ((t2 _ (blk_lt HM) (ne_own HA HM (by decide))).trans HM)
  have clam : ∀ (W : World) (v1 : Value) (gm : Nat), Below w.heap.size w W → (W.ownsRow w.heap.size 30 1 v1 vs.length vs) → (W.heap[gm]? = some (.cells (flN k) 29)) → wpAny Tryd.prog .any ops Q 4 (L true true true false false false false) (((a.put (some dl) vG).put (some da) v1).put (some dm) (.slice (some ⟨gm, 0, none⟩) k k)) W := by
    intro W v1 gm hb HA HM
    refine wpAny_ready (rs := [ib]) rclam (by simp) ?_
    refine (ready_one gtb (L true true true true false false false) (stb _ _ _ _ _ _) ?_ AllReady.nil)
    · refine wpl_value gdb (exb_clam v1 gm 0 W) ?_
      rw [eb]
      exact clamb _ v1 gm W.heap.size (hb.alloc hb.size _) (World.ownsRow.alloc HA _) (alloc_kept HM _) (heap_alloc_new W _)
  have cla : ∀ (W : World) (v1 : Value), Below w.heap.size w W → (W.ownsRow w.heap.size 30 1 v1 vs.length vs) → wpAny Tryd.prog .any ops Q 5 (L true true false false false false false) ((a.put (some dl) vG).put (some da) v1) W := by
    intro W v1 hb HA
    refine wpAny_ready (rs := [im]) rcla (by simp) ?_
    refine (ready_one gtm (L true true true false false false false) (stm _ _ _ _ _ _) ?_ AllReady.nil)
    · refine wpl_value gdm (exm_cla v1 0 0 W) ?_
      rw [em]
      exact clam _ v1 W.heap.size (hb.alloc hb.size _) (World.ownsRow.alloc HA _) (heap_alloc_new W _)
  have clmb : ∀ (W : World) (gm : Nat) (gb : Nat), Below w.heap.size w W → (W.heap[gm]? = some (.cells (flN k) 29)) → (W.heap[gb]? = some (.cells #[.slice (some ⟨gm, 0, none⟩) k k] 30)) → wpAny Tryd.prog .any ops Q 4 (L true false true true false false false) (((a.put (some dl) vG).put (some dm) (.slice (some ⟨gm, 0, none⟩) k k)).put (some db) (.slice (some ⟨gb, 0, none⟩) 1 1)) W := by
    intro W gm gb hb HM HG
    refine wpAny_ready (rs := [ia]) rclmb (by simp) ?_
    refine (ready_one gta (L true true true true false false false) (sta _ _ _ _ _ _) ?_ AllReady.nil)
    · refine appendG Tryd.underlying40 Tryd.infoFs rfl (by decide) W gda xa xb opa w.heap.size (.slice none 0 0) [] (ev_clmb undef gm gb).1 (World.ownsRow_nil W _ _ 1) ⟨ad, 0, none⟩ m cc vs ((ev_clmb undef gm gb).2.trans hvG) hvs (fun j u hu => by rw [Addr.add_lit, hb.cell (p := ⟨ad, 0 + j, none⟩) had, ← Addr.add_lit]; exact hnews j u hu) hone (by simp; omega) hb.size ?_
      intro v1 w' o1 t1 b1
      rw [ea]
      rw [put_comm _ db da _ _ dab.symm]
      rw [put_comm _ dm da _ _ dam.symm]
      exact clamb w' v1 gm gb (hb.trans b1) o1 ((t1 _ (blk_lt HM) (by simp [Value.ownBlock])).trans HM) ((t1 _ (blk_lt HG) (by simp [Value.ownBlock])).trans HG)
  have clm : ∀ (W : World) (gm : Nat), Below w.heap.size w W → (W.heap[gm]? = some (.cells (flN k) 29)) → wpAny Tryd.prog .any ops Q 5 (L true false true false false false false) ((a.put (some dl) vG).put (some dm) (.slice (some ⟨gm, 0, none⟩) k k)) W := by
    intro W gm hb HM
    refine wpAny_ready (rs := [ia, ib]) rclm (by simp) ?_
    refine (ready_one gta (L true true true false false false false) (sta _ _ _ _ _ _) ?_ (ready_one gtb (L true false true true false false false) (stb _ _ _ _ _ _) ?_ AllReady.nil))
    · refine appendG Tryd.underlying40 Tryd.infoFs rfl (by decide) W gda xa xb opa w.heap.size (.slice none 0 0) [] (ev_clm undef gm 0).1 (World.ownsRow_nil W _ _ 1) ⟨ad, 0, none⟩ m cc vs ((ev_clm undef gm 0).2.trans hvG) hvs (fun j u hu => by rw [Addr.add_lit, hb.cell (p := ⟨ad, 0 + j, none⟩) had, ← Addr.add_lit]; exact hnews j u hu) hone (by simp; omega) hb.size ?_
      intro v1 w' o1 t1 b1
      rw [ea]
      rw [put_comm _ dm da _ _ dam.symm]
      exact clam w' v1 gm (hb.trans b1) o1 ((t1 _ (blk_lt HM) (by simp [Value.ownBlock])).trans HM)
    · refine wpl_value gdb (exb_clm undef gm 0 W) ?_
      rw [eb]
      exact clmb _ gm W.heap.size (hb.alloc hb.size _) (alloc_kept HM _) (heap_alloc_new W _)
  have cl : ∀ (W : World) , Below w.heap.size w W → wpAny Tryd.prog .any ops Q 6 (L true false false false false false false) (a.put (some dl) vG) W := by
    intro W  hb 
    refine wpAny_ready (rs := [ia, im]) rcl (by simp) ?_
    refine (ready_one gta (L true true false false false false false) (sta _ _ _ _ _ _) ?_ (ready_one gtm (L true false true false false false false) (stm _ _ _ _ _ _) ?_ AllReady.nil))
    · refine appendG Tryd.underlying40 Tryd.infoFs rfl (by decide) W gda xa xb opa w.heap.size (.slice none 0 0) [] (ev_cl undef 0 0).1 (World.ownsRow_nil W _ _ 1) ⟨ad, 0, none⟩ m cc vs ((ev_cl undef 0 0).2.trans hvG) hvs (fun j u hu => by rw [Addr.add_lit, hb.cell (p := ⟨ad, 0 + j, none⟩) had, ← Addr.add_lit]; exact hnews j u hu) hone (by simp; omega) hb.size ?_
      intro v1 w' o1 t1 b1
      rw [ea]
      exact cla w' v1 (hb.trans b1) o1
    · refine wpl_value gdm (exm_cl undef 0 0 W) ?_
      rw [em]
      exact clm _ W.heap.size (hb.alloc hb.size _) (heap_alloc_new W _)
  have cmb : ∀ (W : World) (gm : Nat) (gb : Nat), Below w.heap.size w W → (W.heap[gm]? = some (.cells (flN k) 29)) → (W.heap[gb]? = some (.cells #[.slice (some ⟨gm, 0, none⟩) k k] 30)) → wpAny Tryd.prog .any ops Q 5 (L false false true true false false false) ((a.put (some dm) (.slice (some ⟨gm, 0, none⟩) k k)).put (some db) (.slice (some ⟨gb, 0, none⟩) 1 1)) W := by
    intro W gm gb hb HM HG
    refine wpAny_ready (rs := [il]) rcmb (by simp) ?_
    refine (ready_one gtl (L true false true true false false false) (stl _ _ _ _ _ _) ?_ AllReady.nil)
    · refine wpl_value gdl (exl_cmb undef gm gb W hb) ?_
      rw [el]
      rw [put_comm _ db dl _ _ dlb.symm]
      rw [put_comm _ dm dl _ _ dlm.symm]
      exact clmb W gm gb hb HM HG
  have cm : ∀ (W : World) (gm : Nat), Below w.heap.size w W → (W.heap[gm]? = some (.cells (flN k) 29)) → wpAny Tryd.prog .any ops Q 6 (L false false true false false false false) (a.put (some dm) (.slice (some ⟨gm, 0, none⟩) k k)) W := by
    intro W gm hb HM
    refine wpAny_ready (rs := [il, ib]) rcm (by simp) ?_
    refine (ready_one gtl (L true false true false false false false) (stl _ _ _ _ _ _) ?_ (ready_one gtb (L false false true true false false false) (stb _ _ _ _ _ _) ?_ AllReady.nil))
    · refine wpl_value gdl (exl_cm undef gm 0 W hb) ?_
      rw [el]
      rw [put_comm _ dm dl _ _ dlm.symm]
      exact clm W gm hb HM
    · refine wpl_value gdb (exb_cm undef gm 0 W) ?_
      rw [eb]
      exact cmb _ gm W.heap.size (hb.alloc hb.size _) (alloc_kept HM _) (heap_alloc_new W _)
  have cN : ∀ (W : World) , Below w.heap.size w W → wpAny Tryd.prog .any ops Q 7 (L false false false false false false false) a W := by
    intro W  hb 
    refine wpAny_ready (rs := [il, im]) rcN (by simp) ?_
    refine (ready_one gtl (L true false false false false false false) (stl _ _ _ _ _ _) ?_ (ready_one gtm (L false false true false false false false) (stm _ _ _ _ _ _) ?_ AllReady.nil))
    · refine wpl_value gdl (exl_cN undef 0 0 W hb) ?_
      rw [el]
      exact cl W  hb 
    · refine wpl_value gdm (exm_cN undef 0 0 W) ?_
      rw [em]
      exact cm _ W.heap.size (hb.alloc hb.size _) (heap_alloc_new W _)
  exact cN w0 hw0
end Go.Proofs.YtogpkigpnflaoaaDoor
