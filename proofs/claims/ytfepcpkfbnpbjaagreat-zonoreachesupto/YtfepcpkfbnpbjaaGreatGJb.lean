import Derived.Test.YtfepcpkfbnpbjaaGreatGJa
import Derived.Test.YtfepcpkfbnpbjaaGreatMY
import Derived.Laws.MakeOwn
namespace Go.Proofs.YtfepcpkfbnpbjaaGreat
open Go.RowKit
set_option linter.unusedVariables false
set_option linter.unusedSimpArgs false

/-- The sum of the first k products. -/
def dotK (us vs : List Nat) : Nat → Option Int
  | 0 => some 0
  | k + 1 => prodO (dotK us vs k) (us[k]?.getD 0) (vs[k]?.getD 0) 0
theorem cell_heapJ {w w' : World} {b : Nat} (h : w'.heap[b]? = w.heap[b]?) (o : Nat) : w'.cell? ⟨b, o, none⟩ = w.cell? ⟨b, o, none⟩ := by unfold World.cell?; simp only [h]
set_option maxRecDepth 100000 in
set_option maxHeartbeats 2000000 in
theorem dot_any (ao bo : Option Addr) (len cap blen bcap : Nat) (us vs : List Nat) (hle : len ≤ blen) (w : World) (h : RdF w ao len cap us) (h' : RdF w bo blen bcap vs) :
    Calls Tryz.prog 23 #[.slice ao len cap, .slice bo blen bcap] w fun e w' => e = .returned (.pointer (some ⟨w.heap.size, 0, none⟩)) ∧ AccO w' w.heap.size (dotK us vs len) ∧ Below w.heap.size w w' ∧ w.heap.size < w'.heap.size := by
  have HR : Hid _ := And.intro h h'
  have hmx : len ≤ 9223372036854775807 := Nat.le_trans h.max maxLen_le
  have HLN : Hid (us.length = len ∧ vs.length = blen) := ⟨h.length, h'.length⟩
  clear h h'
  go_enter Tryz.func23, Tryz.ntmps23
  go_wp2_with fail
  refine (new_any _).mono ?_
  rintro e w1 ⟨rfl, a1, b1, s1⟩
  have HA1 : Hid _ := a1
  have HB1 : Hid _ := b1
  have HS1 : Hid (w.heap.size < w1.heap.size) := by unfold Hid; omega
  clear a1 b1 s1
  go_wp2_with fail
  go_loopg [10] len (fun g iv wx => ∃ k : Nat, iv = .int .i64 k ∧ k + g = len ∧ Hid (AccO wx w.heap.size (dotK us vs k)) ∧ Hid (Below w.heap.size w wx) ∧ Hid (w.heap.size < wx.heap.size))
  case atStart => exact ⟨0, rfl, by omega, HA1, HB1, HS1⟩
  case round =>
    clear HA1 HB1 HS1
    obtain ⟨k, rfl, hk, HA, HB, HS⟩ := hrel
    by_cases hlt : k < len
    · have hd : decide ((k : Int) < (len : Int)) = true := decide_eq_true (by omega)
      obtain ⟨g, rfl⟩ : ∃ g, gk = g + 1 := ⟨gk - 1, by omega⟩
      rcases (HR.out.1.later HB.out).cells with h0 | ⟨ab, aoff, rfl, hca⟩
      · omega
      rcases (HR.out.2.later HB.out).cells with h0 | ⟨bb, boff, rfl, hcb⟩
      · omega
      have ga := hca k hlt
      have gb := hcb k (by omega)
      have hax := HR.out.1.lt _ (getD_mem (us := us) (j := k) (by rw [HLN.out.1]; exact hlt))
      have hbx := HR.out.2.lt _ (getD_mem (us := vs) (j := k) (by rw [HLN.out.2]; omega))
      have HD : Hid (dotK us vs (k + 1) = prodO (dotK us vs k) (us[k]?.getD 0) (vs[k]?.getD 0) 0) := rfl
      have HAB : Hid (ab < w.heap.size ∧ bb < w.heap.size) := by
        constructor
        · rcases HR.out.1.cells with h0 | ⟨b, off, e, hc⟩
          · omega
          · cases e; exact World.block_lt_of_cell? w _ (hc k hlt)
        · rcases HR.out.2.cells with h0 | ⟨b, off, e, hc⟩
          · omega
          · cases e; exact World.block_lt_of_cell? w _ (hc k (by omega))
      obtain ⟨x, hx⟩ : ∃ x, us[k]?.getD 0 = x := ⟨_, rfl⟩
      obtain ⟨y, hy⟩ : ∃ y, vs[k]?.getD 0 = y := ⟨_, rfl⟩
      rw [hx, hy] at HD
      rw [hx] at ga hax
      rw [hy] at gb hbx
      have HIG : Hid (k + (g + 1) = len) := hk
      have hlt2 : k < blen := by omega
      clear hca hcb hx hy hk
      go_upto_region 5 with fail
      have hS : (fun w' => w'.cell? ⟨ab, aoff + k, none⟩ = some (.float .f64 x) ∧ w'.cell? ⟨bb, boff + k, none⟩ = some (.float .f64 y)) wr.drew := ⟨ga, gb⟩
      refine wp_region_noPanic ?_
      refine wp_region_held_drew (S := (fun w' => w'.cell? ⟨ab, aoff + k, none⟩ = some (.float .f64 x) ∧ w'.cell? ⟨bb, boff + k, none⟩ = some (.float .f64 y))) (by kernel_rfl) hS (fun _ => ?_)
      refine takeH 13 (i := 0) (v := ?_) rfl rfl (by kernel_rfl) (by kernel_rfl) (by kernel_rfl) (fun _ _ _ h => h) (Or.inl ⟨by kernel_rfl, ?_⟩) (by assumption) ?_
      rotate_left
      · intro w' hSw; (try dsimp only at hSw); go_simp; try with_reducible rfl
      try simp only [Act.put, List.setIfInBounds_toArray, List.set_cons_zero, List.set_cons_succ]
      refine takeH 14 (i := 1) (v := ?_) rfl rfl (by kernel_rfl) (by kernel_rfl) (by kernel_rfl) (fun _ _ _ h => h) (Or.inl ⟨by kernel_rfl, ?_⟩) (by assumption) ?_
      rotate_left
      · intro w' hSw; (try dsimp only at hSw); go_simp; try with_reducible rfl
      try simp only [Act.put, List.setIfInBounds_toArray, List.set_cons_zero, List.set_cons_succ]
      refine takeH 15 (i := 2) (v := ?_) rfl rfl (by kernel_rfl) (by kernel_rfl) (by kernel_rfl) (fun _ _ _ h => h) (Or.inl ⟨by kernel_rfl, ?_⟩) (by assumption) ?_
      rotate_left
      · intro w' hSw; (try dsimp only at hSw); go_simp; try with_reducible rfl
      try simp only [Act.put, List.setIfInBounds_toArray, List.set_cons_zero, List.set_cons_succ]
      refine takeH 16 (i := 3) (v := ?_) rfl rfl (by kernel_rfl) (by kernel_rfl) (by kernel_rfl) (fun _ _ _ h => h) (Or.inl ⟨by kernel_rfl, ?_⟩) (by assumption) ?_
      rotate_left
      · intro w' hSw; (try dsimp only at hSw); go_simp; try with_reducible rfl
      try simp only [Act.put, List.setIfInBounds_toArray, List.set_cons_zero, List.set_cons_succ]
      refine takeH 17 (i := 4) (v := ?_) rfl rfl (by kernel_rfl) (by kernel_rfl) (by kernel_rfl) (fun _ _ _ h => h) (Or.inl ⟨by kernel_rfl, ?_⟩) (by assumption) ?_
      rotate_left
      · intro w' hSw; (try dsimp only at hSw); go_simp; try with_reducible rfl
      try simp only [Act.put, List.setIfInBounds_toArray, List.set_cons_zero, List.set_cons_succ]
      refine takeH 18 (i := 5) (v := ?_) rfl rfl (by kernel_rfl) (by kernel_rfl) (by kernel_rfl) (fun _ _ _ h => h) (Or.inl ⟨by kernel_rfl, ?_⟩) (by assumption) ?_
      rotate_left
      · intro w' hSw; (try dsimp only at hSw); go_simp; try with_reducible rfl
      try simp only [Act.put, List.setIfInBounds_toArray, List.set_cons_zero, List.set_cons_succ]
      refine takeH 19 (i := 6) (v := ?_) rfl rfl (by kernel_rfl) (by kernel_rfl) (by kernel_rfl) (fun _ _ _ h => h) (Or.inl ⟨by kernel_rfl, ?_⟩) (by assumption) ?_
      rotate_left
      · intro w' hSw; (try dsimp only at hSw); go_simp; try with_reducible rfl
      try simp only [Act.put, List.setIfInBounds_toArray, List.set_cons_zero, List.set_cons_succ]
      refine takeH 20 (i := 7) (v := ?_) rfl rfl (by kernel_rfl) (by kernel_rfl) (by kernel_rfl) (fun _ _ _ h => h) (Or.inl ⟨by kernel_rfl, ?_⟩) (by assumption) ?_
      rotate_left
      · intro w' hSw; (try dsimp only at hSw); go_simp; try with_reducible rfl
      try simp only [Act.put, List.setIfInBounds_toArray, List.set_cons_zero, List.set_cons_succ]
      refine takeH 21 (i := 8) (v := ?_) rfl rfl (by kernel_rfl) (by kernel_rfl) (by kernel_rfl) (fun _ _ _ h => h) (Or.inl ⟨by kernel_rfl, ?_⟩) (by assumption) ?_
      rotate_left
      · intro w' hSw; (try dsimp only at hSw); go_simp; try with_reducible rfl
      try simp only [Act.put, List.setIfInBounds_toArray, List.set_cons_zero, List.set_cons_succ]
      refine wpAnyH_ready (rs := [9]) (by kernel_rfl) (by simp) ?_
      refine consH _ rfl (hopCd 22 rfl (by kernel_rfl) rfl (by kernel_rfl) (Calls.mono (accProd_any w.heap.size _ x y 0 hax hbx _ (HA.out.drew)) ?_)) AllReadyH.nil
      rintro e w5 ⟨rfl, a5, c5⟩
      have hS5 : (fun w' => w'.cell? ⟨ab, aoff + k, none⟩ = some (.float .f64 x) ∧ w'.cell? ⟨bb, boff + k, none⟩ = some (.float .f64 y)) w5 := ⟨(cell_heapJ (c5.other _ (Nat.lt_of_lt_of_le HAB.out.1 HB.out.size) (Nat.ne_of_lt HAB.out.1)) _).trans ga, (cell_heapJ (c5.other _ (Nat.lt_of_lt_of_le HAB.out.2 HB.out.size) (Nat.ne_of_lt HAB.out.2)) _).trans gb⟩
      refine ⟨_, rfl, hS5, ?_⟩
      try simp only [Act.put, List.setIfInBounds_toArray, List.set_cons_zero, List.set_cons_succ]
      refine wpAnyH_done (by kernel_rfl) ?_ _
      refine NoPanic.normal ?_
      try simp only [Act.put, List.setIfInBounds_toArray, List.set_cons_zero, List.set_cons_succ]
      have HA5 : Hid (AccO w5 w.heap.size (dotK us vs (k + 1))) := by unfold Hid; rw [HD.out]; exact a5
      have HB5 : Hid (Below w.heap.size w w5) := HB.out.drew.trans c5.below
      have HS5 : Hid (w.heap.size < w5.heap.size) := Nat.lt_of_lt_of_le HS.out c5.below.size
      clear hS hS5 a5 c5 ga gb hax hbx HAB HD
      go_wp2_with fail
      go_roundg g
      case measure => omega
      case rel => exact ⟨k + 1, by go_num, by have := HIG.out; omega, HA5, HB5, HS5⟩
    · have hd : decide ((k : Int) < (len : Int)) = false := decide_eq_false (by omega)
      have hd' : decide (k < len) = false := decide_eq_false (by omega)
      have HA2 : Hid (AccO wr w.heap.size (dotK us vs len)) := by have e : k = len := by omega
                                                                  exact e ▸ HA.out
      go_wp2_with fail
      go_ret
      exact ⟨rfl, HA2.out, HB.out, HS.out⟩
end Go.Proofs.YtfepcpkfbnpbjaaGreat


namespace Go.Proofs.YtfepcpkfbnpbjaaGreat
open Go.RowKit Go.Shelf
set_option linter.unusedVariables false
set_option linter.unusedSimpArgs false
attribute [local go_sem] Oper.semAt_some

theorem columns_any (v : Array Value) (hv : v.size = 6) (w : World) : Calls Tryz.prog 24 #[.agg v] w fun e w' => e = .returned (.func (.func 51) #[] #[.pointer (some ⟨w.heap.size, 0, none⟩)]) ∧ w' = w.alloc (.cells v 26) := callsIn_wide.1 (columns_in Fence.wide 3 trivial rfl v hv w)
theorem res_tmp2J (f : Func) (i j : Nat) (hf : f.results = #[ResultVar.tmp i, ResultVar.tmp j]) (tmps : Array Value) (W : World) (a b : Value) (h1 : tmps[i]? = some a) (h2 : tmps[j]? = some b) : (results f tmps).run Tryz.prog W = .ok (.tuple #[a, b]) W := by
  simp [results, hf, h1, h2]
theorem heap_keptJ {W W' : World} {row : Option Nat} {b : Nat} {c : Array Value} {t : TypeId} (h : W.heap[b]? = some (.cells c t)) (hg : W.grownBy W' row) (hr : ∀ r, row = some r → ∃ o, W.heap[r]? = some o ∧ o.isCells = false) : W'.heap[b]? = some (.cells c t) := by
  rw [hg.block b (blk_lt h) ?_]
  · exact h
  · intro e
    obtain ⟨o, ho, hc⟩ := hr b e.symm
    rw [h] at ho
    cases ho
    cases hc
theorem AccO.obj {w : World} {B : Nat} {o : Option Int} (h : AccO w B o) : ∃ x, w.heap[B]? = some x ∧ x.isCells = true := by
  have hc := h.cell
  unfold World.cell? at hc
  cases hx : w.heap[B]? with
  | none => rw [hx] at hc; cases hc
  | some x =>
    refine ⟨x, rfl, ?_⟩
    rw [hx] at hc
    cases x <;> first | rfl | (simp at hc)
theorem AccO.keptJ {W W' : World} {row : Option Nat} {B : Nat} {o : Option Int} (h : AccO W B o) (hg : W.grownBy W' row) (hr : ∀ r, row = some r → ∃ o, W.heap[r]? = some o ∧ o.isCells = false) : AccO W' B o := by
  refine h.heap (hg.block B h.block ?_)
  intro e
  obtain ⟨o, ho, hc⟩ := hr B e.symm
  obtain ⟨x, hx, hx'⟩ := h.obj
  rw [hx] at ho
  cases ho
  rw [hx'] at hc
  cases hc
/-- Two steps in a round: new memory, then one Acc's block. -/
theorem keepsJ {W w5 w7 : World} {B : Nat} {o : Option Int} (ha : AccO W B o) (h5 : Below W.heap.size W w5) (h7 : ∀ k, k < W.heap.size → k ≠ B → w7.heap[k]? = w5.heap[k]?) (hs : w5.heap.size ≤ w7.heap.size) : KeepsOthers W w7 := by
  refine ⟨Nat.le_trans h5.size hs, fun k o hk hc => ?_⟩
  have hlt := blk_lt hk
  rw [h7 k hlt ?_, h5.block k hlt]
  · exact hk
  · rintro rfl
    obtain ⟨x, hx, hx'⟩ := ha.obj
    rw [hx] at hk
    cases hk
    rw [hx'] at hc
    cases hc
/-- The columns' sizes in a direction, one behind the other. -/
def colsJ (z : ZD) (ds : List Nat) (dl : Nat) (o : Option Int) (pre : List (_root_.Fin z.dn)) : Option Int := pre.foldl (fun o k => joinO o (absO (dotK ds (z.gs[k.val]?.getD []) dl)) false) o
theorem colsJ_snoc (z : ZD) (ds : List Nat) (dl : Nat) (o : Option Int) (pre : List (_root_.Fin z.dn)) (x : _root_.Fin z.dn) : colsJ z ds dl o (pre ++ [x]) = joinO (colsJ z ds dl o pre) (absO (dotK ds (z.gs[x.val]?.getD []) dl)) false := by unfold colsJ; rw [List.foldl_append]; rfl
def boxJ (ds rs : List Nat) (o : Option Int) : Nat → Option Int
  | 0 => o
  | k + 1 => prodO (boxJ ds rs o k) (frung (ds[k]?.getD 0)) (rs[k]?.getD 0) 0
/-- How far the zonotope goes in a direction, exact. -/
def supO (z : ZD) (ds : List Nat) : Option Int := boxJ ds z.rs (colsJ z ds ds.length (dotK ds z.cs ds.length) (List.finRange z.dn)) z.rs.length
theorem frung_ltJ {u : Nat} (h : u < 18446744073709551616) : frung u < 18446744073709551616 := by unfold frung; omega
set_option maxRecDepth 100000 in
set_option maxHeartbeats 4000000 in
theorem support_ok (z : ZD) (dO : Option Addr) (dl dcap : Nat) (ds : List Nat) (w : World) (hz : ZR w z) (hdr : RdF w dO dl dcap ds) (hc : checkB z = true) (hb : z.bad = false) (hn : numN ds z.N = true) (hw : z.dn = z.gn ∧ z.cs.length = ds.length ∧ z.rs.length = ds.length ∧ ∀ k, k < z.dn → (z.gs[k]?.getD []).length = ds.length) :
    Calls Tryz.prog 6 #[.agg #[.int .i64 z.N, .slice z.co z.cn z.cc, .slice z.io z.dn z.dc, .slice z.go z.gn z.gc, .slice z.ro z.rn z.rc, .bool z.bad], .slice dO dl dcap] w fun e w' => (∃ u b, e = .returned (.tuple #[.float .f64 u, .bool b]) ∧ RndO 1 (supO z ds) u b) ∧ Below w.heap.size w w' := by
  obtain ⟨N, co, cn, cc, io, dn, dc, go, gn, gc, ro, rn, rc, bad, cs, ids, gv, gs, rs⟩ := z
  dsimp only at hb hn hw ⊢
  subst hb
  have X0 : Below w.heap.size w ((w.alloc (.cells #[.int .i64 N, .slice co cn cc, .slice io dn dc, .slice go gn gc, .slice ro rn rc, .bool false] 26)).alloc (.cells #[.slice dO dl dcap] 22)) := ((Below.refl _ w).alloc (Nat.le_refl _) _).alloc (by simp only [alloc_size]; omega) _
  have Y0 : ((w.alloc (.cells #[.int .i64 N, .slice co cn cc, .slice io dn dc, .slice go gn gc, .slice ro rn rc, .bool false] 26)).alloc (.cells #[.slice dO dl dcap] 22)).heap[w.heap.size]? = _ := alloc_kept (heap_alloc_new w _) _
  have Y1 : ((w.alloc (.cells #[.int .i64 N, .slice co cn cc, .slice io dn dc, .slice go gn gc, .slice ro rn rc, .bool false] 26)).alloc (.cells #[.slice dO dl dcap] 22)).heap[w.heap.size + 1]? = _ := heap_at _ _ (w.heap.size + 1) (by simp only [alloc_size])
  have HT : Hid _ := taken_ok _ ((w.alloc (.cells #[.int .i64 N, .slice co cn cc, .slice io dn dc, .slice go gn gc, .slice ro rn rc, .bool false] 26)).alloc (.cells #[.slice dO dl dcap] 22)) (hz.later X0) hc
  dsimp only at HT
  have HZ : Hid (∀ W', Below w.heap.size w W' → ZR W' ⟨N, co, cn, cc, io, dn, dc, go, gn, gc, ro, rn, rc, false, cs, ids, gv, gs, rs⟩) := fun W' hb => hz.later hb
  have HDR : Hid (∀ W', Below w.heap.size w W' → RdF W' dO dl dcap ds) := fun W' hb => hdr.later hb
  have HW : Hid _ := hw
  have HLN : Hid (ds.length = dl ∧ cs.length = cn ∧ rs.length = rn ∧ gs.length = gn) := ⟨hdr.length, hz.c.length, hz.r.length, hz.g.length⟩
  obtain ⟨so, hso⟩ : ∃ so, supO ⟨N, co, cn, cc, io, dn, dc, go, gn, gc, ro, rn, rc, false, cs, ids, gv, gs, rs⟩ ds = so := ⟨_, rfl⟩
  have HSO : Hid (boxJ ds rs (colsJ ⟨N, co, cn, cc, io, dn, dc, go, gn, gc, ro, rn, rc, false, cs, ids, gv, gs, rs⟩ ds dl (dotK ds cs dl) (List.finRange dn)) rn = so) := by unfold Hid; rw [← hso, ← HLN.out.1, ← HLN.out.2.2.1]; rfl
  rw [hso]
  clear hz hdr hw hc hso
  refine (callsIn_wide (n := 3)).1 ?_
  refine callsIn_of_wp_marks Tryz.func6 rfl trivial ?_ rfl
  refine wpIn_wide.2 ?_
  simp only [Tryz.ntmps6, List.size_toArray, List.length_cons, List.length_nil, Nat.reduceAdd, Nat.reduceSub, Array.replicate_succ, Array.replicate_zero, List.push_toArray, List.append_toArray, List.nil_append, List.cons_append]
  go_upto_region 2 with (first
    | (go_at_call 21; refine Calls.mono HT.out ?_; rintro e w1 ⟨rfl, hb1⟩)
    | (refine wpList_store_row (by rfl) 26 _ _ (by rfl) w w.heap.size w.heap.size _ _ (by rfl) (by rfl) (kept hb1 Y0) (to_call X0 hb1) (Nat.le_refl _) 6 Tryz.infoZ (by rfl) (by rfl) (oneZ _ _ _ _ _ rfl rfl rfl rfl _) ?_; intro W2 e2 b2 s2 o2))
  have HK2 : Hid (Below w.heap.size w W2 ∧ W2.heap[w.heap.size]? = some (.cells #[.int .i64 N, .slice co cn cc, .slice io dn dc, .slice go gn gc, .slice ro rn rc, .bool false] 26) ∧ W2.heap[w.heap.size + 1]? = some (.cells #[.slice dO dl dcap] 22)) := ⟨b2, e2, (o2 _ (by omega)).trans (kept hb1 Y1)⟩
  clear X0 Y0 Y1 hb1 b2 s2 o2 HT e2
  obtain ⟨c0, c1, c2, c3, c4, c5⟩ := cells6 HK2.out.2.1
  have cd := cellAtJ HK2.out.2.2 0 _ rfl
  go_upto_region 4 with (first | (go_at_call 22; refine Calls.mono (areNumbers_any dO dl dcap ds N _ (HDR.out _ HK2.out.1)) ?_; rintro e w' ⟨rfl, hw⟩; rw [hw]; clear hw))
  go_upto_region 5 with (first | (go_at_call 23; refine Calls.mono (dot_any dO co dl dcap cn cc ds cs (by have := HW.out.2.1; have := HLN.out; omega) _ (HDR.out _ HK2.out.1) (HZ.out _ HK2.out.1).c) ?_; rintro e w3 ⟨rfl, a3, b3, s3⟩))
  have Z0 : (w3.alloc (.cells #[.pointer (some ⟨W2.heap.size, 0, none⟩)] 68)).heap[w.heap.size]? = some (.cells #[.int .i64 N, .slice co cn cc, .slice io dn dc, .slice go gn gc, .slice ro rn rc, .bool false] 26) := alloc_kept (kept b3 HK2.out.2.1) _
  have Z1 : (w3.alloc (.cells #[.pointer (some ⟨W2.heap.size, 0, none⟩)] 68)).heap[w.heap.size + 1]? = some (.cells #[.slice dO dl dcap] 22) := alloc_kept (kept b3 HK2.out.2.2) _
  have Z2 : (w3.alloc (.cells #[.pointer (some ⟨W2.heap.size, 0, none⟩)] 68)).heap[w3.heap.size]? = some (.cells #[.pointer (some ⟨W2.heap.size, 0, none⟩)] 68) := heap_alloc_new w3 _
  have Z3 : Below w.heap.size w (w3.alloc (.cells #[.pointer (some ⟨W2.heap.size, 0, none⟩)] 68)) := (to_call HK2.out.1 b3).alloc (to_call HK2.out.1 b3).size _
  have Z4 : AccO (w3.alloc (.cells #[.pointer (some ⟨W2.heap.size, 0, none⟩)] 68)) W2.heap.size (dotK ds cs dl) := a3.heap (Below.heap_alloc w3 _ _ a3.block)
  have HSZ : Hid (w.heap.size < W2.heap.size ∧ w.heap.size + 1 < W2.heap.size ∧ W2.heap.size < w3.heap.size) := ⟨Nat.lt_trans (Nat.lt_succ_self _) (blk_lt HK2.out.2.2), blk_lt HK2.out.2.2, a3.block⟩
  obtain ⟨X5, hX5⟩ : ∃ X5, w3.alloc (.cells #[.pointer (some ⟨W2.heap.size, 0, none⟩)] 68) = X5 := ⟨_, rfl⟩
  rw [hX5] at Z0 Z1 Z2 Z3 Z4 ⊢
  clear hX5 c0 c1 c2 c3 c4 c5 cd a3 b3 s3 HK2
  go_wp2_with (first
    | (refine wpList_load_row (by rfl) 26 _ (by rfl) w.heap.size _ (by rfl) Z0 _ Tryz.underlying26 rfl 6 Tryz.infoZ (by rfl) ?_)
    | (go_at_call 24; refine Calls.mono (columns_any _ rfl _) ?_; rintro e w' ⟨rfl, hw⟩; rw [hw]; clear hw))
  have hsx := blk_lt Z2
  have V0 : (X5.alloc (.cells #[.int .i64 N, .slice co cn cc, .slice io dn dc, .slice go gn gc, .slice ro rn rc, .bool false] 26)).heap[w.heap.size]? = _ := alloc_kept Z0 _
  have V1 : (X5.alloc (.cells #[.int .i64 N, .slice co cn cc, .slice io dn dc, .slice go gn gc, .slice ro rn rc, .bool false] 26)).heap[w.heap.size + 1]? = _ := alloc_kept Z1 _
  have V2 : (X5.alloc (.cells #[.int .i64 N, .slice co cn cc, .slice io dn dc, .slice go gn gc, .slice ro rn rc, .bool false] 26)).heap[w3.heap.size]? = _ := alloc_kept Z2 _
  have V3 : Below w.heap.size w (X5.alloc (.cells #[.int .i64 N, .slice co cn cc, .slice io dn dc, .slice go gn gc, .slice ro rn rc, .bool false] 26)) := Z3.alloc Z3.size _
  have V4 : AccO (X5.alloc (.cells #[.int .i64 N, .slice co cn cc, .slice io dn dc, .slice go gn gc, .slice ro rn rc, .bool false] 26)) W2.heap.size (dotK ds cs dl) := Z4.heap (Below.heap_alloc X5 _ _ Z4.block)
  have V5 : (X5.alloc (.cells #[.int .i64 N, .slice co cn cc, .slice io dn dc, .slice go gn gc, .slice ro rn rc, .bool false] 26)).heap[X5.heap.size]? = _ := heap_alloc_new X5 _
  obtain ⟨X, hX⟩ : ∃ X, X5.alloc (.cells #[.int .i64 N, .slice co cn cc, .slice io dn dc, .slice go gn gc, .slice ro rn rc, .bool false] 26) = X := ⟨_, rfl⟩
  rw [hX] at V0 V1 V2 V3 V4 V5 ⊢
  clear hX Z0 Z1 Z2 Z3 Z4
  have hxs := blk_lt V5
  refine (wpIn_wide (n := 3)).1 ?_
  refine wpIn_rangeFunc_ownF rfl (by decide) (gf := 51) (lb := #[.pointer (some ⟨X5.heap.size, 0, none⟩)]) rfl trivial (enters_of Tryz.func51 (by kernel_rfl) rfl)
    (cols_stops Fence.wide 2 trivial rfl (by decide) X5.heap.size ⟨N, co, cn, cc, io, dn, dc, go, gn, gc, ro, rn, rc, false, cs, ids, gv, gs, rs⟩ (Nat.le_of_eq HW.out.1) w X V3 (HZ.out w (Below.refl _ _)) V5) KpZ.trans (kpZ_b V3.size hxs) (Below.refl _ _) (fun _ => rfl)
    (fun pre W => (W.heap[w.heap.size]? = some (.cells #[.int .i64 N, .slice co cn cc, .slice io dn dc, .slice go gn gc, .slice ro rn rc, .bool false] 26) ∧ W.heap[w.heap.size + 1]? = some (.cells #[.slice dO dl dcap] 22) ∧ W.heap[w3.heap.size]? = some (.cells #[.pointer (some ⟨W2.heap.size, 0, none⟩)] 68) ∧ AccO W W2.heap.size (colsJ ⟨N, co, cn, cc, io, dn, dc, go, gn, gc, ro, rn, rc, false, cs, ids, gv, gs, rs⟩ ds dl (dotK ds cs dl) pre) ∧ X5.heap.size < W.heap.size) ∧ Below w.heap.size w W)
    (fun _ _ _ => False)
    (OwnFrom.and (Own.from (fun s A B row hs hg hr => ⟨heap_keptJ hs.1 hg hr, heap_keptJ hs.2.1 hg hr, heap_keptJ hs.2.2.1 hg hr, hs.2.2.2.1.keptJ hg hr, Nat.lt_of_lt_of_le hs.2.2.2.2 hg.size⟩) _) (ownFrom_below (Nat.le_refl _) V3.size))
    (fun _ _ _ _ _ hs _ _ => hs)
    ⟨⟨V0, V1, V2, V4, hxs⟩, V3⟩
    ?a1 ?assign ?body ?done ?stop
  case assign =>
    intro l x W K hK
    dsimp only [encZ]
    gi_wp2
    exact hK
  case body =>
    rintro l pre x W ⟨⟨h1, h2, h3, h4, hxl⟩, hB⟩ hlen
    have hg := (HZ.out W hB).g.each x.val (Nat.lt_of_lt_of_le x.isLt (Nat.le_of_eq HW.out.1))
    dsimp only at hg
    have hgl := HW.out.2.2.2 x.val x.isLt
    have HJ : Hid (colsJ ⟨N, co, cn, cc, io, dn, dc, go, gn, gc, ro, rn, rc, false, cs, ids, gv, gs, rs⟩ ds dl (dotK ds cs dl) (pre ++ [x]) = joinO (colsJ ⟨N, co, cn, cc, io, dn, dc, go, gn, gc, ro, rn, rc, false, cs, ids, gv, gs, rs⟩ ds dl (dotK ds cs dl) pre) (absO (dotK ds (gs[x.val]?.getD []) dl)) false) := colsJ_snoc _ _ _ _ _ _
    have HH : Hid _ := And.intro h1 (And.intro h2 h3)
    have H4 : Hid _ := h4
    have hBl := h4.block
    have cd := cellAtJ h2 0 _ rfl
    have cs' := cellAtJ h3 0 _ rfl
    have HDot : Hid _ := dot_any dO (gv x.val).1 dl dcap (gv x.val).2.1 (gv x.val).2.2 ds (gs[x.val]?.getD []) (by have := hg.length; have := HLN.out.1; omega) W (HDR.out _ hB) hg
    clear h1 h2 h3 h4 hg hgl
    gi_wp2_with (first
      | (refine (⟨trivial, ?_⟩ : (Fence.inRound Fence.wide l).fn 23 ∧ _); gi_at_call 23; refine (CallsIn.inRound l (callsIn_wide.2 HDot.out)).mono ?_; rintro e w5 ⟨rfl, a5, b5, s5⟩; have cs5 := cellAtJ (kept b5 HH.out.2.2) 0 _ rfl)
      | (refine (⟨trivial, ?_⟩ : (Fence.inRound Fence.wide l).fn 25 ∧ _); gi_at_call 25; refine (CallsIn.inRound l (callsIn_wide.2 (accAbs_any W.heap.size _ w5 a5))).mono ?_; rintro e w6 ⟨rfl, a6, c6⟩; have cs6 := (cell_heapJ (c6.other _ (Nat.lt_of_lt_of_le (blk_lt HH.out.2.2) b5.size) (Nat.ne_of_lt (blk_lt HH.out.2.2))) 0).trans cs5)
      | (refine (⟨trivial, ?_⟩ : (Fence.inRound Fence.wide l).fn 26 ∧ _); gi_at_call 26; refine (CallsIn.inRound l (callsIn_wide.2 (accJoin_any W2.heap.size W.heap.size _ _ false w6 ((H4.out.below b5 hBl).chg c6 (Nat.ne_of_lt hBl)) a6))).mono ?_; rintro e w7 ⟨rfl, a7, c7⟩))
    have hs5 := b5.size
    have hs6 := c6.below.size
    have hs7 := c7.below.size
    have hk7 : ∀ k, k < W.heap.size → k ≠ W2.heap.size → w7.heap[k]? = w5.heap[k]? := fun k hk hne => (c7.other k (by omega) hne).trans (c6.other k (by omega) (by omega))
    have hkW : ∀ k, k < W.heap.size → k ≠ W2.heap.size → w7.heap[k]? = W.heap[k]? := fun k hk hne => (hk7 k hk hne).trans (b5.block k hk)
    have hsz := HSZ.out
    have hb7 : Below w.heap.size W w7 := (b5.mono hB.size).trans ((c6.below.mono hB.size).trans (c7.below.mono (by omega)))
    exact ⟨keepsJ H4.out b5 hk7 (by omega), ⟨hb7, hkW _ hxl (by omega)⟩, ⟨(hkW _ (blk_lt HH.out.1) (by omega)).trans HH.out.1, (hkW _ (blk_lt HH.out.2.1) (by omega)).trans HH.out.2.1, (hkW _ (blk_lt HH.out.2.2) (by omega)).trans HH.out.2.2, by rw [HJ.out]; exact a7, by omega⟩, hB.trans hb7⟩
  case done =>
    rintro D ys W hD rfl ⟨⟨h1, h2, h3, h4, h5⟩, hB⟩ hK
    obtain ⟨oc, hoc⟩ : ∃ oc, colsJ ⟨N, co, cn, cc, io, dn, dc, go, gn, gc, ro, rn, rc, false, cs, ids, gv, gs, rs⟩ ds dl (dotK ds cs dl) (List.finRange dn) = oc := ⟨_, rfl⟩
    rw [hoc] at h4 HSO
    have c4 := (cells6 h1).2.2.2.2.1
    have HH0 : Hid (W.heap[w.heap.size + 1]? = some (.cells #[.slice dO dl dcap] 22) ∧ W.heap[w3.heap.size]? = some (.cells #[.pointer (some ⟨W2.heap.size, 0, none⟩)] 68)) := ⟨h2, h3⟩
    have H40 : Hid _ := h4
    have HB0 : Hid _ := hB
    have HK0 : Hid _ := hK
    have hrm : rn ≤ 9223372036854775807 := Nat.le_trans (HZ.out w (Below.refl _ _)).r.max maxLen_le
    have hrd : rn = dl := by have h1 := HLN.out; have h2 := HW.out.2.2.1; omega
    have HRD : Hid _ := hrd
    have hDw : w.heap.size ≤ D := Nat.le_trans V3.size hD
    clear h1 h2 h3 h4 hB hK hoc hrd V0 V1 V2 V3 V4 V5
    go_wp2_with fail
    clear c4
    go_loopg [42] rn (fun g iv wx => ∃ k : Nat, iv = .int .i64 k ∧ k + g = rn ∧ Hid (wx.heap[w.heap.size + 1]? = some (.cells #[.slice dO dl dcap] 22) ∧ wx.heap[w3.heap.size]? = some (.cells #[.pointer (some ⟨W2.heap.size, 0, none⟩)] 68)) ∧ Hid (AccO wx W2.heap.size (boxJ ds rs oc k)) ∧ Hid (Below w.heap.size w wx) ∧ Hid (wx.heap[D]? = some (.deferred (some []))))
    case atStart => exact ⟨0, rfl, by omega, HH0, H40, HB0, HK0⟩
    case round =>
      clear HH0 H40 HB0 HK0
      obtain ⟨k, rfl, hk, HH, HA, HB, HK⟩ := hrel
      by_cases hlt : k < rn
      · have hd : decide ((k : Int) < (rn : Int)) = true := decide_eq_true (by omega)
        obtain ⟨g, rfl⟩ : ∃ g, gk = g + 1 := ⟨gk - 1, by omega⟩
        have hlt2 : k < dl := by rw [← HRD.out]; exact hlt
        have hzr := (HZ.out _ HB.out).r
        dsimp only at hzr
        rcases hzr.cells with h0 | ⟨rb, roff, rfl, hcr⟩
        · omega
        have hdr := HDR.out _ HB.out
        rcases hdr.cells with h0 | ⟨db, doff, rfl, hcd⟩
        · omega
        have gr := hcr k hlt
        have gd := hcd k hlt2
        have hxl := hdr.lt _ (getD_mem (us := ds) (j := k) (by have := HLN.out.1; omega))
        have hyl := hzr.lt _ (getD_mem (us := rs) (j := k) (by have := HLN.out.2.2.1; omega))
        have HD : Hid (boxJ ds rs oc (k + 1) = prodO (boxJ ds rs oc k) (frung (ds[k]?.getD 0)) (rs[k]?.getD 0) 0) := rfl
        have HDB : Hid (db < w.heap.size) := by
          rcases (HDR.out w (Below.refl _ _)).cells with h0 | ⟨b, off, e, hc⟩
          · omega
          · cases e; exact World.block_lt_of_cell? w _ (hc k hlt2)
        obtain ⟨x, hx⟩ : ∃ x, ds[k]?.getD 0 = x := ⟨_, rfl⟩
        obtain ⟨y, hy⟩ : ∃ y, rs[k]?.getD 0 = y := ⟨_, rfl⟩
        rw [hx, hy] at HD
        rw [hx] at gd hxl
        rw [hy] at gr hyl
        have HIG : Hid (k + (g + 1) = rn) := hk
        clear hcr hcd hx hy hk hzr hdr
        go_upto_region 13 with fail
        have hS : (fun w' => w'.cell? ⟨w3.heap.size, 0, none⟩ = some (.pointer (some ⟨W2.heap.size, 0, none⟩)) ∧ w'.cell? ⟨w.heap.size + 1, 0, none⟩ = some (.slice (some ⟨db, doff, none⟩) dl dcap) ∧ w'.cell? ⟨db, doff + k, none⟩ = some (.float .f64 x)) wr.drew := ⟨cellAtJ HH.out.2 0 _ rfl, cellAtJ HH.out.1 0 _ rfl, gd⟩
        refine wp_region_noPanic ?_
        refine wp_region_held_drew (S := (fun w' => w'.cell? ⟨w3.heap.size, 0, none⟩ = some (.pointer (some ⟨W2.heap.size, 0, none⟩)) ∧ w'.cell? ⟨w.heap.size + 1, 0, none⟩ = some (.slice (some ⟨db, doff, none⟩) dl dcap) ∧ w'.cell? ⟨db, doff + k, none⟩ = some (.float .f64 x))) (by kernel_rfl) hS (fun _ => ?_)
        refine takeH 47 (i := 0) (v := ?_) rfl rfl (by kernel_rfl) (by kernel_rfl) (by kernel_rfl) (fun _ _ _ h => h) (Or.inl ⟨by kernel_rfl, ?_⟩) (by assumption) ?_
        rotate_left
        · intro w' hSw; (try dsimp only at hSw); go_simp; try with_reducible rfl
        try simp only [Act.put, List.setIfInBounds_toArray, List.set_cons_zero, List.set_cons_succ]
        refine takeH 48 (i := 1) (v := ?_) rfl rfl (by kernel_rfl) (by kernel_rfl) (by kernel_rfl) (fun _ _ _ h => h) (Or.inl ⟨by kernel_rfl, ?_⟩) (by assumption) ?_
        rotate_left
        · intro w' hSw; (try dsimp only at hSw); go_simp; try with_reducible rfl
        try simp only [Act.put, List.setIfInBounds_toArray, List.set_cons_zero, List.set_cons_succ]
        refine takeH 49 (i := 2) (v := ?_) rfl rfl (by kernel_rfl) (by kernel_rfl) (by kernel_rfl) (fun _ _ _ h => h) (Or.inl ⟨by kernel_rfl, ?_⟩) (by assumption) ?_
        rotate_left
        · intro w' hSw; (try dsimp only at hSw); go_simp; try with_reducible rfl
        try simp only [Act.put, List.setIfInBounds_toArray, List.set_cons_zero, List.set_cons_succ]
        refine takeH 50 (i := 3) (v := ?_) rfl rfl (by kernel_rfl) (by kernel_rfl) (by kernel_rfl) (fun _ _ _ h => h) (Or.inl ⟨by kernel_rfl, ?_⟩) (by assumption) ?_
        rotate_left
        · intro w' hSw; (try dsimp only at hSw); go_simp; try with_reducible rfl
        try simp only [Act.put, List.setIfInBounds_toArray, List.set_cons_zero, List.set_cons_succ]
        refine takeH 51 (i := 4) (v := ?_) rfl rfl (by kernel_rfl) (by kernel_rfl) (by kernel_rfl) (fun _ _ _ h => h) (Or.inl ⟨by kernel_rfl, ?_⟩) (by assumption) ?_
        rotate_left
        · intro w' hSw; (try dsimp only at hSw); go_simp; try with_reducible rfl
        try simp only [Act.put, List.setIfInBounds_toArray, List.set_cons_zero, List.set_cons_succ]
        refine takeH 53 (i := 6) (v := ?_) rfl rfl (by kernel_rfl) (by kernel_rfl) (by kernel_rfl) (fun _ _ _ h => h) (Or.inl ⟨by kernel_rfl, ?_⟩) (by assumption) ?_
        rotate_left
        · intro w' hSw; (try dsimp only at hSw); go_simp; try with_reducible rfl
        try simp only [Act.put, List.setIfInBounds_toArray, List.set_cons_zero, List.set_cons_succ]
        refine wpAnyH_ready (rs := [5]) (by kernel_rfl) (by simp) ?_
        refine consH _ rfl (hopCd 52 rfl (by kernel_rfl) rfl (by kernel_rfl) (Calls.mono (abs_any x hxl _) ?_)) AllReadyH.nil
        rintro e m ⟨rfl, hm⟩
        subst hm
        refine ⟨_, rfl, hS, ?_⟩
        try simp only [Act.put, List.setIfInBounds_toArray, List.set_cons_zero, List.set_cons_succ]
        refine wpAnyH_ready (rs := [7]) (by kernel_rfl) (by simp) ?_
        refine consH _ rfl (hopCd 54 rfl (by kernel_rfl) rfl (by kernel_rfl) (Calls.mono (accProd_any W2.heap.size _ (frung x) y 0 (frung_ltJ hxl) hyl _ HA.out.drew) ?_)) AllReadyH.nil
        rintro e w5 ⟨rfl, a5, c5⟩
        have hkW : ∀ k, k < wr.heap.size → k ≠ W2.heap.size → w5.heap[k]? = wr.heap[k]? := c5.other
        have hsz := HSZ.out
        have HH5 : Hid (w5.heap[w.heap.size + 1]? = some (.cells #[.slice (some ⟨db, doff, none⟩) dl dcap] 22) ∧ w5.heap[w3.heap.size]? = some (.cells #[.pointer (some ⟨W2.heap.size, 0, none⟩)] 68)) := ⟨(hkW _ (blk_lt HH.out.1) (by omega)).trans HH.out.1, (hkW _ (blk_lt HH.out.2) (by omega)).trans HH.out.2⟩
        have hS5 : (fun w' => w'.cell? ⟨w3.heap.size, 0, none⟩ = some (.pointer (some ⟨W2.heap.size, 0, none⟩)) ∧ w'.cell? ⟨w.heap.size + 1, 0, none⟩ = some (.slice (some ⟨db, doff, none⟩) dl dcap) ∧ w'.cell? ⟨db, doff + k, none⟩ = some (.float .f64 x)) w5 := ⟨cellAtJ HH5.out.2 0 _ rfl, cellAtJ HH5.out.1 0 _ rfl, (cell_heapJ (hkW db (Nat.lt_of_lt_of_le HDB.out HB.out.size) (by have := HDB.out; omega)) _).trans gd⟩
        refine ⟨_, rfl, hS5, ?_⟩
        try simp only [Act.put, List.setIfInBounds_toArray, List.set_cons_zero, List.set_cons_succ]
        refine wpAnyH_done (by kernel_rfl) ?_ _
        refine NoPanic.normal ?_
        try simp only [Act.put, List.setIfInBounds_toArray, List.set_cons_zero, List.set_cons_succ]
        have HA5 : Hid (AccO w5 W2.heap.size (boxJ ds rs oc (k + 1))) := by unfold Hid; rw [HD.out]; exact a5
        have HB5 : Hid (Below w.heap.size w w5) := HB.out.drew.trans (c5.below.mono (by omega))
        have HK5 : Hid (w5.heap[D]? = some (.deferred (some []))) := (hkW D (blk_lt HK.out) (fun e => by subst e; obtain ⟨o, ho, hc⟩ := HA.out.obj; rw [HK.out] at ho; cases ho; cases hc)).trans HK.out
        clear hS hS5 hkW a5 c5 hsz gd HD hxl hyl
        go_wp2_with fail
        go_roundg g
        case measure => omega
        case rel => exact ⟨k + 1, by go_num, by have := HIG.out; omega, HH5, HA5, HB5, HK5⟩
      · have hd : decide ((k : Int) < (rn : Int)) = false := decide_eq_false (by omega)
        have hd' : decide (k < rn) = false := decide_eq_false (by omega)
        have hkr : k = rn := by omega
        have HA2 : Hid (AccO wr W2.heap.size so) := by unfold Hid; rw [← HSO.out]; exact hkr ▸ HA.out
        clear hkr
        have cs' := cellAtJ HH.out.2 0 _ rfl
        go_wp2_with (first | (go_at_call 29; refine Calls.mono (accRound_any 1 W2.heap.size so _ HA2.out) ?_; rintro e w9 ⟨u, b, rfl, hr, b9⟩))
        have hK9 := kept b9 HK.out
        refine ⟨by simp, .inl ⟨_, _, rfl, run_takeDeferred hK9, ?_⟩⟩
        refine ⟨_, res_tmp2J _ 4 5 (by kernel_rfl) _ _ _ _ (by rfl) (by rfl), ⟨u, b, rfl, hr⟩, (to_call HB.out b9).trans (belowK_b (w := w) (Nat.le_refl _) _ D _ _ (by omega) hK9 rfl rfl)⟩
  case stop =>
    rintro D c pre W _ _ h _
    exact h.elim
end Go.Proofs.YtfepcpkfbnpbjaaGreat

namespace Go.Proofs.YtfepcpkfbnpbjaaGreat
open Go.RowKit
set_option linter.unusedVariables false
set_option linter.unusedSimpArgs false

theorem info3J {P : Program} {t : TypeId} {z : Value} {s b : Nat} (h : (P.info? t).map (fun i => (i.zero, i.size, i.bytes)) = some (some z, s, b)) : ∃ i, P.info? t = some i ∧ i.zero = some z ∧ i.size = s ∧ i.bytes = b := by
  cases hi : P.info? t with
  | none => simp [hi] at h
  | some i =>
    simp [hi] at h
    exact ⟨i, rfl, h.1, h.2.1, h.2.2⟩
theorem Tryz.infoPJ : (Tryz.prog.info? 68).map (fun i => (i.zero, i.size, i.bytes)) = some (some (.pointer none), 1, 8) := by kernel_rfl
theorem Tryz.infoFJ : (Tryz.prog.info? 38).map (fun i => (i.zero, i.size, i.bytes)) = some (some (.float .f64 0), 1, 8) := by kernel_rfl
def ptN (n : Nat) : Array Value := madeCells #[.pointer none] n
theorem ptN_at (n j : Nat) (h : j < n) : (ptN n)[j]? = some (.pointer none) := by unfold ptN madeCells; simp [h, Nat.mod_one]
def flN (n : Nat) : Array Value := madeCells #[.float .f64 0] n
theorem flN_at (n j : Nat) (h : j < n) : (flN n)[j]? = some (.float .f64 0) := by unfold flN madeCells; simp [h, Nat.mod_one]
theorem makeP (n : Nat) (hn : n ≤ 1000000) (w : World) :
    (Instr.makeSlice 78 (.int .i64 (n : Int)) (.int .i64 (n : Int))).run Tryz.prog w = .ok (.slice (some ⟨w.heap.size, 0, none⟩) n n) (w.alloc (.cells (ptN n) 68)) := by
  obtain ⟨i0, hi, hz0, hz1, hz2⟩ := info3J Tryz.infoPJ
  have h := run_makeSlice (P := Tryz.prog) w 78 68 i0 (.pointer none) Tryz.underlying78 hi hz0 .i64 .i64 (n : Int) (n : Int) (by omega) (by omega) (by rw [hz1, Int.toNat_natCast]; omega) (by rw [hz2]; omega) (by omega)
  rw [Int.toNat_natCast, hz1, Nat.mul_one] at h
  exact h
theorem makeFJ (n : Nat) (hn : n ≤ 1000000) (w : World) :
    (Instr.makeSlice 22 (.int .i64 (n : Int)) (.int .i64 (n : Int))).run Tryz.prog w = .ok (.slice (some ⟨w.heap.size, 0, none⟩) n n) (w.alloc (.cells (flN n) 38)) := by
  obtain ⟨i0, hi, hz0, hz1, hz2⟩ := info3J Tryz.infoFJ
  have h := run_makeSlice (P := Tryz.prog) w 22 38 i0 (.float .f64 0) Tryz.underlying22 hi hz0 .i64 .i64 (n : Int) (n : Int) (by omega) (by omega) (by rw [hz1, Int.toNat_natCast]; omega) (by rw [hz2]; omega) (by omega)
  rw [Int.toNat_natCast, hz1, Nat.mul_one] at h
  exact h
theorem frozen_heapJ {w w' : World} {b : Nat} (h : w'.heap[b]? = w.heap[b]?) (o : Nat) : w'.frozen? ⟨b, o, none⟩ = w.frozen? ⟨b, o, none⟩ := by unfold World.frozen?; simp only [h]
/-- A row of Accs, each in a block of its own behind the row's. -/
structure AcL (w : World) (g n : Nat) (p : Nat → Nat) (os : Nat → Option Int) : Prop where
  row : ∀ j, j < n → w.cell? ⟨g, j, none⟩ = some (.pointer (some ⟨p j, 0, none⟩))
  acc : ∀ j, j < n → AccO w (p j) (os j)
  gt : ∀ j, j < n → g < p j
  inj : ∀ i j, i < n → j < n → p i = p j → i = j
theorem AcL.heap {w w' : World} {g n : Nat} {p : Nat → Nat} {os : Nat → Option Int} (h : AcL w g n p os) (hk : ∀ k, g ≤ k → k < w.heap.size → w'.heap[k]? = w.heap[k]?) (hg : g < w.heap.size) : AcL w' g n p os :=
  ⟨fun j hj => (cell_heapJ (hk g (Nat.le_refl _) hg) j).trans (h.row j hj), fun j hj => (h.acc j hj).heap (hk _ (Nat.le_of_lt (h.gt j hj)) (h.acc j hj).block), h.gt, h.inj⟩
theorem AcL.later {w w' : World} {g n : Nat} {p : Nat → Nat} {os : Nat → Option Int} (h : AcL w g n p os) (hb : Below w.heap.size w w') (hg : g < w.heap.size) : AcL w' g n p os := h.heap (fun k _ hk => hb.block k hk) hg
theorem AcL.set {w w' : World} {g n i : Nat} {p : Nat → Nat} {os : Nat → Option Int} {o : Option Int} (h : AcL w g n p os) (hg : g < w.heap.size) (hi : i < n) (hc : Chg (p i) w w') (ho : AccO w' (p i) o) : AcL w' g n p (fun j => if j = i then o else os j) := by
  refine ⟨fun j hj => (cell_heapJ (hc.other g hg (Nat.ne_of_lt (h.gt i hi))) j).trans (h.row j hj), fun j hj => ?_, h.gt, h.inj⟩
  by_cases e : j = i
  · subst e; simp only [if_true]; exact ho
  · simp only [if_neg e]
    exact (h.acc j hj).chg hc (fun c => e (h.inj j i hj hi c))
theorem chg_set {w w1 w3 : World} {g n P : Nat} {v : Value} (hg : g < w.heap.size) (hP : P = w.heap.size) (b1 : Below w.heap.size w w1) (c3 : Chg P (w1.setCell ⟨g, n, none⟩ v) w3) (k : Nat) (hk : k < w.heap.size) (hne : k ≠ g) : w3.heap[k]? = w.heap[k]? := by
  have hs : (w1.setCell ⟨g, n, none⟩ v).heap.size = w1.heap.size := by simp
  have h1 := b1.size
  rw [c3.other k (by omega) (by omega), heap_setCell_other _ _ _ _ hne, b1.block k hk]
theorem chg_row {w w1 w3 : World} {g n P : Nat} {v : Value} (hg : g < w.heap.size) (hP : P = w.heap.size) (b1 : Below w.heap.size w w1) (hc : (w1.cell? ⟨g, n, none⟩).isSome = true) (c3 : Chg P (w1.setCell ⟨g, n, none⟩ v) w3) (j : Nat) : w3.cell? ⟨g, j, none⟩ = if j = n then some v else w.cell? ⟨g, j, none⟩ := by
  have hs : (w1.setCell ⟨g, n, none⟩ v).heap.size = w1.heap.size := by simp
  have h1 := b1.size
  rw [cell_heapJ (c3.other g (by omega) (by omega)) j]
  by_cases e : j = n
  · subst e
    rw [if_pos rfl]
    exact World.cell?_setCell_same' _ _ _ hc
  · rw [if_neg e, World.cell?_setCell_other _ _ _ _ (by intro c; cases c; exact e rfl)]
    exact b1.cell (p := ⟨g, j, none⟩) hg
theorem chg_froz {w w1 w3 : World} {g n P : Nat} {v : Value} (hg : g < w.heap.size) (hP : P = w.heap.size) (b1 : Below w.heap.size w w1) (c3 : Chg P (w1.setCell ⟨g, n, none⟩ v) w3) (j : Nat) : w3.frozen? ⟨g, j, none⟩ = w.frozen? ⟨g, j, none⟩ := by
  have hs : (w1.setCell ⟨g, n, none⟩ v).heap.size = w1.heap.size := by simp
  have h1 := b1.size
  rw [frozen_heapJ (c3.other g (by omega) (by omega)) j, World.frozen?_setCell]
  exact frozen_heapJ (b1.block g hg) j
theorem AcL.push {w w1 w3 : World} {g n P : Nat} {p : Nat → Nat} {os : Nat → Option Int} (h : AcL w g n p os) (hg : g < w.heap.size) (hP : P = w.heap.size) (b1 : Below w.heap.size w w1) (hc : (w1.cell? ⟨g, n, none⟩).isSome = true) (c3 : Chg P (w1.setCell ⟨g, n, none⟩ (.pointer (some ⟨P, 0, none⟩))) w3) (a3 : AccO w3 P (os n)) : AcL w3 g (n + 1) (fun j => if j = n then P else p j) os := by
  refine ⟨fun j hj => ?_, fun j hj => ?_, fun j hj => ?_, fun i j hi hj e => ?_⟩
  · rw [chg_row hg hP b1 hc c3 j]
    by_cases e : j = n
    · simp only [if_pos e]
    · simp only [if_neg e]; exact h.row j (by omega)
  · by_cases e : j = n
    · subst e; simp only [if_true]; exact a3
    · simp only [if_neg e]
      have hj' : j < n := by omega
      have hg' := h.gt j hj'
      exact (h.acc j hj').heap (chg_set hg hP b1 c3 _ (h.acc j hj').block (by omega))
  · by_cases e : j = n
    · simp only [if_pos e]; omega
    · simp only [if_neg e]; exact h.gt j (by omega)
  · by_cases e1 : i = n
    · by_cases e2 : j = n
      · omega
      · simp only [if_pos e1, if_neg e2] at e
        have := (h.acc j (by omega)).block
        omega
    · by_cases e2 : j = n
      · simp only [if_neg e1, if_pos e2] at e
        have := (h.acc i (by omega)).block
        omega
      · simp only [if_neg e1, if_neg e2] at e
        exact h.inj i j (by omega) (by omega) e
def accB (us : List Nat) (j : Nat) : Option Int := prodO (some 0) (us[j]?.getD 0) 4607182418800017408 0
set_option maxRecDepth 100000 in
set_option maxHeartbeats 2000000 in
theorem accsOf_any (ao : Option Addr) (len cap : Nat) (us : List Nat) (hl : len ≤ 100000) (w : World) (h : RdF w ao len cap us) :
    Calls Tryz.prog 66 #[.slice ao len cap] w fun e w' => e = .returned (.slice (some ⟨w.heap.size, 0, none⟩) len len) ∧ (∃ p, AcL w' w.heap.size len p (accB us)) ∧ Below w.heap.size w w' ∧ w.heap.size < w'.heap.size := by
  have HR : Hid _ := h
  have HLN : Hid _ := h.length
  clear h
  have hmk := makeP len (by omega)
  go_enter Tryz.func66, Tryz.ntmps66
  go_wp2_with fail
  clear hmk
  go_loopg [11] len (fun g iv wx => ∃ k : Nat, iv = .int .i64 k ∧ k + g = len ∧ Hid (∃ p, AcL wx w.heap.size k p (accB us)) ∧ Hid ((∀ j, j < len → ∃ v, wx.cell? ⟨w.heap.size, j, none⟩ = some (.pointer v)) ∧ (∀ j, wx.frozen? ⟨w.heap.size, j, none⟩ = false)) ∧ Hid (Below w.heap.size w wx) ∧ Hid (w.heap.size < wx.heap.size))
  case atStart =>
    refine ⟨0, rfl, by omega, ⟨fun _ => 0, ⟨fun j hj => by omega, fun j hj => by omega, fun j hj => by omega, fun i j hi => by omega⟩⟩, ⟨fun j hj => ⟨none, cellAtJ (heap_alloc_new w _) j _ (ptN_at len j hj)⟩, fun j => frozen_of_row _ _ j _ _ (heap_alloc_new w _)⟩, (Below.refl _ w).alloc (Nat.le_refl _) _, ?_⟩
    show w.heap.size < (w.alloc _).heap.size
    simp
  case round =>
    obtain ⟨k, rfl, hk, HP, HC, HB, HS⟩ := hrel
    by_cases hlt : k < len
    · have hd : decide ((k : Int) < (len : Int)) = true := decide_eq_true (by omega)
      obtain ⟨g, rfl⟩ : ∃ g, gk = g + 1 := ⟨gk - 1, by omega⟩
      rcases (HR.out.later HB.out).cells with h0 | ⟨ab, aoff, rfl, hca⟩
      · omega
      have ga := hca k hlt
      have hax := HR.out.lt _ (getD_mem (us := us) (j := k) (by rw [HLN.out]; exact hlt))
      have HX : Hid (accB us k = prodO (some 0) (us[k]?.getD 0) 4607182418800017408 0) := rfl
      obtain ⟨x, hx⟩ : ∃ x, us[k]?.getD 0 = x := ⟨_, rfl⟩
      rw [hx] at ga hax HX
      have HIG : Hid (k + (g + 1) = len) := hk
      clear hca hx hk
      obtain ⟨pv, hpv⟩ := HC.out.1 k hlt
      go_wp2_with (first
        | (go_at_call 50; refine (new_any _).mono ?_; rintro e w1 ⟨rfl, a1, b1, s1⟩; have q1 := (b1.cell (p := ⟨w.heap.size, k, none⟩) HS.out).trans hpv; have q2 : w1.frozen? ⟨w.heap.size, k, none⟩ = false := (frozen_heapJ (b1.block _ HS.out) k).trans (HC.out.2 k))
        | (go_at_call 68; refine (accAdd_any wr.heap.size (some 0) x hax _ (a1.heap (heap_setCell_other _ _ _ _ (Nat.ne_of_gt HS.out)))).mono ?_; rintro e w3 ⟨rfl, a3, c3⟩))
      have hcs : (w1.cell? ⟨w.heap.size, k, none⟩).isSome = true := by rw [q1]; rfl
      have HP3 : Hid (∃ p, AcL w3 w.heap.size (k + 1) p (accB us)) := by
        obtain ⟨p, hp⟩ := HP.out
        exact ⟨_, hp.push HS.out rfl b1 hcs c3 (by rw [HX.out]; exact a3)⟩
      have HC3 : Hid ((∀ j, j < len → ∃ v, w3.cell? ⟨w.heap.size, j, none⟩ = some (.pointer v)) ∧ (∀ j, w3.frozen? ⟨w.heap.size, j, none⟩ = false)) := by
        refine ⟨fun j hj => ?_, fun j => (chg_froz HS.out rfl b1 c3 j).trans (HC.out.2 j)⟩
        rw [chg_row HS.out rfl b1 hcs c3 j]
        by_cases e : j = k
        · exact ⟨_, if_pos e⟩
        · rw [if_neg e]; exact HC.out.1 j hj
      have hsS : (w1.setCell ⟨w.heap.size, k, none⟩ (.pointer (some ⟨wr.heap.size, 0, none⟩))).heap.size = w1.heap.size := by simp
      have HB3 : Hid (Below w.heap.size w w3) := (HB.out.trans (b1.mono (Nat.le_of_lt HS.out))).trans (((Below.refl w.heap.size w1).setCell (p := ⟨w.heap.size, k, none⟩) (Nat.le_refl _) _).trans (c3.below.mono (Nat.le_of_lt HS.out)))
      have HS3 : Hid (w.heap.size < w3.heap.size) := by unfold Hid; have h1 := c3.below.size; have h2 := b1.size; have h3 := HS.out; omega
      clear q1 q2 hcs a1 b1 s1 a3 c3 hsS hpv ga hax HX HP HC
      go_roundg g
      case measure => omega
      case rel => exact ⟨k + 1, by go_num, by have := HIG.out; omega, HP3, HC3, HB3, HS3⟩
    · have hd : decide ((k : Int) < (len : Int)) = false := decide_eq_false (by omega)
      have hd' : decide (k < len) = false := decide_eq_false (by omega)
      have hkl : k = len := by omega
      have HP2 : Hid (∃ p, AcL wr w.heap.size len p (accB us)) := hkl ▸ HP.out
      clear hkl
      go_wp2_with fail
      go_ret
      exact ⟨rfl, HP2.out, HB.out, HS.out⟩
end Go.Proofs.YtfepcpkfbnpbjaaGreat

namespace Go.Proofs.YtfepcpkfbnpbjaaGreat
open Go.RowKit
set_option linter.unusedVariables false
set_option linter.unusedSimpArgs false

/-- The first k Accs, with the sizes of their numbers. -/
def addJ (us : List Nat) (os : Nat → Option Int) (k j : Nat) : Option Int := if j < k then prodO (os j) (frung (us[j]?.getD 0)) 4607182418800017408 0 else os j
theorem addJ_succ (us : List Nat) (os : Nat → Option Int) (k j : Nat) : addJ us os (k + 1) j = if j = k then prodO (addJ us os k k) (frung (us[k]?.getD 0)) 4607182418800017408 0 else addJ us os k j := by
  unfold addJ
  by_cases e : j = k
  · subst e; rw [if_pos (by omega), if_pos rfl, if_neg (by omega)]
  · rw [if_neg e]
    by_cases h : j < k
    · rw [if_pos (by omega), if_pos h]
    · rw [if_neg (by omega), if_neg h]
set_option maxRecDepth 100000 in
set_option maxHeartbeats 2000000 in
theorem addSizes_any (gB n gc : Nat) (p : Nat → Nat) (os : Nat → Option Int) (ao : Option Addr) (len cap : Nat) (us : List Nat) (hln : len ≤ n) (w : World) (hG : gB < w.heap.size) (hA : AcL w gB n p os) (h : ∀ W', Below gB w W' → RdF W' ao len cap us) :
    Calls Tryz.prog 67 #[.slice (some ⟨gB, 0, none⟩) n gc, .slice ao len cap] w fun e w' => e = .returned (.tuple #[]) ∧ AcL w' gB n p (addJ us os len) ∧ Below gB w w' ∧ (∀ k, k < w.heap.size → (∀ j, j < n → k ≠ p j) → w'.heap[k]? = w.heap[k]?) := by
  have HR : Hid _ := h
  have h0 := h w (Below.refl _ _)
  have hmx : len ≤ 9223372036854775807 := Nat.le_trans h0.max maxLen_le
  have HLN : Hid _ := h0.length
  have HA0 : Hid (AcL w gB n p (addJ us os 0)) := ⟨hA.row, fun j hj => by unfold addJ; rw [if_neg (by omega)]; exact hA.acc j hj, hA.gt, hA.inj⟩
  have HG0 : Hid _ := hG
  clear h h0 hA hG
  go_enter Tryz.func67, Tryz.ntmps67
  go_wp2_with fail
  go_loopg [8] len (fun g iv wx => ∃ k : Nat, iv = .int .i64 k ∧ k + g = len ∧ Hid (AcL wx gB n p (addJ us os k)) ∧ Hid (Below gB w wx) ∧ Hid (∀ k, k < w.heap.size → (∀ j, j < n → k ≠ p j) → wx.heap[k]? = w.heap[k]?) ∧ Hid (gB < wx.heap.size))
  case atStart => exact ⟨0, rfl, by omega, HA0, Below.refl _ _, fun _ _ _ => rfl, HG0⟩
  case round =>
    clear HA0 HG0
    obtain ⟨k, rfl, hk, HA, HB, HO, HG⟩ := hrel
    by_cases hlt : k < len
    · have hd : decide ((k : Int) < (len : Int)) = true := decide_eq_true (by omega)
      obtain ⟨g, rfl⟩ : ∃ g, gk = g + 1 := ⟨gk - 1, by omega⟩
      have hkn : k < n := by omega
      have hr := HR.out _ HB.out
      rcases hr.cells with h0 | ⟨ab, aoff, rfl, hca⟩
      · omega
      have ga := hca k hlt
      have hax := hr.lt _ (getD_mem (us := us) (j := k) (by rw [HLN.out]; exact hlt))
      obtain ⟨x, hx⟩ : ∃ x, us[k]?.getD 0 = x := ⟨_, rfl⟩
      have HX : Hid (us[k]?.getD 0 = x) := hx
      rw [hx] at ga hax
      have HIG : Hid (k + (g + 1) = len) := hk
      clear hca hx hk hr
      go_upto_region 3 with fail
      have hS : (fun w' => w'.cell? ⟨gB, k, none⟩ = some (.pointer (some ⟨p k, 0, none⟩))) wr.drew := HA.out.row k hkn
      refine wp_region_noPanic ?_
      refine wp_region_held_drew (S := (fun w' => w'.cell? ⟨gB, k, none⟩ = some (.pointer (some ⟨p k, 0, none⟩)))) (by kernel_rfl) hS (fun _ => ?_)
      refine takeH 13 (i := 0) (v := ?_) rfl rfl (by kernel_rfl) (by kernel_rfl) (by kernel_rfl) (fun _ _ _ h => h) (Or.inl ⟨by kernel_rfl, ?_⟩) (by assumption) ?_
      rotate_left
      · intro w' hSw; (try dsimp only at hSw); go_simp; try with_reducible rfl
      try simp only [Act.put, List.setIfInBounds_toArray, List.set_cons_zero, List.set_cons_succ]
      refine takeH 14 (i := 1) (v := ?_) rfl rfl (by kernel_rfl) (by kernel_rfl) (by kernel_rfl) (fun _ _ _ h => h) (Or.inl ⟨by kernel_rfl, ?_⟩) (by assumption) ?_
      rotate_left
      · intro w' hSw; (try dsimp only at hSw); go_simp; try with_reducible rfl
      try simp only [Act.put, List.setIfInBounds_toArray, List.set_cons_zero, List.set_cons_succ]
      refine takeH 15 (i := 2) (v := ?_) rfl rfl (by kernel_rfl) (by kernel_rfl) (by kernel_rfl) (fun _ _ _ h => h) (Or.inl ⟨by kernel_rfl, ?_⟩) (by assumption) ?_
      rotate_left
      · intro w' hSw; (try dsimp only at hSw); go_simp; try with_reducible rfl
      try simp only [Act.put, List.setIfInBounds_toArray, List.set_cons_zero, List.set_cons_succ]
      refine takeH 16 (i := 3) (v := ?_) rfl rfl (by kernel_rfl) (by kernel_rfl) (by kernel_rfl) (fun _ _ _ h => h) (Or.inl ⟨by kernel_rfl, ?_⟩) (by assumption) ?_
      rotate_left
      · intro w' hSw; (try dsimp only at hSw); go_simp; try with_reducible rfl
      try simp only [Act.put, List.setIfInBounds_toArray, List.set_cons_zero, List.set_cons_succ]
      refine takeH 17 (i := 4) (v := ?_) rfl rfl (by kernel_rfl) (by kernel_rfl) (by kernel_rfl) (fun _ _ _ h => h) (Or.inl ⟨by kernel_rfl, ?_⟩) (by assumption) ?_
      rotate_left
      · intro w' hSw; (try dsimp only at hSw); go_simp; try with_reducible rfl
      try simp only [Act.put, List.setIfInBounds_toArray, List.set_cons_zero, List.set_cons_succ]
      refine wpAnyH_ready (rs := [5]) (by kernel_rfl) (by simp) ?_
      refine consH _ rfl (hopCd 18 rfl (by kernel_rfl) rfl (by kernel_rfl) (Calls.mono (abs_any x hax _) ?_)) AllReadyH.nil
      rintro e m ⟨rfl, hm⟩
      subst hm
      refine ⟨_, rfl, hS, ?_⟩
      try simp only [Act.put, List.setIfInBounds_toArray, List.set_cons_zero, List.set_cons_succ]
      refine wpAnyH_ready (rs := [6]) (by kernel_rfl) (by simp) ?_
      refine consH _ rfl (hopCd 19 rfl (by kernel_rfl) rfl (by kernel_rfl) (Calls.mono (accAdd_any (p k) _ (frung x) (frung_ltJ hax) _ (HA.out.acc k hkn).drew) ?_)) AllReadyH.nil
      rintro e w5 ⟨rfl, a5, c5⟩
      have hgt := HA.out.gt k hkn
      have hS5 : (fun w' => w'.cell? ⟨gB, k, none⟩ = some (.pointer (some ⟨p k, 0, none⟩))) w5 := (cell_heapJ (c5.other gB HG.out (by omega)) k).trans (HA.out.row k hkn)
      refine ⟨_, rfl, hS5, ?_⟩
      try simp only [Act.put, List.setIfInBounds_toArray, List.set_cons_zero, List.set_cons_succ]
      refine wpAnyH_done (by kernel_rfl) ?_ _
      refine NoPanic.normal ?_
      try simp only [Act.put, List.setIfInBounds_toArray, List.set_cons_zero, List.set_cons_succ]
      have HA5 : Hid (AcL w5 gB n p (addJ us os (k + 1))) := by
        have h5 := AcL.set (w := wr.drew) (HA.out.heap (fun _ _ _ => rfl) HG.out) HG.out hkn c5 a5
        refine ⟨h5.row, fun j hj => ?_, h5.gt, h5.inj⟩
        have h6 := h5.acc j hj
        rw [addJ_succ, HX.out]
        exact h6
      have HB5 : Hid (Below gB w w5) := HB.out.drew.trans (c5.below.mono (by omega))
      have HO5 : Hid (∀ k, k < w.heap.size → (∀ j, j < n → k ≠ p j) → w5.heap[k]? = w.heap[k]?) := fun i hi hne => (c5.other i (Nat.lt_of_lt_of_le hi HB.out.size) (hne k hkn)).trans (HO.out i hi hne)
      have HG5 : Hid (gB < w5.heap.size) := Nat.lt_of_lt_of_le HG.out c5.below.size
      clear hS hS5 a5 c5 hax HX
      go_wp2_with fail
      go_roundg g
      case measure => omega
      case rel => exact ⟨k + 1, by go_num, by have := HIG.out; omega, HA5, HB5, HO5, HG5⟩
    · have hd : decide ((k : Int) < (len : Int)) = false := decide_eq_false (by omega)
      have hd' : decide (k < len) = false := decide_eq_false (by omega)
      have hkl : k = len := by omega
      have HA2 : Hid (AcL wr gB n p (addJ us os len)) := hkl ▸ HA.out
      clear hkl
      go_wp2_with fail
      go_end0
      exact ⟨rfl, HA2.out, HB.out, HO.out⟩
end Go.Proofs.YtfepcpkfbnpbjaaGreat

namespace Go.Proofs.YtfepcpkfbnpbjaaGreat
open Go.RowKit Go.Shelf
set_option linter.unusedVariables false
set_option linter.unusedSimpArgs false
attribute [local go_sem] Oper.semAt_some

theorem AcL.keptJ {W W' : World} {row : Option Nat} {g n : Nat} {p : Nat → Nat} {os : Nat → Option Int} (h : AcL W g n p os) (hg : W.grownBy W' row) (hr : ∀ r, row = some r → ∃ o, W.heap[r]? = some o ∧ o.isCells = false) : AcL W' g n p os :=
  ⟨fun j hj => cell_kept (h.row j hj) hg hr, fun j hj => (h.acc j hj).keptJ hg hr, h.gt, h.inj⟩
theorem acc_ne {W : World} {P B : Nat} {o : Option Int} {c : Array Value} {t : TypeId} (h : AccO W P o) (hB : W.heap[B]? = some (.cells c t)) (hc : c.size ≤ 76) : B ≠ P := by
  rintro rfl
  have h1 := h.cell
  rw [cell_of_row _ _ _ _ _ _ hB, Array.getElem?_eq_none hc] at h1
  cases h1
/-- How far each coordinate goes, exact. -/
def farC (z : ZD) (len : Nat) (os : Nat → Option Int) (pre : List (_root_.Fin z.dn)) : Nat → Option Int := pre.foldl (fun os k => addJ (z.gs[k.val]?.getD []) os len) os
theorem farC_snoc (z : ZD) (len : Nat) (os : Nat → Option Int) (pre : List (_root_.Fin z.dn)) (x : _root_.Fin z.dn) : farC z len os (pre ++ [x]) = addJ (z.gs[x.val]?.getD []) (farC z len os pre) len := by unfold farC; rw [List.foldl_append]; rfl
def farZ (z : ZD) : Nat → Option Int := farC z z.rn (accB z.rs) (List.finRange z.dn)
set_option maxRecDepth 100000 in
set_option maxHeartbeats 4000000 in
theorem reaches_any (z : ZD) (w : World) (hz : ZR w z) (hrn : z.rn ≤ 100000) (hdg : z.dn ≤ z.gn) (hw : ∀ k, k < z.dn → (z.gs[k]?.getD []).length = z.rn) :
    Calls Tryz.prog 30 #[.agg #[.int .i64 z.N, .slice z.co z.cn z.cc, .slice z.io z.dn z.dc, .slice z.go z.gn z.gc, .slice z.ro z.rn z.rc, .bool z.bad]] w fun e w' => e = .returned (.slice (some ⟨w.heap.size + 1, 0, none⟩) z.rn z.rn) ∧ (∃ p, AcL w' (w.heap.size + 1) z.rn p (farZ z)) ∧ Below w.heap.size w w' ∧ w.heap.size + 1 < w'.heap.size := by
  have HZ : Hid (∀ W', Below w.heap.size w W' → ZR W' z) := fun W' hb => hz.later hb
  obtain ⟨fz, hfz⟩ : ∃ fz, farZ z = fz := ⟨_, rfl⟩
  rw [hfz]
  have HFZ : Hid (farC z z.rn (accB z.rs) (List.finRange z.dn) = fz) := hfz
  have HW : Hid _ := hw
  clear hz hw hfz
  obtain ⟨N, co, cn, cc, io, dn, dc, go, gn, gc, ro, rn, rc, bad, cs, ids, gv, gs, rs⟩ := z
  dsimp only at HZ HFZ HW hrn hdg ⊢
  have X0 : Below w.heap.size w (w.alloc (.cells #[.int .i64 N, .slice co cn cc, .slice io dn dc, .slice go gn gc, .slice ro rn rc, .bool bad] 26)) := (Below.refl _ w).alloc (Nat.le_refl _) _
  have hx0 : (w.alloc (.cells #[.int .i64 N, .slice co cn cc, .slice io dn dc, .slice go gn gc, .slice ro rn rc, .bool bad] 26)).heap.size = w.heap.size + 1 := by simp
  refine (callsIn_wide (n := 3)).1 ?_
  refine callsIn_of_wp_marks Tryz.func30 rfl trivial ?_ rfl
  refine wpIn_wide.2 ?_
  simp only [Tryz.ntmps30, List.size_toArray, List.length_cons, List.length_nil, Nat.reduceAdd, Nat.reduceSub, Array.replicate_succ, Array.replicate_zero, List.push_toArray, List.append_toArray, List.nil_append, List.cons_append]
  go_upto_region 2 with (first | (go_at_call 66; refine Calls.mono (accsOf_any ro rn rc rs hrn _ (HZ.out _ X0).r) ?_; rintro e w1 ⟨rfl, a1, b1, s1⟩))
  obtain ⟨p, hp⟩ := a1
  rw [hx0] at hp s1
  have Z0 : (w1.alloc (.cells #[.slice (some ⟨w.heap.size + 1, 0, none⟩) rn rn] 78)).heap[w.heap.size]? = some (.cells #[.int .i64 N, .slice co cn cc, .slice io dn dc, .slice go gn gc, .slice ro rn rc, .bool bad] 26) := alloc_kept (kept b1 (heap_alloc_new w _)) _
  have Z1 : (w1.alloc (.cells #[.slice (some ⟨w.heap.size + 1, 0, none⟩) rn rn] 78)).heap[w1.heap.size]? = some (.cells #[.slice (some ⟨w.heap.size + 1, 0, none⟩) rn rn] 78) := heap_alloc_new w1 _
  have Z2 : Below w.heap.size w (w1.alloc (.cells #[.slice (some ⟨w.heap.size + 1, 0, none⟩) rn rn] 78)) := (to_call X0 b1).alloc (to_call X0 b1).size _
  have Z3 : AcL (w1.alloc (.cells #[.slice (some ⟨w.heap.size + 1, 0, none⟩) rn rn] 78)) (w.heap.size + 1) rn p (accB rs) := hp.later ((Below.refl _ w1).alloc (Nat.le_refl _) _) s1
  obtain ⟨X5, hX5⟩ : ∃ X5, w1.alloc (.cells #[.slice (some ⟨w.heap.size + 1, 0, none⟩) rn rn] 78) = X5 := ⟨_, rfl⟩
  rw [hX5] at Z0 Z1 Z2 Z3 ⊢
  clear hX5 hp b1 X0 hx0
  go_wp2_with (first
    | (refine wpList_load_row (by rfl) 26 _ (by rfl) w.heap.size _ (by rfl) Z0 _ Tryz.underlying26 rfl 6 Tryz.infoZ (by rfl) ?_)
    | (go_at_call 24; refine Calls.mono (columns_any _ rfl _) ?_; rintro e w' ⟨rfl, hw⟩; rw [hw]; clear hw))
  have hab := blk_lt Z1
  have V1 : (X5.alloc (.cells #[.int .i64 N, .slice co cn cc, .slice io dn dc, .slice go gn gc, .slice ro rn rc, .bool bad] 26)).heap[w1.heap.size]? = _ := alloc_kept Z1 _
  have V2 : Below w.heap.size w (X5.alloc (.cells #[.int .i64 N, .slice co cn cc, .slice io dn dc, .slice go gn gc, .slice ro rn rc, .bool bad] 26)) := Z2.alloc Z2.size _
  have V3 : AcL (X5.alloc (.cells #[.int .i64 N, .slice co cn cc, .slice io dn dc, .slice go gn gc, .slice ro rn rc, .bool bad] 26)) (w.heap.size + 1) rn p (accB rs) := Z3.later ((Below.refl _ X5).alloc (Nat.le_refl _) _) (by omega)
  have V5 : (X5.alloc (.cells #[.int .i64 N, .slice co cn cc, .slice io dn dc, .slice go gn gc, .slice ro rn rc, .bool bad] 26)).heap[X5.heap.size]? = _ := heap_alloc_new X5 _
  obtain ⟨X, hX⟩ : ∃ X, X5.alloc (.cells #[.int .i64 N, .slice co cn cc, .slice io dn dc, .slice go gn gc, .slice ro rn rc, .bool bad] 26) = X := ⟨_, rfl⟩
  rw [hX] at V1 V2 V3 V5 ⊢
  clear hX Z0 Z1 Z2 Z3
  have hxs := blk_lt V5
  refine (wpIn_wide (n := 3)).1 ?_
  refine wpIn_rangeFunc_ownF rfl (by decide) (gf := 51) (lb := #[.pointer (some ⟨X5.heap.size, 0, none⟩)]) rfl trivial (enters_of Tryz.func51 (by kernel_rfl) rfl)
    (cols_stops Fence.wide 2 trivial rfl (by decide) X5.heap.size ⟨N, co, cn, cc, io, dn, dc, go, gn, gc, ro, rn, rc, bad, cs, ids, gv, gs, rs⟩ hdg w X V2 (HZ.out w (Below.refl _ _)) V5) KpZ.trans (kpZ_b V2.size hxs) (Below.refl _ _) (fun _ => rfl)
    (fun pre W => (W.heap[w1.heap.size]? = some (.cells #[.slice (some ⟨w.heap.size + 1, 0, none⟩) rn rn] 78) ∧ W.heap[X5.heap.size]? = some (.cells #[.int .i64 N, .slice co cn cc, .slice io dn dc, .slice go gn gc, .slice ro rn rc, .bool bad] 26) ∧ AcL W (w.heap.size + 1) rn p (farC ⟨N, co, cn, cc, io, dn, dc, go, gn, gc, ro, rn, rc, bad, cs, ids, gv, gs, rs⟩ rn (accB rs) pre)) ∧ Below w.heap.size w W)
    (fun _ _ _ => False)
    (OwnFrom.and (Own.from (fun s A B row hs hg hr => ⟨heap_keptJ hs.1 hg hr, heap_keptJ hs.2.1 hg hr, hs.2.2.keptJ hg hr⟩) _) (ownFrom_below (Nat.le_refl _) V2.size))
    (fun _ _ _ _ _ hs _ _ => hs)
    ⟨⟨V1, V5, V3⟩, V2⟩
    ?a1 ?assign ?body ?done ?stop
  case assign =>
    intro l x W K hK
    dsimp only [encZ]
    gi_wp2
    exact hK
  case body =>
    rintro l pre x W ⟨⟨h1, h2, h3⟩, hB⟩ hlen
    have hg : ∀ W', Below (w.heap.size + 1) W W' → RdF W' (gv x.val).1 (gv x.val).2.1 (gv x.val).2.2 (gs[x.val]?.getD []) := fun W' hb => (HZ.out W' (hB.trans (hb.mono (by omega)))).g.each x.val (Nat.lt_of_lt_of_le x.isLt hdg)
    have hgl := HW.out x.val x.isLt
    have hln := (hg W (Below.refl _ _)).length
    have HJ : Hid (farC ⟨N, co, cn, cc, io, dn, dc, go, gn, gc, ro, rn, rc, bad, cs, ids, gv, gs, rs⟩ rn (accB rs) (pre ++ [x]) = addJ (gs[x.val]?.getD []) (farC ⟨N, co, cn, cc, io, dn, dc, go, gn, gc, ro, rn, rc, bad, cs, ids, gv, gs, rs⟩ rn (accB rs) pre) rn) := farC_snoc _ _ _ _ _
    have hGW : w.heap.size + 1 < W.heap.size := by have := blk_lt h1; omega
    have HC : Hid _ := addSizes_any (w.heap.size + 1) rn rn p _ _ _ _ _ (by omega) W hGW h3 hg
    rw [← hln, hgl] at HC
    have cs' := cellAtJ h1 0 _ rfl
    have HH : Hid _ := And.intro h1 (And.intro h2 h3)
    rw [← hln, hgl]
    clear h1 h2 h3 hg hgl
    gi_wp2_with (first
      | (refine (⟨trivial, ?_⟩ : (Fence.inRound Fence.wide l).fn 67 ∧ _); gi_at_call 67; refine (CallsIn.inRound l (callsIn_wide.2 HC.out)).mono ?_; rintro e w7 ⟨rfl, a7, b7, o7⟩))
    have hne : ∀ (k : Nat) (c : Array Value) (t : TypeId), W.heap[k]? = some (Obj.cells c t) → c.size ≤ 76 → w7.heap[k]? = some (Obj.cells c t) := fun k c t hk hc => (o7 k (blk_lt hk) (fun j hj => acc_ne (HH.out.2.2.acc j hj) hk hc)).trans hk
    have hko : KeepsOthers W w7 := ⟨b7.size, fun k o hk hc => (o7 k (blk_lt hk) (fun j hj e => by subst e; obtain ⟨y, hy, hy'⟩ := (HH.out.2.2.acc j hj).obj; rw [hk] at hy; cases hy; rw [hc] at hy'; cases hy')).trans hk⟩
    have hb7 : Below w.heap.size W w7 := b7.mono (by omega)
    exact ⟨hko, ⟨hb7, (hne _ _ _ HH.out.2.1 (by simp)).trans HH.out.2.1.symm⟩, ⟨hne _ _ _ HH.out.1 (by simp), hne _ _ _ HH.out.2.1 (by simp), by rw [HJ.out]; exact a7⟩, hB.trans hb7⟩
  case done =>
    rintro D ys W hD rfl ⟨⟨h1, h2, h3⟩, hB⟩ hK
    rw [HFZ.out] at h3
    have cs' := cellAtJ h1 0 _ rfl
    have hsz : w.heap.size + 1 < W.heap.size := by have := blk_lt h1; omega
    have hDw : w.heap.size ≤ D := Nat.le_trans V2.size hD
    have HH : Hid _ := h3
    clear h1 h2 h3
    go_wp2_with fail
    refine ⟨by simp, .inl ⟨_, _, rfl, run_takeDeferred hK, ?_⟩⟩
    have hgr := grownBy_putObj' W D (.deferred none)
    have hrr : ∀ r, some D = some r → ∃ o, W.heap[r]? = some o ∧ o.isCells = false := fun r e => by cases e; exact ⟨_, hK, rfl⟩
    exact ⟨_, results_tmp rfl _ _ _, rfl, ⟨p, HH.out.keptJ hgr hrr⟩, hB.trans (belowK_b (w := w) (Nat.le_refl _) W D _ _ hDw hK rfl rfl), Nat.lt_of_lt_of_le hsz hgr.size⟩
  case stop =>
    rintro D c pre W _ _ h _
    exact h.elim
end Go.Proofs.YtfepcpkfbnpbjaaGreat
