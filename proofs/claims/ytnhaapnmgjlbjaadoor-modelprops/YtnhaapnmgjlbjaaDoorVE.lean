import Derived.Test.YtnhaapnmgjlbjaaDoorVD
import Derived.Deep.RegionHeld3
import Derived.Deep.MidRow
import Derived.Laws.CopyOwn
namespace Go.Proofs.YtnhaapnmgjlbjaaDoor
open Go.RowKit
set_option linter.unusedVariables false

theorem MkU.mono {w : World} {base b : Nat} {v : Value} {uss : List (List Nat)} (h : MkU w base v uss) (hb : b ≤ base) : MkU w b v uss := by
  obtain ⟨vs, h1, h2, h3⟩ := h
  refine ⟨vs, ⟨h1.1, ?_⟩, h2, fun j x hx => (h3 j x hx).mono hb⟩
  rcases h1.2 with h4 | ⟨g, cap, cur, hv, hg, r⟩
  · exact .inl h4
  · exact .inr ⟨g, cap, cur, hv, by omega, r⟩
theorem MkU.sl {w : World} {base : Nat} {v : Value} {uss : List (List Nat)} (h : MkU w base v uss) : ∃ ao n cap, v = .slice ao n cap := by
  obtain ⟨vs, h1, _⟩ := h
  rcases h1.2 with ⟨rfl, h0⟩ | ⟨g, cap, cur, rfl, _⟩
  · exact ⟨none, 0, 0, rfl⟩
  · exact ⟨_, _, cap, rfl⟩
/-- A block that is written cell by cell. -/
structure Wr (w0 : World) (base B : Nat) (t : TypeId) (x W : World) (cur : Array Value) : Prop where
  blk : W.heap[B]? = some (.cells cur t)
  bel : Below base w0 W
  oth : ∀ k, k ≠ B → W.heap[k]? = x.heap[k]?
theorem Wr.step {w0 x W : World} {base B : Nat} {t : TypeId} {cur : Array Value} (hB : base ≤ B) (h : Wr w0 base B t x W cur) (o : Nat) (v : Value) : Wr w0 base B t x (W.setCell ⟨B, o, none⟩ v) (cur.setIfInBounds o v) := by
  have e : W.setCell ⟨B, o, none⟩ v = W.setRow B (cur.setIfInBounds o v) := setCell_eq_setRow W B o cur t (0, 0) v h.blk
  rw [e]
  exact ⟨setRow_heap W B _ _ t _ h.blk, below_setRow h.bel hB _, fun k hk => (setRow_other W B k _ hk).trans (h.oth k hk)⟩
theorem ui_wr {w0 x W : World} {base B b : Nat} {cur c : Array Value} {v : Value} {us : List Nat} (h : Wr w0 base B 32 x W cur) (hx : x.heap[B]? = some (.cells c 32)) (hu : OwnUi x b v us) : OwnUi W b v us := by
  refine hu.keep fun k _ cu hc => h.oth k fun e => ?_
  subst e
  rw [hx] at hc
  simp at hc
theorem mku_wr {w0 x W : World} {base B b : Nat} {cur c : Array Value} {v : Value} {uss : List (List Nat)} (h : Wr w0 base B 32 x W cur) (hx : x.heap[B]? = some (.cells c 32)) (hu : MkU x b v uss) : MkU W b v uss := by
  obtain ⟨vs, h1, h2, h3⟩ := hu
  refine ⟨vs, ⟨h1.1, ?_⟩, h2, fun j y hy => ui_wr h hx (h3 j y hy)⟩
  rcases h1.2 with h4 | ⟨g, cap, cu, hv, hg, hh, r⟩
  · exact .inl h4
  · refine .inr ⟨g, cap, cu, hv, hg, ?_, r⟩
    rw [h.oth g fun e => ?_]
    · exact hh
    · subst e
      rw [hx] at hh
      simp at hh
theorem Tryd.infoRefProp : (Tryd.prog.info? 32).map (·.size) = some 7 := by kernel_rfl
theorem res_prop (f : Func) (i : Nat) (hf : f.results = #[ResultVar.cell i 32]) (tmps : Array Value) (W : World) (B : Nat) (c : Array Value) (hp : tmps[i]? = some (.pointer (some ⟨B, 0, none⟩)))
    (hc : c.size = 7) (h : W.heap[B]? = some (.cells c 32)) : (results f tmps).run Tryd.prog W = .ok (.agg c) W := by
  have hr : W.rangeAt B 0 c.toList := by
    have := World.rangeAt_of_block h 0 c.size
    simpa using this
  have hl := run_loadVar_mid (P := Tryd.prog) W B 0 32 c.toList _ hr Tryd.underlying32 rfl (by rw [Tryd.infoRefProp]; simp [hc])
  have hl2 : (loadVar 32 ⟨B, 0, none⟩).run Tryd.prog W = .ok (.agg c) W := by simpa using hl
  simp [results, hf, hp, hl2, asAddr]
theorem frz {w : World} {B : Nat} {c : Array Value} {t : TypeId} (h : w.heap[B]? = some (.cells c t)) (o : Nat) : w.frozen? ⟨B, o, none⟩ = false := by simp [World.frozen?, h]
set_option maxRecDepth 100000 in
set_option maxHeartbeats 2000000 in
theorem ofProp_any (co go lo : Option Addr) (cn cc gn gc ln lc : Nat) (cs : List Nat) (gs ls : List (List Nat)) (t K D L : Int) (w : World)
    (hc : RdF w co cn cc cs) (hg : RdLL w go gn gc gs) (hl : RdLL w lo ln lc ls) (b1 : cn ≤ 1000) (b2 : gn ≤ 1000) (b3 : ln ≤ 1000) (b4 : ∀ us ∈ gs, us.length ≤ 1000) (b5 : ∀ us ∈ ls, us.length ≤ 1000) :
    Calls Tryd.prog 10 #[.agg #[.slice co cn cc, .slice go gn gc, .int .i64 t, .slice lo ln lc, .int .i64 K, .int .i64 D, .int .i64 L]] w fun e w' => ∃ uC uG uL, e = .returned (.agg #[uC, uG, .int .i64 t, uL, .int .i64 K, .int .i64 D, .int .i64 L]) ∧ OwnUi w' w.heap.size uC cs ∧ MkU w' w.heap.size uG gs ∧ MkU w' w.heap.size uL ls ∧ Below w.heap.size w w' := by
  have H1 : Hid (∀ wx, Below w.heap.size w wx → Calls Tryd.prog 23 #[.slice co cn cc] wx fun e w' => ∃ v, e = .returned v ∧ OwnUi w' wx.heap.size v cs ∧ Below wx.heap.size wx w') := fun wx h => bitsList_any co cn cc cs wx (hc.later h) b1
  have H2 : Hid (∀ wx, Below w.heap.size w wx → Calls Tryd.prog 24 #[.slice go gn gc] wx fun e w' => ∃ v, e = .returned v ∧ MkU w' wx.heap.size v gs ∧ Below wx.heap.size wx w') := fun wx h => bitsOf_any go gn gc gs wx (hg.later h) b2 b4
  have H3 : Hid (∀ wx, Below w.heap.size w wx → Calls Tryd.prog 24 #[.slice lo ln lc] wx fun e w' => ∃ v, e = .returned v ∧ MkU w' wx.heap.size v ls ∧ Below wx.heap.size wx w') := fun wx h => bitsOf_any lo ln lc ls wx (hl.later h) b3 b5
  clear hc hg hl b1 b2 b3 b4 b5
  go_enter Tryd.func10, Tryd.ntmps10
  go_upto_region 1 with fail
  have k0 := alloc_kept (heap_alloc_new w (Obj.cells #[.slice co cn cc, .slice go gn gc, .int .i64 t, .slice lo ln lc, .int .i64 K, .int .i64 D, .int .i64 L] 27)) (Obj.cells #[.slice none 0 0, .slice none 0 0, .int .i64 0, .slice none 0 0, .int .i64 0, .int .i64 0, .int .i64 0] 32)
  have k1 := heap_at (w.alloc (Obj.cells #[.slice co cn cc, .slice go gn gc, .int .i64 t, .slice lo ln lc, .int .i64 K, .int .i64 D, .int .i64 L] 27)) (Obj.cells #[.slice none 0 0, .slice none 0 0, .int .i64 0, .slice none 0 0, .int .i64 0, .int .i64 0, .int .i64 0] 32) (w.heap.size + 1) (by simp only [alloc_size])
  have hb0 := ((Below.refl _ w).alloc (Nat.le_refl _) (Obj.cells #[.slice co cn cc, .slice go gn gc, .int .i64 t, .slice lo ln lc, .int .i64 K, .int .i64 D, .int .i64 L] 27)).alloc (by simp only [alloc_size]; omega) (Obj.cells #[.slice none 0 0, .slice none 0 0, .int .i64 0, .slice none 0 0, .int .i64 0, .int .i64 0, .int .i64 0] 32)
  obtain ⟨W0, hW0⟩ : ∃ W0, (w.alloc (Obj.cells #[.slice co cn cc, .slice go gn gc, .int .i64 t, .slice lo ln lc, .int .i64 K, .int .i64 D, .int .i64 L] 27)).alloc (Obj.cells #[.slice none 0 0, .slice none 0 0, .int .i64 0, .slice none 0 0, .int .i64 0, .int .i64 0, .int .i64 0] 32) = W0 := ⟨_, rfl⟩
  rw [hW0] at k0 k1 hb0 ⊢
  clear hW0
  have HB0 : Hid (Below w.heap.size w W0) := hb0
  have HC : Hid (∀ wx wy, Below W0.heap.size W0 wx → Below wx.heap.size wx wy → Below W0.heap.size W0 wy ∧ (wy.cell? ⟨w.heap.size, 0, none⟩ = some (.slice co cn cc) ∧ wy.cell? ⟨w.heap.size, 1, none⟩ = some (.slice go gn gc) ∧ wy.cell? ⟨w.heap.size, 2, none⟩ = some (.int .i64 t) ∧ wy.cell? ⟨w.heap.size, 3, none⟩ = some (.slice lo ln lc) ∧ wy.cell? ⟨w.heap.size, 4, none⟩ = some (.int .i64 K) ∧ wy.cell? ⟨w.heap.size, 5, none⟩ = some (.int .i64 D) ∧ wy.cell? ⟨w.heap.size, 6, none⟩ = some (.int .i64 L)) ∧ (wy.cell? ⟨w.heap.size + 1, 0, none⟩ = some (.slice none 0 0) ∧ wy.cell? ⟨w.heap.size + 1, 1, none⟩ = some (.slice none 0 0) ∧ wy.cell? ⟨w.heap.size + 1, 2, none⟩ = some (.int .i64 0) ∧ wy.cell? ⟨w.heap.size + 1, 3, none⟩ = some (.slice none 0 0) ∧ wy.cell? ⟨w.heap.size + 1, 4, none⟩ = some (.int .i64 0) ∧ wy.cell? ⟨w.heap.size + 1, 5, none⟩ = some (.int .i64 0) ∧ wy.cell? ⟨w.heap.size + 1, 6, none⟩ = some (.int .i64 0)) ∧ (∀ o, wy.frozen? ⟨w.heap.size + 1, o, none⟩ = false) ∧ Hid (wy.heap[w.heap.size + 1]? = some (.cells #[.slice none 0 0, .slice none 0 0, .int .i64 0, .slice none 0 0, .int .i64 0, .int .i64 0, .int .i64 0] 32))) := by
    intro wx wy q1 q2
    have q := to_call q1 q2
    exact ⟨q, cells7 (kept q k0), cells7 (kept q k1), frz (kept q k1), kept q k1⟩
  obtain ⟨a0, a1, a2, a3, a4, a5, a6⟩ := cells7 k0
  clear k0 k1 hb0
  have HQ : Hid (∀ wy, Below W0.heap.size W0 wy → Below w.heap.size w wy) := fun wy q => HB0.out.trans (q.mono HB0.out.size)
  go_region_held3 (fun w' => w'.cell? ⟨w.heap.size, 0, none⟩ = some (.slice co cn cc) ∧ w'.cell? ⟨w.heap.size, 1, none⟩ = some (.slice go gn gc) ∧ w'.cell? ⟨w.heap.size, 2, none⟩ = some (.int .i64 t) ∧ w'.cell? ⟨w.heap.size, 3, none⟩ = some (.slice lo ln lc) ∧ w'.cell? ⟨w.heap.size, 4, none⟩ = some (.int .i64 K) ∧ w'.cell? ⟨w.heap.size, 5, none⟩ = some (.int .i64 D) ∧ w'.cell? ⟨w.heap.size, 6, none⟩ = some (.int .i64 L)) (go_keep) ((first
    | (go_at_call 23; refine Calls.mono (H1.out _ HB0.out.drew) ?_; rintro e x1 ⟨v1, rfl, m1, bx1⟩; obtain ⟨o1, l1, c1, rfl⟩ := m1.sl; obtain ⟨q1, ⟨s0, s1, s2, s3, s4, s5, s6⟩, ⟨r0, r1, r2, r3, r4, r5, r6⟩, fz1, hw1⟩ := HC.out _ x1 (Below.refl _ _).drew bx1; have M1 : Hid (OwnUi x1 w.heap.size (.slice o1 l1 c1) cs) := m1.mono (by have := HB0.out.drew.size; exact this); clear m1)
    | (go_at_call_of 24 (Value.slice go gn gc); refine Calls.mono (H2.out _ (HQ.out _ q1)) ?_; rintro e x2 ⟨v2, rfl, m2, bx2⟩; obtain ⟨o2, l2, c2, rfl⟩ := m2.sl; obtain ⟨q2, ⟨t0, t1, tt2, t3, t4, t5, t6⟩, ⟨rr0, rr1, rr2, rr3, rr4, rr5, rr6⟩, fz2, hw2⟩ := HC.out _ x2 q1 bx2; have M2 : Hid (MkU x2 w.heap.size (.slice o2 l2 c2) gs) := m2.mono (HQ.out _ q1).size; clear m2)
    | (go_at_call_of 24 (Value.slice lo ln lc); refine Calls.mono (H3.out _ (HQ.out _ q2)) ?_; rintro e x3 ⟨v3, rfl, m3, bx3⟩; obtain ⟨o3, l3, c3, rfl⟩ := m3.sl; obtain ⟨q3, ⟨u0, u1, u2, u3, u4, u5, u6⟩, ⟨rs0, rs1, rs2, rs3, rs4, rs5, rs6⟩, fz3, hw3⟩ := HC.out _ x3 q2 bx3; have M3 : Hid (MkU x3 w.heap.size (.slice o3 l3 c3) ls) := m3.mono (HQ.out _ q2).size; clear m3)))
  have HWR : Wr w w.heap.size (w.heap.size + 1) 32 x3 _ _ := (((((((Wr.mk hw3.out (HQ.out _ q3) (fun _ _ => rfl) : Wr w w.heap.size (w.heap.size + 1) 32 x3 x3 _).step (by omega) 0 (.slice o1 l1 c1)).step (by omega) 1 (.slice o2 l2 c2)).step (by omega) 2 (.int .i64 t)).step (by omega) 3 (.slice o3 l3 c3)).step (by omega) 4 (.int .i64 K)).step (by omega) 5 (.int .i64 D)).step (by omega) 6 (.int .i64 L)
  obtain ⟨W9, hW9⟩ : ∃ W9, ((((((x3.setCell ⟨w.heap.size + 1, 0, none⟩ (.slice o1 l1 c1)).setCell ⟨w.heap.size + 1, 1, none⟩ (.slice o2 l2 c2)).setCell ⟨w.heap.size + 1, 2, none⟩ (.int .i64 t)).setCell ⟨w.heap.size + 1, 3, none⟩ (.slice o3 l3 c3)).setCell ⟨w.heap.size + 1, 4, none⟩ (.int .i64 K)).setCell ⟨w.heap.size + 1, 5, none⟩ (.int .i64 D)).setCell ⟨w.heap.size + 1, 6, none⟩ (.int .i64 L) = W9 := ⟨_, rfl⟩
  rw [hW9] at HWR ⊢
  clear hW9
  have HW2 : Hid (Wr w w.heap.size (w.heap.size + 1) 32 x3 W9 #[.slice o1 l1 c1, .slice o2 l2 c2, .int .i64 t, .slice o3 l3 c3, .int .i64 K, .int .i64 D, .int .i64 L]) := HWR
  have R1 : Hid (OwnUi W9 w.heap.size (.slice o1 l1 c1) cs) := ui_wr HW2.out hw3.out ((M1.out.later bx2).later bx3)
  have R2 : Hid (MkU W9 w.heap.size (.slice o2 l2 c2) gs) := mku_wr HW2.out hw3.out (M2.out.later bx3)
  have R3 : Hid (MkU W9 w.heap.size (.slice o3 l3 c3) ls) := mku_wr HW2.out hw3.out M3.out
  clear HWR M1 M2 M3
  go_wp2
  refine bodyPost_ret (res_prop _ 2 (by kernel_rfl) _ _ (w.heap.size + 1) _ (by rfl) rfl HW2.out.blk) rfl ?_
  exact ⟨_, _, _, rfl, R1.out, R2.out, R3.out, HW2.out.bel⟩
end Go.Proofs.YtnhaapnmgjlbjaaDoor
