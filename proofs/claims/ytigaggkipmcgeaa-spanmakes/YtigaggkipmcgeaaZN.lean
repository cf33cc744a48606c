import Derived.Test.YtigaggkipmcgeaaZM
namespace Go.Proofs.Ytigaggkipmcgeaa
open Go.RowKit
set_option linter.unusedVariables false

theorem alloc1r {w W : World} (o : Obj) (hb : Below w.heap.size w W) : (W.alloc o).heap[W.heap.size]? = some o ∧ Below w.heap.size w (W.alloc o) := ⟨heap_alloc_new W o, hb.alloc hb.size _⟩
set_option maxRecDepth 100000 in
set_option maxHeartbeats 2000000 in
theorem refMake_any (lo hi : Nat) (hlo : lo < 18446744073709551616) (hhi : hi < 18446744073709551616) (w : World) (E : Nat) (hE : E = 1074) :
    Calls Try.prog 32 #[.int .u64 (lo : Int), .int .u64 (hi : Int)] w fun e w' => RefAns w (fun r => r = makeS lo hi) e w' := by
  obtain ⟨g0, gb⟩ := alloc1_facts w (Obj.cells #[Value.int .u64 0, .int .u64 0, .bool false] 71)
  have G0 : Hid _ := g0
  have GB : Hid _ := gb
  clear g0 gb
  go_enter Try.func32, Try.ntmps32
  go_upto_region 1 with fail
  generalize w.alloc (Obj.cells #[Value.int .u64 0, .int .u64 0, .bool false] 71) = W0 at G0 GB ⊢
  go_wp2_with fail
  refine Calls.mono (ends_any lo hi false hlo hhi _ E hE) ?_
  rintro e w1 ⟨v1, u1, rfl, ⟨z1, hz1, hf1⟩, ⟨y1, hy1, hg1⟩, bw⟩
  have Z1 : Hid (NumZ w1 v1 E 1024 z1) := hz1
  have Y1 : Hid (NumZ w1 u1 E 1024 y1) := hy1
  have F1 : Hid (Fin lo → z1 = fval lo) := hf1
  have H1 : Hid (Fin hi → y1 = fval hi) := hg1
  obtain ⟨nx1, mx1, ex1, ⟨ao1, len1, cap1, xs1, rfl, -⟩, -⟩ := hz1
  obtain ⟨ny1, my1, ey1, ⟨bo1, blen1, bcap1, ys1, rfl, -⟩, -⟩ := hy1
  have G0_1 : Hid _ := (bw.block _ (blk_lt G0.out)).trans G0.out
  have C_1 : Hid (Below w.heap.size w w1) := GB.out.trans (bw.mono GB.out.size)
  clear bw hf1 hg1 GB G0
  by_cases hg : Good lo hi false
  · rw [decide_eq_true hg]
    have HZ : Hid (z1 = fval lo ∧ y1 = fval hi) := ⟨F1.out hg.2.1, H1.out hg.2.2.1⟩
    have HSP : Hid (∀ r, SpR z1 y1 (2 ^ 0) r → r = makeS lo hi) := by
      intro r hr
      rw [HZ.out.1, HZ.out.2] at hr
      refine hr.uniq ⟨(plainM lo, true), (plainM hi, true), RndZ.plain 2 hlo hg.2.1 (by decide), RndZ.plain 1 hhi hg.2.2.1 (by decide), ?_⟩
      unfold makeS spOf; rw [if_pos hg, if_pos ⟨rfl, rfl⟩]
    clear hg F1 H1
    go_upto_region 2 with fail
    obtain ⟨k0, k1, -, kb⟩ := alloc2_facts w1 (Obj.cells #[Value.bool nx1, Value.slice ao1 len1 cap1, Value.int IntKind.i64 ex1] 27) (Obj.cells #[Value.bool ny1, Value.slice bo1 blen1 bcap1, Value.int IntKind.i64 ey1] 27)
    have K1x : Hid _ := k0
    have K1y : Hid _ := k1
    have C1' : Hid (Below w.heap.size w ((w1.alloc (Obj.cells #[Value.bool nx1, Value.slice ao1 len1 cap1, Value.int IntKind.i64 ex1] 27)).alloc (Obj.cells #[Value.bool ny1, Value.slice bo1 blen1 bcap1, Value.int IntKind.i64 ey1] 27))) := C_1.out.trans (kb.mono C_1.out.size)
    have G0_1' : Hid _ := (kb.block _ (blk_lt G0_1.out)).trans G0_1.out
    have Z1' : Hid _ := Z1.out.later kb
    have Y1' : Hid _ := Y1.out.later kb
    clear k0 k1 kb C_1 G0_1 Z1 Y1
    generalize ((w1.alloc (Obj.cells #[Value.bool nx1, Value.slice ao1 len1 cap1, Value.int IntKind.i64 ex1] 27)).alloc (Obj.cells #[Value.bool ny1, Value.slice bo1 blen1 bcap1, Value.int IntKind.i64 ey1] 27)) = V1 at K1x K1y C1' G0_1' Z1' Y1' ⊢
    have R3 : Hid _ := G0_1'.out
    have C3 : Hid _ := C1'.out
    obtain ⟨x0, x1, x2⟩ := cells3 K1x.out
    obtain ⟨y0, y1, y2⟩ := cells3 K1y.out
    go_wp2_with fail
    refine Calls.mono (refOf_any _ _ E 0 1024 1024 _ _ _ Z1'.out Y1'.out E hE rfl (by omega) (by omega) (by omega)) ?_
    rintro e w4 ⟨r, rfl, hr, bw⟩
    have HR : Hid _ := hr
    have R4 : Hid _ := (bw.block _ (blk_lt R3.out)).trans R3.out
    have C4 : Hid (Below w.heap.size w w4) := C3.out.trans (bw.mono C3.out.size)
    clear bw hr
    obtain ⟨r0, r1, r2⟩ := cells3 R4.out
    have fz := fun j => frozen_of_row _ _ j _ _ R4.out
    go_wp2_with fail
    refine bodyPost_ret (v := .agg #[.int .u64 (r.1 : Int), .int .u64 (r.2.1 : Int), .bool r.2.2]) (res_su _ 4 (by kernel_rfl) _ _ w.heap.size _ _ _ ?_ (setsp_heap _ _ _ R4.out)) rfl ?_
    · rfl
    · exact ⟨r, rfl, HSP.out r HR.out, below_setsp _ _ _ C4.out (by omega)⟩
  · rw [decide_eq_false hg]
    have HSP : Hid ((0, 0, true) = makeS lo hi) := by unfold Hid makeS; rw [if_neg hg]
    clear hg F1 H1
    go_upto_region 2 with fail
    obtain ⟨k0, k1, -, kb⟩ := alloc2_facts w1 (Obj.cells #[Value.bool nx1, Value.slice ao1 len1 cap1, Value.int IntKind.i64 ex1] 27) (Obj.cells #[Value.bool ny1, Value.slice bo1 blen1 bcap1, Value.int IntKind.i64 ey1] 27)
    have K1x : Hid _ := k0
    have K1y : Hid _ := k1
    have C1' : Hid (Below w.heap.size w ((w1.alloc (Obj.cells #[Value.bool nx1, Value.slice ao1 len1 cap1, Value.int IntKind.i64 ex1] 27)).alloc (Obj.cells #[Value.bool ny1, Value.slice bo1 blen1 bcap1, Value.int IntKind.i64 ey1] 27))) := C_1.out.trans (kb.mono C_1.out.size)
    have G0_1' : Hid _ := (kb.block _ (blk_lt G0_1.out)).trans G0_1.out
    have Z1' : Hid _ := Z1.out.later kb
    have Y1' : Hid _ := Y1.out.later kb
    clear k0 k1 kb C_1 G0_1 Z1 Y1
    generalize ((w1.alloc (Obj.cells #[Value.bool nx1, Value.slice ao1 len1 cap1, Value.int IntKind.i64 ex1] 27)).alloc (Obj.cells #[Value.bool ny1, Value.slice bo1 blen1 bcap1, Value.int IntKind.i64 ey1] 27)) = V1 at K1x K1y C1' G0_1' Z1' Y1' ⊢
    have R3 : Hid _ := G0_1'.out
    have C3 : Hid _ := C1'.out
    go_wp2_with fail
    refine Calls.mono (refBad_any _) ?_
    rintro e w4 ⟨rfl, bw⟩
    have R4 : Hid _ := (bw.block _ (blk_lt R3.out)).trans R3.out
    have C4 : Hid (Below w.heap.size w w4) := C3.out.trans (bw.mono C3.out.size)
    clear bw
    obtain ⟨r0, r1, r2⟩ := cells3 R4.out
    have fz := fun j => frozen_of_row _ _ j _ _ R4.out
    go_wp2_with fail
    refine bodyPost_ret (v := .agg #[.int .u64 0, .int .u64 0, .bool true]) (res_su _ 4 (by kernel_rfl) _ _ w.heap.size _ _ _ ?_ (setsp_heap _ _ _ R4.out)) rfl ?_
    · rfl
    · exact ⟨(0, 0, true), rfl, HSP.out, below_setsp _ _ _ C4.out (by omega)⟩
end Go.Proofs.Ytigaggkipmcgeaa
