import Derived.Test.YtigaggkipmcgeaaMV
namespace Go.Proofs.Ytigaggkipmcgeaa
open Go.RowKit
set_option linter.unusedVariables false

set_option maxRecDepth 100000 in
set_option maxHeartbeats 2000000 in
theorem width_any (al ah : Nat) (ab : Bool) (hal : al < 18446744073709551616) (hah : ah < 18446744073709551616) : ∃ p, (Good al ah ab → RndZ 1 (fval ah - fval al) 1 p) ∧ (¬ Good al ah ab → p = (0, false)) ∧
    ∀ w, Calls Try.prog 36 #[.agg #[.float .f64 al, .float .f64 ah, .bool ab]] w fun e w' => e = .returned (.tuple #[.float .f64 p.1, .bool p.2]) ∧ Below w.heap.size w w' := by
  by_cases hg : Good al ah ab
  · obtain ⟨p, p1, -, p2⟩ := sub_any 1 ah al hah hal
    refine ⟨p, fun _ => p1 hg.2.2.1 hg.2.1, fun c => absurd hg c, fun w => ?_⟩
    have HP : Hid _ := p2
    have hgd : decide (Good al ah ab) = true := decide_eq_true hg
    clear p1 p2 hg
    obtain ⟨g0, gb⟩ := alloc1_facts w (Obj.cells #[Value.float .f64 al, .float .f64 ah, .bool ab] 68)
    have GA : Hid _ := g0
    have GB : Hid _ := gb
    clear g0 gb
    go_enter Try.func36, Try.ntmps36
    go_upto_region 1 with fail
    generalize (w.alloc (Obj.cells #[Value.float .f64 al, .float .f64 ah, .bool ab] 68)) = W3 at GA GB ⊢
    obtain ⟨a0, a1, a2⟩ := cells3 GA.out
    have N4 : Hid _ := heap_alloc_new W3 (Obj.cells #[Value.float .f64 al, .float .f64 ah, .bool ab] 68)
    have PGA : Hid _ := alloc4 GA.out GB.out (Obj.cells #[Value.float .f64 al, .float .f64 ah, .bool ab] 68)
    clear GB GA
    go_wp2_with fail
    clear a0 a1 a2
    generalize W3.alloc (Obj.cells #[Value.float .f64 al, .float .f64 ah, .bool ab] 68) = W4 at N4 PGA ⊢
    refine Calls.mono (good1_any N4.out hal hah) ?_
    rintro e w1 ⟨rfl, bw⟩
    have GA1 : Hid _ := (bw.block _ (blk_lt PGA.out.1)).trans PGA.out.1
    have C1 : Hid (Below w.heap.size w w1) := PGA.out.2.trans (bw.mono PGA.out.2.size)
    clear bw N4 PGA
    rw [hgd]
    obtain ⟨a0, a1, a2⟩ := cells3 GA1.out
    go_wp2_with fail
    refine Calls.mono (HP.out _) ?_
    rintro e w2 ⟨rfl, hw⟩
    rw [hw]; clear hw
    go_wp2_with fail
    go_ret2
    exact ⟨rfl, C1.out⟩
  · refine ⟨(0, false), fun c => absurd c hg, fun _ => rfl, fun w => ?_⟩
    have hgd : decide (Good al ah ab) = false := decide_eq_false hg
    clear hg
    obtain ⟨g0, gb⟩ := alloc1_facts w (Obj.cells #[Value.float .f64 al, .float .f64 ah, .bool ab] 68)
    have GA : Hid _ := g0
    have GB : Hid _ := gb
    clear g0 gb
    go_enter Try.func36, Try.ntmps36
    go_upto_region 1 with fail
    generalize (w.alloc (Obj.cells #[Value.float .f64 al, .float .f64 ah, .bool ab] 68)) = W3 at GA GB ⊢
    obtain ⟨a0, a1, a2⟩ := cells3 GA.out
    have N4 : Hid _ := heap_alloc_new W3 (Obj.cells #[Value.float .f64 al, .float .f64 ah, .bool ab] 68)
    have PGA : Hid _ := alloc4 GA.out GB.out (Obj.cells #[Value.float .f64 al, .float .f64 ah, .bool ab] 68)
    clear GB GA
    go_wp2_with fail
    clear a0 a1 a2
    generalize W3.alloc (Obj.cells #[Value.float .f64 al, .float .f64 ah, .bool ab] 68) = W4 at N4 PGA ⊢
    refine Calls.mono (good1_any N4.out hal hah) ?_
    rintro e w1 ⟨rfl, bw⟩
    have GA1 : Hid _ := (bw.block _ (blk_lt PGA.out.1)).trans PGA.out.1
    have C1 : Hid (Below w.heap.size w w1) := PGA.out.2.trans (bw.mono PGA.out.2.size)
    clear bw N4 PGA
    rw [hgd]
    go_wp2_with fail
    go_ret2
    exact ⟨rfl, C1.out⟩
/-- What the document tells of a span by a number. -/
def TellR (P : Prop) (d V : Int) (D : Nat) (w : World) (e : Ending) (w' : World) : Prop := ∃ (a : Nat) (b : Bool), e = .returned (.tuple #[.int .u64 (a : Int), .bool b]) ∧ (P → RndZ d V D (a, b)) ∧ (¬ P → a = 0 ∧ b = false) ∧ Below w.heap.size w w'
set_option maxRecDepth 100000 in
set_option maxHeartbeats 2000000 in
theorem refWidth_any (al ah : Nat) (ab : Bool) (hal : al < 18446744073709551616) (hah : ah < 18446744073709551616) (w : World) (E : Nat) (hE : E = 1074) :
    Calls Try.prog 37 #[.agg #[Value.int .u64 (al : Int), .int .u64 (ah : Int), .bool ab]] w fun e w' => TellR (Good al ah ab) 1 (fval ah - fval al) 1 w e w' := by
  obtain ⟨g0, gb⟩ := alloc1_facts w (Obj.cells #[Value.int .u64 (al : Int), .int .u64 (ah : Int), .bool ab] 71)
  have GA : Hid _ := g0
  have GB : Hid _ := gb
  clear g0 gb
  go_enter Try.func37, Try.ntmps37
  go_upto_region 1 with fail
  generalize w.alloc (Obj.cells #[Value.int .u64 (al : Int), .int .u64 (ah : Int), .bool ab] 71) = W0 at GA GB ⊢
  obtain ⟨a0, a1, a2⟩ := cells3 GA.out
  go_wp2_with fail
  clear a0 a1 a2
  refine Calls.mono (ends_any al ah ab hal hah _ E hE) ?_
  rintro e w1 ⟨v1, u1, rfl, ⟨z1, hz1, hf1⟩, ⟨y1, hy1, hg1⟩, bw⟩
  have Z1 : Hid (NumZ w1 v1 E 1024 z1) := hz1
  have Y1 : Hid (NumZ w1 u1 E 1024 y1) := hy1
  have F1 : Hid (Fin al → z1 = fval al) := hf1
  have H1 : Hid (Fin ah → y1 = fval ah) := hg1
  obtain ⟨nx1, mx1, ex1, ⟨ao1, len1, cap1, xs1, rfl, -⟩, -⟩ := hz1
  obtain ⟨ny1, my1, ey1, ⟨bo1, blen1, bcap1, ys1, rfl, -⟩, -⟩ := hy1
  have GA_1 : Hid _ := (bw.block _ (blk_lt GA.out)).trans GA.out
  have C_1 : Hid (Below w.heap.size w w1) := GB.out.trans (bw.mono GB.out.size)
  clear bw hf1 hg1 GB GA
  by_cases hg : Good al ah ab
  · rw [decide_eq_true hg]
    have HG : Hid _ := hg
    have HZ : Hid (z1 = fval al ∧ y1 = fval ah) := ⟨F1.out hg.2.1, H1.out hg.2.2.1⟩
    clear hg F1 H1
    go_upto_region 2 with fail
    obtain ⟨k0, k1, -, kb⟩ := alloc2_facts w1 (Obj.cells #[Value.bool nx1, Value.slice ao1 len1 cap1, Value.int IntKind.i64 ex1] 27) (Obj.cells #[Value.bool ny1, Value.slice bo1 blen1 bcap1, Value.int IntKind.i64 ey1] 27)
    have K1x : Hid _ := k0
    have K1y : Hid _ := k1
    have C1' : Hid (Below w.heap.size w ((w1.alloc (Obj.cells #[Value.bool nx1, Value.slice ao1 len1 cap1, Value.int IntKind.i64 ex1] 27)).alloc (Obj.cells #[Value.bool ny1, Value.slice bo1 blen1 bcap1, Value.int IntKind.i64 ey1] 27))) := C_1.out.trans (kb.mono C_1.out.size)
    have GA_1' : Hid _ := (kb.block _ (blk_lt GA_1.out)).trans GA_1.out
    have Z1' : Hid _ := NumZ.later Z1.out kb
    have Y1' : Hid _ := NumZ.later Y1.out kb
    clear k0 k1 kb C_1 GA_1 Z1 Y1
    generalize ((w1.alloc (Obj.cells #[Value.bool nx1, Value.slice ao1 len1 cap1, Value.int IntKind.i64 ex1] 27)).alloc (Obj.cells #[Value.bool ny1, Value.slice bo1 blen1 bcap1, Value.int IntKind.i64 ey1] 27)) = V1 at K1x K1y C1' GA_1' Z1' Y1' ⊢
    obtain ⟨x0, x1, x2⟩ := cells3 K1x.out
    obtain ⟨q0, q1, q2⟩ := cells3 K1y.out
    go_wp2_with fail
    refine Calls.mono (minusZ_any _ _ E 1024 y1 z1 _ Y1'.out Z1'.out (by omega) (by omega)) ?_
    rintro e w2 ⟨v2, rfl, hz2, bw⟩
    have Z2 : Hid _ := hz2
    have C2 : Hid (Below w.heap.size w w2) := C1'.out.trans (bw.mono C1'.out.size)
    clear bw hz2 x0 x1 x2 q0 q1 q2
    go_wp2_with fail
    refine Calls.mono (roundZ_any 1 v2 E 0 1025 _ _ Z2.out E hE rfl (by omega) (by omega) (by decide) (by decide)) ?_
    rintro e w3 ⟨p, q, rfl, hR, bw⟩
    have HR : Hid (RndZ 1 (y1 - z1) (2 ^ 0) (p, q)) := hR
    have C3 : Hid (Below w.heap.size w w3) := C2.out.trans (bw.mono C2.out.size)
    clear hR bw
    go_wp2_with fail
    go_ret2
    refine ⟨p, q, rfl, fun _ => ?_, fun c => absurd HG.out c, C3.out⟩
    have h := HR.out
    rw [HZ.out.1, HZ.out.2] at h
    exact h
  · rw [decide_eq_false hg]
    have HG : Hid _ := hg
    clear hg F1 H1
    go_upto_region 2 with fail
    obtain ⟨k0, k1, -, kb⟩ := alloc2_facts w1 (Obj.cells #[Value.bool nx1, Value.slice ao1 len1 cap1, Value.int IntKind.i64 ex1] 27) (Obj.cells #[Value.bool ny1, Value.slice bo1 blen1 bcap1, Value.int IntKind.i64 ey1] 27)
    have K1x : Hid _ := k0
    have K1y : Hid _ := k1
    have C1' : Hid (Below w.heap.size w ((w1.alloc (Obj.cells #[Value.bool nx1, Value.slice ao1 len1 cap1, Value.int IntKind.i64 ex1] 27)).alloc (Obj.cells #[Value.bool ny1, Value.slice bo1 blen1 bcap1, Value.int IntKind.i64 ey1] 27))) := C_1.out.trans (kb.mono C_1.out.size)
    have GA_1' : Hid _ := (kb.block _ (blk_lt GA_1.out)).trans GA_1.out
    have Z1' : Hid _ := NumZ.later Z1.out kb
    have Y1' : Hid _ := NumZ.later Y1.out kb
    clear k0 k1 kb C_1 GA_1 Z1 Y1
    generalize ((w1.alloc (Obj.cells #[Value.bool nx1, Value.slice ao1 len1 cap1, Value.int IntKind.i64 ex1] 27)).alloc (Obj.cells #[Value.bool ny1, Value.slice bo1 blen1 bcap1, Value.int IntKind.i64 ey1] 27)) = V1 at K1x K1y C1' GA_1' Z1' Y1' ⊢
    go_wp2_with fail
    go_ret2
    exact ⟨0, false, rfl, fun c => absurd c HG.out, fun _ => ⟨rfl, rfl⟩, C1'.out⟩
theorem movedHalf_any (v : Value) (s : Nat) (T z : Int) (w : World) (h : NumZ w v s T z) (hs : s ≤ 20000) (hT : 0 ≤ T ∧ T ≤ 20000) :
    Calls Try.prog 16 #[v, .int .i64 (-1)] w fun e' w' => ∃ v', e' = .returned v' ∧ NumZ w' v' (s + 1) T z ∧ Below w.heap.size w w' := by
  obtain ⟨neg, m, e, h1, h2, h3, h4⟩ := h
  have hb : (0 : Int) ≤ (bl m : Int) := by omega
  refine Calls.mono (moved_any v neg m e (-1) (by omega) (by omega) w h1) ?_
  rintro e' w' ⟨v', rfl, hN, hB⟩
  refine ⟨v', rfl, ⟨neg, m, _, hN, ?_, ?_, ?_⟩, hB⟩
  · split <;> omega
  · split <;> omega
  · rw [← h4]
    by_cases h0 : m = 0
    · subst h0
      unfold zv; simp [sv_zero]
    · rw [if_neg h0]
      unfold zv
      rw [show e + -1 + ((s + 1 : Nat) : Int) = e + (s : Int) by omega]
set_option maxRecDepth 100000 in
set_option maxHeartbeats 2000000 in
theorem refMiddle_any (al ah : Nat) (ab : Bool) (hal : al < 18446744073709551616) (hah : ah < 18446744073709551616) (w : World) (E : Nat) (hE : E = 1074) :
    Calls Try.prog 39 #[.agg #[Value.int .u64 (al : Int), .int .u64 (ah : Int), .bool ab]] w fun e w' => TellR (Good al ah ab) 0 (fval al + fval ah) 2 w e w' := by
  obtain ⟨g0, gb⟩ := alloc1_facts w (Obj.cells #[Value.int .u64 (al : Int), .int .u64 (ah : Int), .bool ab] 71)
  have GA : Hid _ := g0
  have GB : Hid _ := gb
  clear g0 gb
  go_enter Try.func39, Try.ntmps39
  go_upto_region 1 with fail
  generalize w.alloc (Obj.cells #[Value.int .u64 (al : Int), .int .u64 (ah : Int), .bool ab] 71) = W0 at GA GB ⊢
  obtain ⟨a0, a1, a2⟩ := cells3 GA.out
  go_wp2_with fail
  clear a0 a1 a2
  refine Calls.mono (ends_any al ah ab hal hah _ E hE) ?_
  rintro e w1 ⟨v1, u1, rfl, ⟨z1, hz1, hf1⟩, ⟨y1, hy1, hg1⟩, bw⟩
  have Z1 : Hid (NumZ w1 v1 E 1024 z1) := hz1
  have Y1 : Hid (NumZ w1 u1 E 1024 y1) := hy1
  have F1 : Hid (Fin al → z1 = fval al) := hf1
  have H1 : Hid (Fin ah → y1 = fval ah) := hg1
  obtain ⟨nx1, mx1, ex1, ⟨ao1, len1, cap1, xs1, rfl, -⟩, -⟩ := hz1
  obtain ⟨ny1, my1, ey1, ⟨bo1, blen1, bcap1, ys1, rfl, -⟩, -⟩ := hy1
  have GA_1 : Hid _ := (bw.block _ (blk_lt GA.out)).trans GA.out
  have C_1 : Hid (Below w.heap.size w w1) := GB.out.trans (bw.mono GB.out.size)
  clear bw hf1 hg1 GB GA
  by_cases hg : Good al ah ab
  · rw [decide_eq_true hg]
    have HG : Hid _ := hg
    have HZ : Hid (z1 = fval al ∧ y1 = fval ah) := ⟨F1.out hg.2.1, H1.out hg.2.2.1⟩
    clear hg F1 H1
    go_upto_region 2 with fail
    obtain ⟨k0, k1, -, kb⟩ := alloc2_facts w1 (Obj.cells #[Value.bool nx1, Value.slice ao1 len1 cap1, Value.int IntKind.i64 ex1] 27) (Obj.cells #[Value.bool ny1, Value.slice bo1 blen1 bcap1, Value.int IntKind.i64 ey1] 27)
    have K1x : Hid _ := k0
    have K1y : Hid _ := k1
    have C1' : Hid (Below w.heap.size w ((w1.alloc (Obj.cells #[Value.bool nx1, Value.slice ao1 len1 cap1, Value.int IntKind.i64 ex1] 27)).alloc (Obj.cells #[Value.bool ny1, Value.slice bo1 blen1 bcap1, Value.int IntKind.i64 ey1] 27))) := C_1.out.trans (kb.mono C_1.out.size)
    have GA_1' : Hid _ := (kb.block _ (blk_lt GA_1.out)).trans GA_1.out
    have Z1' : Hid _ := NumZ.later Z1.out kb
    have Y1' : Hid _ := NumZ.later Y1.out kb
    clear k0 k1 kb C_1 GA_1 Z1 Y1
    generalize ((w1.alloc (Obj.cells #[Value.bool nx1, Value.slice ao1 len1 cap1, Value.int IntKind.i64 ex1] 27)).alloc (Obj.cells #[Value.bool ny1, Value.slice bo1 blen1 bcap1, Value.int IntKind.i64 ey1] 27)) = V1 at K1x K1y C1' GA_1' Z1' Y1' ⊢
    obtain ⟨x0, x1, x2⟩ := cells3 K1x.out
    obtain ⟨q0, q1, q2⟩ := cells3 K1y.out
    go_wp2_with fail
    refine Calls.mono (plusZ_any _ _ E 1024 z1 y1 _ Z1'.out Y1'.out (by omega) (by omega)) ?_
    rintro e w2 ⟨v2, rfl, hz2, bw⟩
    have Z2 : Hid _ := hz2
    have C2 : Hid (Below w.heap.size w w2) := C1'.out.trans (bw.mono C1'.out.size)
    clear bw hz2 x0 x1 x2 q0 q1 q2
    go_wp2_with fail
    refine Calls.mono (movedHalf_any v2 E 1025 _ _ Z2.out (by omega) (by omega)) ?_
    rintro e w4 ⟨v4, rfl, hz4, bw⟩
    have Z4 : Hid _ := hz4
    have C4 : Hid (Below w.heap.size w w4) := C2.out.trans (bw.mono C2.out.size)
    clear bw hz4
    go_wp2_with fail
    refine Calls.mono (roundZ_any 0 v4 (E + 1) 1 1025 _ _ Z4.out E hE rfl (by omega) (by omega) (by decide) (by decide)) ?_
    rintro e w3 ⟨p, q, rfl, hR, bw⟩
    have HR : Hid (RndZ 0 (z1 + y1) (2 ^ 1) (p, q)) := hR
    have C3 : Hid (Below w.heap.size w w3) := C4.out.trans (bw.mono C4.out.size)
    clear hR bw
    go_wp2_with fail
    go_ret2
    refine ⟨p, q, rfl, fun _ => ?_, fun c => absurd HG.out c, C3.out⟩
    have h := HR.out
    rw [HZ.out.1, HZ.out.2] at h
    exact h
  · rw [decide_eq_false hg]
    have HG : Hid _ := hg
    clear hg F1 H1
    go_upto_region 2 with fail
    obtain ⟨k0, k1, -, kb⟩ := alloc2_facts w1 (Obj.cells #[Value.bool nx1, Value.slice ao1 len1 cap1, Value.int IntKind.i64 ex1] 27) (Obj.cells #[Value.bool ny1, Value.slice bo1 blen1 bcap1, Value.int IntKind.i64 ey1] 27)
    have K1x : Hid _ := k0
    have K1y : Hid _ := k1
    have C1' : Hid (Below w.heap.size w ((w1.alloc (Obj.cells #[Value.bool nx1, Value.slice ao1 len1 cap1, Value.int IntKind.i64 ex1] 27)).alloc (Obj.cells #[Value.bool ny1, Value.slice bo1 blen1 bcap1, Value.int IntKind.i64 ey1] 27))) := C_1.out.trans (kb.mono C_1.out.size)
    have GA_1' : Hid _ := (kb.block _ (blk_lt GA_1.out)).trans GA_1.out
    have Z1' : Hid _ := NumZ.later Z1.out kb
    have Y1' : Hid _ := NumZ.later Y1.out kb
    clear k0 k1 kb C_1 GA_1 Z1 Y1
    generalize ((w1.alloc (Obj.cells #[Value.bool nx1, Value.slice ao1 len1 cap1, Value.int IntKind.i64 ex1] 27)).alloc (Obj.cells #[Value.bool ny1, Value.slice bo1 blen1 bcap1, Value.int IntKind.i64 ey1] 27)) = V1 at K1x K1y C1' GA_1' Z1' Y1' ⊢
    go_wp2_with fail
    go_ret2
    exact ⟨0, false, rfl, fun c => absurd c HG.out, fun _ => ⟨rfl, rfl⟩, C1'.out⟩
end Go.Proofs.Ytigaggkipmcgeaa
