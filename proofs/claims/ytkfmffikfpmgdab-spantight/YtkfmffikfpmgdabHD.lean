import Derived.Test.YtkfmffikfpmgdabHC
namespace Go.Proofs.Ytkfmffikfpmgdab
open Go.RowKit
set_option linter.unusedVariables false

theorem tmod_pos {a m : Int} (hm : 0 < m) : -m < a.tmod m ∧ a.tmod m < m := ⟨Int.lt_tmod_of_pos a hm, Int.tmod_lt_of_pos a hm⟩
/-- n % m, made not negative. -/
theorem turn_mod (a : Int) {m : Int} (hm : 0 < m) : ∃ k : Nat, (k : Int) < m ∧ (a.tmod m + m).tmod m = (k : Int) := by
  have h := tmod_pos (a := a) hm
  have h2 := tmod_pos (a := a.tmod m + m) hm
  have h3 : 0 ≤ (a.tmod m + m).tmod m := Int.tmod_nonneg _ (by omega)
  exact ⟨((a.tmod m + m).tmod m).toNat, by omega, by omega⟩
set_option maxRecDepth 100000 in
set_option maxHeartbeats 2000000 in
theorem within_any (al ah : Nat) (ab : Bool) (hal : al < 18446744073709551616) (hah : ah < 18446744073709551616) (i n : Int) (hi0 : -9223372036854775808 ≤ i) (hi1 : i ≤ 9223372036854775807) (hn0 : -9223372036854775808 ≤ n) (hn1 : n ≤ 9223372036854775807) (E : Nat) (hE : E = 1074) (w : World) :
    Calls Try.prog 5 #[.agg #[Value.float .f64 al, .float .f64 ah, .bool ab], .int .i64 i, .int .i64 n] w fun e' w' => ∃ v, e' = .returned (.tuple #[v, .bool (decide (Good al ah ab))]) ∧ (∃ N I : Nat, N ≤ 20 ∧ I ≤ 2 ^ N ∧ ∃ z, NumZ w' v (E + E) 2051 z ∧ (Good al ah ab → z = fval al * ((2 ^ E : Nat) : Int) + (fval ah - fval al) * ((I : Int) * ((2 ^ (E - N) : Nat) : Int)))) ∧ Below w.heap.size w w' := by
  obtain ⟨N, hN, eN⟩ := turn_mod n (m := 21) (by decide)
  obtain ⟨P, hP⟩ : ∃ P : Nat, 2 ^ N = P := ⟨_, rfl⟩
  have hPb : 1 ≤ P ∧ P ≤ 1048576 := by
    rw [← hP]; exact ⟨Nat.two_pow_pos N, by have := Nat.pow_le_pow_right (show 0 < 2 by decide) (show N ≤ 20 by omega); exact this⟩
  obtain ⟨I, hI, eI⟩ := turn_mod i (m := (P : Int) + 1) (by omega)
  have HPP : Hid (2 ^ N = P) := hP
  clear hP
  obtain ⟨g0, g1, -, gb⟩ := alloc2_facts w (Obj.cells #[Value.float .f64 al, .float .f64 ah, .bool ab] 24) (Obj.cells #[Value.bool false, Value.slice none 0 0, Value.int IntKind.i64 0] 27)
  have G0 : Hid _ := g0
  have G1 : Hid _ := g1
  have GB : Hid _ := gb
  clear g0 g1 gb
  go_enter Try.func5, Try.ntmps5
  go_upto_region 1 with fail
  generalize ((w.alloc (Obj.cells #[Value.float .f64 al, .float .f64 ah, .bool ab] 24)).alloc (Obj.cells #[Value.bool false, Value.slice none 0 0, Value.int IntKind.i64 0] 27)) = W0 at G0 G1 GB ⊢
  obtain ⟨a0, a1, a2⟩ := cells3 G0.out
  go_wp2_with fail
  refine Calls.mono (of_any4 al ah ab _) ?_
  rintro e w0 ⟨rfl, bw⟩
  have M1 : Hid _ := (bw.block _ (blk_lt G1.out)).trans G1.out
  have MB : Hid (Below w.heap.size w w0) := GB.out.trans (bw.mono GB.out.size)
  clear bw G0 G1 GB a0 a1 a2
  go_wp2_with fail
  refine Calls.mono (ends_any al ah ab hal hah _ E hE) ?_
  rintro e w1 ⟨v1, u1, rfl, ⟨z1, hz1, hf1⟩, ⟨y1, hy1, hg1⟩, bw⟩
  have Z1 : Hid (NumZ w1 v1 E 1024 z1) := hz1
  have Y1 : Hid (NumZ w1 u1 E 1024 y1) := hy1
  have F1 : Hid (Fin al → z1 = fval al) := hf1
  have H1 : Hid (Fin ah → y1 = fval ah) := hg1
  obtain ⟨nx1, mx1, ex1, ⟨ao1, len1, cap1, xs1, rfl, -⟩, -⟩ := hz1
  obtain ⟨ny1, my1, ey1, ⟨bo1, blen1, bcap1, ys1, rfl, -⟩, -⟩ := hy1
  have M1_1 : Hid _ := (bw.block _ (blk_lt M1.out)).trans M1.out
  have C_1 : Hid (Below w.heap.size w w1) := MB.out.trans (bw.mono MB.out.size)
  clear bw hf1 hg1 MB M1
  obtain ⟨dg, hdg⟩ : ∃ d, decide (Good al ah ab) = d := ⟨_, rfl⟩
  have HDG : Hid _ := hdg
  rw [hdg]
  clear hdg
  go_upto_region 2 with fail
  obtain ⟨k0, k1, -, kb⟩ := alloc2_facts w1 (Obj.cells #[Value.bool nx1, Value.slice ao1 len1 cap1, Value.int IntKind.i64 ex1] 27) (Obj.cells #[Value.bool ny1, Value.slice bo1 blen1 bcap1, Value.int IntKind.i64 ey1] 27)
  have K1x : Hid _ := k0
  have K1y : Hid _ := k1
  have C1' : Hid (Below w.heap.size w ((w1.alloc (Obj.cells #[Value.bool nx1, Value.slice ao1 len1 cap1, Value.int IntKind.i64 ex1] 27)).alloc (Obj.cells #[Value.bool ny1, Value.slice bo1 blen1 bcap1, Value.int IntKind.i64 ey1] 27))) := C_1.out.trans (kb.mono C_1.out.size)
  have M1_1' : Hid _ := (kb.block _ (blk_lt M1_1.out)).trans M1_1.out
  have Z1' : Hid _ := NumZ.later Z1.out kb
  have Y1' : Hid _ := NumZ.later Y1.out kb
  clear k0 k1 kb C_1 M1_1 Z1 Y1
  generalize ((w1.alloc (Obj.cells #[Value.bool nx1, Value.slice ao1 len1 cap1, Value.int IntKind.i64 ex1] 27)).alloc (Obj.cells #[Value.bool ny1, Value.slice bo1 blen1 bcap1, Value.int IntKind.i64 ey1] 27)) = V1 at K1x K1y C1' M1_1' Z1' Y1' ⊢
  have bm := tmod_pos (a := n) (m := 21) (by decide)
  have vm1 : IntKind.i64.wrap (n.tmod 21) = n.tmod 21 := by rw [IntKind.wrap_i64]; omega
  have vm2 : IntKind.i64.wrap (n.tmod 21 + 21) = n.tmod 21 + 21 := by rw [IntKind.wrap_i64]; omega
  go_cut [2] (fun s2 wx => s2 = .int .i64 (N : Int) ∧ wx = V1)
  case first =>
    go_wp2_with fail
    trace_state
    go_meet
    exact ⟨by go_num, rfl⟩
  case rest =>
  obtain ⟨rfl, hw⟩ := hcut
  subst hw
  clear vm1 vm2 bm eN
  have hp2 : (2 : Int) ^ N = (P : Int) := by rw [← HPP.out]; simp
  have hN64 : N < 64 := by omega
  have bi := tmod_pos (a := i) (m := (P : Int) + 1) (by omega)
  have um0 : IntKind.i64.wrap (P : Int) = (P : Int) := by rw [IntKind.wrap_i64]; omega
  have um1 : IntKind.i64.wrap ((P : Int) + 1) = (P : Int) + 1 := by rw [IntKind.wrap_i64]; omega
  have um2 : IntKind.i64.wrap (i.tmod ((P : Int) + 1)) = i.tmod ((P : Int) + 1) := by rw [IntKind.wrap_i64]; omega
  have um3 : IntKind.i64.wrap (i.tmod ((P : Int) + 1) + (P : Int)) = i.tmod ((P : Int) + 1) + (P : Int) := by rw [IntKind.wrap_i64]; omega
  have um4 : IntKind.i64.wrap (i.tmod ((P : Int) + 1) + (P : Int) + 1) = i.tmod ((P : Int) + 1) + (P : Int) + 1 := by rw [IntKind.wrap_i64]; omega
  have um5 : (i.tmod ((P : Int) + 1) + (P : Int) + 1).tmod ((P : Int) + 1) = (I : Int) := by rw [Int.add_assoc]; exact eI
  have um6 : IntKind.i64.wrap (I : Int) = (I : Int) := by rw [IntKind.wrap_i64]; omega
  have nz : ¬ ((P : Int) + 1 = 0) := by omega
  have nn : ¬ ((N : Int) < 0) := by omega
  go_upto_region 3 with fail
  go_region
  clear um0 um1 um2 um3 um4 um5 um6 nz nn hp2 hN64 bi eI
  have HI : Hid (I ≤ P) := by unfold Hid; omega
  have k1 : Hid (wc.drew.heap[w1.heap.size]? = _) := K1x.out
  have k2 : Hid (wc.drew.heap[w1.heap.size + 1]? = _) := K1y.out
  have k3 : Hid (wc.drew.heap[w.heap.size + 1]? = _) := M1_1'.out
  have Zp : Hid _ := NumZ.later Z1'.out (Below.refl _ wc).drew
  have Zq : Hid _ := NumZ.later Y1'.out (Below.refl _ wc).drew
  have C2 : Hid (Below w.heap.size w wc.drew) := C1'.out.drew
  clear K1x K1y M1_1' Z1' Y1' C1'
  generalize wc.drew = W2 at k1 k2 k3 Zp Zq C2 ⊢
  obtain ⟨x0, x1, x2⟩ := cells3 k1.out
  obtain ⟨q0, q1, q2⟩ := cells3 k2.out
  go_wp2_with fail
  refine Calls.mono (minusZ_any _ _ E 1024 y1 z1 _ Zq.out Zp.out (by omega) (by omega)) ?_
  rintro e w3 ⟨v3, rfl, hz3, bw⟩
  have Z3 : Hid (NumZ w3 v3 E 1025 (y1 - z1)) := hz3
  have L1 : Hid _ := (bw.block _ (blk_lt k1.out)).trans k1.out
  have L3 : Hid _ := (bw.block _ (blk_lt k3.out)).trans k3.out
  have Yp : Hid _ := NumZ.later Zp.out bw
  have C3 : Hid (Below w.heap.size w w3) := C2.out.trans (bw.mono C2.out.size)
  clear bw hz3 k1 k2 k3 Zp Zq C2 x0 x1 x2 q0 q1 q2
  go_wp2_with fail
  refine Calls.mono (whole_any I (by have := HI.out; omega) _) ?_
  rintro e w4 ⟨v4, rfl, hz4, bw⟩
  have Z4 : Hid (NumV w4 v4 false I 0) := hz4
  have M1 : Hid _ := (bw.block _ (blk_lt L1.out)).trans L1.out
  have M3 : Hid _ := (bw.block _ (blk_lt L3.out)).trans L3.out
  have Xp : Hid _ := NumZ.later Yp.out bw
  have X3 : Hid _ := NumZ.later Z3.out bw
  have C4 : Hid (Below w.heap.size w w4) := C3.out.trans (bw.mono C3.out.size)
  clear bw hz4 L1 L3 Yp Z3 C3
  have um7 : IntKind.i64.wrap (-(N : Int)) = -(N : Int) := by rw [IntKind.wrap_i64]; omega
  go_wp2_with fail
  refine Calls.mono (wholeMoved_any v4 I N E (by have := HI.out; omega) (by omega) (by omega) _ Z4.out) ?_
  rintro e w5 ⟨v5, rfl, hz5, bw⟩
  have Z5 : Hid (NumZ w5 v5 E 1025 _) := NumZ.mono hz5 (by omega)
  have L1 : Hid _ := (bw.block _ (blk_lt M1.out)).trans M1.out
  have L3 : Hid _ := (bw.block _ (blk_lt M3.out)).trans M3.out
  have Yp : Hid _ := NumZ.later Xp.out bw
  have Z3 : Hid _ := NumZ.later X3.out bw
  have C5 : Hid (Below w.heap.size w w5) := C4.out.trans (bw.mono C4.out.size)
  clear bw hz5 M1 M3 Xp X3 C4 Z4 um7
  go_wp2_with fail
  refine Calls.mono (timesZ_any _ _ E 1025 1025 _ _ _ Z3.out Z5.out (by omega) (by omega) (by omega)) ?_
  rintro e w6 ⟨v6, rfl, hz6, bw⟩
  have Z6 : Hid (NumZ w6 v6 (E + E) 2050 ((y1 - z1) * ((I : Int) * ((2 ^ (E - N) : Nat) : Int)))) := hz6
  obtain ⟨nx, mx, ex, ⟨ao, len, cap, xs, rfl, -⟩, -⟩ := hz6
  have M1 : Hid _ := (bw.block _ (blk_lt L1.out)).trans L1.out
  have M3 : Hid _ := (bw.block _ (blk_lt L3.out)).trans L3.out
  have Xp : Hid _ := NumZ.later Yp.out bw
  have C6 : Hid (Below w.heap.size w w6) := C5.out.trans (bw.mono C5.out.size)
  clear bw L1 L3 Yp Z3 Z5 C5
  go_upto_region 5 with fail
  have Q1 : Hid _ := (alloc4 M1.out C6.out (Obj.cells #[Value.bool nx, Value.slice ao len cap, Value.int IntKind.i64 ex] 27)).1
  have Q3 : Hid _ := (alloc4 M3.out C6.out (Obj.cells #[Value.bool nx, Value.slice ao len cap, Value.int IntKind.i64 ex] 27)).1
  have Qx : Hid _ := heap_alloc_new w6 (Obj.cells #[Value.bool nx, Value.slice ao len cap, Value.int IntKind.i64 ex] 27)
  have C7 : Hid (Below w.heap.size w (w6.alloc (Obj.cells #[Value.bool nx, Value.slice ao len cap, Value.int IntKind.i64 ex] 27))) := C6.out.alloc C6.out.size _
  have Tp : Hid _ := NumZ.mono (NumZ.more (NumZ.later Xp.out ((Below.refl _ w6).alloc (Nat.le_refl _) (Obj.cells #[Value.bool nx, Value.slice ao len cap, Value.int IntKind.i64 ex] 27))) E) (show (1024 : Int) ≤ 2050 by decide)
  have Tw : Hid _ := NumZ.later Z6.out ((Below.refl _ w6).alloc (Nat.le_refl _) (Obj.cells #[Value.bool nx, Value.slice ao len cap, Value.int IntKind.i64 ex] 27))
  obtain ⟨Px, hPx⟩ : ∃ P, w6.heap.size = P := ⟨_, rfl⟩
  rw [hPx] at Qx ⊢
  generalize w6.alloc (Obj.cells #[Value.bool nx, Value.slice ao len cap, Value.int IntKind.i64 ex] 27) = W7 at Q1 Q3 Qx C7 Tp Tw ⊢
  clear hPx M1 M3 Xp Z6 C6
  obtain ⟨x0, x1, x2⟩ := cells3 Q1.out
  obtain ⟨q0, q1, q2⟩ := cells3 Qx.out
  go_wp2_with fail
  refine Calls.mono (plusZ_any _ _ (E + E) 2050 _ _ _ Tp.out Tw.out (by omega) (by omega)) ?_
  rintro e w8 ⟨v8, rfl, hz8, bw⟩
  have Z8 : Hid (NumZ w8 v8 (E + E) 2051 (z1 * ((2 ^ E : Nat) : Int) + (y1 - z1) * ((I : Int) * ((2 ^ (E - N) : Nat) : Int)))) := hz8
  obtain ⟨my, mmy, mey, ⟨bo, blen, bcap, ys, rfl, -⟩, -⟩ := hz8
  have R3 : Hid _ := (bw.block _ (blk_lt Q3.out)).trans Q3.out
  have C8 : Hid (Below w.heap.size w w8) := C7.out.trans (bw.mono C7.out.size)
  clear bw Q1 Q3 Qx C7 Tp Tw x0 x1 x2 q0 q1 q2
  obtain ⟨r0, r1, r2⟩ := cells3 R3.out
  have fz := fun j => frozen_of_row _ _ j _ _ R3.out
  go_wp2_with fail
  refine bodyPost_ret (res_num2 _ 6 7 (by kernel_rfl) _ _ (w.heap.size + 1) _ _ _ _ (by rfl) (by rfl) (set3_heap _ _ _ R3.out)) rfl ⟨_, by rw [HDG.out]; rfl, ⟨N, I, by omega, by rw [HPP.out]; exact HI.out, _, NumZ.set3 _ _ _ ⟨_, _, _, _, _, R3.out⟩ Z8.out, fun hg => by rw [F1.out hg.2.1, H1.out hg.2.2.1]⟩, below_set3 _ _ _ C8.out (by omega)⟩
end Go.Proofs.Ytkfmffikfpmgdab
