import Derived.Test.YtkfmffikfpmgdabIB
namespace Go.Proofs.Ytkfmffikfpmgdab
open Go.RowKit
set_option linter.unusedVariables false

set_option maxRecDepth 100000 in
set_option maxHeartbeats 16000000 in
theorem spanTight_walk (al ah : Nat) (ab : Bool) (hal : al < 18446744073709551616) (hah : ah < 18446744073709551616) (bl bh : Nat) (bb : Bool) (hbl : bl < 18446744073709551616) (hbh : bh < 18446744073709551616) (w : World) :
    Calls Try.prog 4 #[.agg #[Value.float .f64 al, .float .f64 ah, .bool ab], .agg #[Value.float .f64 bl, .float .f64 bh, .bool bb]] w fun e w' => e = .returned (.bool true) ∧ Below w.heap.size w w' := by
  obtain ⟨E, hE⟩ : ∃ E : Nat, E = 1074 := ⟨_, rfl⟩
  have ST : Hid _ := spStarted_any
  have hfd : ∀ w, (Instr.field 24 (.agg #[.float .f64 0, .float .f64 0, .bool true]) 2).run Try.prog w = .ok (.bool true) w := fun w => by kernel_rfl
  obtain ⟨g0, g1, -, gb⟩ := alloc2_facts w (Obj.cells #[Value.float .f64 al, .float .f64 ah, .bool ab] 24) (Obj.cells #[Value.float .f64 bl, .float .f64 bh, .bool bb] 24)
  have Na : Hid _ := g0
  have Nb : Hid _ := g1
  have NB : Hid _ := gb
  clear g0 g1 gb
  go_enter Try.func4, Try.ntmps4
  go_upto_region 1 with fail
  generalize ((w.alloc (Obj.cells #[Value.float .f64 al, .float .f64 ah, .bool ab] 24)).alloc (Obj.cells #[Value.float .f64 bl, .float .f64 bh, .bool bb] 24)) = W0 at Na Nb NB ⊢
  obtain ⟨Pb, hPb⟩ : ∃ P, w.heap.size + 1 = P := ⟨_, rfl⟩
  rw [hPb] at Nb ⊢
  obtain ⟨Pa, hPa⟩ : ∃ P, w.heap.size = P := ⟨_, rfl⟩
  have HPa : Hid (w.heap.size = Pa) := hPa
  rw [hPa] at Na ⊢
  clear hPa hPb
  obtain ⟨a0, a1, a2⟩ := cells3 Na.out
  go_wp2_with fail
  refine Calls.mono (of_any4 al ah ab _) ?_
  rintro e w1 ⟨rfl, bw⟩
  have Ma : Hid _ := (bw.block _ (blk_lt Na.out)).trans Na.out
  have Mb : Hid _ := (bw.block _ (blk_lt Nb.out)).trans Nb.out
  have MB : Hid (Below w.heap.size w w1) := NB.out.trans (bw.mono NB.out.size)
  clear bw Na Nb NB a0 a1 a2
  go_wp2_with fail
  refine Calls.mono (ends_any al ah ab hal hah _ E hE) ?_
  rintro e w2 ⟨v1, v2, rfl, ⟨z1, hz1, hf1⟩, ⟨z2, hz2, hf2⟩, bw⟩
  have Z1 : Hid (NumZ w2 v1 E 1024 z1) := hz1
  have Z2 : Hid (NumZ w2 v2 E 1024 z2) := hz2
  have F1 : Hid (Fin al → z1 = fval al) := hf1
  have F2 : Hid (Fin ah → z2 = fval ah) := hf2
  obtain ⟨n1, m1, e1, ⟨o1, l1, c1, xs1, rfl, -⟩, -⟩ := hz1
  obtain ⟨n2, m2, e2, ⟨o2, l2, c2, xs2, rfl, -⟩, -⟩ := hz2
  have Na : Hid _ := (bw.block _ (blk_lt Ma.out)).trans Ma.out
  have Nb : Hid _ := (bw.block _ (blk_lt Mb.out)).trans Mb.out
  have NB : Hid (Below w.heap.size w w2) := MB.out.trans (bw.mono MB.out.size)
  clear bw hf1 hf2 Ma Mb MB
  obtain ⟨da, hda⟩ : ∃ d, decide (Good al ah ab) = d := ⟨_, rfl⟩
  have HDA : Hid _ := hda
  rw [hda]
  clear hda
  go_upto_region 2 with fail
  obtain ⟨k0, k1, -, kb⟩ := alloc2_facts w2 (Obj.cells #[Value.bool n1, Value.slice o1 l1 c1, Value.int IntKind.i64 e1] 27) (Obj.cells #[Value.bool n2, Value.slice o2 l2 c2, Value.int IntKind.i64 e2] 27)
  have Ma : Hid _ := (kb.block _ (blk_lt Na.out)).trans Na.out
  have Mb : Hid _ := (kb.block _ (blk_lt Nb.out)).trans Nb.out
  have MB : Hid (Below w.heap.size w ((w2.alloc (Obj.cells #[Value.bool n1, Value.slice o1 l1 c1, Value.int IntKind.i64 e1] 27)).alloc (Obj.cells #[Value.bool n2, Value.slice o2 l2 c2, Value.int IntKind.i64 e2] 27))) := NB.out.trans (kb.mono NB.out.size)
  have Mp : Hid _ := k0
  have Mq : Hid _ := k1
  have Y1 : Hid _ := NumZ.later Z1.out kb
  have Y2 : Hid _ := NumZ.later Z2.out kb
  obtain ⟨Pq, hPq⟩ : ∃ P, w2.heap.size + 1 = P := ⟨_, rfl⟩
  rw [hPq] at Mq ⊢
  obtain ⟨Pp, hPp⟩ : ∃ P, w2.heap.size = P := ⟨_, rfl⟩
  rw [hPp] at Mp ⊢
  generalize ((w2.alloc (Obj.cells #[Value.bool n1, Value.slice o1 l1 c1, Value.int IntKind.i64 e1] 27)).alloc (Obj.cells #[Value.bool n2, Value.slice o2 l2 c2, Value.int IntKind.i64 e2] 27)) = W2 at Ma Mb MB Mp Mq Y1 Y2 ⊢
  clear k0 k1 kb hPq hPp Na Nb NB Z1 Z2
  obtain ⟨b0, b1, b2⟩ := cells3 Mb.out
  go_wp2_with fail
  refine Calls.mono (of_any4 bl bh bb _) ?_
  rintro e w3 ⟨rfl, bw⟩
  have H3 : Hid (Below W2.heap.size W2 w3) := bw
  clear bw b0 b1 b2
  go_wp2_with fail
  refine Calls.mono (ends_any bl bh bb hbl hbh _ E hE) ?_
  rintro e w4 ⟨v3, v4, rfl, ⟨z3, hz3, hf3⟩, ⟨z4, hz4, hf4⟩, bw⟩
  have Z3 : Hid (NumZ w4 v3 E 1024 z3) := hz3
  have Z4 : Hid (NumZ w4 v4 E 1024 z4) := hz4
  have F3 : Hid (Fin bl → z3 = fval bl) := hf3
  have F4 : Hid (Fin bh → z4 = fval bh) := hf4
  obtain ⟨n3, m3, e3, ⟨o3, l3, c3, xs3, rfl, -⟩, -⟩ := hz3
  obtain ⟨n4, m4, e4, ⟨o4, l4, c4, xs4, rfl, -⟩, -⟩ := hz4
  have H4 : Hid (Below W2.heap.size W2 w4) := H3.out.trans (bw.mono H3.out.size)
  clear bw hf3 hf4 H3
  obtain ⟨db, hdb⟩ : ∃ d, decide (Good bl bh bb) = d := ⟨_, rfl⟩
  have HDB : Hid _ := hdb
  rw [hdb]
  clear hdb
  go_upto_region 3 with fail
  obtain ⟨k0, k1, -, kb⟩ := alloc2_facts w4 (Obj.cells #[Value.bool n3, Value.slice o3 l3 c3, Value.int IntKind.i64 e3] 27) (Obj.cells #[Value.bool n4, Value.slice o4 l4 c4, Value.int IntKind.i64 e4] 27)
  have hb24 : Below W2.heap.size W2 ((w4.alloc (Obj.cells #[Value.bool n3, Value.slice o3 l3 c3, Value.int IntKind.i64 e3] 27)).alloc (Obj.cells #[Value.bool n4, Value.slice o4 l4 c4, Value.int IntKind.i64 e4] 27)) := H4.out.trans (kb.mono H4.out.size)
  have Na : Hid _ := (hb24.block _ (blk_lt Ma.out)).trans Ma.out
  have Nb : Hid _ := (hb24.block _ (blk_lt Mb.out)).trans Mb.out
  have Np : Hid _ := (hb24.block _ (blk_lt Mp.out)).trans Mp.out
  have Nq : Hid _ := (hb24.block _ (blk_lt Mq.out)).trans Mq.out
  have NB : Hid (Below w.heap.size w ((w4.alloc (Obj.cells #[Value.bool n3, Value.slice o3 l3 c3, Value.int IntKind.i64 e3] 27)).alloc (Obj.cells #[Value.bool n4, Value.slice o4 l4 c4, Value.int IntKind.i64 e4] 27))) := MB.out.trans (hb24.mono MB.out.size)
  have Nr : Hid _ := k0
  have Ns : Hid _ := k1
  have V1 : Hid _ := NumZ.later Y1.out hb24
  have V2 : Hid _ := NumZ.later Y2.out hb24
  have V3 : Hid _ := NumZ.later Z3.out kb
  have V4 : Hid _ := NumZ.later Z4.out kb
  obtain ⟨Ps, hPs⟩ : ∃ P, w4.heap.size + 1 = P := ⟨_, rfl⟩
  rw [hPs] at Ns ⊢
  obtain ⟨Pr, hPr⟩ : ∃ P, w4.heap.size = P := ⟨_, rfl⟩
  rw [hPr] at Nr ⊢
  generalize ((w4.alloc (Obj.cells #[Value.bool n3, Value.slice o3 l3 c3, Value.int IntKind.i64 e3] 27)).alloc (Obj.cells #[Value.bool n4, Value.slice o4 l4 c4, Value.int IntKind.i64 e4] 27)) = W at Na Nb Np Nq NB Nr Ns V1 V2 V3 V4 ⊢
  clear k0 k1 kb hb24 hPs hPr Ma Mb MB Mp Mq Y1 Y2 Z3 Z4 H4
  by_cases hg : Good al ah ab ∧ Good bl bh bb
  · have hda : da = true := by rw [← HDA.out]; exact decide_eq_true hg.1
    have hdb : db = true := by rw [← HDB.out]; exact decide_eq_true hg.2
    subst hda hdb
    have U1 : Hid (NumZ W (.agg #[.bool n1, .slice o1 l1 c1, .int .i64 e1]) E 1024 (fval al)) := by rw [← F1.out hg.1.2.1]; exact V1.out
    have U2 : Hid (NumZ W (.agg #[.bool n2, .slice o2 l2 c2, .int .i64 e2]) E 1024 (fval ah)) := by rw [← F2.out hg.1.2.2.1]; exact V2.out
    have U3 : Hid (NumZ W (.agg #[.bool n3, .slice o3 l3 c3, .int .i64 e3]) E 1024 (fval bl)) := by rw [← F3.out hg.2.2.1]; exact V3.out
    have U4' : Hid (NumZ W (.agg #[.bool n4, .slice o4 l4 c4, .int .i64 e4]) E 1024 (fval bh)) := by rw [← F4.out hg.2.2.2.1]; exact V4.out
    clear HDA HDB V1 V2 V3 V4 F1 F2 F3 F4
    have HLE : Hid (fval al ≤ fval ah) := (srung_le _ _).1 hg.1.2.2.2
    have HC : Hid (∀ wx wy, Below W.heap.size W wx → Below wx.heap.size wx wy → Below W.heap.size W wy ∧ (wy.cell? ⟨Pa, 0, none⟩ = some (.float .f64 al) ∧ wy.cell? ⟨Pa, 1, none⟩ = some (.float .f64 ah) ∧ wy.cell? ⟨Pa, 2, none⟩ = some (.bool ab)) ∧ (wy.cell? ⟨Pb, 0, none⟩ = some (.float .f64 bl) ∧ wy.cell? ⟨Pb, 1, none⟩ = some (.float .f64 bh) ∧ wy.cell? ⟨Pb, 2, none⟩ = some (.bool bb)) ∧ (wy.cell? ⟨Pp, 0, none⟩ = some (.bool n1) ∧ wy.cell? ⟨Pp, 1, none⟩ = some (.slice o1 l1 c1) ∧ wy.cell? ⟨Pp, 2, none⟩ = some (.int .i64 e1)) ∧ (wy.cell? ⟨Pq, 0, none⟩ = some (.bool n2) ∧ wy.cell? ⟨Pq, 1, none⟩ = some (.slice o2 l2 c2) ∧ wy.cell? ⟨Pq, 2, none⟩ = some (.int .i64 e2)) ∧ (wy.cell? ⟨Pr, 0, none⟩ = some (.bool n3) ∧ wy.cell? ⟨Pr, 1, none⟩ = some (.slice o3 l3 c3) ∧ wy.cell? ⟨Pr, 2, none⟩ = some (.int .i64 e3)) ∧ (wy.cell? ⟨Ps, 0, none⟩ = some (.bool n4) ∧ wy.cell? ⟨Ps, 1, none⟩ = some (.slice o4 l4 c4) ∧ wy.cell? ⟨Ps, 2, none⟩ = some (.int .i64 e4))) := by
      intro wx wy q1 q2
      have h := q1.trans (q2.mono q1.size)
      exact ⟨h, cells3 ((h.block _ (blk_lt Na.out)).trans Na.out), cells3 ((h.block _ (blk_lt Nb.out)).trans Nb.out), cells3 ((h.block _ (blk_lt Np.out)).trans Np.out), cells3 ((h.block _ (blk_lt Nq.out)).trans Nq.out), cells3 ((h.block _ (blk_lt Nr.out)).trans Nr.out), cells3 ((h.block _ (blk_lt Ns.out)).trans Ns.out)⟩
    clear Na Nb Np Nq Nr Ns
    obtain ⟨⟨pl, ph, pb⟩, rp, cp⟩ := spAdd_any al ah bl bh ab bb hal hah hbl hbh
    obtain ⟨⟨sl, sh, sb⟩, rs, cs⟩ := spSub_any al ah bl bh ab bb hal hah hbl hbh
    obtain ⟨⟨ml, mh, mb⟩, rm, cm⟩ := spMul_any al ah bl bh ab bb hal hah hbl hbh E hE
    obtain ⟨⟨ql, qh, qb⟩, rq, cq⟩ := spSquare_any al ah ab hal hah E hE
    obtain ⟨⟨xl, xh, xb⟩, rx, cx⟩ := spMax_any al ah bl bh ab bb hal hah hbl hbh
    obtain ⟨⟨ul, uh, ub⟩, ru, cu⟩ := spHull_any al ah bl bh ab bb hal hah hbl hbh
    have CP : Hid _ := cp
    have CS : Hid _ := cs
    have CM : Hid _ := cm
    have CQ : Hid _ := cq
    have CX : Hid _ := cx
    have CU : Hid _ := cu
    have TP : Hid (pb = false → TightL (pl, ph, pb) _ 2 0) := fun h => tl_add (bin_tight (by decide) hg rp h)
    have TSB : Hid (sb = false → TightL (sl, sh, sb) _ 2 0) := fun h => tl_sub (bin_tight (by decide) hg rs h)
    have TM : Hid (mb = false → TightL (ml, mh, mb) _ 4 E) := fun h => tl_mul (mul_tight hg rm h)
    have TQ : Hid (qb = false → TightE (ql, qh, qb) _ _ (2 ^ E)) := fun h => sq_tight hg.1 rq h
    have TX : Hid (xb = false → TightL (xl, xh, xb) _ 2 0) := fun h => tl_max (mk_tight hg rx h)
    have TU : Hid (ub = false → TightL (ul, uh, ub) _ 4 0) := fun h => tl_hull (mk_tight hg ru h)
    have HLP : Hid _ := bin_lt rp
    have HLS : Hid _ := bin_lt rs
    have HLM : Hid _ := mul_lt rm
    have HLQ : Hid _ := un_lt rq
    have HLX : Hid _ := mk_lt rx
    have HLU : Hid _ := mk_lt ru
    clear rp rs rm rq rx ru cp cs cm cq cx cu hg
    have K0 : Hid (Below W.heap.size W W) := Below.refl _ _
    go_upto_region 5 with fail
    obtain ⟨-, -, -, ⟨p0, p1, p2⟩, ⟨q0, q1, q2⟩, ⟨r0, r1, r2⟩, ⟨s0, s1, s2⟩⟩ := HC.out _ W (Below.refl _ _) (by exact K0.out)
    have K0d : Below W.heap.size W W.drew := K0.out.drew
    go_region_held3 (fun w' => (w'.cell? ⟨Pp, 0, none⟩ = some (.bool n1) ∧ w'.cell? ⟨Pp, 1, none⟩ = some (.slice o1 l1 c1) ∧ w'.cell? ⟨Pp, 2, none⟩ = some (.int .i64 e1)) ∧ (w'.cell? ⟨Pq, 0, none⟩ = some (.bool n2) ∧ w'.cell? ⟨Pq, 1, none⟩ = some (.slice o2 l2 c2) ∧ w'.cell? ⟨Pq, 2, none⟩ = some (.int .i64 e2)) ∧ (w'.cell? ⟨Pr, 0, none⟩ = some (.bool n3) ∧ w'.cell? ⟨Pr, 1, none⟩ = some (.slice o3 l3 c3) ∧ w'.cell? ⟨Pr, 2, none⟩ = some (.int .i64 e3)) ∧ (w'.cell? ⟨Ps, 0, none⟩ = some (.bool n4) ∧ w'.cell? ⟨Ps, 1, none⟩ = some (.slice o4 l4 c4) ∧ w'.cell? ⟨Ps, 2, none⟩ = some (.int .i64 e4))) (go_keep) ((first
      | (go_at_call_of 15 (Value.bool n1); go_at_call_of 15 (Value.bool n3); refine Calls.mono (plusZ_any _ _ E 1024 (fval al) (fval bl) _ (NumZ.later U1.out (by first | assumption | exact (Below.refl _ _).drew)) (NumZ.later U3.out (by first | assumption | exact (Below.refl _ _).drew)) (by omega) (by omega)) ?_; rintro e w51 ⟨v51, rfl, hz51, bx51⟩; obtain ⟨bb51, -, -, ⟨s510, s511, s512⟩, ⟨s513, s514, s515⟩, ⟨s516, s517, s518⟩, ⟨s519, s5110, s5111⟩⟩ := HC.out _ w51 (by first | assumption | exact (Below.refl _ _).drew) bx51; have Z51 : Hid (NumZ w51 v51 E 1025 (fval al + fval bl)) := hz51; obtain ⟨n51, m51, e51, ⟨o51, l51, c51, xs51, rfl, -⟩, -⟩ := hz51; have Bx51 : Hid (Below w51.heap.size w51 w51) := Below.refl _ _)
      | (go_at_call_of 15 (Value.bool n2); go_at_call_of 15 (Value.bool n4); refine Calls.mono (plusZ_any _ _ E 1024 (fval ah) (fval bh) _ (NumZ.later U2.out (by first | assumption | exact (Below.refl _ _).drew)) (NumZ.later U4'.out (by first | assumption | exact (Below.refl _ _).drew)) (by omega) (by omega)) ?_; rintro e w52 ⟨v52, rfl, hz52, bx52⟩; obtain ⟨bb52, -, -, ⟨s520, s521, s522⟩, ⟨s523, s524, s525⟩, ⟨s526, s527, s528⟩, ⟨s529, s5210, s5211⟩⟩ := HC.out _ w52 (by first | assumption | exact (Below.refl _ _).drew) bx52; have Z52 : Hid (NumZ w52 v52 E 1025 (fval ah + fval bh)) := hz52; obtain ⟨n52, m52, e52, ⟨o52, l52, c52, xs52, rfl, -⟩, -⟩ := hz52; have Bx52 : Hid (Below w52.heap.size w52 w52) := Below.refl _ _)))
    go_upto_region 6 with fail
    have alA := (Below.refl _ w52).alloc (Nat.le_refl _) (Obj.cells #[Value.bool n51, Value.slice o51 l51 c51, Value.int IntKind.i64 e51, Value.bool n52, Value.slice o52 l52 c52, Value.int IntKind.i64 e52] 27)
    have Y51 : Hid (NumZ (w52.alloc (Obj.cells #[Value.bool n51, Value.slice o51 l51 c51, Value.int IntKind.i64 e51, Value.bool n52, Value.slice o52 l52 c52, Value.int IntKind.i64 e52] 27)) (.agg #[.bool n51, .slice o51 l51 c51, .int .i64 e51]) E 1025 _) := NumZ.later (NumZ.later Z51.out ((Below.refl w51.heap.size w51).trans (bx52.mono (Below.refl w51.heap.size w51).size))) alA
    have Y52 : Hid (NumZ (w52.alloc (Obj.cells #[Value.bool n51, Value.slice o51 l51 c51, Value.int IntKind.i64 e51, Value.bool n52, Value.slice o52 l52 c52, Value.int IntKind.i64 e52] 27)) (.agg #[.bool n52, .slice o52 l52 c52, .int .i64 e52]) E 1025 _) := NumZ.later (NumZ.later Z52.out (Below.refl w52.heap.size w52)) alA
    have RA : Hid (RdN (w52.alloc (Obj.cells #[Value.bool n51, Value.slice o51 l51 c51, Value.int IntKind.i64 e51, Value.bool n52, Value.slice o52 l52 c52, Value.int IntKind.i64 e52] 27)) (some ⟨w52.heap.size, 0, none⟩) 2 2 E 1025 _) := rdn2 (by decide) (by decide) (row_cells (heap_alloc_new w52 (Obj.cells #[Value.bool n51, Value.slice o51 l51 c51, Value.int IntKind.i64 e51, Value.bool n52, Value.slice o52 l52 c52, Value.int IntKind.i64 e52] 27))) Y51.out Y52.out
    have KA : Hid (Below W.heap.size W (w52.alloc (Obj.cells #[Value.bool n51, Value.slice o51 l51 c51, Value.int IntKind.i64 e51, Value.bool n52, Value.slice o52 l52 c52, Value.int IntKind.i64 e52] 27))) := bb52.alloc bb52.size _
    have cbA := ((((Below.refl W.heap.size W).drew).trans (bx51.mono ((Below.refl W.heap.size W).drew).size)).trans (bx52.mono (((Below.refl W.heap.size W).drew).trans (bx51.mono ((Below.refl W.heap.size W).drew).size)).size)).trans (alA.mono ((((Below.refl W.heap.size W).drew).trans (bx51.mono ((Below.refl W.heap.size W).drew).size)).trans (bx52.mono (((Below.refl W.heap.size W).drew).trans (bx51.mono ((Below.refl W.heap.size W).drew).size)).size)).size)
    obtain ⟨PA, hPA⟩ : ∃ P, w52.heap.size = P := ⟨_, rfl⟩
    rw [hPA] at RA ⊢
    generalize w52.alloc (Obj.cells #[Value.bool n51, Value.slice o51 l51 c51, Value.int IntKind.i64 e51, Value.bool n52, Value.slice o52 l52 c52, Value.int IntKind.i64 e52] 27) = WA at RA KA   ⊢
    clear hPA alA cbA K0d K0 p0 p1 p2 q0 q1 q2 r0 r1 r2 s0 s1 s2 Z51 bb51 bx51 Bx51 Y51 s510 s511 s512 s513 s514 s515 s516 s517 s518 s519 s5110 s5111 Z52 bb52 bx52 Bx52 Y52 s520 s521 s522 s523 s524 s525 s526 s527 s528 s529 s5210 s5211
    go_upto_region 6 with fail
    obtain ⟨-, -, -, ⟨p0, p1, p2⟩, ⟨q0, q1, q2⟩, ⟨r0, r1, r2⟩, ⟨s0, s1, s2⟩⟩ := HC.out _ WA (Below.refl _ _) (by exact KA.out)
    have KAd : Below W.heap.size W WA.drew := KA.out.drew
    go_region_held3 (fun w' => (w'.cell? ⟨Pp, 0, none⟩ = some (.bool n1) ∧ w'.cell? ⟨Pp, 1, none⟩ = some (.slice o1 l1 c1) ∧ w'.cell? ⟨Pp, 2, none⟩ = some (.int .i64 e1)) ∧ (w'.cell? ⟨Pq, 0, none⟩ = some (.bool n2) ∧ w'.cell? ⟨Pq, 1, none⟩ = some (.slice o2 l2 c2) ∧ w'.cell? ⟨Pq, 2, none⟩ = some (.int .i64 e2)) ∧ (w'.cell? ⟨Pr, 0, none⟩ = some (.bool n3) ∧ w'.cell? ⟨Pr, 1, none⟩ = some (.slice o3 l3 c3) ∧ w'.cell? ⟨Pr, 2, none⟩ = some (.int .i64 e3)) ∧ (w'.cell? ⟨Ps, 0, none⟩ = some (.bool n4) ∧ w'.cell? ⟨Ps, 1, none⟩ = some (.slice o4 l4 c4) ∧ w'.cell? ⟨Ps, 2, none⟩ = some (.int .i64 e4))) (go_keep) ((first
      | (go_at_call_of 17 (Value.bool n1); go_at_call_of 17 (Value.bool n4); refine Calls.mono (minusZ_any _ _ E 1024 (fval al) (fval bh) _ (NumZ.later U1.out (by first | assumption | exact (Below.refl _ _).drew)) (NumZ.later U4'.out (by first | assumption | exact (Below.refl _ _).drew)) (by omega) (by omega)) ?_; rintro e w61 ⟨v61, rfl, hz61, bx61⟩; obtain ⟨bb61, -, -, ⟨s610, s611, s612⟩, ⟨s613, s614, s615⟩, ⟨s616, s617, s618⟩, ⟨s619, s6110, s6111⟩⟩ := HC.out _ w61 (by first | assumption | exact (Below.refl _ _).drew) bx61; have Z61 : Hid (NumZ w61 v61 E 1025 (fval al - fval bh)) := hz61; obtain ⟨n61, m61, e61, ⟨o61, l61, c61, xs61, rfl, -⟩, -⟩ := hz61; have Bx61 : Hid (Below w61.heap.size w61 w61) := Below.refl _ _)
      | (go_at_call_of 17 (Value.bool n2); go_at_call_of 17 (Value.bool n3); refine Calls.mono (minusZ_any _ _ E 1024 (fval ah) (fval bl) _ (NumZ.later U2.out (by first | assumption | exact (Below.refl _ _).drew)) (NumZ.later U3.out (by first | assumption | exact (Below.refl _ _).drew)) (by omega) (by omega)) ?_; rintro e w62 ⟨v62, rfl, hz62, bx62⟩; obtain ⟨bb62, -, -, ⟨s620, s621, s622⟩, ⟨s623, s624, s625⟩, ⟨s626, s627, s628⟩, ⟨s629, s6210, s6211⟩⟩ := HC.out _ w62 (by first | assumption | exact (Below.refl _ _).drew) bx62; have Z62 : Hid (NumZ w62 v62 E 1025 (fval ah - fval bl)) := hz62; obtain ⟨n62, m62, e62, ⟨o62, l62, c62, xs62, rfl, -⟩, -⟩ := hz62; have Bx62 : Hid (Below w62.heap.size w62 w62) := Below.refl _ _)))
    go_upto_region 7 with fail
    have alB := (Below.refl _ w62).alloc (Nat.le_refl _) (Obj.cells #[Value.bool n61, Value.slice o61 l61 c61, Value.int IntKind.i64 e61, Value.bool n62, Value.slice o62 l62 c62, Value.int IntKind.i64 e62] 27)
    have Y61 : Hid (NumZ (w62.alloc (Obj.cells #[Value.bool n61, Value.slice o61 l61 c61, Value.int IntKind.i64 e61, Value.bool n62, Value.slice o62 l62 c62, Value.int IntKind.i64 e62] 27)) (.agg #[.bool n61, .slice o61 l61 c61, .int .i64 e61]) E 1025 _) := NumZ.later (NumZ.later Z61.out ((Below.refl w61.heap.size w61).trans (bx62.mono (Below.refl w61.heap.size w61).size))) alB
    have Y62 : Hid (NumZ (w62.alloc (Obj.cells #[Value.bool n61, Value.slice o61 l61 c61, Value.int IntKind.i64 e61, Value.bool n62, Value.slice o62 l62 c62, Value.int IntKind.i64 e62] 27)) (.agg #[.bool n62, .slice o62 l62 c62, .int .i64 e62]) E 1025 _) := NumZ.later (NumZ.later Z62.out (Below.refl w62.heap.size w62)) alB
    have RB : Hid (RdN (w62.alloc (Obj.cells #[Value.bool n61, Value.slice o61 l61 c61, Value.int IntKind.i64 e61, Value.bool n62, Value.slice o62 l62 c62, Value.int IntKind.i64 e62] 27)) (some ⟨w62.heap.size, 0, none⟩) 2 2 E 1025 _) := rdn2 (by decide) (by decide) (row_cells (heap_alloc_new w62 (Obj.cells #[Value.bool n61, Value.slice o61 l61 c61, Value.int IntKind.i64 e61, Value.bool n62, Value.slice o62 l62 c62, Value.int IntKind.i64 e62] 27))) Y61.out Y62.out
    have KB : Hid (Below W.heap.size W (w62.alloc (Obj.cells #[Value.bool n61, Value.slice o61 l61 c61, Value.int IntKind.i64 e61, Value.bool n62, Value.slice o62 l62 c62, Value.int IntKind.i64 e62] 27))) := bb62.alloc bb62.size _
    have cbB := ((((Below.refl WA.heap.size WA).drew).trans (bx61.mono ((Below.refl WA.heap.size WA).drew).size)).trans (bx62.mono (((Below.refl WA.heap.size WA).drew).trans (bx61.mono ((Below.refl WA.heap.size WA).drew).size)).size)).trans (alB.mono ((((Below.refl WA.heap.size WA).drew).trans (bx61.mono ((Below.refl WA.heap.size WA).drew).size)).trans (bx62.mono (((Below.refl WA.heap.size WA).drew).trans (bx61.mono ((Below.refl WA.heap.size WA).drew).size)).size)).size)
    have RA' : Hid _ := RdN.later RA.out cbB
    clear RA
    have RA : Hid _ := RA'.out
    clear RA'
    obtain ⟨PB, hPB⟩ : ∃ P, w62.heap.size = P := ⟨_, rfl⟩
    rw [hPB] at RB ⊢
    generalize w62.alloc (Obj.cells #[Value.bool n61, Value.slice o61 l61 c61, Value.int IntKind.i64 e61, Value.bool n62, Value.slice o62 l62 c62, Value.int IntKind.i64 e62] 27) = WB at RB KB RA  ⊢
    clear hPB alB cbB KAd KA p0 p1 p2 q0 q1 q2 r0 r1 r2 s0 s1 s2 Z61 bb61 bx61 Bx61 Y61 s610 s611 s612 s613 s614 s615 s616 s617 s618 s619 s6110 s6111 Z62 bb62 bx62 Bx62 Y62 s620 s621 s622 s623 s624 s625 s626 s627 s628 s629 s6210 s6211
    go_upto_region 7 with fail
    obtain ⟨-, -, -, ⟨p0, p1, p2⟩, ⟨q0, q1, q2⟩, ⟨r0, r1, r2⟩, ⟨s0, s1, s2⟩⟩ := HC.out _ WB (Below.refl _ _) (by exact KB.out)
    have KBd : Below W.heap.size W WB.drew := KB.out.drew
    go_region_held3 (fun w' => (w'.cell? ⟨Pp, 0, none⟩ = some (.bool n1) ∧ w'.cell? ⟨Pp, 1, none⟩ = some (.slice o1 l1 c1) ∧ w'.cell? ⟨Pp, 2, none⟩ = some (.int .i64 e1)) ∧ (w'.cell? ⟨Pq, 0, none⟩ = some (.bool n2) ∧ w'.cell? ⟨Pq, 1, none⟩ = some (.slice o2 l2 c2) ∧ w'.cell? ⟨Pq, 2, none⟩ = some (.int .i64 e2)) ∧ (w'.cell? ⟨Pr, 0, none⟩ = some (.bool n3) ∧ w'.cell? ⟨Pr, 1, none⟩ = some (.slice o3 l3 c3) ∧ w'.cell? ⟨Pr, 2, none⟩ = some (.int .i64 e3)) ∧ (w'.cell? ⟨Ps, 0, none⟩ = some (.bool n4) ∧ w'.cell? ⟨Ps, 1, none⟩ = some (.slice o4 l4 c4) ∧ w'.cell? ⟨Ps, 2, none⟩ = some (.int .i64 e4))) (go_keep) ((first
      | (go_at_call_of 18 (Value.bool n1); go_at_call_of 18 (Value.bool n3); refine Calls.mono (timesZ_any _ _ E 1024 1024 (fval al) (fval bl) _ (NumZ.later U1.out (by first | assumption | exact (Below.refl _ _).drew)) (NumZ.later U3.out (by first | assumption | exact (Below.refl _ _).drew)) (by omega) (by omega) (by omega)) ?_; rintro e w71 ⟨v71, rfl, hz71, bx71⟩; obtain ⟨bb71, -, -, ⟨s710, s711, s712⟩, ⟨s713, s714, s715⟩, ⟨s716, s717, s718⟩, ⟨s719, s7110, s7111⟩⟩ := HC.out _ w71 (by first | assumption | exact (Below.refl _ _).drew) bx71; have Z71 : Hid (NumZ w71 v71 (E + E) 2048 (fval al * fval bl)) := hz71; obtain ⟨n71, m71, e71, ⟨o71, l71, c71, xs71, rfl, -⟩, -⟩ := hz71; have Bx71 : Hid (Below w71.heap.size w71 w71) := Below.refl _ _)
      | (go_at_call_of 18 (Value.bool n1); go_at_call_of 18 (Value.bool n4); refine Calls.mono (timesZ_any _ _ E 1024 1024 (fval al) (fval bh) _ (NumZ.later U1.out (by first | assumption | exact (Below.refl _ _).drew)) (NumZ.later U4'.out (by first | assumption | exact (Below.refl _ _).drew)) (by omega) (by omega) (by omega)) ?_; rintro e w72 ⟨v72, rfl, hz72, bx72⟩; obtain ⟨bb72, -, -, ⟨s720, s721, s722⟩, ⟨s723, s724, s725⟩, ⟨s726, s727, s728⟩, ⟨s729, s7210, s7211⟩⟩ := HC.out _ w72 (by first | assumption | exact (Below.refl _ _).drew) bx72; have Z72 : Hid (NumZ w72 v72 (E + E) 2048 (fval al * fval bh)) := hz72; obtain ⟨n72, m72, e72, ⟨o72, l72, c72, xs72, rfl, -⟩, -⟩ := hz72; have Bx72 : Hid (Below w72.heap.size w72 w72) := Below.refl _ _)
      | (go_at_call_of 18 (Value.bool n2); go_at_call_of 18 (Value.bool n3); refine Calls.mono (timesZ_any _ _ E 1024 1024 (fval ah) (fval bl) _ (NumZ.later U2.out (by first | assumption | exact (Below.refl _ _).drew)) (NumZ.later U3.out (by first | assumption | exact (Below.refl _ _).drew)) (by omega) (by omega) (by omega)) ?_; rintro e w73 ⟨v73, rfl, hz73, bx73⟩; obtain ⟨bb73, -, -, ⟨s730, s731, s732⟩, ⟨s733, s734, s735⟩, ⟨s736, s737, s738⟩, ⟨s739, s7310, s7311⟩⟩ := HC.out _ w73 (by first | assumption | exact (Below.refl _ _).drew) bx73; have Z73 : Hid (NumZ w73 v73 (E + E) 2048 (fval ah * fval bl)) := hz73; obtain ⟨n73, m73, e73, ⟨o73, l73, c73, xs73, rfl, -⟩, -⟩ := hz73; have Bx73 : Hid (Below w73.heap.size w73 w73) := Below.refl _ _)
      | (go_at_call_of 18 (Value.bool n2); go_at_call_of 18 (Value.bool n4); refine Calls.mono (timesZ_any _ _ E 1024 1024 (fval ah) (fval bh) _ (NumZ.later U2.out (by first | assumption | exact (Below.refl _ _).drew)) (NumZ.later U4'.out (by first | assumption | exact (Below.refl _ _).drew)) (by omega) (by omega) (by omega)) ?_; rintro e w74 ⟨v74, rfl, hz74, bx74⟩; obtain ⟨bb74, -, -, ⟨s740, s741, s742⟩, ⟨s743, s744, s745⟩, ⟨s746, s747, s748⟩, ⟨s749, s7410, s7411⟩⟩ := HC.out _ w74 (by first | assumption | exact (Below.refl _ _).drew) bx74; have Z74 : Hid (NumZ w74 v74 (E + E) 2048 (fval ah * fval bh)) := hz74; obtain ⟨n74, m74, e74, ⟨o74, l74, c74, xs74, rfl, -⟩, -⟩ := hz74; have Bx74 : Hid (Below w74.heap.size w74 w74) := Below.refl _ _)))
    go_upto_region 8 with fail
    have alC := (Below.refl _ w74).alloc (Nat.le_refl _) (Obj.cells #[Value.bool n71, Value.slice o71 l71 c71, Value.int IntKind.i64 e71, Value.bool n72, Value.slice o72 l72 c72, Value.int IntKind.i64 e72, Value.bool n73, Value.slice o73 l73 c73, Value.int IntKind.i64 e73, Value.bool n74, Value.slice o74 l74 c74, Value.int IntKind.i64 e74] 27)
    have Y71 : Hid (NumZ (w74.alloc (Obj.cells #[Value.bool n71, Value.slice o71 l71 c71, Value.int IntKind.i64 e71, Value.bool n72, Value.slice o72 l72 c72, Value.int IntKind.i64 e72, Value.bool n73, Value.slice o73 l73 c73, Value.int IntKind.i64 e73, Value.bool n74, Value.slice o74 l74 c74, Value.int IntKind.i64 e74] 27)) (.agg #[.bool n71, .slice o71 l71 c71, .int .i64 e71]) (E + E) 2048 _) := NumZ.later (NumZ.later Z71.out ((((Below.refl w71.heap.size w71).trans (bx72.mono (Below.refl w71.heap.size w71).size)).trans (bx73.mono ((Below.refl w71.heap.size w71).trans (bx72.mono (Below.refl w71.heap.size w71).size)).size)).trans (bx74.mono (((Below.refl w71.heap.size w71).trans (bx72.mono (Below.refl w71.heap.size w71).size)).trans (bx73.mono ((Below.refl w71.heap.size w71).trans (bx72.mono (Below.refl w71.heap.size w71).size)).size)).size))) alC
    have Y72 : Hid (NumZ (w74.alloc (Obj.cells #[Value.bool n71, Value.slice o71 l71 c71, Value.int IntKind.i64 e71, Value.bool n72, Value.slice o72 l72 c72, Value.int IntKind.i64 e72, Value.bool n73, Value.slice o73 l73 c73, Value.int IntKind.i64 e73, Value.bool n74, Value.slice o74 l74 c74, Value.int IntKind.i64 e74] 27)) (.agg #[.bool n72, .slice o72 l72 c72, .int .i64 e72]) (E + E) 2048 _) := NumZ.later (NumZ.later Z72.out (((Below.refl w72.heap.size w72).trans (bx73.mono (Below.refl w72.heap.size w72).size)).trans (bx74.mono ((Below.refl w72.heap.size w72).trans (bx73.mono (Below.refl w72.heap.size w72).size)).size))) alC
    have Y73 : Hid (NumZ (w74.alloc (Obj.cells #[Value.bool n71, Value.slice o71 l71 c71, Value.int IntKind.i64 e71, Value.bool n72, Value.slice o72 l72 c72, Value.int IntKind.i64 e72, Value.bool n73, Value.slice o73 l73 c73, Value.int IntKind.i64 e73, Value.bool n74, Value.slice o74 l74 c74, Value.int IntKind.i64 e74] 27)) (.agg #[.bool n73, .slice o73 l73 c73, .int .i64 e73]) (E + E) 2048 _) := NumZ.later (NumZ.later Z73.out ((Below.refl w73.heap.size w73).trans (bx74.mono (Below.refl w73.heap.size w73).size))) alC
    have Y74 : Hid (NumZ (w74.alloc (Obj.cells #[Value.bool n71, Value.slice o71 l71 c71, Value.int IntKind.i64 e71, Value.bool n72, Value.slice o72 l72 c72, Value.int IntKind.i64 e72, Value.bool n73, Value.slice o73 l73 c73, Value.int IntKind.i64 e73, Value.bool n74, Value.slice o74 l74 c74, Value.int IntKind.i64 e74] 27)) (.agg #[.bool n74, .slice o74 l74 c74, .int .i64 e74]) (E + E) 2048 _) := NumZ.later (NumZ.later Z74.out (Below.refl w74.heap.size w74)) alC
    have RC : Hid (RdN (w74.alloc (Obj.cells #[Value.bool n71, Value.slice o71 l71 c71, Value.int IntKind.i64 e71, Value.bool n72, Value.slice o72 l72 c72, Value.int IntKind.i64 e72, Value.bool n73, Value.slice o73 l73 c73, Value.int IntKind.i64 e73, Value.bool n74, Value.slice o74 l74 c74, Value.int IntKind.i64 e74] 27)) (some ⟨w74.heap.size, 0, none⟩) 4 4 (E + E) 2048 _) := rdn4 (by decide) (by decide) (row_cells (heap_alloc_new w74 (Obj.cells #[Value.bool n71, Value.slice o71 l71 c71, Value.int IntKind.i64 e71, Value.bool n72, Value.slice o72 l72 c72, Value.int IntKind.i64 e72, Value.bool n73, Value.slice o73 l73 c73, Value.int IntKind.i64 e73, Value.bool n74, Value.slice o74 l74 c74, Value.int IntKind.i64 e74] 27))) Y71.out Y72.out Y73.out Y74.out
    have KC : Hid (Below W.heap.size W (w74.alloc (Obj.cells #[Value.bool n71, Value.slice o71 l71 c71, Value.int IntKind.i64 e71, Value.bool n72, Value.slice o72 l72 c72, Value.int IntKind.i64 e72, Value.bool n73, Value.slice o73 l73 c73, Value.int IntKind.i64 e73, Value.bool n74, Value.slice o74 l74 c74, Value.int IntKind.i64 e74] 27))) := bb74.alloc bb74.size _
    have cbC := ((((((Below.refl WB.heap.size WB).drew).trans (bx71.mono ((Below.refl WB.heap.size WB).drew).size)).trans (bx72.mono (((Below.refl WB.heap.size WB).drew).trans (bx71.mono ((Below.refl WB.heap.size WB).drew).size)).size)).trans (bx73.mono ((((Below.refl WB.heap.size WB).drew).trans (bx71.mono ((Below.refl WB.heap.size WB).drew).size)).trans (bx72.mono (((Below.refl WB.heap.size WB).drew).trans (bx71.mono ((Below.refl WB.heap.size WB).drew).size)).size)).size)).trans (bx74.mono (((((Below.refl WB.heap.size WB).drew).trans (bx71.mono ((Below.refl WB.heap.size WB).drew).size)).trans (bx72.mono (((Below.refl WB.heap.size WB).drew).trans (bx71.mono ((Below.refl WB.heap.size WB).drew).size)).size)).trans (bx73.mono ((((Below.refl WB.heap.size WB).drew).trans (bx71.mono ((Below.refl WB.heap.size WB).drew).size)).trans (bx72.mono (((Below.refl WB.heap.size WB).drew).trans (bx71.mono ((Below.refl WB.heap.size WB).drew).size)).size)).size)).size)).trans (alC.mono ((((((Below.refl WB.heap.size WB).drew).trans (bx71.mono ((Below.refl WB.heap.size WB).drew).size)).trans (bx72.mono (((Below.refl WB.heap.size WB).drew).trans (bx71.mono ((Below.refl WB.heap.size WB).drew).size)).size)).trans (bx73.mono ((((Below.refl WB.heap.size WB).drew).trans (bx71.mono ((Below.refl WB.heap.size WB).drew).size)).trans (bx72.mono (((Below.refl WB.heap.size WB).drew).trans (bx71.mono ((Below.refl WB.heap.size WB).drew).size)).size)).size)).trans (bx74.mono (((((Below.refl WB.heap.size WB).drew).trans (bx71.mono ((Below.refl WB.heap.size WB).drew).size)).trans (bx72.mono (((Below.refl WB.heap.size WB).drew).trans (bx71.mono ((Below.refl WB.heap.size WB).drew).size)).size)).trans (bx73.mono ((((Below.refl WB.heap.size WB).drew).trans (bx71.mono ((Below.refl WB.heap.size WB).drew).size)).trans (bx72.mono (((Below.refl WB.heap.size WB).drew).trans (bx71.mono ((Below.refl WB.heap.size WB).drew).size)).size)).size)).size)).size)
    have RA' : Hid _ := RdN.later RA.out cbC
    clear RA
    have RA : Hid _ := RA'.out
    clear RA'
    have RB' : Hid _ := RdN.later RB.out cbC
    clear RB
    have RB : Hid _ := RB'.out
    clear RB'
    obtain ⟨PC, hPC⟩ : ∃ P, w74.heap.size = P := ⟨_, rfl⟩
    rw [hPC] at RC ⊢
    generalize w74.alloc (Obj.cells #[Value.bool n71, Value.slice o71 l71 c71, Value.int IntKind.i64 e71, Value.bool n72, Value.slice o72 l72 c72, Value.int IntKind.i64 e72, Value.bool n73, Value.slice o73 l73 c73, Value.int IntKind.i64 e73, Value.bool n74, Value.slice o74 l74 c74, Value.int IntKind.i64 e74] 27) = WC at RC KC RA RB  ⊢
    clear hPC alC cbC KBd KB p0 p1 p2 q0 q1 q2 r0 r1 r2 s0 s1 s2 Z71 bb71 bx71 Bx71 Y71 s710 s711 s712 s713 s714 s715 s716 s717 s718 s719 s7110 s7111 Z72 bb72 bx72 Bx72 Y72 s720 s721 s722 s723 s724 s725 s726 s727 s728 s729 s7210 s7211 Z73 bb73 bx73 Bx73 Y73 s730 s731 s732 s733 s734 s735 s736 s737 s738 s739 s7310 s7311 Z74 bb74 bx74 Bx74 Y74 s740 s741 s742 s743 s744 s745 s746 s747 s748 s749 s7410 s7411
    go_upto_region 8 with fail
    obtain ⟨-, -, -, ⟨p0, p1, p2⟩, ⟨q0, q1, q2⟩, ⟨r0, r1, r2⟩, ⟨s0, s1, s2⟩⟩ := HC.out _ WC (Below.refl _ _) (by exact KC.out)
    have KCd : Below W.heap.size W WC.drew := KC.out.drew
    go_region_held3 (fun w' => (w'.cell? ⟨Pp, 0, none⟩ = some (.bool n1) ∧ w'.cell? ⟨Pp, 1, none⟩ = some (.slice o1 l1 c1) ∧ w'.cell? ⟨Pp, 2, none⟩ = some (.int .i64 e1)) ∧ (w'.cell? ⟨Pq, 0, none⟩ = some (.bool n2) ∧ w'.cell? ⟨Pq, 1, none⟩ = some (.slice o2 l2 c2) ∧ w'.cell? ⟨Pq, 2, none⟩ = some (.int .i64 e2)) ∧ (w'.cell? ⟨Pr, 0, none⟩ = some (.bool n3) ∧ w'.cell? ⟨Pr, 1, none⟩ = some (.slice o3 l3 c3) ∧ w'.cell? ⟨Pr, 2, none⟩ = some (.int .i64 e3)) ∧ (w'.cell? ⟨Ps, 0, none⟩ = some (.bool n4) ∧ w'.cell? ⟨Ps, 1, none⟩ = some (.slice o4 l4 c4) ∧ w'.cell? ⟨Ps, 2, none⟩ = some (.int .i64 e4))) (go_keep) ((first
      | (go_at_call_of 18 (Value.bool n1); go_at_call_of 18 (Value.bool n1); refine Calls.mono (timesZ_any _ _ E 1024 1024 (fval al) (fval al) _ (NumZ.later U1.out (by first | assumption | exact (Below.refl _ _).drew)) (NumZ.later U1.out (by first | assumption | exact (Below.refl _ _).drew)) (by omega) (by omega) (by omega)) ?_; rintro e w81 ⟨v81, rfl, hz81, bx81⟩; obtain ⟨bb81, -, -, ⟨s810, s811, s812⟩, ⟨s813, s814, s815⟩, ⟨s816, s817, s818⟩, ⟨s819, s8110, s8111⟩⟩ := HC.out _ w81 (by first | assumption | exact (Below.refl _ _).drew) bx81; have Z81 : Hid (NumZ w81 v81 (E + E) 2048 (fval al * fval al)) := hz81; obtain ⟨n81, m81, e81, ⟨o81, l81, c81, xs81, rfl, -⟩, -⟩ := hz81; have Bx81 : Hid (Below w81.heap.size w81 w81) := Below.refl _ _)
      | (go_at_call_of 18 (Value.bool n2); go_at_call_of 18 (Value.bool n2); refine Calls.mono (timesZ_any _ _ E 1024 1024 (fval ah) (fval ah) _ (NumZ.later U2.out (by first | assumption | exact (Below.refl _ _).drew)) (NumZ.later U2.out (by first | assumption | exact (Below.refl _ _).drew)) (by omega) (by omega) (by omega)) ?_; rintro e w82 ⟨v82, rfl, hz82, bx82⟩; obtain ⟨bb82, -, -, ⟨s820, s821, s822⟩, ⟨s823, s824, s825⟩, ⟨s826, s827, s828⟩, ⟨s829, s8210, s8211⟩⟩ := HC.out _ w82 (by first | assumption | exact (Below.refl _ _).drew) bx82; have Z82 : Hid (NumZ w82 v82 (E + E) 2048 (fval ah * fval ah)) := hz82; obtain ⟨n82, m82, e82, ⟨o82, l82, c82, xs82, rfl, -⟩, -⟩ := hz82; have Bx82 : Hid (Below w82.heap.size w82 w82) := Below.refl _ _)))
    go_upto_region 9 with fail
    have alD := (Below.refl _ w82).alloc (Nat.le_refl _) (Obj.cells #[Value.bool n81, Value.slice o81 l81 c81, Value.int IntKind.i64 e81, Value.bool n82, Value.slice o82 l82 c82, Value.int IntKind.i64 e82] 27)
    have Y81 : Hid (NumZ (w82.alloc (Obj.cells #[Value.bool n81, Value.slice o81 l81 c81, Value.int IntKind.i64 e81, Value.bool n82, Value.slice o82 l82 c82, Value.int IntKind.i64 e82] 27)) (.agg #[.bool n81, .slice o81 l81 c81, .int .i64 e81]) (E + E) 2048 _) := NumZ.later (NumZ.later Z81.out ((Below.refl w81.heap.size w81).trans (bx82.mono (Below.refl w81.heap.size w81).size))) alD
    have Y82 : Hid (NumZ (w82.alloc (Obj.cells #[Value.bool n81, Value.slice o81 l81 c81, Value.int IntKind.i64 e81, Value.bool n82, Value.slice o82 l82 c82, Value.int IntKind.i64 e82] 27)) (.agg #[.bool n82, .slice o82 l82 c82, .int .i64 e82]) (E + E) 2048 _) := NumZ.later (NumZ.later Z82.out (Below.refl w82.heap.size w82)) alD
    have RD : Hid (RdN (w82.alloc (Obj.cells #[Value.bool n81, Value.slice o81 l81 c81, Value.int IntKind.i64 e81, Value.bool n82, Value.slice o82 l82 c82, Value.int IntKind.i64 e82] 27)) (some ⟨w82.heap.size, 0, none⟩) 2 2 (E + E) 2048 _) := rdn2 (by decide) (by decide) (row_cells (heap_alloc_new w82 (Obj.cells #[Value.bool n81, Value.slice o81 l81 c81, Value.int IntKind.i64 e81, Value.bool n82, Value.slice o82 l82 c82, Value.int IntKind.i64 e82] 27))) Y81.out Y82.out
    have KD : Hid (Below W.heap.size W (w82.alloc (Obj.cells #[Value.bool n81, Value.slice o81 l81 c81, Value.int IntKind.i64 e81, Value.bool n82, Value.slice o82 l82 c82, Value.int IntKind.i64 e82] 27))) := bb82.alloc bb82.size _
    have cbD := ((((Below.refl WC.heap.size WC).drew).trans (bx81.mono ((Below.refl WC.heap.size WC).drew).size)).trans (bx82.mono (((Below.refl WC.heap.size WC).drew).trans (bx81.mono ((Below.refl WC.heap.size WC).drew).size)).size)).trans (alD.mono ((((Below.refl WC.heap.size WC).drew).trans (bx81.mono ((Below.refl WC.heap.size WC).drew).size)).trans (bx82.mono (((Below.refl WC.heap.size WC).drew).trans (bx81.mono ((Below.refl WC.heap.size WC).drew).size)).size)).size)
    have RA' : Hid _ := RdN.later RA.out cbD
    clear RA
    have RA : Hid _ := RA'.out
    clear RA'
    have RB' : Hid _ := RdN.later RB.out cbD
    clear RB
    have RB : Hid _ := RB'.out
    clear RB'
    have RC' : Hid _ := RdN.later RC.out cbD
    clear RC
    have RC : Hid _ := RC'.out
    clear RC'
    obtain ⟨PD, hPD⟩ : ∃ P, w82.heap.size = P := ⟨_, rfl⟩
    rw [hPD] at RD ⊢
    have CD : Hid (∀ j u, #[Value.bool n81, Value.slice o81 l81 c81, Value.int IntKind.i64 e81, Value.bool n82, Value.slice o82 l82 c82, Value.int IntKind.i64 e82][j]? = some u → (w82.alloc (Obj.cells #[Value.bool n81, Value.slice o81 l81 c81, Value.int IntKind.i64 e81, Value.bool n82, Value.slice o82 l82 c82, Value.int IntKind.i64 e82] 27)).cell? ⟨PD, j, none⟩ = some u) := by rw [← hPD]; exact row_cells (heap_alloc_new w82 (Obj.cells #[Value.bool n81, Value.slice o81 l81 c81, Value.int IntKind.i64 e81, Value.bool n82, Value.slice o82 l82 c82, Value.int IntKind.i64 e82] 27))
    generalize w82.alloc (Obj.cells #[Value.bool n81, Value.slice o81 l81 c81, Value.int IntKind.i64 e81, Value.bool n82, Value.slice o82 l82 c82, Value.int IntKind.i64 e82] 27) = WD at RD KD RA RB RC CD Y81 Y82 ⊢
    clear hPD alD cbD KCd KC p0 p1 p2 q0 q1 q2 r0 r1 r2 s0 s1 s2 Z81 bb81 bx81 Bx81 s810 s811 s812 s813 s814 s815 s816 s817 s818 s819 s8110 s8111 Z82 bb82 bx82 Bx82 s820 s821 s822 s823 s824 s825 s826 s827 s828 s829 s8210 s8211
    go_cut [85] (fun s85 wx => s85 = .bool (decide (fval al ≤ 0 ∧ 0 ≤ fval ah)) ∧ Hid (Below WD.heap.size WD wx))
    case first =>
      have KX : Hid _ := HC.out _ WD (Below.refl _ _) (by exact KD.out)
      obtain ⟨-, -, -, ⟨p0, p1, p2⟩, ⟨q0, q1, q2⟩, -, -⟩ := KX.out
      have ge : ∀ z : Int, 0 ≤ sgi z ↔ 0 ≤ z := fun z => by unfold sgi; split; omega; split <;> omega
      have HS1 : Hid (decide (sgi (fval al) ≤ 0) = decide (fval al ≤ 0)) := decide_eq_decide.2 (sgi_le _)
      have HS2 : Hid (decide (0 ≤ sgi (fval ah)) = decide (0 ≤ fval ah)) := decide_eq_decide.2 (ge _)
      obtain ⟨x1, hx1⟩ : ∃ x, sgi (fval al) = x := ⟨_, rfl⟩
      obtain ⟨x2, hx2⟩ : ∃ x, sgi (fval ah) = x := ⟨_, rfl⟩
      rw [hx1] at HS1
      rw [hx2] at HS2
      have HX1 : Hid _ := hx1
      have HX2 : Hid _ := hx2
      clear hx1 hx2 ge KX
      by_cases c1 : fval al ≤ 0
      · have d1 : decide (x1 ≤ 0) = true := by rw [HS1.out]; exact decide_eq_true c1
        by_cases c2 : 0 ≤ fval ah
        · have d2 : decide (0 ≤ x2) = true := by rw [HS2.out]; exact decide_eq_true c2
          have DD : Hid (decide (fval al ≤ 0 ∧ 0 ≤ fval ah) = true) := decide_eq_true ⟨c1, c2⟩
          clear c1 c2
          go_wp2_with fail
          refine Calls.mono (signZ_any _ E 1024 (fval al) _ (NumZ.later U1.out KD.out)) ?_
          rintro e wx ⟨rfl, bx⟩
          rw [HX1.out]
          have BX : Hid (Below WD.heap.size WD wx) := bx
          obtain ⟨-, -, -, ⟨p0', p1', p2'⟩, ⟨q0', q1', q2'⟩, -, -⟩ := HC.out _ wx KD.out bx
          clear bx p0 p1 p2 q0 q1 q2
          go_wp2_with fail
          refine Calls.mono (signZ_any _ E 1024 (fval ah) _ (NumZ.later (NumZ.later U2.out KD.out) BX.out)) ?_
          rintro e wy ⟨rfl, bx⟩
          rw [HX2.out]
          have BY : Hid (Below WD.heap.size WD wy) := BX.out.trans (bx.mono BX.out.size)
          clear bx p0' p1' p2' q0' q1' q2'
          go_wp2_with fail
          go_meet
          exact ⟨by rw [DD.out], BY⟩
        · have d2 : decide (0 ≤ x2) = false := by rw [HS2.out]; exact decide_eq_false c2
          have DD : Hid (decide (fval al ≤ 0 ∧ 0 ≤ fval ah) = false) := decide_eq_false (fun h => c2 h.2)
          clear c1 c2
          go_wp2_with fail
          refine Calls.mono (signZ_any _ E 1024 (fval al) _ (NumZ.later U1.out KD.out)) ?_
          rintro e wx ⟨rfl, bx⟩
          rw [HX1.out]
          have BX : Hid (Below WD.heap.size WD wx) := bx
          obtain ⟨-, -, -, ⟨p0', p1', p2'⟩, ⟨q0', q1', q2'⟩, -, -⟩ := HC.out _ wx KD.out bx
          clear bx p0 p1 p2 q0 q1 q2
          go_wp2_with fail
          refine Calls.mono (signZ_any _ E 1024 (fval ah) _ (NumZ.later (NumZ.later U2.out KD.out) BX.out)) ?_
          rintro e wy ⟨rfl, bx⟩
          rw [HX2.out]
          have BY : Hid (Below WD.heap.size WD wy) := BX.out.trans (bx.mono BX.out.size)
          clear bx p0' p1' p2' q0' q1' q2'
          go_wp2_with fail
          go_meet
          exact ⟨by rw [DD.out], BY⟩
      · have d1 : decide (x1 ≤ 0) = false := by rw [HS1.out]; exact decide_eq_false c1
        have DD : Hid (decide (fval al ≤ 0 ∧ 0 ≤ fval ah) = false) := decide_eq_false (fun h => c1 h.1)
        clear c1
        go_wp2_with fail
        refine Calls.mono (signZ_any _ E 1024 (fval al) _ (NumZ.later U1.out KD.out)) ?_
        rintro e wx ⟨rfl, bx⟩
        rw [HX1.out]
        have BX : Hid (Below WD.heap.size WD wx) := bx
        clear bx p0 p1 p2 q0 q1 q2
        go_wp2_with fail
        go_meet
        exact ⟨by rw [DD.out], BX⟩
    case rest =>
    obtain ⟨rfl, KX⟩ := hcut
    have KE : Hid (Below W.heap.size W wc) := KD.out.trans (KX.out.mono KD.out.size)
    have SA : Hid _ := RdN.later RA.out KX.out
    have SB : Hid _ := RdN.later RB.out KX.out
    have SC : Hid _ := RdN.later RC.out KX.out
    have SD : Hid _ := RdN.later RD.out KX.out
    have X81 : Hid _ := NumZ.later Y81.out KX.out
    have X82 : Hid _ := NumZ.later Y82.out KX.out
    have CX2 : Hid (∀ j u, #[Value.bool n81, Value.slice o81 l81 c81, Value.int IntKind.i64 e81, Value.bool n82, Value.slice o82 l82 c82, Value.int IntKind.i64 e82][j]? = some u → wc.cell? ⟨PD, j, none⟩ = some u) := fun j u hu => by
      have h0 := CD.out j u hu
      rw [KX.out.cell (p := ⟨PD, j, none⟩) (World.block_lt_of_cell? _ _ h0)]; exact h0
    clear RA RB RC RD Y81 Y82 CD KX KD
    go_upto_if 85 with fail
    go_cut [14] (fun s14 wx => ∃ (gq lenq capq : Nat) (ZQ : Nat → Int), s14 = .slice (some ⟨gq, 0, none⟩) lenq capq ∧ lenq ≤ 10 ∧ Hid (RdN wx (some ⟨gq, 0, none⟩) lenq capq (E + E) 2048 ZQ) ∧ Hid (qb = false → TightL (ql, qh, qb) ZQ lenq E) ∧ Hid (Below wc.heap.size wc wx))
    case first =>
      by_cases hs : fval al ≤ 0 ∧ 0 ≤ fval ah
      · have hd : decide (fval al ≤ 0 ∧ 0 ≤ fval ah) = true := decide_eq_true hs
        have TQ3 : Hid (qb = false → TightL (ql, qh, qb) _ 3 E) := fun h => tl_sq3 HLE.out hs (TQ.out h)
        rw [hd]
        clear hs hd TQ
        have NA0 : Hid (Below wc.heap.size wc (wc.alloc (Obj.cells #[Value.bool false, Value.slice none 0 0, Value.int IntKind.i64 0] 27))) := (Below.refl _ wc).alloc (Nat.le_refl _) _
        have CP0 : Hid (∀ j u, #[Value.bool false, Value.slice none 0 0, Value.int IntKind.i64 0][j]? = some u → (wc.alloc (Obj.cells #[Value.bool false, Value.slice none 0 0, Value.int IntKind.i64 0] 27)).cell? ⟨wc.heap.size, j, none⟩ = some u) := row_cells (heap_alloc_new wc _)
        have CX3 : Hid (∀ j u, #[Value.bool n81, Value.slice o81 l81 c81, Value.int IntKind.i64 e81, Value.bool n82, Value.slice o82 l82 c82, Value.int IntKind.i64 e82][j]? = some u → (wc.alloc (Obj.cells #[Value.bool false, Value.slice none 0 0, Value.int IntKind.i64 0] 27)).cell? ⟨PD, j, none⟩ = some u) := fun j u hu => by
          have h0 := CX2.out j u hu
          rw [NA0.out.cell (p := ⟨PD, j, none⟩) (World.block_lt_of_cell? _ _ h0)]; exact h0
        go_wp2_with (first | (at_builtin; refine appendN _ (by rfl) (.tmp 86) (.tmp 88) (by rfl) _ _ _ _ _ _ _ _ _ _ PD wc.heap.size (by rfl) CX3.out (by rfl) CP0.out ?_; intro gq cq wq hcq hcm hcl hbq))
        have BQ : Hid (Below wc.heap.size wc wq) := NA0.out.trans (hbq.mono NA0.out.size)
        have RQ : Hid (RdN wq (some ⟨gq, 0, none⟩) 3 cq (E + E) 2048 _) := rdn3 hcq hcm hcl (NumZ.later X81.out BQ.out) (NumZ.later X82.out BQ.out) (⟨false, 0, 0, ⟨none, 0, 0, [], rfl, Rd4.none _, Or.inl rfl, rfl⟩, by omega, by rw [bl_zero]; omega, zv_zero _ _ _⟩ : NumZ wq (.agg #[.bool false, .slice none 0 0, .int .i64 0]) (E + E) 2048 0)
        clear hcq hcm hcl hbq
        go_wp2_with fail
        go_meet
        exact ⟨gq, 3, cq, _, rfl, by decide, RQ, TQ3, BQ⟩
      · have hd : decide (fval al ≤ 0 ∧ 0 ≤ fval ah) = false := decide_eq_false hs
        have TQ2 : Hid (qb = false → TightL (ql, qh, qb) _ 2 E) := fun h => tl_sq2 HLE.out hs (TQ.out h)
        rw [hd]
        clear hs hd TQ
        go_wp2_with fail
        go_meet
        exact ⟨PD, 2, 2, _, rfl, by decide, SD, TQ2, Below.refl _ _⟩
    case rest =>
    obtain ⟨gq, lenq, capq, ZQ, rfl, hlq, RD, TQ2, KX⟩ := hcut
    have KF : Hid (Below W.heap.size W wc) := KE.out.trans (KX.out.mono KE.out.size)
    have RA : Hid _ := RdN.later SA.out KX.out
    have RB : Hid _ := RdN.later SB.out KX.out
    have RC : Hid _ := RdN.later SC.out KX.out
    clear SA SB SC SD X81 X82 CX2 KE KX TQ HLE
    go_upto_region 11 with fail
    obtain ⟨-, -, -, ⟨p0, p1, p2⟩, ⟨q0, q1, q2⟩, ⟨r0, r1, r2⟩, ⟨s0, s1, s2⟩⟩ := HC.out _ wc (Below.refl _ _) (by exact KF.out)
    have KFd : Below W.heap.size W wc.drew := KF.out.drew
    go_region_held3 (fun w' => (w'.cell? ⟨Pp, 0, none⟩ = some (.bool n1) ∧ w'.cell? ⟨Pp, 1, none⟩ = some (.slice o1 l1 c1) ∧ w'.cell? ⟨Pp, 2, none⟩ = some (.int .i64 e1)) ∧ (w'.cell? ⟨Pq, 0, none⟩ = some (.bool n2) ∧ w'.cell? ⟨Pq, 1, none⟩ = some (.slice o2 l2 c2) ∧ w'.cell? ⟨Pq, 2, none⟩ = some (.int .i64 e2)) ∧ (w'.cell? ⟨Pr, 0, none⟩ = some (.bool n3) ∧ w'.cell? ⟨Pr, 1, none⟩ = some (.slice o3 l3 c3) ∧ w'.cell? ⟨Pr, 2, none⟩ = some (.int .i64 e3)) ∧ (w'.cell? ⟨Ps, 0, none⟩ = some (.bool n4) ∧ w'.cell? ⟨Ps, 1, none⟩ = some (.slice o4 l4 c4) ∧ w'.cell? ⟨Ps, 2, none⟩ = some (.int .i64 e4))) (go_keep) ((first
      | (go_at_call_of 11 (Value.bool n1); go_at_call_of 11 (Value.bool n3); refine Calls.mono (mostZ_any _ _ E 1024 (fval al) (fval bl) _ (NumZ.later U1.out (by first | assumption | exact (Below.refl _ _).drew)) (NumZ.later U3.out (by first | assumption | exact (Below.refl _ _).drew)) (by omega) (by omega)) ?_; rintro e w91 ⟨v91, rfl, hz91, bx91⟩; obtain ⟨bb91, -, -, ⟨s910, s911, s912⟩, ⟨s913, s914, s915⟩, ⟨s916, s917, s918⟩, ⟨s919, s9110, s9111⟩⟩ := HC.out _ w91 (by first | assumption | exact (Below.refl _ _).drew) bx91; have Z91 : Hid (NumZ w91 v91 E 1024 (max (fval al) (fval bl))) := hz91; obtain ⟨n91, m91, e91, ⟨o91, l91, c91, xs91, rfl, -⟩, -⟩ := hz91; have Bx91 : Hid (Below w91.heap.size w91 w91) := Below.refl _ _)
      | (go_at_call_of 11 (Value.bool n2); go_at_call_of 11 (Value.bool n4); refine Calls.mono (mostZ_any _ _ E 1024 (fval ah) (fval bh) _ (NumZ.later U2.out (by first | assumption | exact (Below.refl _ _).drew)) (NumZ.later U4'.out (by first | assumption | exact (Below.refl _ _).drew)) (by omega) (by omega)) ?_; rintro e w92 ⟨v92, rfl, hz92, bx92⟩; obtain ⟨bb92, -, -, ⟨s920, s921, s922⟩, ⟨s923, s924, s925⟩, ⟨s926, s927, s928⟩, ⟨s929, s9210, s9211⟩⟩ := HC.out _ w92 (by first | assumption | exact (Below.refl _ _).drew) bx92; have Z92 : Hid (NumZ w92 v92 E 1024 (max (fval ah) (fval bh))) := hz92; obtain ⟨n92, m92, e92, ⟨o92, l92, c92, xs92, rfl, -⟩, -⟩ := hz92; have Bx92 : Hid (Below w92.heap.size w92 w92) := Below.refl _ _)))
    go_upto_region 12 with fail
    have alE := (Below.refl _ w92).alloc (Nat.le_refl _) (Obj.cells #[Value.bool n91, Value.slice o91 l91 c91, Value.int IntKind.i64 e91, Value.bool n92, Value.slice o92 l92 c92, Value.int IntKind.i64 e92] 27)
    have Y91 : Hid (NumZ (w92.alloc (Obj.cells #[Value.bool n91, Value.slice o91 l91 c91, Value.int IntKind.i64 e91, Value.bool n92, Value.slice o92 l92 c92, Value.int IntKind.i64 e92] 27)) (.agg #[.bool n91, .slice o91 l91 c91, .int .i64 e91]) E 1024 _) := NumZ.later (NumZ.later Z91.out ((Below.refl w91.heap.size w91).trans (bx92.mono (Below.refl w91.heap.size w91).size))) alE
    have Y92 : Hid (NumZ (w92.alloc (Obj.cells #[Value.bool n91, Value.slice o91 l91 c91, Value.int IntKind.i64 e91, Value.bool n92, Value.slice o92 l92 c92, Value.int IntKind.i64 e92] 27)) (.agg #[.bool n92, .slice o92 l92 c92, .int .i64 e92]) E 1024 _) := NumZ.later (NumZ.later Z92.out (Below.refl w92.heap.size w92)) alE
    have RE : Hid (RdN (w92.alloc (Obj.cells #[Value.bool n91, Value.slice o91 l91 c91, Value.int IntKind.i64 e91, Value.bool n92, Value.slice o92 l92 c92, Value.int IntKind.i64 e92] 27)) (some ⟨w92.heap.size, 0, none⟩) 2 2 E 1024 _) := rdn2 (by decide) (by decide) (row_cells (heap_alloc_new w92 (Obj.cells #[Value.bool n91, Value.slice o91 l91 c91, Value.int IntKind.i64 e91, Value.bool n92, Value.slice o92 l92 c92, Value.int IntKind.i64 e92] 27))) Y91.out Y92.out
    have KE : Hid (Below W.heap.size W (w92.alloc (Obj.cells #[Value.bool n91, Value.slice o91 l91 c91, Value.int IntKind.i64 e91, Value.bool n92, Value.slice o92 l92 c92, Value.int IntKind.i64 e92] 27))) := bb92.alloc bb92.size _
    have cbE := ((((Below.refl wc.heap.size wc).drew).trans (bx91.mono ((Below.refl wc.heap.size wc).drew).size)).trans (bx92.mono (((Below.refl wc.heap.size wc).drew).trans (bx91.mono ((Below.refl wc.heap.size wc).drew).size)).size)).trans (alE.mono ((((Below.refl wc.heap.size wc).drew).trans (bx91.mono ((Below.refl wc.heap.size wc).drew).size)).trans (bx92.mono (((Below.refl wc.heap.size wc).drew).trans (bx91.mono ((Below.refl wc.heap.size wc).drew).size)).size)).size)
    have RA' : Hid _ := RdN.later RA.out cbE
    clear RA
    have RA : Hid _ := RA'.out
    clear RA'
    have RB' : Hid _ := RdN.later RB.out cbE
    clear RB
    have RB : Hid _ := RB'.out
    clear RB'
    have RC' : Hid _ := RdN.later RC.out cbE
    clear RC
    have RC : Hid _ := RC'.out
    clear RC'
    have RD' : Hid _ := RdN.later RD.out cbE
    clear RD
    have RD : Hid _ := RD'.out
    clear RD'
    obtain ⟨PE, hPE⟩ : ∃ P, w92.heap.size = P := ⟨_, rfl⟩
    rw [hPE] at RE ⊢
    generalize w92.alloc (Obj.cells #[Value.bool n91, Value.slice o91 l91 c91, Value.int IntKind.i64 e91, Value.bool n92, Value.slice o92 l92 c92, Value.int IntKind.i64 e92] 27) = WE at RE KE RA RB RC RD  ⊢
    clear hPE alE cbE KFd KF p0 p1 p2 q0 q1 q2 r0 r1 r2 s0 s1 s2 Z91 bb91 bx91 Bx91 Y91 s910 s911 s912 s913 s914 s915 s916 s917 s918 s919 s9110 s9111 Z92 bb92 bx92 Bx92 Y92 s920 s921 s922 s923 s924 s925 s926 s927 s928 s929 s9210 s9211
    obtain ⟨-, -, -, ⟨p0, p1, p2⟩, ⟨q0, q1, q2⟩, ⟨r0, r1, r2⟩, ⟨s0, s1, s2⟩⟩ := HC.out _ WE (Below.refl _ _) (by exact KE.out)
    go_upto_region 13 with fail
    have alF := (Below.refl _ WE).alloc (Nat.le_refl _) (Obj.cells #[Value.bool n1, Value.slice o1 l1 c1, Value.int IntKind.i64 e1, Value.bool n2, Value.slice o2 l2 c2, Value.int IntKind.i64 e2, Value.bool n3, Value.slice o3 l3 c3, Value.int IntKind.i64 e3, Value.bool n4, Value.slice o4 l4 c4, Value.int IntKind.i64 e4] 27)
    have RF : Hid (RdN (WE.alloc (Obj.cells #[Value.bool n1, Value.slice o1 l1 c1, Value.int IntKind.i64 e1, Value.bool n2, Value.slice o2 l2 c2, Value.int IntKind.i64 e2, Value.bool n3, Value.slice o3 l3 c3, Value.int IntKind.i64 e3, Value.bool n4, Value.slice o4 l4 c4, Value.int IntKind.i64 e4] 27)) (some ⟨WE.heap.size, 0, none⟩) 4 4 E 1024 _) := rdn4 (by decide) (by decide) (row_cells (heap_alloc_new WE (Obj.cells #[Value.bool n1, Value.slice o1 l1 c1, Value.int IntKind.i64 e1, Value.bool n2, Value.slice o2 l2 c2, Value.int IntKind.i64 e2, Value.bool n3, Value.slice o3 l3 c3, Value.int IntKind.i64 e3, Value.bool n4, Value.slice o4 l4 c4, Value.int IntKind.i64 e4] 27))) (NumZ.later (NumZ.later U1.out KE.out) alF) (NumZ.later (NumZ.later U2.out KE.out) alF) (NumZ.later (NumZ.later U3.out KE.out) alF) (NumZ.later (NumZ.later U4'.out KE.out) alF)
    have KG : Hid (Below W.heap.size W (WE.alloc (Obj.cells #[Value.bool n1, Value.slice o1 l1 c1, Value.int IntKind.i64 e1, Value.bool n2, Value.slice o2 l2 c2, Value.int IntKind.i64 e2, Value.bool n3, Value.slice o3 l3 c3, Value.int IntKind.i64 e3, Value.bool n4, Value.slice o4 l4 c4, Value.int IntKind.i64 e4] 27))) := KE.out.alloc KE.out.size _
    have SA : Hid _ := RdN.later RA.out alF
    have SB : Hid _ := RdN.later RB.out alF
    have SC : Hid _ := RdN.later RC.out alF
    have SD : Hid _ := RdN.later RD.out alF
    have SE : Hid _ := RdN.later RE.out alF
    obtain ⟨PF, hPF⟩ : ∃ P, WE.heap.size = P := ⟨_, rfl⟩
    rw [hPF] at RF ⊢
    generalize WE.alloc (Obj.cells #[Value.bool n1, Value.slice o1 l1 c1, Value.int IntKind.i64 e1, Value.bool n2, Value.slice o2 l2 c2, Value.int IntKind.i64 e2, Value.bool n3, Value.slice o3 l3 c3, Value.int IntKind.i64 e3, Value.bool n4, Value.slice o4 l4 c4, Value.int IntKind.i64 e4] 27) = WF at RF KG SA SB SC SD SE alF ⊢
    clear alF hPF RA RB RC RD RE KE p0 p1 p2 q0 q1 q2 r0 r1 r2 s0 s1 s2
    have HW : Hid (∀ wy, Below WF.heap.size WF wy → (wy.cell? ⟨Pa, 0, none⟩ = some (.float .f64 al) ∧ wy.cell? ⟨Pa, 1, none⟩ = some (.float .f64 ah) ∧ wy.cell? ⟨Pa, 2, none⟩ = some (.bool ab)) ∧ (wy.cell? ⟨Pb, 0, none⟩ = some (.float .f64 bl) ∧ wy.cell? ⟨Pb, 1, none⟩ = some (.float .f64 bh) ∧ wy.cell? ⟨Pb, 2, none⟩ = some (.bool bb))) := fun wy h => by
      obtain ⟨-, h1, h2, -⟩ := HC.out _ wy KG.out h
      exact ⟨h1, h2⟩
    have J0 : Hid (Below WF.heap.size WF WF) := Below.refl _ _
    clear HC U1 U2 U3 U4'
    obtain ⟨⟨a0, a1, a2⟩, ⟨b0, b1, b2⟩⟩ := HW.out _ J0.out
    go_wp2_with fail
    refine Calls.mono (CP.out _) ?_
    rintro e wa0 ⟨rfl, bw⟩
    have I0 : Hid (Below WF.heap.size WF wa0) := J0.out.trans (bw.mono J0.out.size)
    clear bw a0 a1 a2 b0 b1 b2
    go_wp2_with fail
    refine Calls.mono (tight_any pl ph pb HLP.out.1 HLP.out.2 _ 2 2 0 1025 _ E hE (by omega) (by omega) _ (RdN.later SA.out I0.out) (by omega) TP.out) ?_
    rintro e wb0 ⟨rfl, bw⟩
    have J1 : Hid (Below WF.heap.size WF wb0) := I0.out.trans (bw.mono I0.out.size)
    clear bw
    obtain ⟨⟨a0, a1, a2⟩, ⟨b0, b1, b2⟩⟩ := HW.out _ J1.out
    go_wp2_with fail
    refine Calls.mono (CS.out _) ?_
    rintro e wa1 ⟨rfl, bw⟩
    have I1 : Hid (Below WF.heap.size WF wa1) := J1.out.trans (bw.mono J1.out.size)
    clear bw a0 a1 a2 b0 b1 b2
    go_wp2_with fail
    refine Calls.mono (tight_any sl sh sb HLS.out.1 HLS.out.2 _ 2 2 0 1025 _ E hE (by omega) (by omega) _ (RdN.later SB.out I1.out) (by omega) TSB.out) ?_
    rintro e wb1 ⟨rfl, bw⟩
    have J2 : Hid (Below WF.heap.size WF wb1) := I1.out.trans (bw.mono I1.out.size)
    clear bw
    obtain ⟨⟨a0, a1, a2⟩, ⟨b0, b1, b2⟩⟩ := HW.out _ J2.out
    go_wp2_with fail
    refine Calls.mono (CM.out _) ?_
    rintro e wa2 ⟨rfl, bw⟩
    have I2 : Hid (Below WF.heap.size WF wa2) := J2.out.trans (bw.mono J2.out.size)
    clear bw a0 a1 a2 b0 b1 b2
    go_wp2_with fail
    refine Calls.mono (tight_any ml mh mb HLM.out.1 HLM.out.2 _ 4 4 E 2048 _ E hE (by omega) (by omega) _ (RdN.later SC.out I2.out) (by omega) TM.out) ?_
    rintro e wb2 ⟨rfl, bw⟩
    have J3 : Hid (Below WF.heap.size WF wb2) := I2.out.trans (bw.mono I2.out.size)
    clear bw
    obtain ⟨⟨a0, a1, a2⟩, ⟨b0, b1, b2⟩⟩ := HW.out _ J3.out
    go_wp2_with fail
    refine Calls.mono (CQ.out _) ?_
    rintro e wa3 ⟨rfl, bw⟩
    have I3 : Hid (Below WF.heap.size WF wa3) := J3.out.trans (bw.mono J3.out.size)
    clear bw a0 a1 a2 b0 b1 b2
    go_wp2_with fail
    refine Calls.mono (tight_any ql qh qb HLQ.out.1 HLQ.out.2 _ lenq capq E 2048 _ E hE (by omega) (by omega) _ (RdN.later SD.out I3.out) (by omega) TQ2.out) ?_
    rintro e wb3 ⟨rfl, bw⟩
    have J4 : Hid (Below WF.heap.size WF wb3) := I3.out.trans (bw.mono I3.out.size)
    clear bw
    obtain ⟨⟨a0, a1, a2⟩, ⟨b0, b1, b2⟩⟩ := HW.out _ J4.out
    go_wp2_with fail
    refine Calls.mono (CX.out _) ?_
    rintro e wa4 ⟨rfl, bw⟩
    have I4 : Hid (Below WF.heap.size WF wa4) := J4.out.trans (bw.mono J4.out.size)
    clear bw a0 a1 a2 b0 b1 b2
    go_wp2_with fail
    refine Calls.mono (tight_any xl xh xb HLX.out.1 HLX.out.2 _ 2 2 0 1024 _ E hE (by omega) (by omega) _ (RdN.later SE.out I4.out) (by omega) TX.out) ?_
    rintro e wb4 ⟨rfl, bw⟩
    have J5 : Hid (Below WF.heap.size WF wb4) := I4.out.trans (bw.mono I4.out.size)
    clear bw
    obtain ⟨⟨a0, a1, a2⟩, ⟨b0, b1, b2⟩⟩ := HW.out _ J5.out
    go_wp2_with fail
    refine Calls.mono (CU.out _) ?_
    rintro e wa5 ⟨rfl, bw⟩
    have I5 : Hid (Below WF.heap.size WF wa5) := J5.out.trans (bw.mono J5.out.size)
    clear bw a0 a1 a2 b0 b1 b2
    go_wp2_with fail
    refine Calls.mono (tight_any ul uh ub HLU.out.1 HLU.out.2 _ 4 4 0 1024 _ E hE (by omega) (by omega) _ (RdN.later RF.out I5.out) (by omega) TU.out) ?_
    rintro e wb5 ⟨rfl, bw⟩
    have J6 : Hid (Below WF.heap.size WF wb5) := I5.out.trans (bw.mono I5.out.size)
    clear bw
    go_wp2_with fail
    refine Calls.mono (ST.out _) ?_
    rintro e wz ⟨rfl, bw⟩
    have JZ : Hid (Below WF.heap.size WF wz) := J6.out.trans (bw.mono J6.out.size)
    clear bw
    go_wp2_with fail
    go_ret
    have h1 := NB.out.trans (KG.out.mono NB.out.size)
    exact ⟨rfl, h1.trans (JZ.out.mono h1.size)⟩
  · as_aux_lemma =>
    have hcase : da = false ∨ (da = true ∧ db = false) := by
      have h1 := HDA.out; have h2 := HDB.out
      cases da
      · exact .inl rfl
      · refine .inr ⟨rfl, ?_⟩
        cases db
        · rfl
        · exact absurd ⟨of_decide_eq_true h1, of_decide_eq_true h2⟩ hg
    obtain ⟨rs, r1, cs⟩ := spSub_any al ah bl bh ab bb hal hah hbl hbh
    have e1' : rs = (0, 0, true) := by unfold BinR at r1; rw [if_neg hg] at r1; exact r1
    subst e1'
    have CS : Hid _ := cs
    clear r1 cs hg HDA HDB V1 V2 V3 V4 F1 F2 F3 F4 Np Nq Nr Ns
    obtain ⟨a0, a1, a2⟩ := cells3 Na.out
    obtain ⟨b0, b1, b2⟩ := cells3 Nb.out
    rcases hcase with rfl | ⟨rfl, rfl⟩
    all_goals
      go_wp2_with fail
      refine Calls.mono (CS.out _) ?_
      rintro e w6 ⟨rfl, bw⟩
      have MB : Hid (Below w.heap.size w w6) := NB.out.trans (bw.mono NB.out.size)
      clear bw a0 a1 a2 b0 b1 b2 Na Nb
      go_wp2_with fail
      refine Calls.mono (ST.out _) ?_
      rintro e w7 ⟨rfl, bw⟩
      have QB : Hid (Below w.heap.size w w7) := MB.out.trans (bw.mono MB.out.size)
      clear bw
      go_wp2_with fail
      go_ret
      exact ⟨rfl, QB.out⟩
end Go.Proofs.Ytkfmffikfpmgdab
