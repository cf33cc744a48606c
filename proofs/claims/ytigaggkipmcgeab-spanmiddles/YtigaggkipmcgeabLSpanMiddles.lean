import Derived.Test.YtigaggkipmcgeabZY
namespace Go.Proofs.Ytigaggkipmcgeab
open Go.RowKit
set_option linter.unusedVariables false

set_option maxRecDepth 100000 in
set_option maxHeartbeats 8000000 in
theorem spanMiddles_walk (al ah : Nat) (ab : Bool) (hal : al < 18446744073709551616) (hah : ah < 18446744073709551616) (w : World) :
    Calls Try.prog 6 #[.agg #[.float .f64 al, .float .f64 ah, .bool ab]] w fun e w' => e = .returned (.bool true) ∧ Below w.heap.size w w' := by
  have hsf := run_store_f
  obtain ⟨p, hp1, hp2, hpc⟩ := width_any al ah ab hal hah
  have WP : Hid _ := hpc
  have WP1 : Hid _ := hp1
  have WP2 : Hid _ := hp2
  clear hp1 hp2 hpc
  obtain ⟨g0, gb⟩ := alloc1_facts w (Obj.cells #[Value.float .f64 al, .float .f64 ah, .bool ab] 24)
  have Na : Hid _ := g0
  have NB : Hid _ := gb
  clear g0 gb
  go_enter Try.func6, Try.ntmps6
  go_upto_region 1 with fail
  generalize (w.alloc (Obj.cells #[Value.float .f64 al, .float .f64 ah, .bool ab] 24)) = W0 at Na NB ⊢
  obtain ⟨Pa, hPa⟩ : ∃ P, w.heap.size = P := ⟨_, rfl⟩
  have HPa : Hid (w.heap.size = Pa) := hPa
  rw [hPa] at Na ⊢
  clear hPa
  obtain ⟨a0, a1, a2⟩ := cells3 Na.out
  go_wp2_with fail
  refine Calls.mono (middle_any al ah ab hal hah _) ?_
  rintro e w1 ⟨u, ub, rfl, k1, k2, bw⟩
  have MK1 : Hid _ := k1
  have MK2 : Hid _ := k2
  have Ma : Hid _ := (bw.block _ (blk_lt Na.out)).trans Na.out
  have MB : Hid (Below w.heap.size w w1) := NB.out.trans (bw.mono NB.out.size)
  clear bw Na NB a0 a1 a2 k1 k2
  obtain ⟨a0, a1, a2⟩ := cells3 Ma.out
  go_wp2_with fail
  refine Calls.mono (WP.out _) ?_
  rintro e w2 ⟨rfl, bw⟩
  have Na : Hid _ := (bw.block _ (blk_lt Ma.out)).trans Ma.out
  have NB : Hid (Below w.heap.size w w2) := MB.out.trans (bw.mono MB.out.size)
  clear bw Ma MB a0 a1 a2 WP
  obtain ⟨a0, a1, a2⟩ := cells3 Na.out
  go_wp2_with fail
  refine Calls.mono (of_any4 al ah ab _) ?_
  rintro e w3 ⟨rfl, bw⟩
  have Ma : Hid _ := (bw.block _ (blk_lt Na.out)).trans Na.out
  have MB : Hid (Below w.heap.size w w3) := NB.out.trans (bw.mono NB.out.size)
  clear bw Na NB a0 a1 a2
  have HE : Hid ((1074 : Nat) = 1074) := rfl
  obtain ⟨E, hE⟩ : ∃ E : Nat, E = 1074 := ⟨_, rfl⟩
  go_wp2_with fail
  refine Calls.mono (ends_any al ah ab hal hah _ E hE) ?_
  rintro e w4 ⟨v1, u1, rfl, ⟨z1, hz1, hf1⟩, ⟨y1, hy1, hg1⟩, bw⟩
  have Z1 : Hid (NumZ w4 v1 E 1024 z1) := hz1
  have Y1 : Hid (NumZ w4 u1 E 1024 y1) := hy1
  have F1 : Hid (Fin al → z1 = fval al) := hf1
  have H1 : Hid (Fin ah → y1 = fval ah) := hg1
  obtain ⟨nx1, mx1, ex1, ⟨ao1, len1, cap1, xs1, rfl, -⟩, -⟩ := hz1
  obtain ⟨ny1, my1, ey1, ⟨bo1, blen1, bcap1, ys1, rfl, -⟩, -⟩ := hy1
  have Ma_1 : Hid _ := (bw.block _ (blk_lt Ma.out)).trans Ma.out
  have C_1 : Hid (Below w.heap.size w w4) := MB.out.trans (bw.mono MB.out.size)
  clear bw hf1 hg1 MB Ma
  obtain ⟨pu, pk⟩ := p
  by_cases hg : Good al ah ab
  · rw [decide_eq_true hg]
    obtain rfl : ab = false := hg.1
    have HG : Hid (Good al ah false) := hg
    have hm := mid_in hal hah hg.2.1 hg.2.2.1 (good_mono hg) (MK1.out hg)
    obtain ⟨rfl, fu, mu1, mu2⟩ := hm
    have HZ : Hid (z1 = fval al ∧ y1 = fval ah) := ⟨F1.out hg.2.1, H1.out hg.2.2.1⟩
    have W1' : Hid (RndZ 1 (fval ah - fval al) 1 (pu, pk)) := WP1.out hg
    have hut := (rz_canon (MK1.out hg)).2.1
    have HH : Hid (∀ x, (x = u ∨ x = al ∨ x = ah) → ∀ w, Calls Try.prog 34 #[.agg #[Value.float .f64 al, .float .f64 ah, .bool false], .float .f64 x] w fun e w' => e = .returned (.bool true) ∧ Below w.heap.size w w') := by
      intro x hx w
      have := has_any al ah x false hal hah w
      have m := good_mono hg
      rw [hasB_good hg, decide_eq_true hg, decide_eq_true (show Fin x ∧ fval al ≤ fval x ∧ fval x ≤ fval ah by rcases hx with rfl | rfl | rfl; exact ⟨fu, mu1, mu2⟩; exact ⟨hg.2.1, Int.le_refl _, m⟩; exact ⟨hg.2.2.1, m, Int.le_refl _⟩)] at this
      exact this
    have HI : Hid (∀ w, Calls Try.prog 31 #[.agg #[Value.float .f64 al, .float .f64 ah, .bool false], .agg #[Value.float .f64 al, .float .f64 ah, .bool false]] w fun e w' => e = .returned (.bool true) ∧ Below w.heap.size w w') := by
      intro w
      have := inside_any al ah al ah false false hal hah hal hah w
      rw [inB_true (r' := (al, ah, false)) (r := (al, ah, false)) ⟨hg, hg, Int.le_refl _, Int.le_refl _, ⟨hal, hah⟩, hal, hah⟩] at this
      exact this
    obtain ⟨rh, hrh, ch⟩ := spHull_any al ah al ah false false hal hah hal hah
    obtain ⟨rm, hrm, cm⟩ := spMeet_any al ah al ah false false hal hah hal hah
    obtain ⟨rn, hrn, cn⟩ := spNeg_any al ah false hal hah
    have lt1 := neg_lt hrn
    obtain ⟨rn2, hrn2, cn2⟩ := spNeg_any rn.1 rn.2.1 rn.2.2 lt1.1 lt1.2
    have hmn := good_mono hg
    have eh : rh = (plainM al, plainM ah, false) := by
      unfold BinR MkR at hrh; rw [if_pos ⟨hg, hg⟩, if_pos (by omega)] at hrh
      exact hull_self hal hah hg (by omega) (by omega) hrh
    have em : rm = (plainM al, plainM ah, false) := by
      unfold BinR MkR at hrm; rw [if_pos ⟨hg, hg⟩, if_pos (by omega)] at hrm
      exact hull_self hal hah hg (by omega) (by omega) hrm
    have en : rn2 = (plainM al, plainM ah, false) := neg_self hal hah hg hrn hrn2
    rw [eh] at ch
    rw [em] at cm
    rw [en] at cn2
    have p1 := plain_fval hal hg.2.1
    have p2 := plain_fval hah hg.2.2.1
    have qn : ∀ w, (binOp .neq 24 (.agg #[.float .f64 (plainM al), .float .f64 (plainM ah), .bool false]) (.agg #[.float .f64 (plainM al), .float .f64 (plainM ah), .bool false])).run Try.prog w = .ok (.bool false) w := neq_same p1.2.1 p2.2.1 false
    have q1 : (FloatKind.f64.format.order (plainM al) al != some .eq) = false := by unfold bne; rw [ord_same p1.2.1 hg.2.1 p1.1]; rfl
    have q2 : (FloatKind.f64.format.order (plainM ah) ah != some .eq) = false := by unfold bne; rw [ord_same p2.2.1 hg.2.2.1 p2.1]; rfl
    have CH : Hid _ := ch
    have CM : Hid _ := cm
    have CN : Hid _ := cn
    have CN2 : Hid _ := cn2
    have ST : Hid _ := spStarted_any
    generalize plainM al = hl at CH CM CN2 qn q1
    generalize plainM ah = hh at CH CM CN2 qn q2
    obtain ⟨rl, rr, rb⟩ := rn
    clear hrh hrm hrn hrn2 ch cm cn cn2 eh em en p1 p2 lt1 F1 H1 hg fu mu1 mu2 MK1 MK2 WP1 WP2 hut hmn
    go_upto_region 4 with fail
    obtain ⟨k0, k1, -, kb⟩ := alloc2_facts w4 (Obj.cells #[Value.bool nx1, Value.slice ao1 len1 cap1, Value.int IntKind.i64 ex1] 27) (Obj.cells #[Value.bool ny1, Value.slice bo1 blen1 bcap1, Value.int IntKind.i64 ey1] 27)
    have K1x : Hid _ := k0
    have K1y : Hid _ := k1
    have C1' : Hid (Below w.heap.size w ((w4.alloc (Obj.cells #[Value.bool nx1, Value.slice ao1 len1 cap1, Value.int IntKind.i64 ex1] 27)).alloc (Obj.cells #[Value.bool ny1, Value.slice bo1 blen1 bcap1, Value.int IntKind.i64 ey1] 27))) := C_1.out.trans (kb.mono C_1.out.size)
    have Ma_1' : Hid _ := (kb.block _ (blk_lt Ma_1.out)).trans Ma_1.out
    have Z1' : Hid _ := NumZ.later Z1.out kb
    have Y1' : Hid _ := NumZ.later Y1.out kb
    clear k0 k1 kb C_1 Ma_1 Z1 Y1
    generalize ((w4.alloc (Obj.cells #[Value.bool nx1, Value.slice ao1 len1 cap1, Value.int IntKind.i64 ex1] 27)).alloc (Obj.cells #[Value.bool ny1, Value.slice bo1 blen1 bcap1, Value.int IntKind.i64 ey1] 27)) = V1 at K1x K1y C1' Ma_1' Z1' Y1' ⊢
    obtain ⟨a0, a1, a2⟩ := cells3 Ma_1'.out
    go_wp2_with fail
    refine Calls.mono (CH.out _) ?_
    rintro e w5 ⟨rfl, bw⟩
    have Na : Hid _ := (bw.block _ (blk_lt Ma_1'.out)).trans Ma_1'.out
    have Kp : Hid _ := (bw.block _ (blk_lt K1x.out)).trans K1x.out
    have Kq : Hid _ := (bw.block _ (blk_lt K1y.out)).trans K1y.out
    have Zp : Hid _ := NumZ.later Z1'.out bw
    have Zq : Hid _ := NumZ.later Y1'.out bw
    have NB : Hid (Below w.heap.size w w5) := C1'.out.trans (bw.mono C1'.out.size)
    clear bw Ma_1' K1x K1y Z1' Y1' C1' a0 a1 a2
    go_upto_region 7 with fail
    have Oa : Hid _ := (alloc4 Na.out NB.out (Obj.cells #[Value.float .f64 hl, .float .f64 hh, .bool false] 24)).1
    have Op : Hid _ := (alloc4 Kp.out NB.out (Obj.cells #[Value.float .f64 hl, .float .f64 hh, .bool false] 24)).1
    have Oq : Hid _ := (alloc4 Kq.out NB.out (Obj.cells #[Value.float .f64 hl, .float .f64 hh, .bool false] 24)).1
    have Oh : Hid _ := heap_alloc_new w5 (Obj.cells #[Value.float .f64 hl, .float .f64 hh, .bool false] 24)
    have Vp : Hid _ := NumZ.later Zp.out ((Below.refl _ w5).alloc (Nat.le_refl _) (Obj.cells #[Value.float .f64 hl, .float .f64 hh, .bool false] 24))
    have Vq : Hid _ := NumZ.later Zq.out ((Below.refl _ w5).alloc (Nat.le_refl _) (Obj.cells #[Value.float .f64 hl, .float .f64 hh, .bool false] 24))
    have OB : Hid (Below w.heap.size w (w5.alloc (Obj.cells #[Value.float .f64 hl, .float .f64 hh, .bool false] 24))) := NB.out.alloc NB.out.size _
    obtain ⟨Ph, hPh⟩ : ∃ P, w5.heap.size = P := ⟨_, rfl⟩
    rw [hPh] at Oh ⊢
    generalize w5.alloc (Obj.cells #[Value.float .f64 hl, .float .f64 hh, .bool false] 24) = W6 at Oa Op Oq Oh Vp Vq OB ⊢
    clear hPh Na Kp Kq Zp Zq NB
    have HC : Hid (∀ wx wy, Below W6.heap.size W6 wx → Below wx.heap.size wx wy → Below W6.heap.size W6 wy ∧ (wy.cell? ⟨Pa, 0, none⟩ = some (.float .f64 al) ∧ wy.cell? ⟨Pa, 1, none⟩ = some (.float .f64 ah) ∧ wy.cell? ⟨Pa, 2, none⟩ = some (.bool false)) ∧ (wy.cell? ⟨Ph, 0, none⟩ = some (.float .f64 hl) ∧ wy.cell? ⟨Ph, 1, none⟩ = some (.float .f64 hh) ∧ wy.cell? ⟨Ph, 2, none⟩ = some (.bool false))) := by
      intro wx wy q1 q2
      have h := q1.trans (q2.mono q1.size)
      exact ⟨h, cells3 ((h.block _ (blk_lt Oa.out)).trans Oa.out), cells3 ((h.block _ (blk_lt Oh.out)).trans Oh.out)⟩
    obtain ⟨a0, a1, a2⟩ := cells3 Oa.out
    obtain ⟨h0, h1, h2⟩ := cells3 Oh.out
    go_region_held3 (fun w' => (w'.cell? ⟨Pa, 0, none⟩ = some (.float .f64 al) ∧ w'.cell? ⟨Pa, 1, none⟩ = some (.float .f64 ah) ∧ w'.cell? ⟨Pa, 2, none⟩ = some (.bool false)) ∧ (w'.cell? ⟨Ph, 0, none⟩ = some (.float .f64 hl) ∧ w'.cell? ⟨Ph, 1, none⟩ = some (.float .f64 hh) ∧ w'.cell? ⟨Ph, 2, none⟩ = some (.bool false))) (go_keep) ((first
      | (go_at_call 34; refine Calls.mono (HH.out _ (by first | exact Or.inl rfl | exact Or.inr (Or.inl rfl) | exact Or.inr (Or.inr rfl)) _) ?_; rintro e wx1 ⟨rfl, bx1⟩; obtain ⟨bb1, ⟨s0, s1, s2⟩, ⟨s3, s4, s5⟩⟩ := HC.out _ wx1 (by first | assumption | exact (Below.refl _ _).drew) bx1)
      | (go_at_call 31; refine Calls.mono (HI.out _) ?_; rintro e wx2 ⟨rfl, bx2⟩; obtain ⟨bb2, ⟨t0, t1, t2⟩, ⟨t3, t4, t5⟩⟩ := HC.out _ wx2 (by first | assumption | exact (Below.refl _ _).drew) bx2)
      | (go_at_call 24; refine Calls.mono (CM.out _) ?_; rintro e wx3 ⟨rfl, bx3⟩; obtain ⟨bb3, ⟨r0, r1, r2⟩, ⟨r3, r4, r5⟩⟩ := HC.out _ wx3 (by first | assumption | exact (Below.refl _ _).drew) bx3)
      | (go_at_call_of 15 (Value.float FloatKind.f64 al); refine Calls.mono (CN.out _) ?_; rintro e wx4 ⟨rfl, bx4⟩; obtain ⟨bb4, ⟨v0, v1, v2⟩, ⟨v3, v4, v5⟩⟩ := HC.out _ wx4 (by first | assumption | exact (Below.refl _ _).drew) bx4)
      | (go_at_call 15; refine Calls.mono (CN2.out _) ?_; rintro e wx5 ⟨rfl, bx5⟩; obtain ⟨bb5, ⟨y0, y1, y2⟩, ⟨y3, y4, y5⟩⟩ := HC.out _ wx5 (by first | assumption | exact (Below.refl _ _).drew) bx5)))
    have BX : Hid (Below W6.heap.size W6 wx5) := bb5
    clear bb1 bb2 bb3 bb4 bb5 bx1 bx2 bx3 bx4 bx5 s0 s1 s2 s3 s4 s5 t0 t1 t2 t3 t4 t5 r0 r1 r2 r3 r4 r5 v0 v1 v2 v3 v4 v5 y0 y1 y2 y3 y4 y5 a0 a1 a2 h0 h1 h2 HC qn q1 q2 HH HI CH CM CN CN2
    have Na : Hid _ := (BX.out.block _ (blk_lt Oa.out)).trans Oa.out
    have Np : Hid _ := (BX.out.block _ (blk_lt Op.out)).trans Op.out
    have Nq : Hid _ := (BX.out.block _ (blk_lt Oq.out)).trans Oq.out
    have Xp : Hid _ := NumZ.later Vp.out BX.out
    have Xq : Hid _ := NumZ.later Vq.out BX.out
    have NB : Hid (Below w.heap.size w wx5) := OB.out.trans (BX.out.mono OB.out.size)
    clear Oa Op Oq Oh Vp Vq OB BX
    cases pk
    · go_wp2_with fail
      refine Calls.mono (ST.out _) ?_
      rintro e w7 ⟨rfl, bw⟩
      have QB : Hid (Below w.heap.size w w7) := NB.out.trans (bw.mono NB.out.size)
      clear bw
      go_wp2_with fail
      go_ret
      exact ⟨rfl, QB.out⟩
    · have hlt := (rz_canon W1'.out).2.1
      have hfin := (rz_canon W1'.out).1
      have hlt : pu < 18446744073709551616 := hlt
      have hfin : Fin pu := hfin
      have hge := up_ge (by have := good_mono HG.out; omega) W1'.out
      go_wp2_with fail
      refine Calls.mono (bits_any pu _) ?_
      rintro e w7 ⟨rfl, hw⟩
      rw [hw]; clear hw
      go_wp2_with fail
      refine Calls.mono (ofZ_any pu hlt _ E hE) ?_
      rintro e w8 ⟨v8, rfl, ⟨z8, hz8, hf8⟩, bw⟩
      have Z8 : Hid (NumZ w8 v8 E 1024 z8) := hz8
      have F8 : Hid (z8 = fval pu) := hf8 hfin
      obtain ⟨nx, mx, ex, ⟨ao, len, cap, xs, rfl, -⟩, -⟩ := hz8
      have Ma : Hid _ := (bw.block _ (blk_lt Na.out)).trans Na.out
      have Mp : Hid _ := (bw.block _ (blk_lt Np.out)).trans Np.out
      have Mq : Hid _ := (bw.block _ (blk_lt Nq.out)).trans Nq.out
      have Yp : Hid _ := NumZ.later Xp.out bw
      have Yq : Hid _ := NumZ.later Xq.out bw
      have MB : Hid (Below w.heap.size w w8) := NB.out.trans (bw.mono NB.out.size)
      clear bw hf8 Na Np Nq Xp Xq NB
      go_upto_region 11 with fail
      have Oa : Hid _ := (alloc4 Ma.out MB.out (Obj.cells #[Value.bool nx, Value.slice ao len cap, Value.int IntKind.i64 ex] 27)).1
      have Op : Hid _ := (alloc4 Mp.out MB.out (Obj.cells #[Value.bool nx, Value.slice ao len cap, Value.int IntKind.i64 ex] 27)).1
      have Oq : Hid _ := (alloc4 Mq.out MB.out (Obj.cells #[Value.bool nx, Value.slice ao len cap, Value.int IntKind.i64 ex] 27)).1
      have Ox : Hid _ := heap_alloc_new w8 (Obj.cells #[Value.bool nx, Value.slice ao len cap, Value.int IntKind.i64 ex] 27)
      have OB : Hid (Below w.heap.size w (w8.alloc (Obj.cells #[Value.bool nx, Value.slice ao len cap, Value.int IntKind.i64 ex] 27))) := MB.out.alloc MB.out.size _
      have Vp : Hid _ := NumZ.later Yp.out ((Below.refl _ w8).alloc (Nat.le_refl _) (Obj.cells #[Value.bool nx, Value.slice ao len cap, Value.int IntKind.i64 ex] 27))
      have Vq : Hid _ := NumZ.later Yq.out ((Below.refl _ w8).alloc (Nat.le_refl _) (Obj.cells #[Value.bool nx, Value.slice ao len cap, Value.int IntKind.i64 ex] 27))
      have Vx : Hid _ := NumZ.later Z8.out ((Below.refl _ w8).alloc (Nat.le_refl _) (Obj.cells #[Value.bool nx, Value.slice ao len cap, Value.int IntKind.i64 ex] 27))
      obtain ⟨Px, hPx⟩ : ∃ P, w8.heap.size = P := ⟨_, rfl⟩
      rw [hPx] at Ox ⊢
      obtain ⟨Pq, hPq⟩ : ∃ P, w4.heap.size + 1 = P := ⟨_, rfl⟩
      rw [hPq] at Oq ⊢
      obtain ⟨Pp, hPp⟩ : ∃ P, w4.heap.size = P := ⟨_, rfl⟩
      rw [hPp] at Op ⊢
      generalize w8.alloc (Obj.cells #[Value.bool nx, Value.slice ao len cap, Value.int IntKind.i64 ex] 27) = W9 at Oa Op Oq Ox Vp Vq Vx OB ⊢
      clear hPx hPp hPq Ma Mp Mq Yp Yq Z8 MB
      have e1 : (FloatKind.f64.format.order pu 0 == some .eq) = decide (fval ah - fval al = 0) := by
        rw [f64_fmt, ord_eq (Nat.le_of_lt hfin) (by decide)]
        congr 1; apply propext
        have s := srung_eq pu 0
        have z0 : fval 0 = 0 := by decide
        have h2 := hge.2
        rw [s, z0]; exact h2
      have e2 : (FloatKind.f64.format.order al ah == some .eq) = decide (fval ah - fval al = 0) := by
        rw [f64_fmt, ord_eq (Nat.le_of_lt HG.out.2.1) (Nat.le_of_lt HG.out.2.2.1)]
        congr 1; apply propext
        have s := srung_eq al ah
        rw [s]; omega
      have e3 : decide (sgi (z8 - (y1 - z1)) < 0) = false := by
        apply decide_eq_false
        rw [F8.out, HZ.out.1, HZ.out.2]
        have := hge.1
        unfold sgi
        split
        · omega
        · split <;> omega
      generalize decide (fval ah - fval al = 0) = bq at e1 e2
      have qe : (bq == bq) = true := by cases bq <;> rfl
      have qf : (bq != bq) = false := by cases bq <;> rfl
      have E3 : Hid _ := e3
      have HC : Hid (∀ wx wy, Below W9.heap.size W9 wx → Below wx.heap.size wx wy → Below W9.heap.size W9 wy ∧ (wy.cell? ⟨Pa, 0, none⟩ = some (.float .f64 al) ∧ wy.cell? ⟨Pa, 1, none⟩ = some (.float .f64 ah) ∧ wy.cell? ⟨Pa, 2, none⟩ = some (.bool false)) ∧ (wy.cell? ⟨Px, 0, none⟩ = some (Value.bool nx) ∧ wy.cell? ⟨Px, 1, none⟩ = some (Value.slice ao len cap) ∧ wy.cell? ⟨Px, 2, none⟩ = some (Value.int IntKind.i64 ex)) ∧ (wy.cell? ⟨Pp, 0, none⟩ = some (Value.bool nx1) ∧ wy.cell? ⟨Pp, 1, none⟩ = some (Value.slice ao1 len1 cap1) ∧ wy.cell? ⟨Pp, 2, none⟩ = some (Value.int IntKind.i64 ex1)) ∧ (wy.cell? ⟨Pq, 0, none⟩ = some (Value.bool ny1) ∧ wy.cell? ⟨Pq, 1, none⟩ = some (Value.slice bo1 blen1 bcap1) ∧ wy.cell? ⟨Pq, 2, none⟩ = some (Value.int IntKind.i64 ey1))) := by
        intro wx wy q1 q2
        have h := q1.trans (q2.mono q1.size)
        exact ⟨h, cells3 ((h.block _ (blk_lt Oa.out)).trans Oa.out), cells3 ((h.block _ (blk_lt Ox.out)).trans Ox.out), cells3 ((h.block _ (blk_lt Op.out)).trans Op.out), cells3 ((h.block _ (blk_lt Oq.out)).trans Oq.out)⟩
      obtain ⟨a0, a1, a2⟩ := cells3 Oa.out
      obtain ⟨x0, x1, x2⟩ := cells3 Ox.out
      obtain ⟨p0, p1, p2⟩ := cells3 Op.out
      obtain ⟨m0, m1, m2⟩ := cells3 Oq.out
      clear hge hfin hlt e3 W1' F8 HZ
      go_region_held3 (fun w' => (w'.cell? ⟨Pa, 0, none⟩ = some (.float .f64 al) ∧ w'.cell? ⟨Pa, 1, none⟩ = some (.float .f64 ah) ∧ w'.cell? ⟨Pa, 2, none⟩ = some (.bool false)) ∧ (w'.cell? ⟨Px, 0, none⟩ = some (Value.bool nx) ∧ w'.cell? ⟨Px, 1, none⟩ = some (Value.slice ao len cap) ∧ w'.cell? ⟨Px, 2, none⟩ = some (Value.int IntKind.i64 ex)) ∧ (w'.cell? ⟨Pp, 0, none⟩ = some (Value.bool nx1) ∧ w'.cell? ⟨Pp, 1, none⟩ = some (Value.slice ao1 len1 cap1) ∧ w'.cell? ⟨Pp, 2, none⟩ = some (Value.int IntKind.i64 ex1)) ∧ (w'.cell? ⟨Pq, 0, none⟩ = some (Value.bool ny1) ∧ w'.cell? ⟨Pq, 1, none⟩ = some (Value.slice bo1 blen1 bcap1) ∧ w'.cell? ⟨Pq, 2, none⟩ = some (Value.int IntKind.i64 ey1))) (go_keep) ((first
        | (go_at_call 19; refine Calls.mono (minusZ_any _ _ E 1024 y1 z1 _ (NumZ.later Vq.out (Below.refl _ _).drew) (NumZ.later Vp.out (Below.refl _ _).drew) (by omega) (by omega)) ?_; rintro e wx1 ⟨vm, rfl, hzm, bx1⟩; obtain ⟨bb1, ⟨s0, s1, s2⟩, ⟨s3, s4, s5⟩, ⟨s6, s7, s8⟩, ⟨s9, s10, s11⟩⟩ := HC.out _ wx1 (by first | assumption | exact (Below.refl _ _).drew) bx1; have ZM : Hid (NumZ wx1 vm E 1025 (y1 - z1)) := hzm; have ZX : Hid (NumZ wx1 _ E 1025 z8) := NumZ.mono (NumZ.later Vx.out bb1) (by omega); clear hzm)
        | (go_at_call 25; refine Calls.mono (cmpZ_any _ _ E 1025 z8 (y1 - z1) _ ZX.out ZM.out (by omega) (by omega)) ?_; rintro e wx2 ⟨rfl, bx2⟩; obtain ⟨bb2, ⟨t0, t1, t2⟩, ⟨t3, t4, t5⟩, ⟨t6, t7, t8⟩, ⟨t9, t10, t11⟩⟩ := HC.out _ wx2 (by first | assumption | exact (Below.refl _ _).drew) bx2)))
      all_goals
        have BX : Hid (Below w.heap.size w wx2) := OB.out.trans (bb2.mono OB.out.size)
        have e3 := E3.out
        clear bb1 bb2 bx1 bx2 s0 s1 s2 s3 s4 s5 s6 s7 s8 s9 s10 s11 t0 t1 t2 t3 t4 t5 t6 t7 t8 t9 t10 t11 HC ZM ZX
        rw [e3]
        clear e3
        go_wp2_with fail
        refine Calls.mono (ST.out _) ?_
        rintro e w10 ⟨rfl, bw⟩
        have QB : Hid (Below w.heap.size w w10) := BX.out.trans (bw.mono BX.out.size)
        clear bw
        go_wp2_with fail
        go_ret
        exact ⟨rfl, QB.out⟩
  · rw [decide_eq_false hg]
    have hm := MK2.out hg
    obtain ⟨rfl, rfl⟩ := hm
    have hw := WP2.out hg
    have hw1 : pu = 0 := congrArg Prod.fst hw
    have hw2 : pk = false := congrArg Prod.snd hw
    subst hw1 hw2
    obtain ⟨rn, hrn, cn⟩ := spNeg_any al ah ab hal hah
    have en : rn = (0, 0, true) := by unfold UnR at hrn; rw [if_neg hg] at hrn; exact hrn
    subst en
    have CN : Hid _ := cn
    have ST : Hid _ := spStarted_any
    have HI : Hid (∀ w, Calls Try.prog 31 #[.agg #[Value.float .f64 al, .float .f64 ah, .bool ab], .agg #[Value.float .f64 al, .float .f64 ah, .bool ab]] w fun e w' => e = .returned (.bool false) ∧ Below w.heap.size w w') := by
      intro w
      have := inside_any al ah al ah ab ab hal hah hal hah w
      rw [decide_eq_false (fun c : Good al ah ab ∧ Good al ah ab => hg c.1)] at this
      exact this
    have HH : Hid (∀ w, Calls Try.prog 34 #[.agg #[Value.float .f64 al, .float .f64 ah, .bool ab], .float .f64 al] w fun e w' => e = .returned (.bool false) ∧ Below w.heap.size w w') := by
      intro w
      have := has_any al ah al ab hal hah w
      rw [decide_eq_false hg] at this
      exact this
    have q3 : ∀ w, (binOp .eql 24 (.agg #[Value.float .f64 0, .float .f64 0, .bool true]) (.agg #[Value.float .f64 0, .float .f64 0, .bool true])).run Try.prog w = .ok (.bool true) w := fun w => by kernel_rfl
    clear hrn cn F1 H1 hg MK1 MK2 WP1 WP2 hw
    go_upto_region 4 with fail
    obtain ⟨k0, k1, -, kb⟩ := alloc2_facts w4 (Obj.cells #[Value.bool nx1, Value.slice ao1 len1 cap1, Value.int IntKind.i64 ex1] 27) (Obj.cells #[Value.bool ny1, Value.slice bo1 blen1 bcap1, Value.int IntKind.i64 ey1] 27)
    have K1x : Hid _ := k0
    have K1y : Hid _ := k1
    have C1' : Hid (Below w.heap.size w ((w4.alloc (Obj.cells #[Value.bool nx1, Value.slice ao1 len1 cap1, Value.int IntKind.i64 ex1] 27)).alloc (Obj.cells #[Value.bool ny1, Value.slice bo1 blen1 bcap1, Value.int IntKind.i64 ey1] 27))) := C_1.out.trans (kb.mono C_1.out.size)
    have Ma_1' : Hid _ := (kb.block _ (blk_lt Ma_1.out)).trans Ma_1.out
    have Z1' : Hid _ := NumZ.later Z1.out kb
    have Y1' : Hid _ := NumZ.later Y1.out kb
    clear k0 k1 kb C_1 Ma_1 Z1 Y1
    generalize ((w4.alloc (Obj.cells #[Value.bool nx1, Value.slice ao1 len1 cap1, Value.int IntKind.i64 ex1] 27)).alloc (Obj.cells #[Value.bool ny1, Value.slice bo1 blen1 bcap1, Value.int IntKind.i64 ey1] 27)) = V1 at K1x K1y C1' Ma_1' Z1' Y1' ⊢
    obtain ⟨a0, a1, a2⟩ := cells3 Ma_1'.out
    go_wp2_with fail
    refine Calls.mono (HI.out _) ?_
    rintro e w5 ⟨rfl, bw⟩
    have Na : Hid _ := (bw.block _ (blk_lt Ma_1'.out)).trans Ma_1'.out
    have NB : Hid (Below w.heap.size w w5) := C1'.out.trans (bw.mono C1'.out.size)
    clear bw Ma_1' K1x K1y Z1' Y1' C1' a0 a1 a2
    obtain ⟨a0, a1, a2⟩ := cells3 Na.out
    go_wp2_with fail
    refine Calls.mono (HH.out _) ?_
    rintro e w6 ⟨rfl, bw⟩
    have Ma : Hid _ := (bw.block _ (blk_lt Na.out)).trans Na.out
    have MB : Hid (Below w.heap.size w w6) := NB.out.trans (bw.mono NB.out.size)
    clear bw Na NB a0 a1 a2
    obtain ⟨a0, a1, a2⟩ := cells3 Ma.out
    go_wp2_with fail
    refine Calls.mono (CN.out _) ?_
    rintro e w7 ⟨rfl, bw⟩
    have NB : Hid (Below w.heap.size w w7) := MB.out.trans (bw.mono MB.out.size)
    clear bw Ma MB a0 a1 a2
    go_wp2_with fail
    refine Calls.mono (ST.out _) ?_
    rintro e w8 ⟨rfl, bw⟩
    have QB : Hid (Below w.heap.size w w8) := NB.out.trans (bw.mono NB.out.size)
    clear bw
    go_wp2_with fail
    go_ret
    exact ⟨rfl, QB.out⟩
end Go.Proofs.Ytigaggkipmcgeab
