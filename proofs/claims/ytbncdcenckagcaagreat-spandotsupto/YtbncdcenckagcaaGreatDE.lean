import Derived.Test.YtbncdcenckagcaaGreatDD
import Derived.Test.YtbncdcenckagcaaGreatMV
import Derived.BigRegion
namespace Go.Proofs.YtbncdcenckagcaaGreat
open Go.RowKit
set_option linter.unusedVariables false
set_option linter.unusedSimpArgs false

set_option maxRecDepth 100000 in
set_option maxHeartbeats 8000000 in
theorem refDot_any (wo lo : Option Addr) (n m wc lc : Nat) (U : Nat → Nat) (F : Nat → Nat × Nat × Bool) (w : World) (hr : RdW w wo n wc U) (hs : RdV w lo m lc F) (E : Nat) (hE : E = 1074) :
    Calls Tryz.prog 6 #[.slice wo n wc, .slice lo m lc] w fun e w' => RefAns w (DotR U F n m E) e w' := by
  have HR : Hid (RdW w wo n wc U) := hr
  have HS : Hid (RdV w lo m lc F) := hs
  have hmx : n ≤ 9223372036854775807 := by have := hr.le; have := hr.max; simp only [maxLen] at *; omega
  have hmm : m ≤ 9223372036854775807 := by have := hs.le; have := hs.max; simp only [maxLen] at *; omega
  clear hr hs
  go_enter Tryz.func6, Tryz.ntmps6
  by_cases hnm : n = m
  · subst hnm
    have hne : ((n : Int) != (n : Int)) = false := by simp
    go_upto_region 4 with fail
    obtain ⟨g0, g1, g2, gz, gb⟩ := alloc3_facts w (Obj.cells #[Value.int .u64 0, .int .u64 0, .bool false] 30) (Obj.cells #[Value.bool false, .slice none 0 0, .int .i64 0] 44) (Obj.cells #[Value.bool false, .slice none 0 0, .int .i64 0] 44)
    have R0 : Hid _ := g0
    have C0 : Hid _ := gb
    have L0 : Hid (BoxC _ (w.heap.size + 1) (E + E) 2112 (dsum 2 U F 0)) := ⟨_, _, _, _, _, g1, BoxC.zero _ _ _ (by omega)⟩
    have H0 : Hid (BoxC _ (w.heap.size + 1 + 1) (E + E) 2112 (dsum 1 U F 0)) := ⟨_, _, _, _, _, g2, BoxC.zero _ _ _ (by omega)⟩
    clear g0 g1 g2 gz gb
    generalize (((w.alloc (Obj.cells #[Value.int .u64 0, .int .u64 0, .bool false] 30)).alloc (Obj.cells #[Value.bool false, .slice none 0 0, .int .i64 0] 44)).alloc (Obj.cells #[Value.bool false, .slice none 0 0, .int .i64 0] 44)) = W0 at R0 C0 L0 H0 ⊢
    go_wp2_with fail
    go_loopg [7] n (fun g iv wr => ∃ k : Nat, k + g = n ∧ iv = .int .i64 k ∧ Hid (wr.heap[w.heap.size]? = some (Obj.cells #[Value.int .u64 0, .int .u64 0, .bool false] 30)) ∧ Hid (Below w.heap.size w wr) ∧ Hid (BoxC wr (w.heap.size + 1) (E + E) 2112 (dsum 2 U F k)) ∧ Hid (BoxC wr (w.heap.size + 1 + 1) (E + E) 2112 (dsum 1 U F k)) ∧ Hid (∀ j, j < k → Fin (U j) ∧ Good (F j).1 (F j).2.1 (F j).2.2))
    case atStart => exact ⟨0, by omega, rfl, R0, C0, L0, H0, fun j hj => by omega⟩
    case round =>
      clear R0 C0 L0 H0
      obtain ⟨k, hk, rfl, R1, C1, L1, H1, HF⟩ := hrel
      by_cases hlt : k < n
      · have HLT1 : Hid (w.heap.size + 1 + 1 < wr.heap.size) := BoxC.lt H1.out
        have hd : decide ((k : Int) < (n : Int)) = true := decide_eq_true (by omega)
        obtain ⟨g, rfl⟩ : ∃ g, gk = g + 1 := ⟨gk - 1, by omega⟩
        have hr := HR.out.later C1.out
        have hs := HS.out.later C1.out
        rcases hr.cells with h0 | ⟨b, off, rfl, hc⟩
        · omega
        rcases hs.cells with h0 | ⟨b', off', rfl, hc'⟩
        · omega
        have g0 := hc k hlt
        obtain ⟨s0, s1, s2⟩ := hc' k hlt
        have hul := HR.out.lt k hlt
        obtain ⟨hlo, hhi⟩ := HS.out.lt k hlt
        obtain ⟨u, hu⟩ : ∃ u, U k = u := ⟨_, rfl⟩
        obtain ⟨sp, hsp⟩ : ∃ sp, F k = sp := ⟨_, rfl⟩
        have HU : Hid _ := hu
        have HSP : Hid _ := hsp
        rw [hu] at g0 hul
        rw [hsp] at s0 s1 s2 hlo hhi
        obtain ⟨slo, shi, sbd⟩ := sp
        simp only at s0 s1 s2 hlo hhi
        clear hr hs hc hc' hu hsp
        go_upto_region 8 with (first
          | (go_at_call 13; refine (ofZ_any u hul _ E hE).mono ?_; rintro e w3 ⟨v3, rfl, ⟨z3, hz3, hv3⟩, g3⟩; obtain ⟨nx, mx, ex, ⟨xo, xl, xc, xs, rfl, -⟩, -⟩ := id hz3; have Z3 : Hid (NumZ w3 _ E 1024 z3) := hz3; have V3 : Hid (Fin u → z3 = fval u) := hv3; have G3 : Hid _ := g3; clear hz3 hv3 g3))
        have gw : Below wr.heap.size wr (w3.alloc (Obj.cells #[Value.bool nx, Value.slice xo xl xc, Value.int IntKind.i64 ex] 44)) := G3.out.alloc G3.out.size _
        have R2 : Hid _ := keep0 R1.out (gw)
        have C2 : Hid (Below w.heap.size w _) := C1.out.trans ((gw).mono C1.out.size)
        have L2 : Hid (BoxC _ (w.heap.size + 1) (E + E) 2112 (dsum 2 U F k)) := BoxC.later L1.out (gw)
        have H2 : Hid (BoxC _ (w.heap.size + 1 + 1) (E + E) 2112 (dsum 1 U F k)) := BoxC.later H1.out (gw)
        replace s0 := ((gw).cell (World.block_lt_of_cell? _ _ s0)).trans s0
        replace s1 := ((gw).cell (World.block_lt_of_cell? _ _ s1)).trans s1
        replace s2 := ((gw).cell (World.block_lt_of_cell? _ _ s2)).trans s2
        clear R1 C1 L1 H1
        have X2 : Hid _ := heap_alloc_new w3 (Obj.cells #[Value.bool nx, Value.slice xo xl xc, Value.int IntKind.i64 ex] 44)
        have Z2 : Hid (NumZ (w3.alloc (Obj.cells #[Value.bool nx, Value.slice xo xl xc, Value.int IntKind.i64 ex] 44)) _ E 1024 z3) := NumZ.later Z3.out ((Below.refl _ w3).alloc (Nat.le_refl _) _)
        have hwX : w.heap.size + 1 + 1 < w3.heap.size := Nat.lt_of_lt_of_le HLT1.out G3.out.size
        clear Z3 G3 gw g0
        generalize w3.alloc (Obj.cells #[Value.bool nx, Value.slice xo xl xc, Value.int IntKind.i64 ex] 44) = W3 at R2 C2 L2 H2 X2 Z2 s0 s1 s2 ⊢
        go_upto_region 9 with (first
          | (go_at_call 14; refine (ends_any slo shi sbd hlo hhi _ E hE).mono ?_; rintro e w5 ⟨vp, vq, rfl, ⟨zp, hzp, hvp⟩, ⟨zq, hzq, hvq⟩, g5⟩; obtain ⟨np, mp, ep, ⟨po, pl, pc, psx, rfl, -⟩, -⟩ := id hzp; obtain ⟨nq, mq, eq, ⟨qo, ql, qc, qsx, rfl, -⟩, -⟩ := id hzq; have ZP5 : Hid (NumZ w5 _ E 1024 zp) := hzp; have ZQ5 : Hid (NumZ w5 _ E 1024 zq) := hzq; have VP : Hid (Fin slo → zp = fval slo) := hvp; have VQ : Hid (Fin shi → zq = fval shi) := hvq; have G5 : Hid _ := g5; clear hzp hzq hvp hvq g5))
        obtain ⟨a0, a1, az, ab⟩ := alloc2_facts w5 (Obj.cells #[Value.bool np, Value.slice po pl pc, Value.int IntKind.i64 ep] 44) (Obj.cells #[Value.bool nq, Value.slice qo ql qc, Value.int IntKind.i64 eq] 44)
        have gw : Below W3.heap.size W3 ((w5.alloc (Obj.cells #[Value.bool np, Value.slice po pl pc, Value.int IntKind.i64 ep] 44)).alloc (Obj.cells #[Value.bool nq, Value.slice qo ql qc, Value.int IntKind.i64 eq] 44)) := G5.out.trans (ab.mono G5.out.size)
        have R3 : Hid _ := keep0 R2.out (gw)
        have C3 : Hid (Below w.heap.size w _) := C2.out.trans ((gw).mono C2.out.size)
        have L3 : Hid (BoxC _ (w.heap.size + 1) (E + E) 2112 (dsum 2 U F k)) := BoxC.later L2.out (gw)
        have H3 : Hid (BoxC _ (w.heap.size + 1 + 1) (E + E) 2112 (dsum 1 U F k)) := BoxC.later H2.out (gw)
        clear R2 C2 L2 H2
        have X3 : Hid _ := keep0 X2.out gw
        have ZX3 : Hid (NumZ ((w5.alloc (Obj.cells #[Value.bool np, Value.slice po pl pc, Value.int IntKind.i64 ep] 44)).alloc (Obj.cells #[Value.bool nq, Value.slice qo ql qc, Value.int IntKind.i64 eq] 44)) _ E 1024 z3) := NumZ.later Z2.out gw
        have ZP3 : Hid (NumZ ((w5.alloc (Obj.cells #[Value.bool np, Value.slice po pl pc, Value.int IntKind.i64 ep] 44)).alloc (Obj.cells #[Value.bool nq, Value.slice qo ql qc, Value.int IntKind.i64 eq] 44)) _ E 1024 zp) := NumZ.later ZP5.out ab
        have ZQ3 : Hid (NumZ ((w5.alloc (Obj.cells #[Value.bool np, Value.slice po pl pc, Value.int IntKind.i64 ep] 44)).alloc (Obj.cells #[Value.bool nq, Value.slice qo ql qc, Value.int IntKind.i64 eq] 44)) _ E 1024 zq) := NumZ.later ZQ5.out ab
        have P3 : Hid _ := a0
        have Q3 : Hid _ := a1
        have hXP : w3.heap.size < w5.heap.size := Nat.lt_of_lt_of_le (blk_lt X2.out) G5.out.size
        clear a0 a1 az ab gw X2 Z2 ZP5 ZQ5 G5 s0 s1 s2 HLT1
        generalize ((w5.alloc (Obj.cells #[Value.bool np, Value.slice po pl pc, Value.int IntKind.i64 ep] 44)).alloc (Obj.cells #[Value.bool nq, Value.slice qo ql qc, Value.int IntKind.i64 eq] 44)) = V0 at R3 C3 L3 H3 X3 ZX3 ZP3 ZQ3 P3 Q3 ⊢
        by_cases hfu : Fin u
        · by_cases hgd : Good slo shi sbd
          · have hd3 : decide (Fin u) = true := decide_eq_true hfu
            have hd4 : decide (Good slo shi sbd) = true := decide_eq_true hgd
            have HT : Hid (z3 = fval u ∧ zp = fval slo ∧ zq = fval shi) := ⟨V3.out hfu, VP.out hgd.2.1, VQ.out hgd.2.2.1⟩
            have HF' : Hid (∀ j, j < k + 1 → Fin (U j) ∧ Good (F j).1 (F j).2.1 (F j).2.2) := fun j hj => by
              rcases Nat.lt_or_ge j k with c | c
              · exact HF.out j c
              · obtain rfl : j = k := by omega
                rw [HU.out, HSP.out]
                exact ⟨hfu, hgd⟩
            rw [hd3, hd4]
            clear V3 VP VQ HF hfu hgd hd3 hd4
            obtain ⟨x0, x1, x2⟩ := cells3 X3.out
            obtain ⟨p0, p1, p2⟩ := cells3 P3.out
            go_upto_region 12 with (first
              | (go_at_call 15; refine (timesC_any _ _ E 1024 1024 z3 zp _ ZX3.out ZP3.out (by omega) (by omega) (by omega)).mono ?_; rintro e w6 ⟨v6, rfl, hz6, g6⟩; obtain ⟨n6, m6, e6, ⟨o6, l6, c6, x6, rfl, -⟩, -⟩ := id hz6; have TZ6 : Hid (NumC w6 _ (E + E) (1024 + 1024) (z3 * zp)) := hz6; have R6 : Hid _ := keep0 R3.out g6; have C6 : Hid (Below w.heap.size w w6) := C3.out.trans (g6.mono C3.out.size); have L6 : Hid (BoxC _ (w.heap.size + 1) (E + E) 2112 (dsum 2 U F k)) := BoxC.later L3.out g6; have H6 : Hid (BoxC _ (w.heap.size + 1 + 1) (E + E) 2112 (dsum 1 U F k)) := BoxC.later H3.out g6; have X6 : Hid _ := keep0 X3.out g6; have P6 : Hid _ := keep0 P3.out g6; have Q6 : Hid _ := keep0 Q3.out g6; have ZX6 : Hid (NumZ _ _ E 1024 z3) := NumZ.later ZX3.out g6; have ZQ6 : Hid (NumZ _ _ E 1024 zq) := NumZ.later ZQ3.out g6; clear hz6 g6)
              | (refine wpList_store_at (by rfl) 44 _ _ (by rfl) w w.heap.size (w5.heap.size) 0 (.agg #[.bool n6, .slice o6 l6 c6, .int .i64 e6]) _ #[Value.bool n6, Value.slice o6 l6 c6, Value.int .i64 e6] 44 (by rfl) (by rfl) P6.out C6.out (by omega) 3 Tryz.infoNum3 (by rfl) (Nat.le_of_ble_eq_true rfl) (by exact one_num _ _ _ _ _) (by rfl) ?_; intro V4 hV4 bV4 sV4 tV4))
            have NB : NumB w6 (w5.heap.size) := ⟨_, _, _, _, _, P6.out⟩
            have R4 : Hid _ := (tV4 _ (by omega)).trans R6.out
            have C4 : Hid (Below w.heap.size w V4) := bV4
            have L4 : Hid (BoxC _ (w.heap.size + 1) (E + E) 2112 (dsum 2 U F k)) := BoxC.keep L6.out NB tV4 (by omega)
            have H4 : Hid (BoxC _ (w.heap.size + 1 + 1) (E + E) 2112 (dsum 1 U F k)) := BoxC.keep H6.out NB tV4 (by omega)
            have P4 : Hid (BoxC V4 (w5.heap.size) (E + E) 2048 (z3 * zp)) := ⟨_, _, _, _, _, hV4, NumC.mono (NumC.keep NB tV4 TZ6.out) (by omega)⟩
            have X4 : Hid _ := (tV4 _ (by omega)).trans X6.out
            have ZX4 : Hid (NumZ _ _ E 1024 z3) := NumZ.keep NB tV4 ZX6.out
            have Q4 : Hid _ := (tV4 _ (by omega)).trans Q6.out
            have ZQ4 : Hid (NumZ _ _ E 1024 zq) := NumZ.keep NB tV4 ZQ6.out
            clear R6 C6 L6 H6 X6 P6 Q6 ZX6 ZQ6 TZ6 NB hV4 bV4 sV4 tV4
            clear x0 x1 x2 p0 p1 p2 R3 C3 L3 H3 X3 P3 Q3 ZX3 ZP3 ZQ3
            obtain ⟨x0, x1, x2⟩ := cells3 X4.out
            obtain ⟨p0, p1, p2⟩ := cells3 Q4.out
            go_upto_region 13 with (first
              | (go_at_call 15; refine (timesC_any _ _ E 1024 1024 z3 zq _ ZX4.out ZQ4.out (by omega) (by omega) (by omega)).mono ?_; rintro e w7 ⟨v7, rfl, hz7, g7⟩; obtain ⟨n7, m7, e7, ⟨o7, l7, c7, x7, rfl, -⟩, -⟩ := id hz7; have TZ7 : Hid (NumC w7 _ (E + E) (1024 + 1024) (z3 * zq)) := hz7; have R7 : Hid _ := keep0 R4.out g7; have C7 : Hid (Below w.heap.size w w7) := C4.out.trans (g7.mono C4.out.size); have L7 : Hid (BoxC _ (w.heap.size + 1) (E + E) 2112 (dsum 2 U F k)) := BoxC.later L4.out g7; have H7 : Hid (BoxC _ (w.heap.size + 1 + 1) (E + E) 2112 (dsum 1 U F k)) := BoxC.later H4.out g7; have X7 : Hid _ := keep0 X4.out g7; have P7 : Hid (BoxC _ (w5.heap.size) (E + E) 2048 (z3 * zp)) := BoxC.later P4.out g7; have Q7 : Hid _ := keep0 Q4.out g7; have ZX7 : Hid (NumZ _ _ E 1024 z3) := NumZ.later ZX4.out g7; have ZQ7 : Hid (NumZ _ _ E 1024 zq) := NumZ.later ZQ4.out g7; clear hz7 g7)
              | (refine wpList_store_at (by rfl) 44 _ _ (by rfl) w w.heap.size (w5.heap.size + 1) 0 (.agg #[.bool n7, .slice o7 l7 c7, .int .i64 e7]) _ #[Value.bool n7, Value.slice o7 l7 c7, Value.int .i64 e7] 44 (by rfl) (by rfl) Q7.out C7.out (by omega) 3 Tryz.infoNum3 (by rfl) (Nat.le_of_ble_eq_true rfl) (by exact one_num _ _ _ _ _) (by rfl) ?_; intro V5 hV5 bV5 sV5 tV5))
            have NB : NumB w7 (w5.heap.size + 1) := ⟨_, _, _, _, _, Q7.out⟩
            have R5 : Hid _ := (tV5 _ (by omega)).trans R7.out
            have C5 : Hid (Below w.heap.size w V5) := bV5
            have L5 : Hid (BoxC _ (w.heap.size + 1) (E + E) 2112 (dsum 2 U F k)) := BoxC.keep L7.out NB tV5 (by omega)
            have H5 : Hid (BoxC _ (w.heap.size + 1 + 1) (E + E) 2112 (dsum 1 U F k)) := BoxC.keep H7.out NB tV5 (by omega)
            have Q5 : Hid (BoxC V5 (w5.heap.size + 1) (E + E) 2048 (z3 * zq)) := ⟨_, _, _, _, _, hV5, NumC.mono (NumC.keep NB tV5 TZ7.out) (by omega)⟩
            have P5 : Hid (BoxC _ (w5.heap.size) (E + E) 2048 (z3 * zp)) := BoxC.keep P7.out NB tV5 (by omega)
            clear R7 C7 L7 H7 X7 P7 Q7 ZX7 ZQ7 TZ7 NB hV5 bV5 sV5 tV5
            clear x0 x1 x2 p0 p1 p2 R4 C4 L4 H4 X4 P4 Q4 ZX4 ZQ4
            obtain ⟨an, ao, al, ac, ae, ph, pn⟩ := P5.out
            obtain ⟨bn, bo, bl, bc, be, qh, qn⟩ := Q5.out
            obtain ⟨cn, co, cl, cc, ce, lh, ln⟩ := L5.out
            have PH : Hid _ := ph
            have QH : Hid _ := qh
            have LH : Hid _ := lh
            have PN : Hid (NumC V5 _ (E + E) 2048 (z3 * zp)) := pn
            have QN : Hid (NumC V5 _ (E + E) 2048 (z3 * zq)) := qn
            have LN : Hid (NumC V5 _ (E + E) 2112 (dsum 2 U F k)) := ln
            clear ph qh lh pn qn ln
            have hS : ∀ W, Below V5.heap.size V5 W → (W.heap[w5.heap.size]? = some (Obj.cells #[Value.bool an, Value.slice ao al ac, Value.int .i64 ae] 44) ∧ W.heap[w5.heap.size + 1]? = some (Obj.cells #[Value.bool bn, Value.slice bo bl bc, Value.int .i64 be] 44)) := fun W h => ⟨keep0 PH.out h, keep0 QH.out h⟩
            (try (simp only [Act.put, List.setIfInBounds_toArray, List.set_cons_zero, List.set_cons_succ]))
            go_cut [] (fun wx => Hid (wx.heap[w.heap.size]? = some (Obj.cells #[Value.int .u64 0, .int .u64 0, .bool false] 30)) ∧ Hid (Below w.heap.size w wx) ∧ Hid (BoxC wx (w.heap.size + 1) (E + E) 2112 (dsum 2 U F (k + 1))) ∧ Hid (BoxC wx (w.heap.size + 1 + 1) (E + E) 2112 (dsum 1 U F k)) ∧ Hid (BoxC wx (w5.heap.size) (E + E) 2048 (z3 * zp)) ∧ Hid (BoxC wx (w5.heap.size + 1) (E + E) 2048 (z3 * zq)))
            case first =>
              refine wp_region_noPanic ?_
              refine wp_region_held_drew (S := fun W => W.heap[w5.heap.size]? = some (Obj.cells #[Value.bool an, Value.slice ao al ac, Value.int .i64 ae] 44) ∧ W.heap[w5.heap.size + 1]? = some (Obj.cells #[Value.bool bn, Value.slice bo bl bc, Value.int .i64 be] 44)) (by kernel_rfl) (hS _ (Below.refl _ _).drew) (fun _ => ?_)
              refine takeH 56 (i := 1) (v := (.agg #[.bool an, .slice ao al ac, .int .i64 ae])) rfl rfl (by kernel_rfl) (by kernel_rfl) (by kernel_rfl) (fun _ _ _ h => h) (Or.inl ⟨(by kernel_rfl), fun w' hq => ex_load3 _ _ rfl (w5.heap.size) (by kernel_rfl) w' an ao al ac ae (cells3 hq.1)⟩) (hS _ (Below.refl _ _).drew) ?_
              refine takeH 57 (i := 2) (v := (.agg #[.bool bn, .slice bo bl bc, .int .i64 be])) rfl rfl (by kernel_rfl) (by kernel_rfl) (by kernel_rfl) (fun _ _ _ h => h) (Or.inl ⟨(by kernel_rfl), fun w' hq => ex_load3 _ _ rfl (w5.heap.size + 1) (by kernel_rfl) w' bn bo bl bc be (cells3 hq.2)⟩) (hS _ (Below.refl _ _).drew) ?_
              (try (simp only [Act.put, List.setIfInBounds_toArray, List.set_cons_zero, List.set_cons_succ]))
              refine wpAnyH_ready (rs := [0, 3]) (by kernel_rfl) (by simp) ?_
              refine consH _ rfl ?_ (consH _ rfl ?_ AllReadyH.nil)
              · refine hopVd 55 rfl rfl rfl (ex_load3 _ _ rfl (w.heap.size + 1) (by kernel_rfl) _ cn co cl cc ce (cells3 (keep0 LH.out ((Below.refl _ _).drew)))) ?_
                refine ⟨hS _ ((Below.refl _ _).drew), ?_⟩
                (try (simp only [Act.put, List.setIfInBounds_toArray, List.set_cons_zero, List.set_cons_succ]))
                refine wpAnyH_ready (rs := [3]) (by kernel_rfl) (by simp) ?_
                refine consH _ rfl ?_ AllReadyH.nil
                refine hopCd 58 rfl (by kernel_rfl) rfl (by kernel_rfl) (Calls.mono (leastC_any _ _ (E + E) 2048 (z3 * zp) (z3 * zq) _ (NumC.later PN.out ((Below.refl _ _).drew)) (NumC.later QN.out ((Below.refl _ _).drew)) (by omega) (by omega)) ?_)
                rintro e m1 ⟨v1, rfl, hz1, g1⟩
                have h1 : Below V5.heap.size V5 m1 := Below.trans ((Below.refl _ _).drew : Below V5.heap.size V5 _) (g1.mono (Below.size ((Below.refl _ _).drew : Below V5.heap.size V5 _)))
                refine ⟨_, rfl, hS _ h1, ?_⟩
                (try (simp only [Act.put, List.setIfInBounds_toArray, List.set_cons_zero, List.set_cons_succ]))
                refine wpAnyH_ready (rs := [4]) (by kernel_rfl) (by simp) ?_
                refine consH _ rfl ?_ AllReadyH.nil
                refine hopCd 59 rfl (by kernel_rfl) rfl (by kernel_rfl) (Calls.mono (plusC_any _ _ (E + E) 2112 (dsum 2 U F k) (min (z3 * zp) (z3 * zq)) _ (NumC.later LN.out h1) (NumC.mono hz1 (by omega)) (by omega) (by omega)) ?_)
                rintro e m2 ⟨v2, rfl, hz2, g2⟩
                have h2 : Below V5.heap.size V5 m2 := h1.trans (g2.mono h1.size)
                obtain ⟨vn, vm, ve, ⟨vo, vl, vc, vx, rfl, -⟩, -⟩ := id hz2
                refine ⟨_, rfl, hS _ h2, ?_⟩
                (try (simp only [Act.put, List.setIfInBounds_toArray, List.set_cons_zero, List.set_cons_succ]))
                refine wpAnyH_ready (rs := [5]) (by kernel_rfl) (by simp) ?_
                refine consH _ rfl ?_ AllReadyH.nil
                refine op_of_list rfl (wpList_store_at rfl 44 _ _ rfl w w.heap.size (w.heap.size + 1) 0 (.agg #[.bool vn, .slice vo vl vc, .int .i64 ve]) #[Value.bool cn, Value.slice co cl cc, Value.int .i64 ce] #[Value.bool vn, Value.slice vo vl vc, Value.int .i64 ve] 44 (by kernel_rfl) (by kernel_rfl) (keep0 LH.out h2) (C5.out.trans (h2.mono C5.out.size)) (by omega) 3 Tryz.infoNum3 (by rfl) (Nat.le_of_ble_eq_true rfl) (one_num _ _ _ _ _) (by rfl) ?_)
                intro W9 h9 b9 s9 t9
                refine put_nn rfl ?_
                have NB : NumB m2 (w.heap.size + 1) := ⟨_, _, _, _, _, keep0 LH.out h2⟩
                refine And.intro ⟨(t9 _ (by omega)).trans (keep0 PH.out h2), (t9 _ (by omega)).trans (keep0 QH.out h2)⟩ ?_
                refine wpAnyH_done (by kernel_rfl) ?_ _
                refine NoPanic.normal ?_
                (try (simp only [Act.put, List.setIfInBounds_toArray, List.set_cons_zero, List.set_cons_succ]))
                go_wp2_with fail
                go_meet
                have hsum : NumC W9 (.agg #[.bool vn, .slice vo vl vc, .int .i64 ve]) (E + E) 2112 (dsum 2 U F (k + 1)) := sum_step (NumC.keep NB t9 hz2) (by rw [HU.out, HSP.out, HT.out.1, HT.out.2.1, HT.out.2.2]; rfl) HF'.out (by omega) (by omega)
                exact ⟨(t9 _ (by omega)).trans (keep0 R5.out h2), b9, ⟨_, _, _, _, _, h9, hsum⟩, BoxC.keep (BoxC.later H5.out h2) NB t9 (by omega), BoxC.keep (BoxC.later P5.out h2) NB t9 (by omega), BoxC.keep (BoxC.later Q5.out h2) NB t9 (by omega)⟩
              · refine hopCd 58 rfl (by kernel_rfl) rfl (by kernel_rfl) (Calls.mono (leastC_any _ _ (E + E) 2048 (z3 * zp) (z3 * zq) _ (NumC.later PN.out ((Below.refl _ _).drew)) (NumC.later QN.out ((Below.refl _ _).drew)) (by omega) (by omega)) ?_)
                rintro e m1 ⟨v1, rfl, hz1, g1⟩
                have h1 : Below V5.heap.size V5 m1 := Below.trans ((Below.refl _ _).drew : Below V5.heap.size V5 _) (g1.mono (Below.size ((Below.refl _ _).drew : Below V5.heap.size V5 _)))
                refine ⟨_, rfl, hS _ h1, ?_⟩
                (try (simp only [Act.put, List.setIfInBounds_toArray, List.set_cons_zero, List.set_cons_succ]))
                refine wpAnyH_ready (rs := [0]) (by kernel_rfl) (by simp) ?_
                refine consH _ rfl ?_ AllReadyH.nil
                refine hopVd 55 rfl rfl rfl (ex_load3 _ _ rfl (w.heap.size + 1) (by kernel_rfl) _ cn co cl cc ce (cells3 (keep0 LH.out (h1)))) ?_
                refine ⟨hS _ (h1), ?_⟩
                (try (simp only [Act.put, List.setIfInBounds_toArray, List.set_cons_zero, List.set_cons_succ]))
                refine wpAnyH_ready (rs := [4]) (by kernel_rfl) (by simp) ?_
                refine consH _ rfl ?_ AllReadyH.nil
                refine hopCd 59 rfl (by kernel_rfl) rfl (by kernel_rfl) (Calls.mono (plusC_any _ _ (E + E) 2112 (dsum 2 U F k) (min (z3 * zp) (z3 * zq)) _ (NumC.later LN.out h1) (NumC.mono hz1 (by omega)) (by omega) (by omega)) ?_)
                rintro e m2 ⟨v2, rfl, hz2, g2⟩
                have h2 : Below V5.heap.size V5 m2 := h1.trans (g2.mono h1.size)
                obtain ⟨vn, vm, ve, ⟨vo, vl, vc, vx, rfl, -⟩, -⟩ := id hz2
                refine ⟨_, rfl, hS _ h2, ?_⟩
                (try (simp only [Act.put, List.setIfInBounds_toArray, List.set_cons_zero, List.set_cons_succ]))
                refine wpAnyH_ready (rs := [5]) (by kernel_rfl) (by simp) ?_
                refine consH _ rfl ?_ AllReadyH.nil
                refine op_of_list rfl (wpList_store_at rfl 44 _ _ rfl w w.heap.size (w.heap.size + 1) 0 (.agg #[.bool vn, .slice vo vl vc, .int .i64 ve]) #[Value.bool cn, Value.slice co cl cc, Value.int .i64 ce] #[Value.bool vn, Value.slice vo vl vc, Value.int .i64 ve] 44 (by kernel_rfl) (by kernel_rfl) (keep0 LH.out h2) (C5.out.trans (h2.mono C5.out.size)) (by omega) 3 Tryz.infoNum3 (by rfl) (Nat.le_of_ble_eq_true rfl) (one_num _ _ _ _ _) (by rfl) ?_)
                intro W9 h9 b9 s9 t9
                refine put_nn rfl ?_
                have NB : NumB m2 (w.heap.size + 1) := ⟨_, _, _, _, _, keep0 LH.out h2⟩
                refine And.intro ⟨(t9 _ (by omega)).trans (keep0 PH.out h2), (t9 _ (by omega)).trans (keep0 QH.out h2)⟩ ?_
                refine wpAnyH_done (by kernel_rfl) ?_ _
                refine NoPanic.normal ?_
                (try (simp only [Act.put, List.setIfInBounds_toArray, List.set_cons_zero, List.set_cons_succ]))
                go_wp2_with fail
                go_meet
                have hsum : NumC W9 (.agg #[.bool vn, .slice vo vl vc, .int .i64 ve]) (E + E) 2112 (dsum 2 U F (k + 1)) := sum_step (NumC.keep NB t9 hz2) (by rw [HU.out, HSP.out, HT.out.1, HT.out.2.1, HT.out.2.2]; rfl) HF'.out (by omega) (by omega)
                exact ⟨(t9 _ (by omega)).trans (keep0 R5.out h2), b9, ⟨_, _, _, _, _, h9, hsum⟩, BoxC.keep (BoxC.later H5.out h2) NB t9 (by omega), BoxC.keep (BoxC.later P5.out h2) NB t9 (by omega), BoxC.keep (BoxC.later Q5.out h2) NB t9 (by omega)⟩
            case rest =>
            obtain ⟨R6, C6, L6, H6, P6, Q6⟩ := hcut
            clear hS PH QH LH PN QN LN R5 C5 L5 H5 P5 Q5
            obtain ⟨V6, hV6⟩ : ∃ V6, V6 = wc := ⟨_, rfl⟩
            rw [← hV6] at R6 C6 L6 H6 P6 Q6 ⊢
            clear hV6
            go_upto_region 14 with fail
            obtain ⟨an, ao, al, ac, ae, ph, pn⟩ := P6.out
            obtain ⟨bn, bo, bl, bc, be, qh, qn⟩ := Q6.out
            obtain ⟨cn, co, cl, cc, ce, lh, ln⟩ := H6.out
            have PH : Hid _ := ph
            have QH : Hid _ := qh
            have LH : Hid _ := lh
            have PN : Hid (NumC V6 _ (E + E) 2048 (z3 * zp)) := pn
            have QN : Hid (NumC V6 _ (E + E) 2048 (z3 * zq)) := qn
            have LN : Hid (NumC V6 _ (E + E) 2112 (dsum 1 U F k)) := ln
            clear ph qh lh pn qn ln
            have hS : ∀ W, Below V6.heap.size V6 W → (W.heap[w5.heap.size]? = some (Obj.cells #[Value.bool an, Value.slice ao al ac, Value.int .i64 ae] 44) ∧ W.heap[w5.heap.size + 1]? = some (Obj.cells #[Value.bool bn, Value.slice bo bl bc, Value.int .i64 be] 44)) := fun W h => ⟨keep0 PH.out h, keep0 QH.out h⟩
            (try (simp only [Act.put, List.setIfInBounds_toArray, List.set_cons_zero, List.set_cons_succ]))
            refine wp_region_noPanic ?_
            refine wp_region_held_drew (S := fun W => W.heap[w5.heap.size]? = some (Obj.cells #[Value.bool an, Value.slice ao al ac, Value.int .i64 ae] 44) ∧ W.heap[w5.heap.size + 1]? = some (Obj.cells #[Value.bool bn, Value.slice bo bl bc, Value.int .i64 be] 44)) (by kernel_rfl) (hS _ (Below.refl _ _).drew) (fun _ => ?_)
            refine takeH 61 (i := 1) (v := (.agg #[.bool an, .slice ao al ac, .int .i64 ae])) rfl rfl (by kernel_rfl) (by kernel_rfl) (by kernel_rfl) (fun _ _ _ h => h) (Or.inl ⟨(by kernel_rfl), fun w' hq => ex_load3 _ _ rfl (w5.heap.size) (by kernel_rfl) w' an ao al ac ae (cells3 hq.1)⟩) (hS _ (Below.refl _ _).drew) ?_
            refine takeH 62 (i := 2) (v := (.agg #[.bool bn, .slice bo bl bc, .int .i64 be])) rfl rfl (by kernel_rfl) (by kernel_rfl) (by kernel_rfl) (fun _ _ _ h => h) (Or.inl ⟨(by kernel_rfl), fun w' hq => ex_load3 _ _ rfl (w5.heap.size + 1) (by kernel_rfl) w' bn bo bl bc be (cells3 hq.2)⟩) (hS _ (Below.refl _ _).drew) ?_
            (try (simp only [Act.put, List.setIfInBounds_toArray, List.set_cons_zero, List.set_cons_succ]))
            refine wpAnyH_ready (rs := [0, 3]) (by kernel_rfl) (by simp) ?_
            refine consH _ rfl ?_ (consH _ rfl ?_ AllReadyH.nil)
            · refine hopVd 60 rfl rfl rfl (ex_load3 _ _ rfl (w.heap.size + 1 + 1) (by kernel_rfl) _ cn co cl cc ce (cells3 (keep0 LH.out ((Below.refl _ _).drew)))) ?_
              refine ⟨hS _ ((Below.refl _ _).drew), ?_⟩
              (try (simp only [Act.put, List.setIfInBounds_toArray, List.set_cons_zero, List.set_cons_succ]))
              refine wpAnyH_ready (rs := [3]) (by kernel_rfl) (by simp) ?_
              refine consH _ rfl ?_ AllReadyH.nil
              refine hopCd 63 rfl (by kernel_rfl) rfl (by kernel_rfl) (Calls.mono (mostC_any _ _ (E + E) 2048 (z3 * zp) (z3 * zq) _ (NumC.later PN.out ((Below.refl _ _).drew)) (NumC.later QN.out ((Below.refl _ _).drew)) (by omega) (by omega)) ?_)
              rintro e m1 ⟨v1, rfl, hz1, g1⟩
              have h1 : Below V6.heap.size V6 m1 := Below.trans ((Below.refl _ _).drew : Below V6.heap.size V6 _) (g1.mono (Below.size ((Below.refl _ _).drew : Below V6.heap.size V6 _)))
              refine ⟨_, rfl, hS _ h1, ?_⟩
              (try (simp only [Act.put, List.setIfInBounds_toArray, List.set_cons_zero, List.set_cons_succ]))
              refine wpAnyH_ready (rs := [4]) (by kernel_rfl) (by simp) ?_
              refine consH _ rfl ?_ AllReadyH.nil
              refine hopCd 64 rfl (by kernel_rfl) rfl (by kernel_rfl) (Calls.mono (plusC_any _ _ (E + E) 2112 (dsum 1 U F k) (max (z3 * zp) (z3 * zq)) _ (NumC.later LN.out h1) (NumC.mono hz1 (by omega)) (by omega) (by omega)) ?_)
              rintro e m2 ⟨v2, rfl, hz2, g2⟩
              have h2 : Below V6.heap.size V6 m2 := h1.trans (g2.mono h1.size)
              obtain ⟨vn, vm, ve, ⟨vo, vl, vc, vx, rfl, -⟩, -⟩ := id hz2
              refine ⟨_, rfl, hS _ h2, ?_⟩
              (try (simp only [Act.put, List.setIfInBounds_toArray, List.set_cons_zero, List.set_cons_succ]))
              refine wpAnyH_ready (rs := [5]) (by kernel_rfl) (by simp) ?_
              refine consH _ rfl ?_ AllReadyH.nil
              refine op_of_list rfl (wpList_store_at rfl 44 _ _ rfl w w.heap.size (w.heap.size + 1 + 1) 0 (.agg #[.bool vn, .slice vo vl vc, .int .i64 ve]) #[Value.bool cn, Value.slice co cl cc, Value.int .i64 ce] #[Value.bool vn, Value.slice vo vl vc, Value.int .i64 ve] 44 (by kernel_rfl) (by kernel_rfl) (keep0 LH.out h2) (C6.out.trans (h2.mono C6.out.size)) (by omega) 3 Tryz.infoNum3 (by rfl) (Nat.le_of_ble_eq_true rfl) (one_num _ _ _ _ _) (by rfl) ?_)
              intro W9 h9 b9 s9 t9
              refine put_nn rfl ?_
              have NB : NumB m2 (w.heap.size + 1 + 1) := ⟨_, _, _, _, _, keep0 LH.out h2⟩
              refine And.intro ⟨(t9 _ (by omega)).trans (keep0 PH.out h2), (t9 _ (by omega)).trans (keep0 QH.out h2)⟩ ?_
              refine wpAnyH_done (by kernel_rfl) ?_ _
              refine NoPanic.normal ?_
              (try (simp only [Act.put, List.setIfInBounds_toArray, List.set_cons_zero, List.set_cons_succ]))
              go_wp2_with fail
              go_roundg g
              case measure => omega
              case rel =>
                have hsum : NumC W9 (.agg #[.bool vn, .slice vo vl vc, .int .i64 ve]) (E + E) 2112 (dsum 1 U F (k + 1)) := sum_step (NumC.keep NB t9 hz2) (by rw [HU.out, HSP.out, HT.out.1, HT.out.2.1, HT.out.2.2]; rfl) HF'.out (by omega) (by omega)
                exact ⟨k + 1, by omega, by go_num, (t9 _ (by omega)).trans (keep0 R6.out h2), b9, BoxC.keep (BoxC.later L6.out h2) NB t9 (by omega), ⟨_, _, _, _, _, h9, hsum⟩, HF'⟩
            · refine hopCd 63 rfl (by kernel_rfl) rfl (by kernel_rfl) (Calls.mono (mostC_any _ _ (E + E) 2048 (z3 * zp) (z3 * zq) _ (NumC.later PN.out ((Below.refl _ _).drew)) (NumC.later QN.out ((Below.refl _ _).drew)) (by omega) (by omega)) ?_)
              rintro e m1 ⟨v1, rfl, hz1, g1⟩
              have h1 : Below V6.heap.size V6 m1 := Below.trans ((Below.refl _ _).drew : Below V6.heap.size V6 _) (g1.mono (Below.size ((Below.refl _ _).drew : Below V6.heap.size V6 _)))
              refine ⟨_, rfl, hS _ h1, ?_⟩
              (try (simp only [Act.put, List.setIfInBounds_toArray, List.set_cons_zero, List.set_cons_succ]))
              refine wpAnyH_ready (rs := [0]) (by kernel_rfl) (by simp) ?_
              refine consH _ rfl ?_ AllReadyH.nil
              refine hopVd 60 rfl rfl rfl (ex_load3 _ _ rfl (w.heap.size + 1 + 1) (by kernel_rfl) _ cn co cl cc ce (cells3 (keep0 LH.out (h1)))) ?_
              refine ⟨hS _ (h1), ?_⟩
              (try (simp only [Act.put, List.setIfInBounds_toArray, List.set_cons_zero, List.set_cons_succ]))
              refine wpAnyH_ready (rs := [4]) (by kernel_rfl) (by simp) ?_
              refine consH _ rfl ?_ AllReadyH.nil
              refine hopCd 64 rfl (by kernel_rfl) rfl (by kernel_rfl) (Calls.mono (plusC_any _ _ (E + E) 2112 (dsum 1 U F k) (max (z3 * zp) (z3 * zq)) _ (NumC.later LN.out h1) (NumC.mono hz1 (by omega)) (by omega) (by omega)) ?_)
              rintro e m2 ⟨v2, rfl, hz2, g2⟩
              have h2 : Below V6.heap.size V6 m2 := h1.trans (g2.mono h1.size)
              obtain ⟨vn, vm, ve, ⟨vo, vl, vc, vx, rfl, -⟩, -⟩ := id hz2
              refine ⟨_, rfl, hS _ h2, ?_⟩
              (try (simp only [Act.put, List.setIfInBounds_toArray, List.set_cons_zero, List.set_cons_succ]))
              refine wpAnyH_ready (rs := [5]) (by kernel_rfl) (by simp) ?_
              refine consH _ rfl ?_ AllReadyH.nil
              refine op_of_list rfl (wpList_store_at rfl 44 _ _ rfl w w.heap.size (w.heap.size + 1 + 1) 0 (.agg #[.bool vn, .slice vo vl vc, .int .i64 ve]) #[Value.bool cn, Value.slice co cl cc, Value.int .i64 ce] #[Value.bool vn, Value.slice vo vl vc, Value.int .i64 ve] 44 (by kernel_rfl) (by kernel_rfl) (keep0 LH.out h2) (C6.out.trans (h2.mono C6.out.size)) (by omega) 3 Tryz.infoNum3 (by rfl) (Nat.le_of_ble_eq_true rfl) (one_num _ _ _ _ _) (by rfl) ?_)
              intro W9 h9 b9 s9 t9
              refine put_nn rfl ?_
              have NB : NumB m2 (w.heap.size + 1 + 1) := ⟨_, _, _, _, _, keep0 LH.out h2⟩
              refine And.intro ⟨(t9 _ (by omega)).trans (keep0 PH.out h2), (t9 _ (by omega)).trans (keep0 QH.out h2)⟩ ?_
              refine wpAnyH_done (by kernel_rfl) ?_ _
              refine NoPanic.normal ?_
              (try (simp only [Act.put, List.setIfInBounds_toArray, List.set_cons_zero, List.set_cons_succ]))
              go_wp2_with fail
              go_roundg g
              case measure => omega
              case rel =>
                have hsum : NumC W9 (.agg #[.bool vn, .slice vo vl vc, .int .i64 ve]) (E + E) 2112 (dsum 1 U F (k + 1)) := sum_step (NumC.keep NB t9 hz2) (by rw [HU.out, HSP.out, HT.out.1, HT.out.2.1, HT.out.2.2]; rfl) HF'.out (by omega) (by omega)
                exact ⟨k + 1, by omega, by go_num, (t9 _ (by omega)).trans (keep0 R6.out h2), b9, BoxC.keep (BoxC.later L6.out h2) NB t9 (by omega), ⟨_, _, _, _, _, h9, hsum⟩, HF'⟩
          · have hd3 : decide (Fin u) = true := decide_eq_true hfu
            have hd4 : decide (Good slo shi sbd) = false := decide_eq_false hgd
            have HW : Hid (DotR U F n n E (0, 0, true)) := by
              unfold Hid DotR
              rw [if_neg]
              intro c
              have := c.2.1 k hlt
              rw [HSP.out] at this
              exact hgd this
            rw [hd3, hd4]
            go_wp2_with (first
              | (go_at_call 12; refine (refBad_any _).mono ?_; rintro e w4 ⟨rfl, bw⟩; have R4 : Hid _ := keep0 R3.out bw; have C4 : Hid (Below w.heap.size w w4) := C3.out.trans (bw.mono C3.out.size); clear bw)
              | (refine wpList_store_at (by rfl) 30 _ _ (by rfl) w w.heap.size w.heap.size 0 (.agg #[.int .u64 0, .int .u64 0, .bool true]) _ #[Value.int .u64 0, .int .u64 0, .bool true] 30 (by rfl) (by rfl) R4.out C4.out (Nat.le_refl _) 3 Tryz.infoSpU (by rfl) (Nat.le_of_ble_eq_true rfl) (by exact one_spu _ _ _) (by rfl) ?_; intro W9 h9 b9 s9 t9))
            refine bodyPost_ret (v := .agg #[.int .u64 ((0 : Nat) : Int), .int .u64 ((0 : Nat) : Int), .bool true]) (res_su _ 4 (by kernel_rfl) _ _ w.heap.size _ _ _ (by rfl) h9) rfl ⟨(0, 0, true), rfl, HW.out, b9⟩
        · have hd3 : decide (Fin u) = false := decide_eq_false hfu
          have HW : Hid (DotR U F n n E (0, 0, true)) := by
            unfold Hid DotR
            rw [if_neg]
            intro c
            have := c.2.2 k hlt
            rw [HU.out] at this
            exact hfu this
          rw [hd3]
          go_wp2_with (first
            | (go_at_call 12; refine (refBad_any _).mono ?_; rintro e w4 ⟨rfl, bw⟩; have R4 : Hid _ := keep0 R3.out bw; have C4 : Hid (Below w.heap.size w w4) := C3.out.trans (bw.mono C3.out.size); clear bw)
            | (refine wpList_store_at (by rfl) 30 _ _ (by rfl) w w.heap.size w.heap.size 0 (.agg #[.int .u64 0, .int .u64 0, .bool true]) _ #[Value.int .u64 0, .int .u64 0, .bool true] 30 (by rfl) (by rfl) R4.out C4.out (Nat.le_refl _) 3 Tryz.infoSpU (by rfl) (Nat.le_of_ble_eq_true rfl) (by exact one_spu _ _ _) (by rfl) ?_; intro W9 h9 b9 s9 t9))
          refine bodyPost_ret (v := .agg #[.int .u64 ((0 : Nat) : Int), .int .u64 ((0 : Nat) : Int), .bool true]) (res_su _ 4 (by kernel_rfl) _ _ w.heap.size _ _ _ (by rfl) h9) rfl ⟨(0, 0, true), rfl, HW.out, b9⟩
      · have hd : decide ((k : Int) < (n : Int)) = false := decide_eq_false (by omega)
        have hkn : Hid (k = n) := (by omega : k = n)
        have L9 : Hid (BoxC wr (w.heap.size + 1) (E + E) 2112 (dsum 2 U F n)) := by rw [← hkn.out]; exact L1
        have H9 : Hid (BoxC wr (w.heap.size + 1 + 1) (E + E) 2112 (dsum 1 U F n)) := by rw [← hkn.out]; exact H1
        have HD : Hid (AllGood F n ∧ ∀ j, j < n → Fin (U j)) := by rw [← hkn.out]; exact ⟨fun j hj => (HF.out j hj).2, fun j hj => (HF.out j hj).1⟩
        obtain ⟨an, ao, al, ac, ae, ph, pn⟩ := L9.out
        obtain ⟨bn, bo, bl, bc, be, qh, qn⟩ := H9.out
        obtain ⟨x0, x1, x2⟩ := cells3 ph
        obtain ⟨y0, y1, y2⟩ := cells3 qh
        have PN : Hid (NumC wr _ (E + E) 2112 (dsum 2 U F n)) := pn
        have QN : Hid (NumC wr _ (E + E) 2112 (dsum 1 U F n)) := qn
        clear ph qh pn qn L1 H1 L9 H9 HF
        go_wp2_with (first
          | (go_at_call 19; refine (refOf_any _ _ (E + E) E 2112 2112 (dsum 2 U F n) (dsum 1 U F n) _ PN.out.toZ QN.out.toZ E hE rfl (by omega) (by omega) (by omega)).mono ?_; rintro e w4 ⟨r, rfl, hr, bw⟩; have R4 : Hid _ := keep0 R1.out bw; have C4 : Hid (Below w.heap.size w w4) := C1.out.trans (bw.mono C1.out.size); have HRR : Hid _ := hr; clear bw hr)
          | (refine wpList_store_at (by rfl) 30 _ _ (by rfl) w w.heap.size w.heap.size 0 (.agg #[.int .u64 (r.1 : Int), .int .u64 (r.2.1 : Int), .bool r.2.2]) _ #[Value.int .u64 (r.1 : Int), .int .u64 (r.2.1 : Int), .bool r.2.2] 30 (by rfl) (by rfl) R4.out C4.out (Nat.le_refl _) 3 Tryz.infoSpU (by rfl) (Nat.le_of_ble_eq_true rfl) (by exact one_spu _ _ _) (by rfl) ?_; intro W9 h9 b9 s9 t9))
        have HW : DotR U F n n E r := by unfold DotR; rw [if_pos ⟨rfl, HD.out.1, HD.out.2⟩]; exact HRR.out
        refine bodyPost_ret (v := .agg #[.int .u64 (r.1 : Int), .int .u64 (r.2.1 : Int), .bool r.2.2]) (res_su _ 4 (by kernel_rfl) _ _ w.heap.size _ _ _ (by rfl) h9) rfl ⟨r, rfl, HW, b9⟩
  · have hne : ((n : Int) != (m : Int)) = true := by simp; omega
    have R0 : Hid _ := heap_alloc_new w (Obj.cells #[Value.int .u64 0, .int .u64 0, .bool false] 30)
    have C0 : Hid (Below w.heap.size w _) := (Below.refl _ w).alloc (Nat.le_refl _) (Obj.cells #[Value.int .u64 0, .int .u64 0, .bool false] 30)
    have HW : Hid (DotR U F n m E (0, 0, true)) := by unfold Hid DotR; rw [if_neg (fun c => hnm c.1)]
    clear hnm
    go_upto_region 1 with fail
    generalize w.alloc (Obj.cells #[Value.int .u64 0, .int .u64 0, .bool false] 30) = W0 at R0 C0 ⊢
    go_wp2_with (first
      | (go_at_call 12; refine (refBad_any _).mono ?_; rintro e w4 ⟨rfl, bw⟩; have R4 : Hid _ := keep0 R0.out bw; have C4 : Hid (Below w.heap.size w w4) := C0.out.trans (bw.mono C0.out.size); clear bw)
      | (refine wpList_store_at (by rfl) 30 _ _ (by rfl) w w.heap.size w.heap.size 0 (.agg #[.int .u64 0, .int .u64 0, .bool true]) _ #[Value.int .u64 0, .int .u64 0, .bool true] 30 (by rfl) (by rfl) R4.out C4.out (Nat.le_refl _) 3 Tryz.infoSpU (by rfl) (Nat.le_of_ble_eq_true rfl) (by exact one_spu _ _ _) (by rfl) ?_; intro W9 h9 b9 s9 t9))
    refine bodyPost_ret (v := .agg #[.int .u64 ((0 : Nat) : Int), .int .u64 ((0 : Nat) : Int), .bool true]) (res_su _ 4 (by kernel_rfl) _ _ w.heap.size _ _ _ (by rfl) h9) rfl ⟨(0, 0, true), rfl, HW.out, b9⟩
end Go.Proofs.YtbncdcenckagcaaGreat
