import Derived.Test.YthmhgpadinecfaaGreatTEi
import Derived.Test.YthmhgpadinecfaaGreatTEh
set_option maxRecDepth 100000
set_option maxHeartbeats 4000000
set_option linter.unusedVariables false
set_option linter.unusedSimpArgs false
namespace Go.Proofs.YthmhgpadinecfaaGreat
open Go.RowKit Go.Shelf
theorem standsL_any (N : Int) (bad : Bool) (cs rs : List Nat) (ids : List Int) (gs : List (List Nat)) (vc vr vi vg : Value) (gl : List Value) (base : Nat) (w : World) (h : XL w base cs rs ids gs vc vr vi vg gl) (uco uio ugo uro : Option Addr) (ucc udc ugc urc : Nat) (ugv : Nat -> Option Addr × Nat × Nat)
  (HUC : Hid (∀ W, Below w.heap.size w W -> RdUs W uco cs.length ucc cs)) (HUI : Hid (∀ W, Below w.heap.size w W -> RdIs W uio ids.length udc ids)) (HUG : Hid (∀ W, Below w.heap.size w W -> RdGu W ugo gl.length ugc ugv gs)) (HUR : Hid (∀ W, Below w.heap.size w W -> RdUs W uro rs.length urc rs)) :
  Calls Tryz.prog 17 #[.agg #[.int .i64 N, vc, vi, vg, vr, .bool bad], .agg #[.int .i64 N, .slice uco cs.length ucc, .slice uio ids.length udc, .slice ugo gl.length ugc, .slice uro rs.length urc, .bool bad]] w fun e w' => e = .returned (.bool true) /\ Below w.heap.size w w' := by
 have X0 : Below w.heap.size w ((w.alloc (.cells #[.int .i64 N, vc, vi, vg, vr, .bool bad] 26)).alloc (.cells #[.int .i64 N, .slice uco cs.length ucc, .slice uio ids.length udc, .slice ugo gl.length ugc, .slice uro rs.length urc, .bool bad] 32)) := ((Below.refl _ w).alloc (Nat.le_refl _) _).alloc (by simp only [alloc_size]; omega) _
 have Y0 : ((w.alloc (.cells #[.int .i64 N, vc, vi, vg, vr, .bool bad] 26)).alloc (.cells #[.int .i64 N, .slice uco cs.length ucc, .slice uio ids.length udc, .slice ugo gl.length ugc, .slice uro rs.length urc, .bool bad] 32)).heap[w.heap.size]? = some (.cells #[.int .i64 N, vc, vi, vg, vr, .bool bad] 26) := alloc_kept (heap_alloc_new w _) _
 have Y1 : ((w.alloc (.cells #[.int .i64 N, vc, vi, vg, vr, .bool bad] 26)).alloc (.cells #[.int .i64 N, .slice uco cs.length ucc, .slice uio ids.length udc, .slice ugo gl.length ugc, .slice uro rs.length urc, .bool bad] 32)).heap[w.heap.size + 1]? = some (.cells #[.int .i64 N, .slice uco cs.length ucc, .slice uio ids.length udc, .slice ugo gl.length ugc, .slice uro rs.length urc, .bool bad] 32) := heap_at _ _ _ (by simp only [alloc_size])
 go_enter Tryz.func17, Tryz.ntmps17
 go_upto_region 1 with fail
 obtain ⟨X, hX⟩ : ∃ X, ((w.alloc (.cells #[.int .i64 N, vc, vi, vg, vr, .bool bad] 26)).alloc (.cells #[.int .i64 N, .slice uco cs.length ucc, .slice uio ids.length udc, .slice ugo gl.length ugc, .slice uro rs.length urc, .bool bad] 32)) = X := ⟨_, rfl⟩
 rw [hX] at X0 Y0 Y1 ⊢
 have T0 : Hid (Below w.heap.size w X /\ XL X base cs rs ids gs vc vr vi vg gl /\ X.heap[w.heap.size]? = some (.cells #[.int .i64 N, vc, vi, vg, vr, .bool bad] 26) /\ X.heap[w.heap.size + 1]? = some (.cells #[.int .i64 N, .slice uco cs.length ucc, .slice uio ids.length udc, .slice ugo gl.length ugc, .slice uro rs.length urc, .bool bad] 32)) := ⟨X0, h.later X0, Y0, Y1⟩
 clear hX X0 Y0 Y1 h
 obtain ⟨ib, idc, icur, hvi, i2, i3, i4, i5, i6, i7⟩ := T0.out.2.1.i
 obtain ⟨gb, gc, gcur, gm, hvg, g2, g3, g4, g5, g6, g7⟩ := T0.out.2.1.g
 subst hvi
 subst hvg
 have hmi := Nat.le_trans i5 maxLen_le
 have hmg := Nat.le_trans g5 maxLen_le
 have hif := T0.out.2.1.few.1
 have hgf : gl.length <= 400 := by rw [T0.out.2.1.len]; exact T0.out.2.1.few.2
 have HIM : Hid (X.heap[ib]? = some (.cells icur 3) /\ icur[ids.length]? = some (.int .i64 (-31))) := ⟨i3, i7⟩
 have HGM : Hid (X.heap[gb]? = some (.cells gcur 22) /\ (∀ j, j < gl.length -> gcur[j]? = gl[j]?) /\ gcur[gl.length]? = some (.slice (some ⟨gm, 0, none⟩) 1 1)) := ⟨g3, g6, g7⟩
 have HIR : Hid (∀ W, Below X.heap.size X W -> RdIs W (some ⟨ib, 0, none⟩) ids.length idc ids) := fun W hb => ⟨rfl, by simp only [maxLen]; omega, .inr ⟨ib, 0, rfl, fun j hj => by rw [Nat.zero_add, cell_of_row _ ib j _ _ _ (kept hb i3)]; exact i6 j hj⟩⟩
 have hc1 : ∀ w, (Instr.slice 23 (.slice (some ⟨ib, 0, none⟩) ids.length idc) none (some (.int .i64 ((ids.length : Int) + 1))) none).run Tryz.prog w = .ok (.slice (some ⟨ib, 0, none⟩) (ids.length + 1) idc) w := fun w => cutIJ ib ids.length idc (ids.length + 1) (by omega) (by omega) w
 have hc2 : ∀ w, (Instr.slice 24 (.slice (some ⟨gb, 0, none⟩) gl.length gc) none (some (.int .i64 ((gl.length : Int) + 1))) none).run Tryz.prog w = .ok (.slice (some ⟨gb, 0, none⟩) (gl.length + 1) gc) w := fun w => cutGJ gb gl.length gc (gl.length + 1) (by omega) (by omega) w
 have hw1 : wrap64 ((ids.length : Int) + 1) = (ids.length : Int) + 1 := wr64D _ (by omega) (by omega)
 have hw2 : wrap64 ((gl.length : Int) + 1) = (gl.length : Int) + 1 := wr64D _ (by omega) (by omega)
 have e1 : (N != N) = false := by simp
 have e2 : (bad != bad) = false := by cases bad <;> rfl
 have e3 : (!decide (ids = ids)) = false := by simp
 have HMC := T0.out.2.1.c
 have HMR := T0.out.2.1.r
 obtain ⟨vcb, vccap, -, hvc, -⟩ := HMC
 obtain ⟨vrb, vrcap, -, hvr, -⟩ := HMR
 clear i2 i3 i4 i6 i7 g2 g3 g4 g6 g7 i5 g5
 obtain ⟨c0, c1, c2, c3, c4, c5⟩ := cells6 T0.out.2.2.1
 obtain ⟨d0, d1, d2, d3, d4, d5⟩ := cells6 T0.out.2.2.2
 clear hvc hvr
 go_upto_region 3 with (first
  | (go_at_call_of 39 (vc); refine Calls.mono (stand_any base vc cs uco ucc _ T0.out.2.1.c ⟨(HUC.out _ T0.out.1).length, (HUC.out _ T0.out.1).max, (HUC.out _ T0.out.1).cells⟩) ?_; rintro e w1 ⟨rfl, bw1⟩; have T1 : Hid (Below w.heap.size w w1 /\ XL w1 base cs rs ids gs vc vr (.slice (some ⟨ib, 0, none⟩) ids.length idc) (.slice (some ⟨gb, 0, none⟩) gl.length gc) gl /\ w1.heap[w.heap.size]? = some (.cells #[.int .i64 N, vc, (.slice (some ⟨ib, 0, none⟩) ids.length idc), (.slice (some ⟨gb, 0, none⟩) gl.length gc), vr, .bool bad] 26) /\ w1.heap[w.heap.size + 1]? = some (.cells #[.int .i64 N, .slice uco cs.length ucc, .slice uio ids.length udc, .slice ugo gl.length ugc, .slice uro rs.length urc, .bool bad] 32)) := ⟨to_callD T0.out.1 bw1, T0.out.2.1.later bw1, kept bw1 T0.out.2.2.1, kept bw1 T0.out.2.2.2⟩; have Bw1 : Hid (Below X.heap.size X w1) := bw1; clear bw1 c0 c1 c2 c3 c4 c5 d0 d1 d2 d3 d4 d5; obtain ⟨c0, c1, c2, c3, c4, c5⟩ := cells6 T1.out.2.2.1; obtain ⟨d0, d1, d2, d3, d4, d5⟩ := cells6 T1.out.2.2.2)
  | (go_at_call_of 39 (vr); refine Calls.mono (stand_any base vr rs uro urc _ T1.out.2.1.r ⟨(HUR.out _ T1.out.1).length, (HUR.out _ T1.out.1).max, (HUR.out _ T1.out.1).cells⟩) ?_; rintro e w2 ⟨rfl, bw2⟩; have T2 : Hid (Below w.heap.size w w2 /\ XL w2 base cs rs ids gs vc vr (.slice (some ⟨ib, 0, none⟩) ids.length idc) (.slice (some ⟨gb, 0, none⟩) gl.length gc) gl /\ w2.heap[w.heap.size]? = some (.cells #[.int .i64 N, vc, (.slice (some ⟨ib, 0, none⟩) ids.length idc), (.slice (some ⟨gb, 0, none⟩) gl.length gc), vr, .bool bad] 26) /\ w2.heap[w.heap.size + 1]? = some (.cells #[.int .i64 N, .slice uco cs.length ucc, .slice uio ids.length udc, .slice ugo gl.length ugc, .slice uro rs.length urc, .bool bad] 32)) := ⟨to_callD T1.out.1 bw2, T1.out.2.1.later bw2, kept bw2 T1.out.2.2.1, kept bw2 T1.out.2.2.2⟩; have Bw2 : Hid (Below X.heap.size X w2) := to_callD Bw1.out bw2; clear bw2 c0 c1 c2 c3 c4 c5 d0 d1 d2 d3 d4 d5; obtain ⟨c0, c1, c2, c3, c4, c5⟩ := cells6 T2.out.2.2.1; obtain ⟨d0, d1, d2, d3, d4, d5⟩ := cells6 T2.out.2.2.2)
  | (go_at_call 12; refine Calls.mono (sameIntsT_any (some ⟨ib, 0, none⟩) uio ids.length ids.length idc udc ids ids _ (HIR.out _ Bw2.out) (HUI.out _ T2.out.1)) ?_; rintro e w3 ⟨rfl, bw3⟩; have T3 : Hid (Below w.heap.size w w3 /\ XL w3 base cs rs ids gs vc vr (.slice (some ⟨ib, 0, none⟩) ids.length idc) (.slice (some ⟨gb, 0, none⟩) gl.length gc) gl /\ w3.heap[w.heap.size]? = some (.cells #[.int .i64 N, vc, (.slice (some ⟨ib, 0, none⟩) ids.length idc), (.slice (some ⟨gb, 0, none⟩) gl.length gc), vr, .bool bad] 26) /\ w3.heap[w.heap.size + 1]? = some (.cells #[.int .i64 N, .slice uco cs.length ucc, .slice uio ids.length udc, .slice ugo gl.length ugc, .slice uro rs.length urc, .bool bad] 32)) := ⟨to_callD T2.out.1 bw3, T2.out.2.1.later bw3, kept bw3 T2.out.2.2.1, kept bw3 T2.out.2.2.2⟩; have Bw3 : Hid (Below X.heap.size X w3) := to_callD Bw2.out bw3; clear bw3 c0 c1 c2 c3 c4 c5 d0 d1 d2 d3 d4 d5; obtain ⟨c0, c1, c2, c3, c4, c5⟩ := cells6 T3.out.2.2.1; obtain ⟨d0, d1, d2, d3, d4, d5⟩ := cells6 T3.out.2.2.2))
 clear T0 T1 T2 Bw1 Bw2 HUC HUR HUI HIR
 go_quiet (fail)
 have hdr : Below w3.heap.size w3 (w3.drewN nq) := below_drewN (Below.refl _ w3) nq
 have T4 : Hid (Below w.heap.size w (w3.drewN nq) /\ XL (w3.drewN nq) base cs rs ids gs vc vr (.slice (some ⟨ib, 0, none⟩) ids.length idc) (.slice (some ⟨gb, 0, none⟩) gl.length gc) gl /\ (w3.drewN nq).heap[w.heap.size]? = some (.cells #[.int .i64 N, vc, (.slice (some ⟨ib, 0, none⟩) ids.length idc), (.slice (some ⟨gb, 0, none⟩) gl.length gc), vr, .bool bad] 26) /\ (w3.drewN nq).heap[w.heap.size + 1]? = some (.cells #[.int .i64 N, .slice uco cs.length ucc, .slice uio ids.length udc, .slice ugo gl.length ugc, .slice uro rs.length urc, .bool bad] 32)) := ⟨to_callD T3.out.1 hdr, T3.out.2.1.later hdr, kept hdr T3.out.2.2.1, kept hdr T3.out.2.2.2⟩
 have B4 : Hid (Below X.heap.size X (w3.drewN nq)) := to_callD Bw3.out hdr
 obtain ⟨Y, hY⟩ : ∃ Y, w3.drewN nq = Y := ⟨_, rfl⟩
 rw [hY] at T4 B4 ⊢
 clear hY hdr T3 Bw3 c0 c1 c2 c3 c4 c5 d0 d1 d2 d3 d4 d5
 obtain ⟨c0, c1, c2, c3, c4, c5⟩ := cells6 T4.out.2.2.1
 have ci : Y.cell? ⟨ib, ids.length, none⟩ = some (.int .i64 (-31)) := (cell_of_row _ ib _ _ _ _ (kept B4.out HIM.out.1)).trans HIM.out.2
 have cg : Y.cell? ⟨gb, gl.length, none⟩ = some (.slice (some ⟨gm, 0, none⟩) 1 1) := (cell_of_row _ gb _ _ _ _ (kept B4.out HGM.out.1)).trans HGM.out.2.2
 clear c0 c1 c4 c5
 go_upto_region 6 with fail
 have HGC : Hid (∀ W, Below Y.heap.size Y W -> ∀ j, j < gl.length -> W.cell? ⟨gb, j, none⟩ = gl[j]?) := fun W hb j hj => (cell_of_row _ gb _ _ _ _ (kept hb (kept B4.out HGM.out.1))).trans (HGM.out.2.1 j hj)
 clear ci cg c2 c3 hc1 hc2 hw1 hw2 HGM HIM B4 hif
 go_wp2_with fail
 go_loopg [7] gl.length (fun g v7 wx => ∃ i : Nat, v7 = .int .i64 i /\ i + g = gl.length /\ Hid (Below w.heap.size w wx /\ XL wx base cs rs ids gs vc vr (.slice (some ⟨ib, 0, none⟩) ids.length idc) (.slice (some ⟨gb, 0, none⟩) gl.length gc) gl /\ wx.heap[w.heap.size]? = some (.cells #[.int .i64 N, vc, (.slice (some ⟨ib, 0, none⟩) ids.length idc), (.slice (some ⟨gb, 0, none⟩) gl.length gc), vr, .bool bad] 26) /\ wx.heap[w.heap.size + 1]? = some (.cells #[.int .i64 N, .slice uco cs.length ucc, .slice uio ids.length udc, .slice ugo gl.length ugc, .slice uro rs.length urc, .bool bad] 32)) /\ Hid (Below Y.heap.size Y wx))
 case atStart => exact ⟨0, rfl, by omega, T4, Below.refl _ _⟩
 case round =>
  clear T4
  obtain ⟨i, rfl, hi, HT, HB⟩ := hrel
  by_cases hlt : i < gl.length
  ·have hd : decide ((i : Int) < (gl.length : Int)) = true := decide_eq_true (by omega)
   obtain ⟨q, rfl⟩ : ∃ q, gk = q + 1 := ⟨gk - 1, by omega⟩
   have HIG : Hid (i + (q + 1) = gl.length) := hi
   have hlt' : (i : Int) < (gl.length : Int) := by omega
   have hdr : Below wr.heap.size wr wr.drew := (Below.refl _ wr).drew
   have bw := to_callD HT.out.1 hdr
   rcases (HUG.out _ bw).cells with h0 | ⟨ub, uoff, hgo, hcu⟩
   ·omega
   subst hgo
   have hcu1 := hcu i hlt
   have hcg1 := HGC.out _ (to_callD HB.out hdr) i hlt
   rw [List.getElem?_eq_getElem hlt] at hcg1
   obtain ⟨vq, hvq⟩ : ∃ v, gl[i] = v := ⟨_, rfl⟩
   rw [hvq] at hcg1
   have hgq : gl[i]? = some vq := by rw [List.getElem?_eq_getElem hlt, hvq]
   obtain ⟨⟨qa, ql, qc⟩, hqv⟩ : ∃ p, ugv i = p := ⟨_, rfl⟩
   rw [hqv] at hcu1
   dsimp only at hcu1
   have HST : Hid (∀ W, Below w.heap.size w W -> (XL W base cs rs ids gs vc vr (.slice (some ⟨ib, 0, none⟩) ids.length idc) (.slice (some ⟨gb, 0, none⟩) gl.length gc) gl -> Calls Tryz.prog 39 #[vq, .slice qa ql qc] W fun e w' => e = .returned (.bool true) /\ Below W.heap.size W w')) := fun W hb hx => by
    have hru := (HUG.out W hb).each i hlt
    rw [hqv] at hru
    dsimp only at hru
    have hl := hru.length
    rw [<- hl]
    exact stand_any base vq _ qa qc W (hx.col i vq hgq) ⟨rfl, by rw [hl]; exact hru.max, by rw [hl]; exact hru.cells⟩
   have HTD : Hid (Below w.heap.size w wr.drew /\ XL wr.drew base cs rs ids gs vc vr (.slice (some ⟨ib, 0, none⟩) ids.length idc) (.slice (some ⟨gb, 0, none⟩) gl.length gc) gl /\ wr.drew.heap[w.heap.size]? = some (.cells #[.int .i64 N, vc, (.slice (some ⟨ib, 0, none⟩) ids.length idc), (.slice (some ⟨gb, 0, none⟩) gl.length gc), vr, .bool bad] 26) /\ wr.drew.heap[w.heap.size + 1]? = some (.cells #[.int .i64 N, .slice uco cs.length ucc, .slice uio ids.length udc, .slice (some ⟨ub, uoff, none⟩) gl.length ugc, .slice uro rs.length urc, .bool bad] 32)) := ⟨bw, HT.out.2.1.later hdr, kept hdr HT.out.2.2.1, kept hdr HT.out.2.2.2⟩
   have HBD : Hid (Below Y.heap.size Y wr.drew) := to_callD HB.out hdr
   obtain ⟨c0, c1, c2, c3, c4, c5⟩ := cells6 HTD.out.2.2.1
   obtain ⟨d0, d1, d2, d3, d4, d5⟩ := cells6 HTD.out.2.2.2
   have SX : (wr.drew.cell? ⟨w.heap.size, 3, none⟩ = some (.slice (some ⟨gb, 0, none⟩) gl.length gc) /\ wr.drew.cell? ⟨gb, i, none⟩ = some vq /\ wr.drew.cell? ⟨w.heap.size + 1, 3, none⟩ = some (.slice (some ⟨ub, uoff, none⟩) gl.length ugc) /\ wr.drew.cell? ⟨ub, uoff + i, none⟩ = some (.slice qa ql qc)) := ⟨c3, hcg1, d3, hcu1⟩
   clear c0 c1 c2 c3 c4 c5 d0 d1 d2 d3 d4 d5 hcu hcu1 hcg1 hvq hgq hqv hdr bw HT HB hi
   go_upto_region 9 with fail
   refine wp_region_noPanic ?_
   refine wp_region_held_drew (S := fun V => (V.cell? ⟨w.heap.size, 3, none⟩ = some (.slice (some ⟨gb, 0, none⟩) gl.length gc) /\ V.cell? ⟨gb, i, none⟩ = some vq /\ V.cell? ⟨w.heap.size + 1, 3, none⟩ = some (.slice (some ⟨ub, uoff, none⟩) gl.length ugc) /\ V.cell? ⟨ub, uoff + i, none⟩ = some (.slice qa ql qc))) (by kernel_rfl) SX (fun _ => ?_)
   refine tzI 85 0 ?_ ?_ SX ?_
   rotate_left
   ·intro w' hSw; obtain ⟨s1, s2, s3, s4⟩ := hSw; go_simp; try with_reducible rfl
   try simp only [pA,pE,pB,pC,pD]
   refine tzI 86 1 ?_ ?_ SX ?_
   rotate_left
   ·intro w' hSw; obtain ⟨s1, s2, s3, s4⟩ := hSw; go_simp; try with_reducible rfl
   try simp only [pA,pE,pB,pC,pD]
   refine tzI 87 2 ?_ ?_ SX ?_
   rotate_left
   ·intro w' hSw; obtain ⟨s1, s2, s3, s4⟩ := hSw; go_simp; try with_reducible rfl
   try simp only [pA,pE,pB,pC,pD]
   refine tzI 88 3 ?_ ?_ SX ?_
   rotate_left
   ·intro w' hSw; obtain ⟨s1, s2, s3, s4⟩ := hSw; go_simp; try with_reducible rfl
   try simp only [pA,pE,pB,pC,pD]
   refine tzI 89 4 ?_ ?_ SX ?_
   rotate_left
   ·intro w' hSw; obtain ⟨s1, s2, s3, s4⟩ := hSw; go_simp; try with_reducible rfl
   try simp only [pA,pE,pB,pC,pD]
   refine tzI 90 5 ?_ ?_ SX ?_
   rotate_left
   ·intro w' hSw; obtain ⟨s1, s2, s3, s4⟩ := hSw; go_simp; try with_reducible rfl
   try simp only [pA,pE,pB,pC,pD]
   refine tzI 91 6 ?_ ?_ SX ?_
   rotate_left
   ·intro w' hSw; obtain ⟨s1, s2, s3, s4⟩ := hSw; go_simp; try with_reducible rfl
   try simp only [pA,pE,pB,pC,pD]
   refine tzI 92 7 ?_ ?_ SX ?_
   rotate_left
   ·intro w' hSw; obtain ⟨s1, s2, s3, s4⟩ := hSw; go_simp; try with_reducible rfl
   try simp only [pA,pE,pB,pC,pD]
   refine tzI 93 8 ?_ ?_ SX ?_
   rotate_left
   ·intro w' hSw; obtain ⟨s1, s2, s3, s4⟩ := hSw; go_simp; try with_reducible rfl
   try simp only [pA,pE,pB,pC,pD]
   refine tzI 94 9 ?_ ?_ SX ?_
   rotate_left
   ·intro w' hSw; obtain ⟨s1, s2, s3, s4⟩ := hSw; go_simp; try with_reducible rfl
   try simp only [pA,pE,pB,pC,pD]
   refine rzH [10] ?_
   refine consH _ rfl (hzC 95 (Calls.mono (HST.out _ HTD.out.1 HTD.out.2.1) ?_)) AllReadyH.nil
   rintro e V1 ⟨rfl, b1⟩
   have SY : (V1.cell? ⟨w.heap.size, 3, none⟩ = some (.slice (some ⟨gb, 0, none⟩) gl.length gc) /\ V1.cell? ⟨gb, i, none⟩ = some vq /\ V1.cell? ⟨w.heap.size + 1, 3, none⟩ = some (.slice (some ⟨ub, uoff, none⟩) gl.length ugc) /\ V1.cell? ⟨ub, uoff + i, none⟩ = some (.slice qa ql qc)) := ⟨(b1.cell (World.block_lt_of_cell? _ _ SX.1)).trans SX.1, (b1.cell (World.block_lt_of_cell? _ _ SX.2.1)).trans SX.2.1, (b1.cell (World.block_lt_of_cell? _ _ SX.2.2.1)).trans SX.2.2.1, (b1.cell (World.block_lt_of_cell? _ _ SX.2.2.2)).trans SX.2.2.2⟩
   have HT4 : Hid (Below w.heap.size w V1 /\ XL V1 base cs rs ids gs vc vr (.slice (some ⟨ib, 0, none⟩) ids.length idc) (.slice (some ⟨gb, 0, none⟩) gl.length gc) gl /\ V1.heap[w.heap.size]? = some (.cells #[.int .i64 N, vc, (.slice (some ⟨ib, 0, none⟩) ids.length idc), (.slice (some ⟨gb, 0, none⟩) gl.length gc), vr, .bool bad] 26) /\ V1.heap[w.heap.size + 1]? = some (.cells #[.int .i64 N, .slice uco cs.length ucc, .slice uio ids.length udc, .slice (some ⟨ub, uoff, none⟩) gl.length ugc, .slice uro rs.length urc, .bool bad] 32)) := ⟨to_callD HTD.out.1 b1, HTD.out.2.1.later b1, kept b1 HTD.out.2.2.1, kept b1 HTD.out.2.2.2⟩
   have HB4 : Hid (Below Y.heap.size Y V1) := to_callD HBD.out b1
   clear b1 SX
   refine ⟨_, rfl, SY, ?_⟩
   try simp only [pA,pE,pB,pC,pD]
   refine tzI 96 11 ?_ ?_ SY ?_
   rotate_left
   ·intro w' hSw; obtain ⟨s1, s2, s3, s4⟩ := hSw; go_simp; try with_reducible rfl
   try simp only [pA,pE,pB,pC,pD]
   refine wpAnyH_done (by kernel_rfl) ?_ _
   refine NoPanic.normal ?_
   try simp only [pA,pE,pB,pC,pD]
   clear SY
   go_wp2_with fail
   go_roundg q
   case measure => omega
   case rel => exact ⟨i + 1, by go_num, by have := HIG.out; omega, HT4, HB4⟩
  ·have hd : decide ((i : Int) < (gl.length : Int)) = false := decide_eq_false (by omega)
   have hd' : decide (i < gl.length) = false := decide_eq_false hlt
   clear hi
   go_wp2_with fail
   go_ret
   exact ⟨rfl, HT.out.1⟩
end Go.Proofs.YthmhgpadinecfaaGreat
