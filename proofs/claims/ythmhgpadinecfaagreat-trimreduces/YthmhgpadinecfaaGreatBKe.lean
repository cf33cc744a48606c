import Derived.Test.YthmhgpadinecfaaGreatBKd
set_option maxRecDepth 100000
set_option maxHeartbeats 4000000
set_option linter.unusedVariables false
set_option linter.unusedSimpArgs false
namespace Go.Proofs.YthmhgpadinecfaaGreat
open Go.RowKit Go.Shelf
theorem mark_any (n : Nat) (hn : n <= 1050000) : ∃ r, Ieee.double.sub 13879885144346591232 (floatOfInt .f64 (n : Int)) = some r /\ (FloatKind.f64.format.order r r != some Ordering.eq) = false := by
 obtain ⟨k, hk, hki, _⟩ := nearest_small (m := n) (by omega)
 have hf : floatOfInt .f64 (n : Int) = Ieee.double.word false k := by
  rw [<- hk]
  unfold floatOfInt FloatKind.nearest FloatKind.encode
  have h0 : decide ((n : Int) < 0) = false := decide_eq_false (by omega)
  rw [h0, Int.natAbs_natCast]
  rfl
 rw [hf]
 have hK : infK < 9223372036854775808 := by decide
 have hw : Fin (Ieee.double.word false k) := by unfold Fin; rw [(word_rung false (by omega)).1]; exact hki
 obtain ⟨r, hr, g, hR, _⟩ := sub_fin (a := 13879885144346591232) (b := Ieee.double.word false k) (by unfold Fin; decide) hw
 obtain ⟨R, _, hfr, _⟩ := hR.rung
 refine ⟨r, hr, ?_⟩
 have hle : frung r <= infK := by rw [hfr]; exact Nat.min_le_right _ _
 show (Ieee.double.order r r != some Ordering.eq) = false
 rw [order_rung hle hle]
 simp
theorem floats_any (B base : Nat) (Q : Nat -> Prop) (nF nI : Nat) (v : Value) (n : Nat) (xs : List Value) (w : World) (h : BkE w B base Q nF nI) (hv : OwX w base 55 v n xs) (hq : ∀ k, v.ownBlock = some k -> Q k) (hn : n <= 1050000) (hI : nI <= 1050000) (hF : nF <= 1050000) :
  Calls Tryz.prog 38 #[.pointer (some ⟨B, 0, none⟩), v] w fun e w' => (∃ r, e = .returned r) /\ BkE w' B base (fun k => Q k /\ v.ownBlock ≠ some k) (nF + 3) nI /\ Below base w w' /\ ∀ k, Q k -> v.ownBlock ≠ some k -> w'.heap[k]? = w.heap[k]? := by
 obtain ⟨vF, vM, vI, vN, Fs, Ls, ms, ns, hp, rfl, rfl, a3', a4', a5⟩ := h
 obtain ⟨ao, cap, hvv, hmx⟩ := hv.form
 subst hvv
 obtain ⟨la, lc, hvL, hml, -⟩ := owns_slice hp.f
 have HP : Hid _ := hp
 have HV : Hid _ := hv
 have HQ : Hid _ := hq
 have HNN : Hid _ := a5
 have hns3 : ms.length + 3 <= 2000000 := by omega
 have c2 : w.cell? ⟨B, 0, none⟩ = some (.slice la Fs.length lc) := by rw [<- hvL]; obtain ⟨q0, q1, q2, q3⟩ := cells4L hp.bx; exact q0
 have HVL : Hid (vF = .slice la Fs.length lc) := hvL
 clear hp hv hq a5 hvL
 go_enter Tryz.func38, Tryz.ntmps38
 obtain ⟨mk, hsb, hmn⟩ := mark_any Fs.length hF
 have HMN : Hid ((FloatKind.f64.format.order mk mk != some Ordering.eq) = false) := hmn
 have hbin := run_sub hsb
 clear hmn hsb
 go_upto_region 1 with fail
 clear hbin
 clear c2 hml
 go_wp2_with fail
 go_loopg [5] n (fun g v5 wx => ∃ i : Nat, v5 = .int .i64 i /\ i + g = n /\ Hid (FlS base w wx 55 (.slice ao n cap) n i (.float .f64 mk)))
 case atStart => exact ⟨0, rfl, by omega, FlS.none HV.out⟩
 case round =>
  obtain ⟨i, rfl, hi, HJ⟩ := hrel
  by_cases hlt : i < n
  ·have hd : decide ((i : Int) < (n : Int)) = true := decide_eq_true (by omega)
   have hlt' : (i : Int) < (n : Int) := by omega
   obtain ⟨q, rfl⟩ : ∃ q, gk = q + 1 := ⟨gk - 1, by omega⟩
   have HIG : Hid (i + (q + 1) = n) := hi
   obtain ⟨g, cap0, cur, e, hbg, hcu, hsz⟩ := HJ.out.cur hlt
   cases e
   obtain ⟨d, hd0, hds, hdi, hdo⟩ := setP_cells (c := cur) (k := i) (v := (.float .f64 mk)) (by omega) rfl
   have HC : Hid _ := And.intro hcu (And.intro hds (And.intro hdi hdo))
   have HD0 : Hid _ := hd0
   clear hi hcu hds hdi hdo hd0
   go_wp2_with (first
    | (refine wpList_store_at (by rfl) 55 _ _ (by rfl) w base g i (.float .f64 mk) cur d 55 (by rfl) (by rfl) HC.out.1 HJ.out.fx.bel hbg 1 Tryz.szFB rfl hsz (by intro u hu; simp [Value.cells] at hu; subst hu; rfl) HD0.out ?_; intro W3 e3 b3 s3 o3))
   have HJ2 : Hid (FlS base w W3 55 (.slice (some ⟨g, 0, none⟩) n cap) n (i + 1) (.float .f64 mk)) := HJ.out.step hlt HC.out.1 e3 s3 b3 o3 HC.out.2.1 HC.out.2.2.1 HC.out.2.2.2
   clear e3 b3 s3 o3 HC HD0 HJ
   go_roundg q
   case measure => omega
   case rel => exact ⟨i + 1, by go_num, by have := HIG.out; omega, HJ2⟩
  ·have hd : decide ((i : Int) < (n : Int)) = false := decide_eq_false (by omega)
   have hd' : decide (i < n) = false := decide_eq_false hlt
   obtain rfl : n = i := by omega
   have HFU : Hid _ := HJ.out.full
   have HFX : Hid _ := HJ.out.fx
   have hbw : base <= wr.heap.size := Nat.le_trans HP.out.lo.2 HJ.out.fx.bel.size
   have hn1 : n + 1 <= 2000000 := by omega
   clear hi HJ hlt
   go_upto_region 6 with (first
    | (at_builtin; refine append_gx Tryz.underlying22 Tryz.infoFB rfl (by decide) _ (by rfl) _ _ (by rfl) base _ n _ (by rfl) (OwX.alloc HFU.out _) ⟨wr.heap.size, 0, none⟩ 1 1 [(.float .f64 mk)] (by rfl) rfl (by decide) (news_oneJ (heap_alloc_new wr _)) (by intro u hu; simp at hu; subst hu; rfl) hn1 (by rw [alloc_size]; exact Nat.le_succ_of_le hbw) ?_; intro v1 W1 o1 g1x; have MK1 : Hid _ := MkS.first HFX.out hbw HFU.out o1 g1x.alloc; clear g1x o1))
   go_wp2_with fail
   go_loopg [6, 7] 80 (fun g gv iv wx => ∃ k : Nat, k + g = 80 /\ iv = .int .i64 k /\ Hid (MkS w wx base 55 (.slice ao n cap) gv n (n + 1 + k) (.float .f64 mk)))
   case atStart => exact ⟨0, by omega, rfl, MK1⟩
   case round =>
    clear MK1
    obtain ⟨k, hk, rfl, MK⟩ := hrel
    have hbw : base <= wr.heap.size := Nat.le_trans HP.out.lo.2 MK.out.fx.bel.size
    by_cases hlt : k < 80
    ·have hd1 : decide ((k : Int) < 80) = true := decide_eq_true (by omega)
     have hlt' : (k : Int) < 80 := by omega
     obtain ⟨q, rfl⟩ : ∃ q, gk = q + 1 := ⟨gk - 1, by omega⟩
     have HIG : Hid (k + (q + 1) = 80) := hk
     have hn2 : n + 1 + k + 1 <= 2000000 := by omega
     clear hk
     go_wp2_with (first
      | (at_builtin; refine append_gx Tryz.underlying22 Tryz.infoFB rfl (by decide) _ (by rfl) _ _ (by rfl) base _ (n + 1 + k) _ (by rfl) (OwX.alloc (OwX.of MK.out.g) _) ⟨wr.heap.size, 0, none⟩ 1 1 [(.float .f64 mk)] (by rfl) rfl (by decide) (news_oneJ (heap_alloc_new wr _)) (by intro u hu; simp at hu; subst hu; rfl) hn2 (by rw [alloc_size]; exact Nat.le_succ_of_le hbw) ?_; intro v1 W1 o1 g1x; have MK1 : Hid _ := MkS.step MK.out hbw o1 g1x.alloc; clear g1x o1))
     go_roundg q
     case measure => omega
     case rel => exact ⟨k + 1, by have := HIG.out; omega, by go_num, MK1⟩
    ·have hd1 : decide ((k : Int) < 80) = false := decide_eq_false (by omega)
     have hd2 : decide (k < 80) = false := decide_eq_false hlt
     obtain rfl : k = 80 := by omega
     clear hk hlt
     go_upto_region 10 with fail
     obtain ⟨gv, hgv⟩ : ∃ x, u6 = x := ⟨_, rfl⟩
     rw [hgv] at MK ⊢
     clear hgv
     have hdr : Below wr.heap.size wr wr.drew := (Below.refl _ wr).drew
     have MKd : Hid _ := MK.out.later hbw hdr
     have hbd : base <= wr.drew.heap.size := hbw
     have HPd : Hid (BkP wr.drew B base #[vF, vM, vI, vN] vF vM vI vN Fs Ls ms ms ns ns Q) := HP.out.keep MKd.out.fx.bel.size fun k hk hq => MKd.out.fx.blk k hk (fun e => hq (HQ.out k e))
     clear MK hdr
     obtain ⟨ga, gcp, hgv, -⟩ := owns_slice MKd.out.g
     subst hgv
     refine wp_region_noPanic ?_
     refine wp_region_P (fun V => (V.heap[B]? = some (.cells #[vF, vM, vI, vN] 39))) 15 (by kernel_rfl) ?_
     have SS : (wr.drew.heap[B]? = some (.cells #[vF, vM, vI, vN] 39)) := HPd.out.bx
     refine tzQ 37 0 ?_ ?_ (fun _ => SS) ?_
     rotate_left
     ·intro w' hSw; go_simp; try with_reducible rfl
     try simp only [pA,pE,pB,pC,pD]
     refine tzQ 38 1 ?_ ?_ (fun _ => SS) ?_
     rotate_left
     ·intro w' hSw; go_simp; try with_reducible rfl
     try simp only [pA,pE,pB,pC,pD]
     refine tzQ 39 2 ?_ ?_ (fun _ => SS) ?_
     rotate_left
     ·intro w' hSw; go_simp; try with_reducible rfl
     try simp only [pA,pE,pB,pC,pD]
     refine tzQ 40 3 ?_ ?_ (fun _ => SS) ?_
     rotate_left
     ·intro w' hSw; go_simp; try with_reducible rfl
     try simp only [pA,pE,pB,pC,pD]
     refine tzP 41 4 (vF) (Or.inl ⟨by kernel_rfl, fun w' hSw => ex_load1B _ _ _ rfl ⟨B, 0, none⟩ (by kernel_rfl) w' vF (by obtain ⟨q0, q1, q2, q3⟩ := cells4L hSw; exact q0) (fun w => by kernel_rfl)⟩) SS ?_
     try simp only [pA,pE,pB,pC,pD]
     refine tzQ 42 5 ?_ ?_ (fun _ => SS) ?_
     rotate_left
     ·intro w' hSw; go_simp; try with_reducible rfl
     try simp only [pA,pE,pB,pC,pD]
     refine tzQ 43 6 ?_ ?_ (fun _ => SS) ?_
     rotate_left
     ·intro w' hSw; go_simp; try with_reducible rfl
     try simp only [pA,pE,pB,pC,pD]
     refine tzQ 44 7 ?_ ?_ (fun _ => SS) ?_
     rotate_left
     ·intro w' hSw; go_simp; try with_reducible rfl
     try simp only [pA,pE,pB,pC,pD]
     refine tzQ 47 10 ?_ ?_ (fun _ => SS) ?_
     rotate_left
     ·intro w' hSw; go_simp; try with_reducible rfl
     try simp only [pA,pE,pB,pC,pD]
     refine rzP [8] ?_
     refine consP _ rfl (hopBn 45 1 #[(.float .f64 mk)] 55 rfl rfl rfl (by kernel_rfl) fun I1 V1 hI1 b1 => ?_) AllReadyP.nil
     have SS1 := kept b1 SS
     have M1 := MKd.out.later hbd b1
     refine ⟨SS1, ?_⟩
     try simp only [pA,pE,pB,pC,pD]
     refine rzP [9] ?_
     refine consP _ rfl (hopL rfl (append_lm Tryz.underlying22 Tryz.infoFB rfl (by decide) V1 (by rfl) _ _ (by rfl) base (.slice ao n cap) n (.float .f64 mk) (by kernel_rfl) M1.l ⟨I1, 0, none⟩ 1 (by kernel_rfl) (by rw [Addr.add_lit, cell_of_row _ I1 _ _ _ _ hI1]; rfl) rfl (by omega) fun v2 V2 f2 g2 k2 => ?_)) AllReadyP.nil
     change QK _ _ Exit.normal (Act.put _ (some 46) v2) V2
     have b2 := grown_below g2
     have SS2 := kept b2 SS1
     have M2 := M1.later (Nat.le_trans hbd b1.size) b2
     have hk2 : ∀ b, v2.ownBlock = some b -> ((Value.slice ao n cap).ownBlock = some b \/ w.heap.size <= b) /\ b < V2.heap.size := fun b hb => ⟨(k2 b hb).1.imp id (fun e => Nat.le_trans M1.fx.bel.size e), (k2 b hb).2⟩
     refine (And.intro SS2 ?_ : _ /\ _)
     try simp only [pA,pE,pB,pC,pD]
     clear g2 k2 SS1 SS M1
     obtain ⟨ao2, n2, cap2, hv2⟩ := ful_val1 f2
     subst hv2
     refine rzP [11] ?_
     refine consP _ rfl (hopBn 48 3 #[.slice ao n cap, .slice ao2 n2 cap2, .slice ga (n + 1 + 80) gcp] 22 rfl rfl rfl (by kernel_rfl) fun I3 V3 hI3 b3 => ?_) AllReadyP.nil
     have SS3 := kept b3 SS2
     have M3 := M2.later (Nat.le_trans hbd (Nat.le_trans b1.size b2.size)) b3
     have f3 : FulG V3 55 (.slice ao2 n2 cap2) (.float .f64 mk) := f2.keep fun k _ hk => b3.block k hk
     have P3 : BkP V3 B base #[vF, vM, vI, vN] vF vM vI vN Fs Ls ms ms ns ns Q := HP.out.keep M3.fx.bel.size fun k hk hq => M3.fx.blk k hk (fun e => hq (HQ.out k e))
     refine ⟨SS3, ?_⟩
     try simp only [pA,pE,pB,pC,pD]
     refine rzP [12] ?_
     refine consP _ rfl (hopL rfl (append_gx Tryz.underlying24 Tryz.infoFsB rfl (by decide) V3 (by rfl) _ _ (by rfl) base vF Fs.length Fs (by kernel_rfl) (OwX.of P3.f) ⟨I3, 0, none⟩ 3 3 [.slice ao n cap, .slice ao2 n2 cap2, .slice ga (n + 1 + 80) gcp] (by kernel_rfl) rfl (by decide) (news_threeB hI3) (one_threeB rfl rfl (own_val1 M3.g).1) (by omega) P3.lo.2 fun x4 V4 o4 g4 => ?_)) AllReadyP.nil
     change QK _ _ Exit.normal (Act.put _ (some 49) x4) V4
     have P4 : BkP V4 B base #[vF, vM, vI, vN] x4 vM vI vN (Fs ++ [.slice ao n cap, .slice ao2 n2 cap2, .slice ga (n + 1 + 80) gcp]) Ls (ms ++ List.replicate 3 mk) ms ns ns (fun k => Q k /\ (Value.slice ao n cap).ownBlock ≠ some k) := by
      refine BkP.pushF (ts := [.slice ao n cap, .slice ao2 n2 cap2, .slice ga (n + 1 + 80) gcp]) (mk := mk) (P3.shrink fun k hk => hk.1) a3' g4 o4 ?_
      have ok : ∀ k, ((Value.slice ao n cap).ownBlock = some k \/ w.heap.size <= k) -> ¬ (Q k /\ (Value.slice ao n cap).ownBlock ≠ some k) /\ vM.ownBlock ≠ some k := by
       rintro k (e | e)
       ·exact ⟨fun c => c.2 e, fun c => HP.out.qM k c (HQ.out k e)⟩
       ·exact ⟨fun c => by have := HP.out.q k c.1; omega, fun c => by have := (World.ownsRow.lt HP.out.m k c).2; omega⟩
      have hsl : V2.heap.size <= V3.heap.size := b3.size
      intro y hy
      simp only [List.mem_cons, List.not_mem_nil, or_false] at hy
      rcases hy with rfl | rfl | rfl
      ·exact ⟨M3.l.ful, fun k hk => ⟨M3.l.lt k hk, ok k (.inl hk)⟩⟩
      ·exact ⟨f3, fun k hk => ⟨Nat.lt_of_lt_of_le (hk2 k hk).2 hsl, ok k (hk2 k hk).1⟩⟩
      ·exact ⟨FulG.of M3.g, fun k hk => ⟨(World.ownsRow.lt M3.g k hk).2, ok k (M3.gb k hk)⟩⟩
     have F4 : Fq base w V4 Q (.slice ao n cap) := ⟨M3.fx.bel.trans (g4.below P3.lo.2 fun k hk => (World.ownsRow.lt P3.f k hk).1), fun k hq hv => (g4.block k (P3.q k hq) (fun e => P3.qF k e hq)).trans (M3.fx.blk k (HP.out.q k hq) hv)⟩
     have SS4 := P4.bx
     have ov4 := own_val1 o4
     refine (And.intro SS4 ?_ : _ /\ _)
     try simp only [pA,pE,pB,pC,pD]
     clear SS3 SS2 P3 M3 M2 f2 f3 hI1 hI3 b1 b2 b3 g4 o4 hk2
     refine tzQ 50 13 ?_ ?_ (fun _ => SS4) ?_
     rotate_left
     ·intro w' hSw; go_simp; try with_reducible rfl
     try simp only [pA,pE,pB,pC,pD]
     refine tzQ 51 14 ?_ ?_ (fun _ => SS4) ?_
     rotate_left
     ·intro w' hSw; go_simp; try with_reducible rfl
     try simp only [pA,pE,pB,pC,pD]
     refine rzP [15] ?_
     refine consPs _ rfl (by kernel_rfl) (hopL rfl (wpList_store_at (by rfl) 24 _ _ (by rfl) w base B 0 x4 #[vF, vM, vI, vN] #[x4, vM, vI, vN] 39 (by kernel_rfl) (by kernel_rfl) SS4 F4.bel P4.lo.1 1 Tryz.szFssB (by rw [ov4.2]; rfl) (Nat.le_of_ble_eq_true rfl) (by intro u hu; rw [ov4.2] at hu; simp only [List.mem_cons, List.not_mem_nil, or_false] at hu; subst hu; exact ov4.1) (by rw [ov4.2]; rfl) fun V5 e5 b5 s5 k5 => ?_)) AllReadyP.nil
     refine (And.intro trivial ?_ : _ /\ _)
     refine put_noneB rfl ?_
     try simp only [pA,pE,pB,pC,pD]
     refine wpAnyP_done (by kernel_rfl) ?_ _
     refine NoPanic.normal ?_
     try simp only [pA,pE,pB,pC,pD]
     have P5 : Hid _ := P4.set (cs' := #[x4, vM, vI, vN]) s5 e5 k5
     have F5 : Hid (Fq base w V5 Q (.slice ao n cap)) := ⟨b5, fun k hq hv => (k5 k (fun e => P4.qB (e ▸ ⟨hq, hv⟩))).trans (F4.q k hq hv)⟩
     clear P4 F4 SS4 ov4 e5 b5 s5 k5 HPd MKd hbd
     have c3 : V5.cell? ⟨B, 1, none⟩ = some vM := by obtain ⟨q0, q1, q2, q3⟩ := cells4L P5.out.bx; exact q1
     have hlo5 := P5.out.lo
     go_wp2_with (first
      | (at_builtin; (refine append_gx Tryz.underlying22 Tryz.infoFB rfl (by decide) _ (by rfl) _ _ (by rfl) base vM ms.length _ (by rfl) (OwX.alloc (OwX.of P5.out.m) _) ⟨V5.heap.size, 0, none⟩ 3 3 [(.float .f64 mk), (.float .f64 mk), (.float .f64 mk)] (by rfl) rfl (by decide) (news_threeB (heap_alloc_new V5 _)) (one_threeB rfl rfl rfl) hns3 (by rw [alloc_size]; exact Nat.le_succ_of_le hlo5.2) ?_); intro x8 V8 o8 g8x; have g8 := g8x.alloc; have P8 : Hid _ := BkP.pushM (ts := [mk, mk, mk]) P5.out g8 o8; have F8 : Hid (Fq base w V8 Q (.slice ao n cap)) := ⟨F5.out.bel.trans (g8.below hlo5.2 fun k hk => (World.ownsRow.lt P5.out.m k hk).1), fun k hq hv => (g8.block k (P5.out.q k ⟨hq, hv⟩) (fun e => P5.out.qM k e ⟨hq, hv⟩)).trans (F5.out.q k hq hv)⟩; have ov8 : Hid _ := own_val1 o8; clear g8x g8 o8)
      | (refine wpList_store_at (by rfl) 22 _ _ (by rfl) w base B 1 x8 #[x4, vM, vI, vN] #[x4, x8, vI, vN] 39 (by rfl) (by rfl) P8.out.bx F8.out.bel P8.out.lo.1 1 Tryz.szFsB (by rw [ov8.out.2]; rfl) (Nat.le_of_ble_eq_true rfl) (by intro u hu; rw [ov8.out.2] at hu; simp only [List.mem_cons, List.not_mem_nil, or_false] at hu; subst hu; exact ov8.out.1) (by rw [ov8.out.2]; rfl) ?_; intro V9 e9 b9 s9 k9))
     go_end0
     have P9 := P8.out.set (cs' := #[x4, x8, vI, vN]) s9 e9 k9
     refine ⟨⟨_, rfl⟩, ⟨x4, x8, vI, vN, _, Ls, _, ns, P9, by simp, rfl, by simp; omega, a4', ?_⟩, b9, fun k hq hv => (k9 k (fun e => P8.out.qB (e ▸ ⟨hq, hv⟩))).trans (F8.out.q k hq hv)⟩
     intro u hu
     rcases List.mem_append.1 hu with hu | hu
     ·exact HNN.out u hu
     ·rw [List.eq_of_mem_replicate hu]
      exact HMN.out
end Go.Proofs.YthmhgpadinecfaaGreat
