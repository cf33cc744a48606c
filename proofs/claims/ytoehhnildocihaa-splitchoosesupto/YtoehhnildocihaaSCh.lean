import Derived.Test.YtoehhnildocihaaSCe
namespace Go.Proofs.Ytoehhnildocihaa
open Go.RowKit Go.Shelf
set_option linter.unusedVariables false
set_option linter.unusedSimpArgs false
set_option maxRecDepth 100000 in
set_option maxHeartbeats 4000000 in
theorem byMargin_any (z : ZD) (ao : Option Addr) (l c : Nat) (us : List Nat) (k : Int) (m : Nat) (E : Nat) (hE : E = 1074) (w : World) (hz : ZU w z) (hw : UW z) (hW : wholeB z = true → WhF z) (ha : RdUs w ao l c us) (hlt : ∀ u ∈ us, u < 18446744073709551616) (hl : l ≤ 1050000) (hm : clB z us = true → m ≤ z.dn ∧ ∀ j, j < z.dn → (z.ids[j]?.getD 0 < k ↔ j < m)) :
    Calls Try.prog 16 #[.agg (zRow z), .slice ao l c, .int .i64 k] w fun e w' => e = .returned (.int .i64 (if clB z us = true then bcV us z.gs z.rn z.ids m else -1)) ∧ Below w.heap.size w w' := by
  have HRE := reals_any z E hE
  have HEX : Hid (∀ W, Below w.heap.size w W → Calls Try.prog 33 #[.slice ao l c] W fun e w' => (∃ v, e = .returned (.tuple #[v, .bool (numsB us)]) ∧ (numsB us = true → RowN w' W.heap.size v E us)) ∧ Below W.heap.size W w') := fun W hb => exact_any ao l c us E hE W (ha.later hb) hlt hl
  have HREA : Hid (∀ W, Below w.heap.size w W → _) := fun W hb => HRE W (hz.later hb) hw
  have HCE : Hid (clB z us = _) := clB_eq z us
  have HLN : Hid (us.length = l) := ha.length
  have HWH : Hid (wholeB z = true → WhF z) := hW
  have HM : Hid (clB z us = true → m ≤ z.dn ∧ ∀ j, j < z.dn → (z.ids[j]?.getD 0 < k ↔ j < m)) := hm
  have HZ : Hid (∀ W', Below w.heap.size w W' → ZU W' z) := fun W' hb => hz.later hb
  have HIL : Hid (z.ids.length = z.dn ∧ z.gs.length = z.gn) := ⟨hz.i.length, hz.g.length⟩
  have hdm : z.dn ≤ 1050000 := hw.il
  have HE : Hid (E = 1074) := hE
  clear HRE ha hz hw hlt hW hm hE
  obtain ⟨N, co, cn, cc, io, dn, dc, go, gn, gc, ro, rn, rc, bad, cs, ids, gv, gs, rs⟩ := z
  unfold zRow at HREA ⊢
  dsimp only at HREA HCE HWH HM HIL hdm ⊢
  rw [HLN.out] at HCE
  obtain ⟨nb, hnb⟩ : ∃ nb, numsB us = nb := ⟨_, rfl⟩
  obtain ⟨rb, hrb⟩ : ∃ rb, (!bad && wholeB ⟨N, co, cn, cc, io, dn, dc, go, gn, gc, ro, rn, rc, bad, cs, ids, gv, gs, rs⟩) = rb := ⟨_, rfl⟩
  have HNB : Hid (numsB us = nb) := hnb
  have HRB : Hid ((!bad && wholeB ⟨N, co, cn, cc, io, dn, dc, go, gn, gc, ro, rn, rc, bad, cs, ids, gv, gs, rs⟩) = rb) := hrb
  rw [hnb] at HEX
  rw [hrb] at HREA
  rw [hnb, hrb] at HCE
  clear hnb hrb
  obtain ⟨R, hR⟩ : ∃ R : Int, (if clB ⟨N, co, cn, cc, io, dn, dc, go, gn, gc, ro, rn, rc, bad, cs, ids, gv, gs, rs⟩ us = true then bcV us gs rn ids m else -1) = R := ⟨_, rfl⟩
  have HRES : Hid ((if clB ⟨N, co, cn, cc, io, dn, dc, go, gn, gc, ro, rn, rc, bad, cs, ids, gv, gs, rs⟩ us = true then bcV us gs rn ids m else -1) = R) := hR
  rw [hR]
  clear hR
  have X0 : Below w.heap.size w (w.alloc (.cells #[.int .i64 N, .slice co cn cc, .slice io dn dc, .slice go gn gc, .slice ro rn rc, .bool bad] 39)) := (Below.refl _ w).alloc (Nat.le_refl _) _
  have Y0 : (w.alloc (.cells #[.int .i64 N, .slice co cn cc, .slice io dn dc, .slice go gn gc, .slice ro rn rc, .bool bad] 39)).heap[w.heap.size]? = some (.cells #[.int .i64 N, .slice co cn cc, .slice io dn dc, .slice go gn gc, .slice ro rn rc, .bool bad] 39) := heap_alloc_new w _
  go_enter Try.func16, Try.ntmps16
  go_upto_region 1 with fail
  obtain ⟨X, hX⟩ : ∃ X, (w.alloc (.cells #[.int .i64 N, .slice co cn cc, .slice io dn dc, .slice go gn gc, .slice ro rn rc, .bool bad] 39)) = X := ⟨_, rfl⟩
  rw [hX] at X0 Y0 ⊢
  clear hX
  go_wp2_with fail
  refine Calls.mono (HEX.out _ X0) ?_
  rintro e w1 ⟨⟨va, rfl, hva⟩, b1⟩
  have P1 : Hid (Below w.heap.size w w1 ∧ w1.heap[w.heap.size]? = some (.cells #[.int .i64 N, .slice co cn cc, .slice io dn dc, .slice go gn gc, .slice ro rn rc, .bool bad] 39)) := ⟨to_call X0 b1, kept b1 Y0⟩
  have HVA : Hid (nb = true → RowN w1 X.heap.size va E us) := hva
  clear X0 Y0 b1 hva
  go_wp2_with (first | (refine wpList_load_row (by rfl) 39 _ (by rfl) w.heap.size #[.int .i64 N, .slice co cn cc, .slice io dn dc, .slice go gn gc, .slice ro rn rc, .bool bad] (by rfl) P1.out.2 _ Try.underlying39 rfl 6 Try.infoZu (by rfl) ?_))
  refine Calls.mono (HREA.out _ P1.out.1) ?_
  rintro e w2 ⟨⟨N', a1, l1, c1, a2, l2, c2, a3, l3, c3, a4, l4, c4, rfl, hrl⟩, b2⟩
  go_upto_region 3 with fail
  have A1 : Below w2.heap.size w2 (w2.alloc (.cells #[.int .i64 N', .slice a1 l1 c1, .slice a2 l2 c2, .slice a3 l3 c3, .slice a4 l4 c4] 82)) := (Below.refl _ w2).alloc (Nat.le_refl _) _
  have Y1 : (w2.alloc (.cells #[.int .i64 N', .slice a1 l1 c1, .slice a2 l2 c2, .slice a3 l3 c3, .slice a4 l4 c4] 82)).heap[w2.heap.size]? = some (.cells #[.int .i64 N', .slice a1 l1 c1, .slice a2 l2 c2, .slice a3 l3 c3, .slice a4 l4 c4] 82) := heap_alloc_new w2 _
  obtain ⟨V, hV⟩ : ∃ V, (w2.alloc (.cells #[.int .i64 N', .slice a1 l1 c1, .slice a2 l2 c2, .slice a3 l3 c3, .slice a4 l4 c4] 82)) = V := ⟨_, rfl⟩
  obtain ⟨B9, hB9⟩ : ∃ b, w2.heap.size = b := ⟨_, rfl⟩
  rw [hV] at A1 Y1 ⊢
  rw [hB9] at Y1 ⊢
  have P2 : Hid (Below w.heap.size w V ∧ V.heap[w.heap.size]? = some (.cells #[.int .i64 N, .slice co cn cc, .slice io dn dc, .slice go gn gc, .slice ro rn rc, .bool bad] 39) ∧ V.heap[B9]? = some (.cells #[.int .i64 N', .slice a1 l1 c1, .slice a2 l2 c2, .slice a3 l3 c3, .slice a4 l4 c4] 82)) := ⟨to_call (to_call P1.out.1 b2) A1, kept A1 (kept b2 P1.out.2), Y1⟩
  have HVA2 : Hid (nb = true → RowN V X.heap.size va E us) := fun h => ((HVA.out h).later b2).later A1
  have HRL : Hid (rb = true → N' = N ∧ ∃ gl, RlS V w1.heap.size E cs rs ids gs (.slice a1 l1 c1) (.slice a4 l4 c4) (.slice a2 l2 c2) (.slice a3 l3 c3) gl) := fun h => by
    obtain ⟨e1, gl, h1⟩ := hrl h
    exact ⟨e1, gl, h1.later A1⟩
  clear A1 Y1 hV hB9 HVA hrl b2 P1
  cases rb with
  | false =>
    have HQ : Hid (R = -1) := by unfold Hid; rw [← HRES.out, HCE.out]; rfl
    go_wp2_with fail
    go_ret
    exact ⟨by rw [HQ.out]; rfl, P2.out.1⟩
  | true =>
    have hWB : bad = false ∧ wholeB ⟨N, co, cn, cc, io, dn, dc, go, gn, gc, ro, rn, rc, bad, cs, ids, gv, gs, rs⟩ = true := by
      have h9 := HRB.out
      simp only [Bool.and_eq_true, Bool.not_eq_true'] at h9
      exact h9
    have hWF := HWH.out hWB.2
    have HWF : Hid (WhF ⟨N, co, cn, cc, io, dn, dc, go, gn, gc, ro, rn, rc, bad, cs, ids, gv, gs, rs⟩) := hWF
    have hN1 := hWF.N
    have hN2 := hWF.n2
    dsimp only at hN1 hN2
    obtain ⟨c0, d1, d2, d3, d4, d5⟩ := cells6 P2.out.2.1
    have hwN : IntKind.i64.wrap (N + 1) = N + 1 := wrI _ (by omega)
    by_cases hl2 : (l : Int) = N + 1
    · have he : ((l : Int) != N + 1) = false := by simp [hl2]
      have HLL : Hid (rn + 1 = l) := by unfold Hid; omega
      rw [decide_eq_true hl2] at HCE
      clear hl2 hN1 hN2 hWF hWB
      cases nb with
      | false =>
        have HQ : Hid (R = -1) := by unfold Hid; rw [← HRES.out, HCE.out]; rfl
        go_wp2_with fail
        go_ret
        exact ⟨by rw [HQ.out]; rfl, P2.out.1⟩
      | true =>
        have HCT : Hid (clB ⟨N, co, cn, cc, io, dn, dc, go, gn, gc, ro, rn, rc, bad, cs, ids, gv, gs, rs⟩ us = true) := by unfold Hid; rw [HCE.out]; rfl
        have HMM : Hid (m ≤ dn ∧ ∀ j, j < dn → (ids[j]?.getD 0 < k ↔ j < m)) := HM.out HCT.out
        have HRB2 : Hid (R = bcV us gs rn ids m) := by unfold Hid; rw [← HRES.out, HCT.out, if_pos rfl]
        obtain ⟨hNN, gl, hRl⟩ := HRL.out rfl
        have HR9 : Hid (RlS V w1.heap.size E cs rs ids gs (.slice a1 l1 c1) (.slice a4 l4 c4) (.slice a2 l2 c2) (.slice a3 l3 c3) gl) := hRl
        have hl3 : l3 = gn := by
          obtain ⟨qo, qc, h1, _⟩ := owns_slice hRl.g
          injection h1 with _ h1 _
          rw [h1, hRl.len]
          exact HIL.out.2
        have HVA3 : Hid (RowN V X.heap.size va E us) := HVA2.out rfl
        obtain ⟨vo, vc9, hvf⟩ := HVA3.out.form
        have HDG : Hid (dn = gn) := HWF.out.dg
        have hl4 := hl3.symm
        subst hl4
        clear hRl hNN HVA2 HRL HCE HM HRES HWH
        go_upto_region 7 with fail
        have A1 : Below V.heap.size V (V.alloc (.cells #[.bool false, .slice none 0 0, .int .i64 0] 87)) := (Below.refl _ V).alloc (Nat.le_refl _) _
        have Y1 : (V.alloc (.cells #[.bool false, .slice none 0 0, .int .i64 0] 87)).heap[V.heap.size]? = some (.cells #[.bool false, .slice none 0 0, .int .i64 0] 87) := heap_alloc_new V _
        obtain ⟨V1, hV1⟩ : ∃ V1, (V.alloc (.cells #[.bool false, .slice none 0 0, .int .i64 0] 87)) = V1 := ⟨_, rfl⟩
        obtain ⟨Mb, hMb⟩ : ∃ b, V.heap.size = b := ⟨_, rfl⟩
        obtain ⟨D, hD⟩ : ∃ D : Nat → Int, dvK us gs rn = D := ⟨_, rfl⟩
        have HD : Hid (∀ j, D j = ((dotV us (gs[j]?.getD []) rn).natAbs : Int)) := fun j => by rw [← hD]; rfl
        have HRB3 : Hid (R = if (grK D m).1 < 0 then -1 else ids[(grK D m).1.toNat]?.getD 0) := by unfold Hid; rw [HRB2.out]; unfold bcV; rw [hD]
        rw [hV1] at A1 Y1 ⊢
        rw [hMb] at Y1 ⊢
        have T0 : Hid (Below V.heap.size V V1 ∧ ∃ n o lz cz e, BxN V1 Mb (E + E) 2304 ((grK D (min 0 m)).2) n o lz cz e) := ⟨A1, false, none, 0, 0, 0, Y1, by rw [Nat.zero_min]; exact NumC.zeroJ _ _ _ (by decide)⟩
        have HMB : Hid (V.heap.size = Mb) := hMb
        clear A1 Y1 hV1 hMb hD HRB2 c0 d1 d2 d3 d4 d5 hwN he
        go_wp2_with fail
        go_loopg [11, 13] dn (fun g bv iv wx => ∃ (i : Nat) (best : Int), bv = .int .i64 best ∧ iv = .int .i64 i ∧ i + g = dn ∧ Hid (best = if (grK D (min i m)).1 < 0 then -1 else ids[(grK D (min i m)).1.toNat]?.getD 0) ∧ Hid (Below V.heap.size V wx ∧ ∃ n o lz cz e, BxN wx Mb (E + E) 2304 ((grK D (min i m)).2) n o lz cz e))
        case atStart => exact ⟨0, -1, rfl, rfl, by omega, by rw [Nat.zero_min]; rfl, T0⟩
        case round =>
          clear T0
          obtain ⟨i, best, rfl, rfl, hi, HBE, TT⟩ := hrel
          obtain ⟨bW, n7, o7, l7, c7, x7, B7⟩ := TT.out
          have P3 : Hid (Below w.heap.size w wr ∧ wr.heap[w.heap.size]? = some (.cells #[.int .i64 N, .slice co cn cc, .slice io dn dc, .slice go gn gc, .slice ro rn rc, .bool bad] 39) ∧ wr.heap[B9]? = some (.cells #[.int .i64 N', .slice a1 l1 c1, .slice a2 l2 c2, .slice a3 gn c3, .slice a4 l4 c4] 82) ∧ Below V.heap.size V wr ∧ BxN wr Mb (E + E) 2304 ((grK D (min i m)).2) n7 o7 l7 c7 x7) := ⟨to_call P2.out.1 bW, kept bW P2.out.2.1, kept bW P2.out.2.2, bW, B7⟩
          clear TT bW B7
          have C2 : Hid (wr.cell? ⟨w.heap.size, 2, none⟩ = some (.slice io dn dc)) := cellAtJ P3.out.2.1 2 _ rfl
          have c2z := C2.out
          by_cases hlt2 : i < dn
          · have hd : decide ((i : Int) < (dn : Int)) = true := decide_eq_true (by omega)
            obtain ⟨q, rfl⟩ : ∃ q, gk = q + 1 := ⟨gk - 1, by omega⟩
            have HIG : Hid (i + (q + 1) = dn) := hi
            have hlt' : (i : Int) < (dn : Int) := by omega
            have hig : i < gn := by rw [← HDG.out]; exact hlt2
            have hig' : (i : Int) < (gn : Int) := by omega
            have zi := (HZ.out _ P3.out.1).i
            dsimp only at zi
            rcases zi.cells with h0 | ⟨ib, ioff, eio, hci⟩
            · omega
            obtain ⟨gb, uv, ea3, hcu, hru⟩ := (HR9.out.later P3.out.2.2.2.1).colAtM (k := i) (by rw [HIL.out.2]; exact hig)
            obtain ⟨uo, uc, huf⟩ := hru.form
            have HRU : Hid (RowN wr w1.heap.size uv E (gs[i]?.getD [])) := hru
            have HVW : Hid (RowN wr X.heap.size va E us) := HVA3.out.later P3.out.2.2.2.1
            have hgl := HWF.out.gl i hlt2
            dsimp only at hgl
            have hmi := HMM.out.2 i hlt2
            have gi := hci i hlt2
            obtain ⟨id, hid⟩ : ∃ id : Int, ids[i]?.getD 0 = id := ⟨_, rfl⟩
            have HID : Hid (ids[i]?.getD 0 = id) := hid
            rw [hid] at gi hmi
            subst eio ea3
            have c3z : wr.cell? ⟨B9, 3, none⟩ = some (.slice (some ⟨gb, 0, none⟩) gn c3) := cellAtJ P3.out.2.2.1 3 _ rfl
            have HWE : Hid (∀ W, Below wr.heap.size wr W → Calls Try.prog 36 #[va, uv] W fun e w' => ∃ v, e = .returned v ∧ NumC w' v (E + E) (2048 + rn) (dotV us (gs[i]?.getD []) rn) ∧ Below W.heap.size W w') := fun W hb => weighs_any va uv us _ rn _ _ E HE.out W (HVW.out.later hb) (HRU.out.later hb) (by have := HLL.out; have := HLN.out; omega) (by have := HLL.out; have := HLN.out; have := HWF.out.n2; dsimp only at this; omega) hgl (by have := HWF.out.n2; dsimp only at this; omega)
            have GI : Hid (wr.cell? ⟨ib, ioff + i, none⟩ = some (.int .i64 id)) := gi
            have hrn : rn ≤ 256 := HWF.out.n2
            clear zi hci hid hru hgl gi hi
            subst hvf huf
            go_upto_region 11 with (first
              | (go_at_call 36; refine Calls.mono (HWE.out _ (Below.refl _ _)) ?_; rintro e w5 ⟨v5, rfl, z5, b5⟩)
              | (go_at_call 35; refine Calls.mono (sizeC_any v5 _ _ _ _ z5) ?_; rintro e w6 ⟨v6, rfl, z6, b6⟩; obtain ⟨n6, o6, l6, c6, x6, hv6⟩ := z6.form; subst hv6))
            have A1 : Below w6.heap.size w6 (w6.alloc (.cells #[.bool n6, .slice o6 l6 c6, .int .i64 x6] 87)) := (Below.refl _ w6).alloc (Nat.le_refl _) _
            have Y1 : (w6.alloc (.cells #[.bool n6, .slice o6 l6 c6, .int .i64 x6] 87)).heap[w6.heap.size]? = some (.cells #[.bool n6, .slice o6 l6 c6, .int .i64 x6] 87) := heap_alloc_new w6 _
            obtain ⟨V6, hV6⟩ : ∃ V6, (w6.alloc (.cells #[.bool n6, .slice o6 l6 c6, .int .i64 x6] 87)) = V6 := ⟨_, rfl⟩
            obtain ⟨B14, hB14⟩ : ∃ b, w6.heap.size = b := ⟨_, rfl⟩
            have bc : Below wr.heap.size wr V6 := by rw [← hV6]; exact to_call (to_call b5 b6) A1
            have hne : Mb < B14 := by rw [← hB14]; exact Nat.lt_of_lt_of_le (blk_lt P3.out.2.2.2.2.row) (Nat.le_trans b5.size b6.size)
            rw [hV6] at A1 Y1 ⊢
            rw [hB14] at Y1 ⊢
            have P4 : Hid (Below w.heap.size w V6 ∧ V6.heap[w.heap.size]? = some (.cells #[.int .i64 N, .slice co cn cc, .slice (some ⟨ib, ioff, none⟩) dn dc, .slice go gn gc, .slice ro rn rc, .bool bad] 39) ∧ Below V.heap.size V V6 ∧ BxN V6 Mb (E + E) 2304 ((grK D (min i m)).2) n7 o7 l7 c7 x7 ∧ BxN V6 B14 (E + E) 2304 (D i) n6 o6 l6 c6 x6) := by
              refine ⟨to_call P3.out.1 bc, kept bc P3.out.2.1, to_call P3.out.2.2.2.1 bc, ⟨kept bc P3.out.2.2.2.2.row, P3.out.2.2.2.2.num.later bc⟩, ⟨Y1, ?_⟩⟩
              rw [HD.out]
              exact (z6.later A1).mono (by omega)
            have gi : V6.cell? ⟨ib, ioff + i, none⟩ = some (.int .i64 id) := cell_later GI.out bc
            have k2z : V6.cell? ⟨w.heap.size, 2, none⟩ = some (.slice (some ⟨ib, ioff, none⟩) dn dc) := cellAtJ P4.out.2.1 2 _ rfl
            have hMV : V.heap.size ≤ Mb := by have := HMB.out; omega
            clear A1 Y1 hV6 hB14 z5 z6 b5 b6 c2z c3z C2 HWE HRU HVW P3 hcu
            by_cases him : i < m
            · have hik2 : decide (id < k) = true := decide_eq_true (hmi.2 him)
              have emi : min i m = i := by omega
              have emi2 : min (i + 1) m = i + 1 := by omega
              rw [emi] at HBE P4
              have HC : Hid (Calls Try.prog 37 #[.agg #[.bool n6, .slice o6 l6 c6, .int .i64 x6], .agg #[.bool n7, .slice o7 l7 c7, .int .i64 x7]] V6 fun e w' => e = .returned (.int .i64 (sgi (D i - (grK D i).2))) ∧ Below V6.heap.size V6 w') := cmpZ_any _ _ (E + E) 2304 (D i) ((grK D i).2) V6 P4.out.2.2.2.2.num.toZ P4.out.2.2.2.1.num.toZ (by have := HE.out; omega) ⟨by decide, by decide⟩
              obtain ⟨s, hs⟩ : ∃ s, sgi (D i - (grK D i).2) = s := ⟨_, rfl⟩
              have HS : Hid (s > 0 ↔ (grK D i).2 < D i) := by unfold Hid; rw [← hs]; unfold sgi; split <;> (try split) <;> omega
              have HGK : Hid (grK D (i + 1) = if (grK D i).2 < D i then ((i : Int), D i) else grK D i) := rfl
              rw [hs] at HC
              clear hs hmi
              go_wp2_with (first | (refine wpList_load_rowG (by rfl) 87 _ (by rfl) B14 #[.bool n6, .slice o6 l6 c6, .int .i64 x6] (by rfl) P4.out.2.2.2.2.row _ Try.underlying87 rfl 3 Try.infoN3 (by rfl) ?_) | (refine wpList_load_rowG (by rfl) 87 _ (by rfl) Mb #[.bool n7, .slice o7 l7 c7, .int .i64 x7] (by rfl) P4.out.2.2.2.1.row _ Try.underlying87 rfl 3 Try.infoN3 (by rfl) ?_))
              refine Calls.mono HC.out ?_
              rintro e w7 ⟨rfl, b7⟩
              have P5 : Hid (Below w.heap.size w w7 ∧ Below V.heap.size V w7 ∧ BxN w7 Mb (E + E) 2304 ((grK D i).2) n7 o7 l7 c7 x7 ∧ BxN w7 B14 (E + E) 2304 (D i) n6 o6 l6 c6 x6 ∧ w7.heap[w.heap.size]? = some (.cells #[.int .i64 N, .slice co cn cc, .slice (some ⟨ib, ioff, none⟩) dn dc, .slice go gn gc, .slice ro rn rc, .bool bad] 39)) := ⟨to_call P4.out.1 b7, to_call P4.out.2.2.1 b7, ⟨kept b7 P4.out.2.2.2.1.row, P4.out.2.2.2.1.num.later b7⟩, ⟨kept b7 P4.out.2.2.2.2.row, P4.out.2.2.2.2.num.later b7⟩, kept b7 P4.out.2.1⟩
              have gi2 : w7.cell? ⟨ib, ioff + i, none⟩ = some (.int .i64 id) := cell_later gi b7
              have k2y : w7.cell? ⟨w.heap.size, 2, none⟩ = some (.slice (some ⟨ib, ioff, none⟩) dn dc) := cellAtJ P5.out.2.2.2.2 2 _ rfl
              clear P4 HC gi k2z b7
              by_cases c1 : s > 0
              · have f1 : decide (s > 0) = true := decide_eq_true c1
                rw [if_pos (HS.out.1 c1)] at HGK
                have HB2 : Hid (id = if (grK D (min (i + 1) m)).1 < 0 then -1 else ids[(grK D (min (i + 1) m)).1.toNat]?.getD 0) := by
                  unfold Hid
                  rw [emi2, HGK.out]
                  show id = if (i : Int) < 0 then -1 else ids[(i : Int).toNat]?.getD 0
                  rw [if_neg (by omega), Int.toNat_natCast, HID.out]
                clear c1 HS HBE
                go_wp2_with (first | (refine wpList_load_row (by rfl) 87 _ (by rfl) B14 #[.bool n6, .slice o6 l6 c6, .int .i64 x6] (by rfl) P5.out.2.2.2.1.row _ Try.underlying87 rfl 3 Try.infoN3 (by rfl) ?_) | (refine wpList_store_row (by rfl) 87 _ _ (by rfl) V V.heap.size Mb #[.bool n6, .slice o6 l6 c6, .int .i64 x6] _ (by rfl) (by rfl) P5.out.2.2.1.row P5.out.2.1 hMV 3 Try.infoN3 rfl rfl (oneN _ _ _ _ _) ?_; intro W9 e9 b9 s9 o9))
                have T2 : Hid (Below V.heap.size V W9 ∧ ∃ n o lz cz e, BxN W9 Mb (E + E) 2304 ((grK D (min (i + 1) m)).2) n o lz cz e) := by
                  refine ⟨b9, n6, o6, l6, c6, x6, e9, ?_⟩
                  rw [emi2, HGK.out]
                  exact P5.out.2.2.2.1.num.cl (num_cl P5.out.2.2.1.row) (fun b hb _ => o9 b hb)
                clear P5 gi2 k2y e9 b9 s9 o9
                go_roundg q
                case measure => omega
                case rel => exact ⟨i + 1, id, rfl, by go_num, by have := HIG.out; omega, HB2, T2⟩
              · have f1 : decide (s > 0) = false := decide_eq_false c1
                rw [if_neg (fun h => c1 (HS.out.2 h))] at HGK
                have HB2 : Hid (best = if (grK D (min (i + 1) m)).1 < 0 then -1 else ids[(grK D (min (i + 1) m)).1.toNat]?.getD 0) := by
                  unfold Hid
                  rw [emi2, HGK.out]
                  exact HBE.out
                have T2 : Hid (Below V.heap.size V w7 ∧ ∃ n o lz cz e, BxN w7 Mb (E + E) 2304 ((grK D (min (i + 1) m)).2) n o lz cz e) := by
                  refine ⟨P5.out.2.1, n7, o7, l7, c7, x7, ?_⟩
                  rw [emi2, HGK.out]
                  exact P5.out.2.2.1
                clear c1 HS HBE P5 gi2 k2y
                go_wp2_with fail
                go_roundg q
                case measure => omega
                case rel => exact ⟨i + 1, best, rfl, by go_num, by have := HIG.out; omega, HB2, T2⟩
            · have hik2 : decide (id < k) = false := decide_eq_false (fun h => him (hmi.1 h))
              have emi2 : min (i + 1) m = min i m := by omega
              rw [← emi2] at HBE
              have T2 : Hid (Below V.heap.size V V6 ∧ ∃ n o lz cz e, BxN V6 Mb (E + E) 2304 ((grK D (min (i + 1) m)).2) n o lz cz e) := ⟨P4.out.2.2.1, n7, o7, l7, c7, x7, by rw [emi2]; exact P4.out.2.2.2.1⟩
              clear hmi
              go_wp2_with fail
              go_roundg q
              case measure => omega
              case rel => exact ⟨i + 1, best, rfl, by go_num, by have := HIG.out; omega, HBE, T2⟩
          · have hd : decide ((i : Int) < (dn : Int)) = false := decide_eq_false (by omega)
            have hd' : decide (i < dn) = false := decide_eq_false (by omega)
            have emi : min i m = m := by have := HMM.out.1; omega
            rw [emi] at HBE
            have HQ : Hid (R = best) := by unfold Hid; rw [HBE.out, HRB3.out]
            clear hi
            go_wp2_with fail
            go_ret
            exact ⟨by rw [HQ.out]; rfl, P3.out.1⟩
    · have he : ((l : Int) != N + 1) = true := by simp [hl2]
      have HQ : Hid (R = -1) := by unfold Hid; rw [← HRES.out, HCE.out, decide_eq_false hl2]; rfl
      clear hl2 hN1 hN2 hWF hWB
      go_wp2_with fail
      go_ret
      exact ⟨by rw [HQ.out]; rfl, P2.out.1⟩
end Go.Proofs.Ytoehhnildocihaa
