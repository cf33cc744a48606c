import Derived.Test.YtnjjichanfpbhaaGreatRV
namespace Go.Proofs.YtnjjichanfpbhaaGreat
open Go.RowKit
set_option linter.unusedVariables false

theorem sq_nonneg' (p : Int) : 0 ≤ p * p := by
  rcases Int.le_total 0 p with h | h
  · exact Int.mul_nonneg h h
  · have := Int.mul_nonneg (show 0 ≤ -p by omega) (show 0 ≤ -p by omega)
    rw [Int.neg_mul_neg] at this; exact this
theorem sq_two {p q : Int} (h : p ≤ q) (hn : ¬ (p ≤ 0 ∧ 0 ≤ q)) : minZ (fun j => if j = 0 then p * p else q * q) 2 = (max (max p (-q)) 0) * (max (max p (-q)) 0) ∧ maxZ (fun j => if j = 0 then p * p else q * q) 2 = (max (-p) q) * (max (-p) q) := by
  rw [sq_least h, sq_most h, if_neg hn]
  exact ⟨by simp [minZ], by simp [maxZ]⟩
theorem sq_three {p q : Int} (h : p ≤ q) (hn : p ≤ 0 ∧ 0 ≤ q) : minZ (fun j => if j = 0 then p * p else if j = 1 then q * q else 0) 3 = (max (max p (-q)) 0) * (max (max p (-q)) 0) ∧ maxZ (fun j => if j = 0 then p * p else if j = 1 then q * q else 0) 3 = (max (-p) q) * (max (-p) q) := by
  rw [sq_least h, sq_most h, if_pos hn]
  have a : 0 ≤ p * p := sq_nonneg' p
  have b : 0 ≤ q * q := sq_nonneg' q
  constructor
  · simp [minZ]; omega
  · simp [maxZ]; omega
set_option maxRecDepth 100000 in
set_option maxHeartbeats 8000000 in
theorem refSquare4_any (al ah : Nat) (ab : Bool) (hal : al < 18446744073709551616) (hah : ah < 18446744073709551616) (w : World) (E : Nat) (hE : E = 1074) :
    Calls Tryz.prog 23 #[.agg #[Value.int .u64 (al : Int), .int .u64 (ah : Int), .bool ab]] w fun e w' => RefAns w (UnR (SpR (sqLo al ah * sqLo al ah) (sqHi al ah * sqHi al ah) (2 ^ E)) al ah ab) e w' := by
  obtain ⟨g0, g1, -, gb⟩ := alloc2_facts w (Obj.cells #[Value.int .u64 (al : Int), .int .u64 (ah : Int), .bool ab] 36) (Obj.cells #[Value.int .u64 0, .int .u64 0, .bool false] 36)
  have GA : Hid _ := g0
  have GR : Hid _ := g1
  have GB : Hid _ := gb
  clear g0 g1 gb
  go_enter Tryz.func23, Tryz.ntmps23
  go_upto_region 1 with fail
  generalize ((w.alloc (Obj.cells #[Value.int .u64 (al : Int), .int .u64 (ah : Int), .bool ab] 36)).alloc (Obj.cells #[Value.int .u64 0, .int .u64 0, .bool false] 36)) = W0 at GA GR GB ⊢
  obtain ⟨a0, a1, a2⟩ := cells3 GA.out
  go_wp2_with fail
  clear a0 a1 a2
  refine Calls.mono (ends_any al ah ab hal hah _ E hE) ?_
  rintro e w1 ⟨v1, u1, rfl, ⟨z1, hz1, hf1⟩, ⟨y1, hy1, hg1⟩, bw⟩
  have Z1 : Hid (NumZ w1 v1 E 1024 z1) := hz1
  have Y1 : Hid (NumZ w1 u1 E 1024 y1) := hy1
  have F1 : Hid (Fin al → z1 = fval al) := hf1
  have H1 : Hid (Fin ah → y1 = fval ah) := hg1
  obtain ⟨nx1, mx1, ex1, ⟨ao1, len1, cap1, xs1, rfl, -⟩, -⟩ := hz1
  obtain ⟨ny1, my1, ey1, ⟨bo1, blen1, bcap1, ys1, rfl, -⟩, -⟩ := hy1
  have GR_1 : Hid _ := (bw.block _ (blk_lt GR.out)).trans GR.out
  have C_1 : Hid (Below w.heap.size w w1) := GB.out.trans (bw.mono GB.out.size)
  clear bw hf1 hg1 GB GR
  by_cases hg : Good al ah ab
  · rw [decide_eq_true hg]
    have hle : z1 ≤ y1 := by rw [F1.out hg.2.1, H1.out hg.2.2.1]; exact (srung_le al ah).1 hg.2.2.2
    have HSP : Hid (∀ r, SpR ((max (max z1 (-y1)) 0) * (max (max z1 (-y1)) 0)) ((max (-z1) y1) * (max (-z1) y1)) (2 ^ E) r → UnR (SpR (sqLo al ah * sqLo al ah) (sqHi al ah * sqHi al ah) (2 ^ E)) al ah ab r) := by
      intro r hr
      unfold UnR sqLo sqHi
      rw [F1.out hg.2.1, H1.out hg.2.2.1] at hr
      rw [if_pos hg]
      exact hr
    clear hg F1 H1
    go_upto_region 2 with fail
    have HR1 : w.heap.size + 1 < w1.heap.size := blk_lt GR_1.out
    obtain ⟨k0, k1, -, kb⟩ := alloc2_facts w1 (Obj.cells #[Value.bool nx1, Value.slice ao1 len1 cap1, Value.int IntKind.i64 ex1] 61) (Obj.cells #[Value.bool ny1, Value.slice bo1 blen1 bcap1, Value.int IntKind.i64 ey1] 61)
    have K1x : Hid _ := k0
    have K1y : Hid _ := k1
    have C1' : Hid (Below w.heap.size w ((w1.alloc (Obj.cells #[Value.bool nx1, Value.slice ao1 len1 cap1, Value.int IntKind.i64 ex1] 61)).alloc (Obj.cells #[Value.bool ny1, Value.slice bo1 blen1 bcap1, Value.int IntKind.i64 ey1] 61))) := C_1.out.trans (kb.mono C_1.out.size)
    have GR_1' : Hid _ := (kb.block _ (blk_lt GR_1.out)).trans GR_1.out
    have Z1' : Hid _ := NumZ.later Z1.out kb
    have Y1' : Hid _ := NumZ.later Y1.out kb
    clear k0 k1 kb C_1 GR_1 Z1 Y1
    generalize ((w1.alloc (Obj.cells #[Value.bool nx1, Value.slice ao1 len1 cap1, Value.int IntKind.i64 ex1] 61)).alloc (Obj.cells #[Value.bool ny1, Value.slice bo1 blen1 bcap1, Value.int IntKind.i64 ey1] 61)) = V1 at K1x K1y C1' GR_1' Z1' Y1' ⊢
    go_upto_region 4 with fail
    have hS : ∀ W, Below V1.heap.size V1 W → (W.heap[w1.heap.size]? = some (Obj.cells #[Value.bool nx1, Value.slice ao1 len1 cap1, Value.int IntKind.i64 ex1] 61) ∧ W.heap[w1.heap.size + 1]? = some (Obj.cells #[Value.bool ny1, Value.slice bo1 blen1 bcap1, Value.int IntKind.i64 ey1] 61)) := fun W h => ⟨keep0 K1x.out h, keep0 K1y.out h⟩
    refine wp_region_noPanic ?_
    refine wp_region_held_drew (S := fun W => W.heap[w1.heap.size]? = some (Obj.cells #[Value.bool nx1, Value.slice ao1 len1 cap1, Value.int IntKind.i64 ex1] 61) ∧ W.heap[w1.heap.size + 1]? = some (Obj.cells #[Value.bool ny1, Value.slice bo1 blen1 bcap1, Value.int IntKind.i64 ey1] 61)) (by kernel_rfl) (hS _ (Below.refl _ _).drew) (fun _ => ?_)
    refine takeH 16 (i := 0) (v := (Value.agg #[Value.bool nx1, Value.slice ao1 len1 cap1, Value.int IntKind.i64 ex1])) rfl rfl (by kernel_rfl) (by kernel_rfl) (by kernel_rfl) (fun _ _ _ h => h) (Or.inl ⟨(by kernel_rfl), fun w' hq => ex_load3 _ _ rfl (w1.heap.size) (by kernel_rfl) w' nx1 ao1 len1 cap1 ex1 (cells3 (hq.1))⟩) (hS _ (Below.refl _ _).drew) ?_
    refine takeH 17 (i := 1) (v := (Value.agg #[Value.bool nx1, Value.slice ao1 len1 cap1, Value.int IntKind.i64 ex1])) rfl rfl (by kernel_rfl) (by kernel_rfl) (by kernel_rfl) (fun _ _ _ h => h) (Or.inl ⟨(by kernel_rfl), fun w' hq => ex_load3 _ _ rfl (w1.heap.size) (by kernel_rfl) w' nx1 ao1 len1 cap1 ex1 (cells3 (hq.1))⟩) (hS _ (Below.refl _ _).drew) ?_
    refine takeH 19 (i := 3) (v := (Value.agg #[Value.bool ny1, Value.slice bo1 blen1 bcap1, Value.int IntKind.i64 ey1])) rfl rfl (by kernel_rfl) (by kernel_rfl) (by kernel_rfl) (fun _ _ _ h => h) (Or.inl ⟨(by kernel_rfl), fun w' hq => ex_load3 _ _ rfl (w1.heap.size + 1) (by kernel_rfl) w' ny1 bo1 blen1 bcap1 ey1 (cells3 (hq.2))⟩) (hS _ (Below.refl _ _).drew) ?_
    refine takeH 20 (i := 4) (v := (Value.agg #[Value.bool ny1, Value.slice bo1 blen1 bcap1, Value.int IntKind.i64 ey1])) rfl rfl (by kernel_rfl) (by kernel_rfl) (by kernel_rfl) (fun _ _ _ h => h) (Or.inl ⟨(by kernel_rfl), fun w' hq => ex_load3 _ _ rfl (w1.heap.size + 1) (by kernel_rfl) w' ny1 bo1 blen1 bcap1 ey1 (cells3 (hq.2))⟩) (hS _ (Below.refl _ _).drew) ?_
    try (simp only [Act.put, List.setIfInBounds_toArray, List.set_cons_zero, List.set_cons_succ])
    refine wpAnyH_ready (rs := [2]) (by kernel_rfl) (by simp) ?_
    refine consH _ rfl ?_ AllReadyH.nil
    refine hopCd 18 rfl (by kernel_rfl) rfl (by kernel_rfl) (Calls.mono (timesZ_any _ _ E 1024 1024 z1 z1 _ (NumZ.later Z1'.out (Below.refl _ _).drew) (NumZ.later Z1'.out (Below.refl _ _).drew) (by omega) (by omega) (by omega)) ?_)
    rintro e m0 ⟨va, rfl, za', g0⟩
    have h0 : Below V1.heap.size V1 m0 := Below.trans ((Below.refl _ _).drew : Below V1.heap.size V1 _) (g0.mono (Below.size ((Below.refl _ _).drew : Below V1.heap.size V1 _)))
    refine ⟨_, rfl, hS _ h0, ?_⟩
    try (simp only [Act.put, List.setIfInBounds_toArray, List.set_cons_zero, List.set_cons_succ])
    refine wpAnyH_ready (rs := [5]) (by kernel_rfl) (by simp) ?_
    refine consH _ rfl ?_ AllReadyH.nil
    refine hopCd 21 rfl (by kernel_rfl) rfl (by kernel_rfl) (Calls.mono (timesZ_any _ _ E 1024 1024 y1 y1 _ (NumZ.later Y1'.out h0) (NumZ.later Y1'.out h0) (by omega) (by omega) (by omega)) ?_)
    rintro e m1 ⟨vb, rfl, zb', g1⟩
    have h1 : Below V1.heap.size V1 m1 := Below.trans (h0 : Below V1.heap.size V1 _) (g1.mono (Below.size (h0 : Below V1.heap.size V1 _)))
    refine ⟨_, rfl, hS _ h1, ?_⟩
    have Qa : NumZ m1 va (E + E) 2048 _ := NumZ.later za' (g1)
    obtain ⟨na, mma, ea, ⟨oa, la, ca, xxa, rfl, -⟩, -⟩ := za'
    have Qb : NumZ m1 vb (E + E) 2048 _ := zb'
    obtain ⟨nb, mmb, eb, ⟨ob, lb, cb, xxb, rfl, -⟩, -⟩ := zb'
    try (simp only [Act.put, List.setIfInBounds_toArray, List.set_cons_zero, List.set_cons_succ])
    refine wpAnyH_ready (rs := [6]) (by kernel_rfl) (by simp) ?_
    refine consH _ rfl ?_ AllReadyH.nil
    have hA : Below V1.heap.size V1 (m1.alloc (.cells #[Value.bool na, Value.slice oa la ca, Value.int IntKind.i64 ea, Value.bool nb, Value.slice ob lb cb, Value.int IntKind.i64 eb] 61)) := to_b h1 ((Below.refl _ _).alloc (Nat.le_refl _) _)
    refine hopVd 22 rfl (by kernel_rfl) rfl (ex_bs _ _ 2 _ rfl #[(0, (Value.agg #[Value.bool na, Value.slice oa la ca, Value.int IntKind.i64 ea])), (1, (Value.agg #[Value.bool nb, Value.slice ob lb cb, Value.int IntKind.i64 eb]))] (by kernel_rfl) _ _ _ (bsN2 na oa la ca ea nb ob lb cb eb m1)) ⟨hS _ hA, ?_⟩
    have RDM := rdm2 (row_cells (heap_alloc_new m1 (.cells #[Value.bool na, Value.slice oa la ca, Value.int IntKind.i64 ea, Value.bool nb, Value.slice ob lb cb, Value.int IntKind.i64 eb] 61))) (NumZ.later Qa ((Below.refl _ _).alloc (Nat.le_refl _) _)) (NumZ.later Qb ((Below.refl _ _).alloc (Nat.le_refl _) _))
    try (simp only [Act.put, List.setIfInBounds_toArray, List.set_cons_zero, List.set_cons_succ])
    refine takeH 6 (i := 7) (v := .slice (some ⟨m1.heap.size, 0, none⟩) 2 2) rfl rfl (by kernel_rfl) (by kernel_rfl) (by kernel_rfl) (fun _ _ _ h => h) (Or.inl ⟨(by kernel_rfl), fun w' _ => by kernel_rfl⟩) (hS _ hA) ?_
    refine wpAnyH_done (by kernel_rfl) ?_ _
    refine NoPanic.normal ?_
    try (simp only [Act.put, List.setIfInBounds_toArray, List.set_cons_zero, List.set_cons_succ])
    have RC : Hid _ := row_cells (heap_alloc_new m1 (Obj.cells #[Value.bool na, Value.slice oa la ca, Value.int IntKind.i64 ea, Value.bool nb, Value.slice ob lb cb, Value.int IntKind.i64 eb] 61))
    have KA : Hid _ := keep0 K1x.out hA
    have KB : Hid _ := keep0 K1y.out hA
    have KG : Hid _ := keep0 GR_1'.out hA
    have CA : Hid (Below w.heap.size w (m1.alloc (Obj.cells #[Value.bool na, Value.slice oa la ca, Value.int IntKind.i64 ea, Value.bool nb, Value.slice ob lb cb, Value.int IntKind.i64 eb] 61))) := C1'.out.trans (hA.mono C1'.out.size)
    have ZA : Hid _ := NumZ.later Z1'.out hA
    have YA : Hid _ := NumZ.later Y1'.out hA
    have XA : Hid _ := NumZ.later Qa ((Below.refl _ m1).alloc (Nat.le_refl _) (Obj.cells #[Value.bool na, Value.slice oa la ca, Value.int IntKind.i64 ea, Value.bool nb, Value.slice ob lb cb, Value.int IntKind.i64 eb] 61))
    have XB : Hid _ := NumZ.later Qb ((Below.refl _ m1).alloc (Nat.le_refl _) (Obj.cells #[Value.bool na, Value.slice oa la ca, Value.int IntKind.i64 ea, Value.bool nb, Value.slice ob lb cb, Value.int IntKind.i64 eb] 61))
    have RM : Hid _ := RDM
    clear hS hA RDM Qa Qb g0 g1 h0 h1 K1x K1y GR_1' C1' Z1' Y1'
    obtain ⟨Bl, hBl⟩ : ∃ B, m1.heap.size = B := ⟨_, rfl⟩
    rw [hBl] at RC RM ⊢
    generalize m1.alloc (Obj.cells #[Value.bool na, Value.slice oa la ca, Value.int IntKind.i64 ea, Value.bool nb, Value.slice ob lb cb, Value.int IntKind.i64 eb] 61) = W5 at RC KA KB KG CA ZA YA XA XB RM ⊢
    clear hBl
    obtain ⟨x0, x1, x2⟩ := cells3 KA.out
    go_wp2_with fail
    refine Calls.mono (signZ_any _ E 1024 z1 _ ZA.out) ?_
    rintro e m2 ⟨rfl, g2⟩
    have KB2 : Hid _ := keep0 KB.out g2
    have KG2 : Hid _ := keep0 KG.out g2
    have CA2 : Hid (Below w.heap.size w m2) := CA.out.trans (g2.mono CA.out.size)
    have YA2 : Hid _ := NumZ.later YA.out g2
    have XA2 : Hid _ := NumZ.later XA.out g2
    have XB2 : Hid _ := NumZ.later XB.out g2
    have RM2 : Hid _ := RdM.later RM.out g2
    have hbl : Bl < W5.heap.size := World.block_lt_of_cell? W5 ⟨Bl, 0, none⟩ (RC.out 0 _ rfl)
    have RC2 : Hid (∀ j u, #[Value.bool na, Value.slice oa la ca, Value.int IntKind.i64 ea, Value.bool nb, Value.slice ob lb cb, Value.int IntKind.i64 eb][j]? = some u → m2.cell? ⟨Bl, j, none⟩ = some u) := fun j u h => by rw [g2.cell (p := ⟨Bl, j, none⟩) hbl]; exact RC.out j u h
    clear g2 KA KB KG CA ZA YA XA XB RM RC x0 x1 x2 hbl
    by_cases hz : z1 ≤ 0
    · have hd1 : decide (sgi z1 ≤ 0) = true := decide_eq_true (by unfold sgi; split; omega; split <;> omega)
      generalize sgi z1 = s1 at hd1 ⊢
      obtain ⟨x0, x1, x2⟩ := cells3 KB2.out
      go_wp2_with fail
      refine Calls.mono (signZ_any _ E 1024 y1 _ YA2.out) ?_
      rintro e m3 ⟨rfl, g3⟩
      have KG3 : Hid _ := keep0 KG2.out g3
      have CA3 : Hid (Below w.heap.size w m3) := CA2.out.trans (g3.mono CA2.out.size)
      have XA3 : Hid _ := NumZ.later XA2.out g3
      have XB3 : Hid _ := NumZ.later XB2.out g3
      have RM3 : Hid _ := RdM.later RM2.out g3
      have hbl : Bl < m2.heap.size := World.block_lt_of_cell? m2 ⟨Bl, 0, none⟩ (RC2.out 0 _ rfl)
      have RC3 : Hid (∀ j u, #[Value.bool na, Value.slice oa la ca, Value.int IntKind.i64 ea, Value.bool nb, Value.slice ob lb cb, Value.int IntKind.i64 eb][j]? = some u → m3.cell? ⟨Bl, j, none⟩ = some u) := fun j u h => by rw [g3.cell (p := ⟨Bl, j, none⟩) hbl]; exact RC2.out j u h
      clear g3 KB2 KG2 CA2 YA2 XA2 XB2 RM2 RC2 x0 x1 x2 hbl
      by_cases hy : 0 ≤ y1
      · have hd2 : decide (0 ≤ sgi y1) = true := decide_eq_true (by unfold sgi; split; omega; split <;> omega)
        generalize sgi y1 = s2 at hd2 ⊢
        have hPn : ∀ j u, #[Value.bool false, Value.slice none 0 0, Value.int IntKind.i64 0][j]? = some u → (m3.alloc (.cells #[Value.bool false, Value.slice none 0 0, Value.int IntKind.i64 0] 61)).cell? ⟨m3.heap.size, j, none⟩ = some u := row_cells (heap_alloc_new m3 _)
        have bN : Below m3.heap.size m3 (m3.alloc (.cells #[Value.bool false, Value.slice none 0 0, Value.int IntKind.i64 0] 61)) := (Below.refl _ m3).alloc (Nat.le_refl _) _
        have hbl : Bl < m3.heap.size := World.block_lt_of_cell? m3 ⟨Bl, 0, none⟩ (RC3.out 0 _ rfl)
        have RC4 : Hid (∀ j u, #[Value.bool na, Value.slice oa la ca, Value.int IntKind.i64 ea, Value.bool nb, Value.slice ob lb cb, Value.int IntKind.i64 eb][j]? = some u → (m3.alloc (.cells #[Value.bool false, Value.slice none 0 0, Value.int IntKind.i64 0] 61)).cell? ⟨Bl, j, none⟩ = some u) := fun j u h => by rw [bN.cell (p := ⟨Bl, j, none⟩) hbl]; exact RC3.out j u h
        have PN : Hid _ := hPn
        have BN : Hid _ := bN
        clear hPn bN hbl
        go_wp2_with (first | (refine appendN _ (by rfl) (.tmp 31) (.tmp 33) (by rfl) _ _ _ _ _ _ _ _ _ _ Bl m3.heap.size (by rfl) RC4.out (by rfl) PN.out ?_; intro gq cq wq hcq hcm hcl hbq))
        have B5 : Hid (Below m3.heap.size m3 wq) := to_b BN.out hbq
        have HCL : Hid _ := hcl
        clear hcl hbq BN PN RC4
        have RM5 : Hid (RdM wq gq 0 3 (E + E) 2048 (fun j => if j = 0 then z1 * z1 else if j = 1 then y1 * y1 else 0)) := rdm3 HCL.out (NumZ.later XA3.out B5.out) (NumZ.later XB3.out B5.out) ⟨false, 0, 0, ⟨none, 0, 0, [], rfl, Rd4.none _, Or.inl rfl, rfl⟩, by omega, by rw [bl_zero]; omega, zv_zero _ _ _⟩
        refine Calls.mono (hull_any gq 0 3 cq (E + E) E 2048 _ _ RM5.out (by omega) (by omega) (by omega) E hE rfl (by omega) (by omega)) ?_
        rintro e w4 ⟨r, rfl, hr0, bw⟩
        have HR : Hid (UnR (SpR (sqLo al ah * sqLo al ah) (sqHi al ah * sqHi al ah) (2 ^ E)) al ah ab r) := HSP.out r (by rw [(sq_three hle ⟨hz, hy⟩).1, (sq_three hle ⟨hz, hy⟩).2] at hr0; exact hr0)
        have R4 : Hid _ := keep0 (keep0 KG3.out B5.out) bw
        have C4 : Hid (Below w.heap.size w w4) := (CA3.out.trans (B5.out.mono CA3.out.size)).trans (bw.mono (CA3.out.trans (B5.out.mono CA3.out.size)).size)
        clear bw hr0
        obtain ⟨r0, r1, r2⟩ := cells3 R4.out
        have fz := fun j => frozen_of_row _ _ j _ _ R4.out
        go_wp2_with fail
        refine bodyPost_ret (v := .agg #[.int .u64 (r.1 : Int), .int .u64 (r.2.1 : Int), .bool r.2.2]) (res_su _ 2 (by kernel_rfl) _ _ (w.heap.size + 1) _ _ _ ?_ (setsp_heap _ _ _ R4.out)) rfl ?_
        · rfl
        · exact ⟨r, rfl, HR.out, below_setsp _ _ _ C4.out (by omega)⟩
      · have hd2 : decide (0 ≤ sgi y1) = false := decide_eq_false (by unfold sgi; split; omega; split <;> omega)
        generalize sgi y1 = s2 at hd2 ⊢
        go_wp2_with fail
        refine Calls.mono (hull_any Bl 0 2 2 (E + E) E 2048 _ _ RM3.out (by omega) (by omega) (by omega) E hE rfl (by omega) (by omega)) ?_
        rintro e w4 ⟨r, rfl, hr0, bw⟩
        have HR : Hid (UnR (SpR (sqLo al ah * sqLo al ah) (sqHi al ah * sqHi al ah) (2 ^ E)) al ah ab r) := HSP.out r (by rw [(sq_two hle (by omega)).1, (sq_two hle (by omega)).2] at hr0; exact hr0)
        have R4 : Hid _ := keep0 KG3.out bw
        have C4 : Hid (Below w.heap.size w w4) := CA3.out.trans (bw.mono CA3.out.size)
        clear bw hr0
        obtain ⟨r0, r1, r2⟩ := cells3 R4.out
        have fz := fun j => frozen_of_row _ _ j _ _ R4.out
        go_wp2_with fail
        refine bodyPost_ret (v := .agg #[.int .u64 (r.1 : Int), .int .u64 (r.2.1 : Int), .bool r.2.2]) (res_su _ 2 (by kernel_rfl) _ _ (w.heap.size + 1) _ _ _ ?_ (setsp_heap _ _ _ R4.out)) rfl ?_
        · rfl
        · exact ⟨r, rfl, HR.out, below_setsp _ _ _ C4.out (by omega)⟩
    · have hd1 : decide (sgi z1 ≤ 0) = false := decide_eq_false (by unfold sgi; split; omega; split <;> omega)
      generalize sgi z1 = s1 at hd1 ⊢
      go_wp2_with fail
      refine Calls.mono (hull_any Bl 0 2 2 (E + E) E 2048 _ _ RM2.out (by omega) (by omega) (by omega) E hE rfl (by omega) (by omega)) ?_
      rintro e w4 ⟨r, rfl, hr0, bw⟩
      have HR : Hid (UnR (SpR (sqLo al ah * sqLo al ah) (sqHi al ah * sqHi al ah) (2 ^ E)) al ah ab r) := HSP.out r (by rw [(sq_two hle (by omega)).1, (sq_two hle (by omega)).2] at hr0; exact hr0)
      have R4 : Hid _ := keep0 KG2.out bw
      have C4 : Hid (Below w.heap.size w w4) := CA2.out.trans (bw.mono CA2.out.size)
      clear bw hr0
      obtain ⟨r0, r1, r2⟩ := cells3 R4.out
      have fz := fun j => frozen_of_row _ _ j _ _ R4.out
      go_wp2_with fail
      refine bodyPost_ret (v := .agg #[.int .u64 (r.1 : Int), .int .u64 (r.2.1 : Int), .bool r.2.2]) (res_su _ 2 (by kernel_rfl) _ _ (w.heap.size + 1) _ _ _ ?_ (setsp_heap _ _ _ R4.out)) rfl ?_
      · rfl
      · exact ⟨r, rfl, HR.out, below_setsp _ _ _ C4.out (by omega)⟩
  · rw [decide_eq_false hg]
    have HSP : Hid (UnR (SpR (sqLo al ah * sqLo al ah) (sqHi al ah * sqHi al ah) (2 ^ E)) al ah ab (0, 0, true)) := by unfold Hid UnR; rw [if_neg hg]
    clear hg F1 H1
    go_upto_region 2 with fail
    have HR1 : w.heap.size + 1 < w1.heap.size := blk_lt GR_1.out
    obtain ⟨k0, k1, -, kb⟩ := alloc2_facts w1 (Obj.cells #[Value.bool nx1, Value.slice ao1 len1 cap1, Value.int IntKind.i64 ex1] 61) (Obj.cells #[Value.bool ny1, Value.slice bo1 blen1 bcap1, Value.int IntKind.i64 ey1] 61)
    have K1x : Hid _ := k0
    have K1y : Hid _ := k1
    have C1' : Hid (Below w.heap.size w ((w1.alloc (Obj.cells #[Value.bool nx1, Value.slice ao1 len1 cap1, Value.int IntKind.i64 ex1] 61)).alloc (Obj.cells #[Value.bool ny1, Value.slice bo1 blen1 bcap1, Value.int IntKind.i64 ey1] 61))) := C_1.out.trans (kb.mono C_1.out.size)
    have GR_1' : Hid _ := (kb.block _ (blk_lt GR_1.out)).trans GR_1.out
    have Z1' : Hid _ := NumZ.later Z1.out kb
    have Y1' : Hid _ := NumZ.later Y1.out kb
    clear k0 k1 kb C_1 GR_1 Z1 Y1
    generalize ((w1.alloc (Obj.cells #[Value.bool nx1, Value.slice ao1 len1 cap1, Value.int IntKind.i64 ex1] 61)).alloc (Obj.cells #[Value.bool ny1, Value.slice bo1 blen1 bcap1, Value.int IntKind.i64 ey1] 61)) = V1 at K1x K1y C1' GR_1' Z1' Y1' ⊢
    go_wp2_with fail
    refine Calls.mono (refBad_any _) ?_
    rintro e w4 ⟨rfl, bw⟩
    have R4 : Hid _ := (bw.block _ (blk_lt GR_1'.out)).trans GR_1'.out
    have C4 : Hid (Below w.heap.size w w4) := C1'.out.trans (bw.mono C1'.out.size)
    clear bw
    obtain ⟨r0, r1, r2⟩ := cells3 R4.out
    have fz := fun j => frozen_of_row _ _ j _ _ R4.out
    go_wp2_with fail
    refine bodyPost_ret (v := .agg #[.int .u64 0, .int .u64 0, .bool true]) (res_su _ 2 (by kernel_rfl) _ _ (w.heap.size + 1) _ _ _ ?_ (setsp_heap _ _ _ R4.out)) rfl ?_
    · rfl
    · exact ⟨(0, 0, true), rfl, HSP.out, below_setsp _ _ _ C4.out (by omega)⟩
end Go.Proofs.YtnjjichanfpbhaaGreat
