import Derived.Test.YtoehhnildocihaaSCh
import Derived.Test.YtoehhnildocihaaSCf
namespace Go.Proofs.Ytoehhnildocihaa
open Go.RowKit Go.Shelf
set_option linter.unusedVariables false
set_option linter.unusedSimpArgs false
theorem blC_low {m : Nat} (h : m ≠ 0) : ∃ k, bl m = k + 1 ∧ 2 ^ k ≤ m := ⟨m.log2, by unfold bl; rw [if_neg h], Nat.log2_self_le h⟩
/-- How great it is tells how far it reaches. -/
theorem NumC.tight {w : World} {v : Value} {s : Nat} {T T' z : Int} (h : NumC w v s T z) (hT : 0 ≤ T') {X : Nat} (hX : (X : Int) = s + T') (hz : z.natAbs < 2 ^ X) : NumC w v s T' z := by
  obtain ⟨neg, m, e, h1, h2, h3, h4, h5⟩ := h
  refine ⟨neg, m, e, h1, h2, ?_, h4, h5⟩
  by_cases hm : m = 0
  · rw [h5 hm, hm, bl_zero]; omega
  · obtain ⟨k, hk, hk2⟩ := blC_low hm
    rw [hk]
    have hv : z.natAbs = m * 2 ^ (e + s).toNat := by
      rw [← h4]
      unfold zv sv
      rw [Int.natAbs_mul, Int.natAbs_natCast]
      congr 1
      split <;> simp
    rw [hv] at hz
    have h6 : 2 ^ k * 2 ^ (e + s).toNat < 2 ^ X := Nat.lt_of_le_of_lt (Nat.mul_le_mul_right _ hk2) hz
    rw [← Nat.pow_add] at h6
    have h7 := (Nat.pow_lt_pow_iff_right (by omega : 1 < 2)).1 h6
    omega
theorem movedC_any (v : Value) (s L : Nat) (T x : Int) (w : World) (hL : L ≤ 8) (hs : s ≤ 20000) (hT : 0 ≤ T ∧ T ≤ 20000) (hx : NumC w v s T x) :
    Calls Try.prog 39 #[v, .int .i64 (-(L : Int))] w fun e' w' => ∃ v', e' = .returned v' ∧ NumC w' v' (s + 8) T (x * ((2 ^ (8 - L) : Nat) : Int)) ∧ Below w.heap.size w w' := by
  obtain ⟨neg, m, e, h1, h2, h3, h4, h5⟩ := hx
  refine (moved_any v neg m e (-(L : Int)) ⟨by omega, by omega⟩ ⟨by omega, by omega⟩ w h1).mono ?_
  rintro e' w' ⟨v', rfl, hv', hb⟩
  refine ⟨v', rfl, ⟨neg, m, _, hv', ?_, ?_, ?_, ?_⟩, hb⟩
  · split <;> omega
  · by_cases hm : m = 0
    · rw [if_pos hm, h5 hm, hm, bl_zero]; omega
    · rw [if_neg hm]; omega
  · by_cases hm : m = 0
    · subst hm
      rw [if_pos rfl, ← h4]
      unfold zv sv
      split <;> simp
    · rw [if_neg hm, ← h4]
      unfold zv
      rw [Int.mul_assoc, ← Int.natCast_mul, ← Nat.pow_add]
      congr 3
      omega
  · intro hm
    rw [if_pos hm]
    exact h5 hm
theorem saK_lt {us : List Nat} {G k : Nat} (hG : G = 2120) (hd : ∀ j : Nat, Fin (us[j]?.getD 0)) (hk : k ≤ 1050000) : saK us k < 2 ^ G := by
  obtain ⟨F, hF⟩ : ∃ F : Nat, F = 2098 := ⟨_, rfl⟩
  have hb := saK_le hF hd k
  have h1 : k * 2 ^ F ≤ 1050000 * 2 ^ F := Nat.mul_le_mul_right _ hk
  have hm : 1050000 * 2 ^ F < 2 ^ G := by
    rw [show G = F + 22 by omega, Nat.pow_add, Nat.mul_comm]
    exact Nat.mul_lt_mul_of_pos_left (by decide) (Nat.two_pow_pos F)
  omega
set_option maxRecDepth 100000 in
set_option maxHeartbeats 4000000 in
theorem bySize_any (go la ba : Option Addr) (n gc c d : Nat) (gv : Nat → Option Addr × Nat × Nat) (gs : List (List Nat)) (ls : List Int) (zs : List (Int × Int)) (E : Nat) (hE : E = 1074) (w : World) (hn : n ≤ 256) (hlv : ∀ j, j < n → (zs[j]?.getD (0, 0)).1 = ls[j]?.getD 0 ∧ 0 ≤ ls[j]?.getD 0 ∧ ls[j]?.getD 0 ≤ 8) (hg : RdGu w go n gc gv gs) (hgl : ∀ j, j < n → (gs[j]?.getD []).length ≤ 1050000 ∧ ∀ u ∈ gs[j]?.getD [], u < 18446744073709551616) (hl : RdIs w la n c ls) :
    Calls Try.prog 17 #[.slice go n gc, .agg #[.slice la n c, .slice ba n d]] w fun e w' => e = .returned (.int .i64 (blV gs zs n)) ∧ Below w.heap.size w w' := by
  have HG : Hid (∀ W', Below w.heap.size w W' → RdGu W' go n gc gv gs) := fun W' hb => hg.later hb
  have HL : Hid (∀ W', Below w.heap.size w W' → RdIs W' la n c ls) := fun W' hb => hl.later hb
  have HLV : Hid (∀ j, j < n → (zs[j]?.getD (0, 0)).1 = ls[j]?.getD 0 ∧ 0 ≤ ls[j]?.getD 0 ∧ ls[j]?.getD 0 ≤ 8) := hlv
  have HGL : Hid (∀ j, j < n → (gs[j]?.getD []).length ≤ 1050000 ∧ ∀ u ∈ gs[j]?.getD [], u < 18446744073709551616) := hgl
  have HE : Hid (E = 1074) := hE
  obtain ⟨R, hR⟩ : ∃ R : Int, blV gs zs n = R := ⟨_, rfl⟩
  have HRES : Hid (blV gs zs n = R) := hR
  obtain ⟨D, hD⟩ : ∃ D : Nat → Int, colD gs zs = D := ⟨_, rfl⟩
  have HD : Hid (∀ j, D j = (saK (gs[j]?.getD []) (gs[j]?.getD []).length : Int) * ((2 ^ (8 - (zs[j]?.getD (0, 0)).1.toNat) : Nat) : Int)) := fun j => by rw [← hD]; rfl
  have HRD : Hid ((List.range n).all (fun s => numsB (gs[s]?.getD [])) = true → (grK D n).1 = R) := fun h => by rw [← hR, ← hD]; unfold blV; rw [if_pos h]
  rw [hR]
  clear hg hl hlv hgl hE hR hD
  have X0 : Below w.heap.size w ((w.alloc (.cells #[.slice la n c, .slice ba n d] 30)).alloc (.cells #[.bool false, .slice none 0 0, .int .i64 0] 87)) := below_al (below_al (Below.refl _ w) _) _
  have Y0 : ((w.alloc (.cells #[.slice la n c, .slice ba n d] 30)).alloc (.cells #[.bool false, .slice none 0 0, .int .i64 0] 87)).heap[w.heap.size]? = some (.cells #[.slice la n c, .slice ba n d] 30) := alloc_kept (heap_alloc_new w _) _
  have Y1 : ((w.alloc (.cells #[.slice la n c, .slice ba n d] 30)).alloc (.cells #[.bool false, .slice none 0 0, .int .i64 0] 87)).heap[w.heap.size + 1]? = some (.cells #[.bool false, .slice none 0 0, .int .i64 0] 87) := alloc_at _ _ _ (by simp)
  go_enter Try.func17, Try.ntmps17
  go_upto_region 3 with fail
  obtain ⟨X, hX⟩ : ∃ X, ((w.alloc (.cells #[.slice la n c, .slice ba n d] 30)).alloc (.cells #[.bool false, .slice none 0 0, .int .i64 0] 87)) = X := ⟨_, rfl⟩
  rw [hX] at X0 Y0 Y1 ⊢
  have T0 : Hid (Below w.heap.size w X ∧ X.heap[w.heap.size]? = some (.cells #[.slice la n c, .slice ba n d] 30) ∧ ∃ q1 q2 q3 q4 q5, BxN X (w.heap.size + 1) (E + 8) 1046 ((grK D 0).2) q1 q2 q3 q4 q5) := ⟨X0, Y0, false, none, 0, 0, 0, Y1, NumC.zeroJ _ _ _ (by decide)⟩
  clear hX X0 Y0 Y1
  go_wp2_with fail
  go_loopg [5, 7] n (fun g bv iv wx => ∃ (j : Nat) (best : Int), bv = .int .i64 best ∧ iv = .int .i64 j ∧ j + g = n ∧ Hid (best = (grK D j).1) ∧ Hid ((List.range j).all (fun s => numsB (gs[s]?.getD [])) = true) ∧ Hid (Below w.heap.size w wx ∧ wx.heap[w.heap.size]? = some (.cells #[.slice la n c, .slice ba n d] 30) ∧ ∃ q1 q2 q3 q4 q5, BxN wx (w.heap.size + 1) (E + 8) 1046 ((grK D j).2) q1 q2 q3 q4 q5))
  case atStart => exact ⟨0, -1, rfl, rfl, by omega, rfl, rfl, T0⟩
  case round =>
    clear T0
    obtain ⟨j, best, rfl, rfl, hj, HBE, HAL, TT⟩ := hrel
    obtain ⟨t1, t2, n7, o7, l7, c7, x7, B7⟩ := TT.out
    have P2 : Hid (Below w.heap.size w wr ∧ wr.heap[w.heap.size]? = some (.cells #[.slice la n c, .slice ba n d] 30) ∧ BxN wr (w.heap.size + 1) (E + 8) 1046 ((grK D j).2) n7 o7 l7 c7 x7) := ⟨t1, t2, B7⟩
    clear TT t1 t2 B7
    by_cases hlt : j < n
    · have e1 : decide ((j : Int) < (n : Int)) = true := decide_eq_true (by omega)
      obtain ⟨q, rfl⟩ : ∃ q, gk = q + 1 := ⟨gk - 1, by omega⟩
      have HIG : Hid (j + (q + 1) = n) := hj
      have hlt' : (j : Int) < (n : Int) := by omega
      have gg := HG.out _ P2.out.1
      rcases gg.cells with h0 | ⟨gb, goff, rfl, hcg⟩
      · omega
      have gc9 := hcg j hlt
      have rg := gg.each j hlt
      obtain ⟨x1, ex1⟩ : ∃ t, (gv j).1 = t := ⟨_, rfl⟩
      obtain ⟨x2, ex2⟩ : ∃ t, (gv j).2.1 = t := ⟨_, rfl⟩
      obtain ⟨x3, ex3⟩ : ∃ t, (gv j).2.2 = t := ⟨_, rfl⟩
      rw [ex1, ex2, ex3] at rg gc9
      have hx2 : (gs[j]?.getD []).length = x2 := rg.length
      have hxl : x2 ≤ 1050000 := by rw [← hx2]; exact (HGL.out j hlt).1
      have HX2 : Hid ((gs[j]?.getD []).length = x2) := hx2
      obtain ⟨us, hus⟩ : ∃ us, gs[j]?.getD [] = us := ⟨_, rfl⟩
      have HUS : Hid (gs[j]?.getD [] = us) := hus
      rw [hus] at rg hx2
      have HEX : Hid (Calls Try.prog 33 #[.slice x1 x2 x3] wr fun e w' => (∃ v, e = .returned (.tuple #[v, .bool (numsB us)]) ∧ (numsB us = true → RowN w' wr.heap.size v E us)) ∧ Below wr.heap.size wr w') := exact_any x1 x2 x3 us E HE.out wr rg (by rw [← hus]; exact (HGL.out j hlt).2) hxl
      obtain ⟨nb, hnb⟩ : ∃ nb, numsB us = nb := ⟨_, rfl⟩
      have HNB : Hid (numsB us = nb) := hnb
      rw [hnb] at HEX
      clear gg hcg rg ex1 ex2 ex3 hus hnb hj
      go_wp2_with fail
      refine Calls.mono HEX.out ?_
      rintro e w5 ⟨⟨v8, rfl, hv8⟩, b5⟩
      have P5 : Hid (Below w.heap.size w w5 ∧ w5.heap[w.heap.size]? = some (.cells #[.slice la n c, .slice ba n d] 30) ∧ BxN w5 (w.heap.size + 1) (E + 8) 1046 ((grK D j).2) n7 o7 l7 c7 x7) := ⟨to_call P2.out.1 b5, kept b5 P2.out.2.1, ⟨kept b5 P2.out.2.2.row, P2.out.2.2.num.later b5⟩⟩
      have HV8 : Hid (nb = true → RowN w5 wr.heap.size v8 E us) := hv8
      clear P2 HEX gc9 b5 hv8
      cases nb with
      | false =>
        have HQ : Hid (R = -1) := by
          unfold Hid
          rw [← HRES.out]
          unfold blV
          rw [if_neg]
          intro hc
          have := List.all_eq_true.1 hc j (List.mem_range.2 hlt)
          rw [HUS.out, HNB.out] at this
          cases this
        go_wp2_with fail
        go_ret
        exact ⟨by rw [HQ.out]; rfl, P5.out.1⟩
      | true =>
        have HAL2 : Hid ((List.range (j + 1)).all (fun s => numsB (gs[s]?.getD [])) = true) := by
          unfold Hid
          rw [List.range_succ, List.all_append, HAL.out]
          simp [HUS.out, HNB.out]
        have HRW : Hid (∀ W, Below w5.heap.size w5 W → RowN W wr.heap.size v8 E us) := fun W hb => (HV8.out rfl).later hb
        have HFI : Hid (∀ i : Nat, Fin (us[i]?.getD 0)) := fins_num HNB.out
        obtain ⟨vo, vc, hvf⟩ := (HV8.out rfl).form
        rw [hx2] at hvf
        subst hvf
        clear HV8 HAL
        go_upto_region 10 with fail
        obtain ⟨V5, hV5⟩ : ∃ V5, (w5.alloc (.cells #[.bool false, .slice none 0 0, .int .i64 0] 87)) = V5 := ⟨_, rfl⟩
        obtain ⟨B10, hB10⟩ : ∃ b, w5.heap.size = b := ⟨_, rfl⟩
        have A5 : Below w5.heap.size w5 V5 := by rw [← hV5]; exact (Below.refl _ w5).alloc (Nat.le_refl _) _
        have Y5 : V5.heap[B10]? = some (.cells #[.bool false, .slice none 0 0, .int .i64 0] 87) := by rw [← hV5, ← hB10]; exact heap_alloc_new w5 _
        have HB10 : Hid (w5.heap.size ≤ B10) := by unfold Hid; omega
        have I0 : Hid (Below w5.heap.size w5 V5 ∧ ∃ q1 q2 q3 q4 q5, BxN V5 B10 E 1046 (saK us 0 : Int) q1 q2 q3 q4 q5) := ⟨A5, false, none, 0, 0, 0, Y5, NumC.zeroJ _ _ _ (by decide)⟩
        rw [hV5, hB10]
        clear hV5 hB10 A5 Y5
        go_wp2_with fail
        go_loopg [11] x2 (fun g iv wx => ∃ i : Nat, iv = .int .i64 i ∧ i + g = x2 ∧ Hid (Below w5.heap.size w5 wx ∧ ∃ q1 q2 q3 q4 q5, BxN wx B10 E 1046 (saK us i : Int) q1 q2 q3 q4 q5))
        case atStart => exact ⟨0, rfl, by omega, I0⟩
        case round =>
          clear I0
          obtain ⟨i, rfl, hi, II⟩ := hrel
          obtain ⟨t1, n3, o3, l3, c3, x3q, B3'⟩ := II.out
          have B3 : Hid (Below w5.heap.size w5 wr ∧ BxN wr B10 E 1046 (saK us i : Int) n3 o3 l3 c3 x3q) := ⟨t1, B3'⟩
          clear II t1 B3'
          by_cases hil : i < x2
          · have f1 : decide ((i : Int) < (x2 : Int)) = true := decide_eq_true (by omega)
            obtain ⟨qr, rfl⟩ : ∃ q, gk = q + 1 := ⟨gk - 1, by omega⟩
            have HJG : Hid (i + (qr + 1) = x2) := hi
            have hil' : (i : Int) < (x2 : Int) := by omega
            obtain ⟨eb, qb, en, eo, el, ec, ee, va', ra, za⟩ := RowN.range (HRW.out wr B3.out.1) (k := i) (by rw [hx2]; exact hil)
            rw [hx2] at va'
            have hvo : vo = some ⟨eb, 0, none⟩ := by injection va'
            subst hvo
            have R1 : Hid (wr.rangeAt eb (i * 3) [.bool en, .slice eo el ec, .int .i64 ee]) := ra
            have Z1 : Hid (NumC wr (.agg #[.bool en, .slice eo el ec, .int .i64 ee]) E 1024 (fval (us[i]?.getD 0))) := za
            clear ra za va' hi
            go_upto_region 13 with fail
            refine wp_region_noPanic ?_
            refine wp_region_P (S := (fun V => Below wr.heap.size wr V)) (s := 7) (by kernel_rfl) ?_
            have SX : Below wr.heap.size wr wr.drew := (Below.refl _ _).drew
            refine takeP 36 (i := 0) (v := .agg #[.bool n3, .slice o3 l3 c3, .int .i64 x3q]) rfl rfl (by kernel_rfl) (by kernel_rfl) (by kernel_rfl) (by kernel_rfl) rfl (by kernel_rfl) (fun _ _ _ h => h) (Or.inl ⟨by kernel_rfl, fun w' hSw => ex_loadRN _ 87 _ rfl B10 (by kernel_rfl) w' _ (kept hSw B3.out.2.row) _ Try.underlying87 rfl 3 Try.infoN3 rfl⟩) SX ?_
            try simp only [Act.put, List.setIfInBounds_toArray, List.set_cons_zero, List.set_cons_succ]
            refine takeP 37 (i := 1) (v := ?_) rfl rfl (by kernel_rfl) (by kernel_rfl) (by kernel_rfl) (by kernel_rfl) rfl (by kernel_rfl) (fun _ _ _ h => h) (Or.inl ⟨by kernel_rfl, ?_⟩) SX ?_
            rotate_left
            · intro w' hSw; skip; go_simp; try with_reducible rfl
            try simp only [Act.put, List.setIfInBounds_toArray, List.set_cons_zero, List.set_cons_succ]
            refine takeP 38 (i := 2) (v := ?_) rfl rfl (by kernel_rfl) (by kernel_rfl) (by kernel_rfl) (by kernel_rfl) rfl (by kernel_rfl) (fun _ _ _ h => h) (Or.inl ⟨by kernel_rfl, ?_⟩) SX ?_
            rotate_left
            · intro w' hSw; skip; go_simp; try with_reducible rfl
            try simp only [Act.put, List.setIfInBounds_toArray, List.set_cons_zero, List.set_cons_succ]
            refine takeP 39 (i := 3) (v := ?_) rfl rfl (by kernel_rfl) (by kernel_rfl) (by kernel_rfl) (by kernel_rfl) rfl (by kernel_rfl) (fun _ _ _ h => h) (Or.inl ⟨by kernel_rfl, ?_⟩) SX ?_
            rotate_left
            · intro w' hSw; skip; go_simp; try with_reducible rfl
            try simp only [Act.put, List.setIfInBounds_toArray, List.set_cons_zero, List.set_cons_succ]
            refine takeP 40 (i := 4) (v := .agg #[.bool en, .slice eo el ec, .int .i64 ee]) rfl rfl (by kernel_rfl) (by kernel_rfl) (by kernel_rfl) (by kernel_rfl) rfl (by kernel_rfl) (fun _ _ _ h => h) (yieldsIf_load_mid (by kernel_rfl) 87 _ rfl eb (i * 3) (by kernel_rfl) #[.bool en, .slice eo el ec, .int .i64 ee].toList _ (fun V' hS => (range_later R1.out hS : V'.rangeAt eb (i * 3) [.bool en, .slice eo el ec, .int .i64 ee])) Try.underlying87 rfl (by kernel_rfl)) SX ?_
            try simp only [Act.put, List.setIfInBounds_toArray, List.set_cons_zero, List.set_cons_succ]
            refine wpAnyP_ready (rs := [5]) (by kernel_rfl) (by simp) ?_
            refine consP _ rfl (hopCd 41 rfl (by kernel_rfl) rfl (by kernel_rfl) (Calls.mono (sizeC_any _ _ _ _ _ (NumC.later Z1.out SX)) ?_)) AllReadyP.nil
            rintro e V1 ⟨v1, rfl, hz1, b1⟩
            obtain ⟨n1, o1, t1, p1, x1q, hv1⟩ := hz1.form
            subst hv1
            have SX : Below wr.heap.size wr V1 := to_call SX b1
            clear b1
            refine ⟨_, rfl, SX, ?_⟩
            try simp only [Act.put, List.setIfInBounds_toArray, List.set_cons_zero, List.set_cons_succ]
            refine wpAnyP_ready (rs := [6]) (by kernel_rfl) (by simp) ?_
            refine consP _ rfl (hopCd 42 rfl (by kernel_rfl) rfl (by kernel_rfl) (Calls.mono (plusC_any _ _ E 1046 _ _ _ (NumC.later B3.out.2.num SX) (hz1.mono (by omega)) (by have := HE.out; omega) (by omega)) ?_)) AllReadyP.nil
            rintro e V2 ⟨v2, rfl, hz2, b2⟩
            obtain ⟨n2, o2, t2, p2, x2q, hv2⟩ := hz2.form
            subst hv2
            have SX : Below wr.heap.size wr V2 := to_call SX b2
            clear b2 hz1
            refine ⟨_, rfl, SX, ?_⟩
            try simp only [Act.put, List.setIfInBounds_toArray, List.set_cons_zero, List.set_cons_succ]
            refine wpAnyP_ready (rs := [7]) (by kernel_rfl) (by simp) ?_
            refine consPs _ rfl (by kernel_rfl) (hopL rfl (wpList_store_row (by rfl) 87 _ _ (by rfl) w5 w5.heap.size B10 #[.bool n2, .slice o2 t2 p2, .int .i64 x2q] _ (by kernel_rfl) (by kernel_rfl) (kept SX B3.out.2.row) (to_call B3.out.1 SX) HB10.out 3 Try.infoN3 rfl rfl (oneN _ _ _ _ _) fun V3 e3 b3 s3 k3 => ?_)) AllReadyP.nil
            refine ⟨trivial, ?_⟩
            refine put_noneP rfl ?_
            refine wpAnyP_done (by kernel_rfl) ?_ _
            refine NoPanic.normal ?_
            try simp only [Act.put, List.setIfInBounds_toArray, List.set_cons_zero, List.set_cons_succ]
            have I2 : Hid (Below w5.heap.size w5 V3 ∧ ∃ q1 q2 q3 q4 q5, BxN V3 B10 E 1046 (saK us (i + 1) : Int) q1 q2 q3 q4 q5) := by
              refine ⟨b3, n2, o2, t2, p2, x2q, e3, ?_⟩
              have hz3 := hz2.cl (num_cl (kept SX B3.out.2.row)) (fun b hb _ => k3 b hb)
              have ev : (saK us i : Int) + ((fval (us[i]?.getD 0)).natAbs : Int) = ((saK us (i + 1) : Nat) : Int) := by
                rw [fval_absJ]
                show _ = ((saK us i + rmag (frung (us[i]?.getD 0)) : Nat) : Int)
                omega
              rw [ev] at hz3
              obtain ⟨G, hG⟩ : ∃ G : Nat, G = 2120 := ⟨_, rfl⟩
              exact NumC.tight hz3 (by decide) (X := G) (by rw [hG, HE.out]; rfl) (by rw [Int.natAbs_natCast]; exact saK_lt hG HFI.out (by omega))
            clear SX e3 b3 s3 k3 hz2 B3 R1 Z1
            go_wp2_with fail
            go_roundg qr
            case measure => omega
            case rel => exact ⟨i + 1, by go_num, by have := HJG.out; omega, I2⟩
          · have f1 : decide ((i : Int) < (x2 : Int)) = false := decide_eq_false (by omega)
            have f2 : decide (i < x2) = false := decide_eq_false hil
            have ei : i = x2 := by omega
            rw [ei] at B3
            have P6 : Hid (Below w.heap.size w wr ∧ wr.heap[w.heap.size]? = some (.cells #[.slice la n c, .slice ba n d] 30) ∧ BxN wr (w.heap.size + 1) (E + 8) 1046 ((grK D j).2) n7 o7 l7 c7 x7) := ⟨to_call P5.out.1 B3.out.1, kept B3.out.1 P5.out.2.1, ⟨kept B3.out.1 P5.out.2.2.row, P5.out.2.2.num.later B3.out.1⟩⟩
            have hlvj := HLV.out j hlt
            rcases (HL.out _ P6.out.1).cells with h0 | ⟨lb, lo, rfl, hcl⟩
            · omega
            have gl := hcl j hlt
            obtain ⟨lz, hlz⟩ : ∃ lz, ls[j]?.getD 0 = lz := ⟨_, rfl⟩
            rw [hlz] at gl hlvj
            obtain ⟨L, rfl⟩ : ∃ L : Nat, lz = L := ⟨lz.toNat, by omega⟩
            have hL8 : L ≤ 8 := by omega
            have hwn : IntKind.i64.wrap (-(L : Int)) = -(L : Int) := wrI _ (by omega)
            have HDJ : Hid (D j = (saK us x2 : Int) * ((2 ^ (8 - L) : Nat) : Int)) := by unfold Hid; rw [HD.out, hlvj.1, HX2.out, HUS.out]; rfl
            have KL0 : Hid (wr.cell? ⟨w.heap.size, 0, none⟩ = some (.slice (some ⟨lb, lo, none⟩) n c)) := cellAtJ P6.out.2.1 0 _ rfl
            have KL1 : Hid (wr.cell? ⟨lb, lo + j, none⟩ = some (.int .i64 (L : Int))) := gl
            have hM10 : w.heap.size + 1 < B10 := Nat.lt_of_lt_of_le (blk_lt P5.out.2.2.row) HB10.out
            have P5B : Hid (Below w.heap.size w w5) := P5.out.1
            clear hcl gl hlz hlvj hi ei P5
            go_upto_region 14 with fail
            refine wp_region_noPanic ?_
            refine wp_region_P (S := (fun V => Below wr.heap.size wr V)) (s := 8) (by kernel_rfl) ?_
            have SX : Below wr.heap.size wr wr.drew := (Below.refl _ _).drew
            refine takeP 43 (i := 0) (v := .agg #[.bool n3, .slice o3 l3 c3, .int .i64 x3q]) rfl rfl (by kernel_rfl) (by kernel_rfl) (by kernel_rfl) (by kernel_rfl) rfl (by kernel_rfl) (fun _ _ _ h => h) (Or.inl ⟨by kernel_rfl, fun w' hSw => ex_loadRN _ 87 _ rfl B10 (by kernel_rfl) w' _ (kept hSw B3.out.2.row) _ Try.underlying87 rfl 3 Try.infoN3 rfl⟩) SX ?_
            try simp only [Act.put, List.setIfInBounds_toArray, List.set_cons_zero, List.set_cons_succ]
            refine takeP 44 (i := 1) (v := ?_) rfl rfl (by kernel_rfl) (by kernel_rfl) (by kernel_rfl) (by kernel_rfl) rfl (by kernel_rfl) (fun _ _ _ h => h) (Or.inl ⟨by kernel_rfl, ?_⟩) SX ?_
            rotate_left
            · intro w' hSw; skip; go_simp; try with_reducible rfl
            try simp only [Act.put, List.setIfInBounds_toArray, List.set_cons_zero, List.set_cons_succ]
            refine takeP 45 (i := 2) (v := ?_) rfl rfl (by kernel_rfl) (by kernel_rfl) (by kernel_rfl) (by kernel_rfl) rfl (by kernel_rfl) (fun _ _ _ h => h) (Or.inl ⟨by kernel_rfl, ?_⟩) SX ?_
            rotate_left
            · intro w' hSw; have t0 := cell_later KL0.out hSw; have t1 := cell_later KL1.out hSw; go_simp; try with_reducible rfl
            try simp only [Act.put, List.setIfInBounds_toArray, List.set_cons_zero, List.set_cons_succ]
            refine takeP 46 (i := 3) (v := ?_) rfl rfl (by kernel_rfl) (by kernel_rfl) (by kernel_rfl) (by kernel_rfl) rfl (by kernel_rfl) (fun _ _ _ h => h) (Or.inl ⟨by kernel_rfl, ?_⟩) SX ?_
            rotate_left
            · intro w' hSw; skip; go_simp; try with_reducible rfl
            try simp only [Act.put, List.setIfInBounds_toArray, List.set_cons_zero, List.set_cons_succ]
            refine takeP 47 (i := 4) (v := ?_) rfl rfl (by kernel_rfl) (by kernel_rfl) (by kernel_rfl) (by kernel_rfl) rfl (by kernel_rfl) (fun _ _ _ h => h) (Or.inl ⟨by kernel_rfl, ?_⟩) SX ?_
            rotate_left
            · intro w' hSw; skip; go_simp; try with_reducible rfl
            try simp only [Act.put, List.setIfInBounds_toArray, List.set_cons_zero, List.set_cons_succ]
            refine takeP 48 (i := 5) (v := ?_) rfl rfl (by kernel_rfl) (by kernel_rfl) (by kernel_rfl) (by kernel_rfl) rfl (by kernel_rfl) (fun _ _ _ h => h) (Or.inl ⟨by kernel_rfl, ?_⟩) SX ?_
            rotate_left
            · intro w' hSw; have t0 := cell_later KL0.out hSw; have t1 := cell_later KL1.out hSw; go_simp; try with_reducible rfl
            try simp only [Act.put, List.setIfInBounds_toArray, List.set_cons_zero, List.set_cons_succ]
            refine takeP 49 (i := 6) (v := ?_) rfl rfl (by kernel_rfl) (by kernel_rfl) (by kernel_rfl) (by kernel_rfl) rfl (by kernel_rfl) (fun _ _ _ h => h) (Or.inl ⟨by kernel_rfl, ?_⟩) SX ?_
            rotate_left
            · intro w' hSw; skip; go_simp; try with_reducible rfl
            try simp only [Act.put, List.setIfInBounds_toArray, List.set_cons_zero, List.set_cons_succ]
            refine wpAnyP_ready (rs := [7]) (by kernel_rfl) (by simp) ?_
            refine consP _ rfl (hopCd 50 rfl (by kernel_rfl) rfl (by kernel_rfl) (Calls.mono (movedC_any _ E L 1046 _ _ hL8 (by have := HE.out; omega) (by omega) (NumC.later B3.out.2.num SX)) ?_)) AllReadyP.nil
            rintro e V2 ⟨v2, rfl, hz2, b2⟩
            obtain ⟨n2, o2, t2, p2, x2q, hv2⟩ := hz2.form
            subst hv2
            have SX : Below wr.heap.size wr V2 := to_call SX b2
            clear b2
            refine ⟨_, rfl, SX, ?_⟩
            try simp only [Act.put, List.setIfInBounds_toArray, List.set_cons_zero, List.set_cons_succ]
            refine wpAnyP_ready (rs := [8]) (by kernel_rfl) (by simp) ?_
            refine consPs _ rfl (by kernel_rfl) (hopL rfl (wpList_store_row (by rfl) 87 _ _ (by rfl) w5 w5.heap.size B10 #[.bool n2, .slice o2 t2 p2, .int .i64 x2q] _ (by kernel_rfl) (by kernel_rfl) (kept SX B3.out.2.row) (to_call B3.out.1 SX) HB10.out 3 Try.infoN3 rfl rfl (oneN _ _ _ _ _) fun V3 e3 b3 s3 k3 => ?_)) AllReadyP.nil
            refine ⟨trivial, ?_⟩
            refine put_noneP rfl ?_
            refine wpAnyP_done (by kernel_rfl) ?_ _
            refine NoPanic.normal ?_
            try simp only [Act.put, List.setIfInBounds_toArray, List.set_cons_zero, List.set_cons_succ]
            have P7 : Hid (Below w.heap.size w V3 ∧ V3.heap[w.heap.size]? = some (.cells #[.slice (some ⟨lb, lo, none⟩) n c, .slice ba n d] 30) ∧ BxN V3 (w.heap.size + 1) (E + 8) 1046 ((grK D j).2) n7 o7 l7 c7 x7 ∧ BxN V3 B10 (E + 8) 1046 (D j) n2 o2 t2 p2 x2q) := by
              have hcl9 := num_cl (kept SX B3.out.2.row)
              refine ⟨?_, (k3 _ (by omega)).trans (kept SX P6.out.2.1), ⟨(k3 _ (by omega)).trans (kept SX P6.out.2.2.row), (P6.out.2.2.num.later SX).cl hcl9 (fun b hb _ => k3 b hb)⟩, e3, ?_⟩
              · exact to_call P5B.out b3
              · rw [HDJ.out]
                exact hz2.cl hcl9 (fun b hb _ => k3 b hb)
            clear SX e3 b3 s3 k3 hz2 B3 KL0 KL1 P6 hwn HDJ
            have HC : Hid (Calls Try.prog 37 #[.agg #[.bool n2, .slice o2 t2 p2, .int .i64 x2q], .agg #[.bool n7, .slice o7 l7 c7, .int .i64 x7]] V3 fun e w' => e = .returned (.int .i64 (sgi (D j - (grK D j).2))) ∧ Below V3.heap.size V3 w') := cmpZ_any _ _ (E + 8) 1046 (D j) ((grK D j).2) V3 P7.out.2.2.2.num.toZ P7.out.2.2.1.num.toZ (by have := HE.out; omega) ⟨by decide, by decide⟩
            obtain ⟨s, hs⟩ : ∃ s, sgi (D j - (grK D j).2) = s := ⟨_, rfl⟩
            have HS : Hid (s > 0 ↔ (grK D j).2 < D j) := by unfold Hid; rw [← hs]; unfold sgi; split <;> (try split) <;> omega
            have HGK : Hid (grK D (j + 1) = if (grK D j).2 < D j then ((j : Int), D j) else grK D j) := rfl
            rw [hs] at HC
            clear hs
            go_wp2_with (first | (refine wpList_load_row (by rfl) 87 _ (by rfl) B10 #[.bool n2, .slice o2 t2 p2, .int .i64 x2q] (by rfl) P7.out.2.2.2.row _ Try.underlying87 rfl 3 Try.infoN3 (by rfl) ?_) | (refine wpList_load_row (by rfl) 87 _ (by rfl) (w.heap.size + 1) #[.bool n7, .slice o7 l7 c7, .int .i64 x7] (by rfl) P7.out.2.2.1.row _ Try.underlying87 rfl 3 Try.infoN3 (by rfl) ?_))
            refine Calls.mono HC.out ?_
            rintro e w7 ⟨rfl, b7⟩
            have P8 : Hid (Below w.heap.size w w7 ∧ w7.heap[w.heap.size]? = some (.cells #[.slice (some ⟨lb, lo, none⟩) n c, .slice ba n d] 30) ∧ BxN w7 (w.heap.size + 1) (E + 8) 1046 ((grK D j).2) n7 o7 l7 c7 x7 ∧ BxN w7 B10 (E + 8) 1046 (D j) n2 o2 t2 p2 x2q) := ⟨to_call P7.out.1 b7, kept b7 P7.out.2.1, ⟨kept b7 P7.out.2.2.1.row, P7.out.2.2.1.num.later b7⟩, ⟨kept b7 P7.out.2.2.2.row, P7.out.2.2.2.num.later b7⟩⟩
            clear P7 HC b7
            by_cases c1 : s > 0
            · have g1 : decide (s > 0) = true := decide_eq_true c1
              rw [if_pos (HS.out.1 c1)] at HGK
              have HB2 : Hid ((j : Int) = (grK D (j + 1)).1) := by unfold Hid; rw [HGK.out]
              clear c1 HS HBE
              go_wp2_with (first | (refine wpList_load_row (by rfl) 87 _ (by rfl) B10 #[.bool n2, .slice o2 t2 p2, .int .i64 x2q] (by rfl) P8.out.2.2.2.row _ Try.underlying87 rfl 3 Try.infoN3 (by rfl) ?_) | (refine wpList_store_row (by rfl) 87 _ _ (by rfl) w w.heap.size (w.heap.size + 1) #[.bool n2, .slice o2 t2 p2, .int .i64 x2q] _ (by rfl) (by rfl) P8.out.2.2.1.row P8.out.1 (by omega) 3 Try.infoN3 rfl rfl (oneN _ _ _ _ _) ?_; intro W9 e9 b9 s9 o9))
              have T2 : Hid (Below w.heap.size w W9 ∧ W9.heap[w.heap.size]? = some (.cells #[.slice (some ⟨lb, lo, none⟩) n c, .slice ba n d] 30) ∧ ∃ q1 q2 q3 q4 q5, BxN W9 (w.heap.size + 1) (E + 8) 1046 ((grK D (j + 1)).2) q1 q2 q3 q4 q5) := by
                refine ⟨b9, (o9 _ (by omega)).trans P8.out.2.1, n2, o2, t2, p2, x2q, e9, ?_⟩
                rw [HGK.out]
                exact P8.out.2.2.2.num.cl (num_cl P8.out.2.2.1.row) (fun b hb _ => o9 b hb)
              clear P8 e9 b9 s9 o9
              go_roundg q
              case measure => omega
              case rel => exact ⟨j + 1, j, rfl, by go_num, by have := HIG.out; omega, HB2, HAL2, T2⟩
            · have g1 : decide (s > 0) = false := decide_eq_false c1
              rw [if_neg (fun h => c1 (HS.out.2 h))] at HGK
              have HB2 : Hid (best = (grK D (j + 1)).1) := by unfold Hid; rw [HGK.out]; exact HBE.out
              have T2 : Hid (Below w.heap.size w w7 ∧ w7.heap[w.heap.size]? = some (.cells #[.slice (some ⟨lb, lo, none⟩) n c, .slice ba n d] 30) ∧ ∃ q1 q2 q3 q4 q5, BxN w7 (w.heap.size + 1) (E + 8) 1046 ((grK D (j + 1)).2) q1 q2 q3 q4 q5) := by
                refine ⟨P8.out.1, P8.out.2.1, n7, o7, l7, c7, x7, ?_⟩
                rw [HGK.out]
                exact P8.out.2.2.1
              clear c1 HS HBE P8
              go_wp2_with fail
              go_roundg q
              case measure => omega
              case rel => exact ⟨j + 1, best, rfl, by go_num, by have := HIG.out; omega, HB2, HAL2, T2⟩
    · have e1 : decide ((j : Int) < (n : Int)) = false := decide_eq_false (by omega)
      have e2 : decide (j < n) = false := decide_eq_false hlt
      have ej : j = n := by omega
      rw [ej] at HBE HAL
      have HQ : Hid (R = best) := by unfold Hid; rw [HBE.out]; exact (HRD.out HAL.out).symm
      clear hj ej
      go_wp2_with fail
      go_ret
      exact ⟨by rw [HQ.out]; rfl, P2.out.1⟩
end Go.Proofs.Ytoehhnildocihaa
