import Derived.Test.YthmhgpadinecfaaGreatTDb3
set_option maxRecDepth 100000
set_option maxHeartbeats 4000000
set_option linter.unusedVariables false
set_option linter.unusedSimpArgs false
namespace Go.Proofs.YthmhgpadinecfaaGreat
open Go.RowKit Go.Shelf
theorem to_callD {w X w1 : World} (h : Below w.heap.size w X) (hb : Below X.heap.size X w1) : Below w.heap.size w w1 := h.trans (hb.mono h.size)
theorem valueD_any (u : Nat) (hu : u < 18446744073709551616) (E : Nat) (hE : E = 1074) (w : World) :
  Calls Tryz.prog 27 #[.int .u64 (u : Int)] w fun e w' => ∃ v, e = .returned v /\ NumC w' v E 1024 (fval (fz u)) /\ Below w.heap.size w w' := by
 have X0 : Below w.heap.size w (w.alloc (.cells #[.bool false, .slice none 0 0, .int .i64 0] 65)) := (Below.refl _ w).alloc (Nat.le_refl _) _
 have Y0 : (w.alloc (.cells #[.bool false, .slice none 0 0, .int .i64 0] 65)).heap[w.heap.size]? = some (.cells #[.bool false, .slice none 0 0, .int .i64 0] 65) := heap_alloc_new w _
 go_enter Tryz.func27, Tryz.ntmps27
 go_upto_region 1 with fail
 obtain ⟨X, hX⟩ : ∃ X, (w.alloc (.cells #[.bool false, .slice none 0 0, .int .i64 0] 65)) = X := ⟨_, rfl⟩
 rw [hX] at X0 Y0 ⊢
 clear hX
 go_wp2_with fail
 refine Calls.mono (ofH_any u hu _ E hE) ?_
 rintro e w1 ⟨v1, b, rfl, z1, b1⟩
 obtain ⟨n1, o1, l1, c1, x1, hv1⟩ := z1.form
 subst hv1
 go_upto_region 2 with fail
 obtain ⟨V, hV⟩ : ∃ V, (w1.alloc (.cells #[.bool n1, .slice o1 l1 c1, .int .i64 x1] 65)) = V := ⟨_, rfl⟩
 obtain ⟨B3, hB3⟩ : ∃ b, w1.heap.size = b := ⟨_, rfl⟩
 have A1 : Below w1.heap.size w1 V := by rw [<- hV]; exact (Below.refl _ w1).alloc (Nat.le_refl _) _
 have Y1 : V.heap[B3]? = some (.cells #[.bool n1, .slice o1 l1 c1, .int .i64 x1] 65) := by rw [<- hV, <- hB3]; exact heap_alloc_new w1 _
 have hne : w.heap.size < B3 := by rw [<- hB3]; exact Nat.lt_of_lt_of_le (blk_lt Y0) b1.size
 have P : Hid (Below w.heap.size w V /\ V.heap[w.heap.size]? = some (.cells #[.bool false, .slice none 0 0, .int .i64 0] 65) /\ V.heap[B3]? = some (.cells #[.bool n1, .slice o1 l1 c1, .int .i64 x1] 65) /\ NumC V (.agg #[.bool n1, .slice o1 l1 c1, .int .i64 x1]) E 1024 (fval (fz u))) := ⟨to_callD (to_callD X0 b1) A1, kept A1 (kept b1 Y0), Y1, z1.later A1⟩
 rw [hV, hB3]
 clear hV hB3 A1 Y1 X0 Y0 b1 z1
 go_wp2_with (first | (refine wpList_load_row (by rfl) 65 _ (by rfl) B3 #[.bool n1, .slice o1 l1 c1, .int .i64 x1] (by rfl) P.out.2.2.1 _ Tryz.underlying65 rfl 3 Tryz.infoN3 (by rfl) ?_) | (refine wpList_store_row (by rfl) 65 _ _ (by rfl) w w.heap.size w.heap.size #[.bool n1, .slice o1 l1 c1, .int .i64 x1] _ (by rfl) (by rfl) P.out.2.1 P.out.1 (Nat.le_refl _) 3 Tryz.infoN3 rfl rfl (oneN _ _ _ _ _) ?_; intro X1 e1x b1x s1x k1x))
 refine bodyPost_ret (v := .agg #[.bool n1, .slice o1 l1 c1, .int .i64 x1]) (res_num _ 2 (by kernel_rfl) _ _ w.heap.size _ _ _ (by rfl) e1x) rfl ⟨_, rfl, ?_, b1x⟩
 exact P.out.2.2.2.cl (num_cl P.out.2.1) (fun b hb _ => k1x b hb)
theorem lossD_any (ao : Option Addr) (len cap : Nat) (us : List Nat) (E : Nat) (hE : E = 1074) (w : World) (h : RdUs w ao len cap us) (hlt : ∀ u ∈ us, u < 18446744073709551616) (hf : ∀ j : Nat, Fin (us[j]?.getD 0)) (hl : len <= 1050000) :
  Calls Tryz.prog 42 #[.slice ao len cap] w fun e w' => ∃ v, e = .returned v /\ NumC w' v E 1300 (lossV us) /\ Below w.heap.size w w' := by
 have HR : Hid (∀ W, Below w.heap.size w W -> RdUs W ao len cap us) := fun W hb => h.later hb
 have HL : Hid (us.length = len) := h.length
 have HE : Hid (E = 1074) := hE
 have HF : Hid (∀ j : Nat, Fin (us[j]?.getD 0)) := hf
 have HLT : Hid (∀ u ∈ us, u < 18446744073709551616) := hlt
 have HTI : Hid (∀ (W : World) (v : Value) (T : Int) (k : Nat), k <= 1050000 -> NumC W v E T (sumK us k : Int) -> NumC W v E 1300 (sumK us k : Int)) := fun W v T k hk hz => by
  obtain ⟨G, hG⟩ : ∃ G : Nat, G = 2374 := ⟨_, rfl⟩
  obtain ⟨G2, hG2⟩ : ∃ G2 : Nat, G2 = 2140 := ⟨_, rfl⟩
  refine NumC.tight hz (by decide) (X := G) (by rw [hG, hE]; rfl) ?_
  rw [Int.natAbs_natCast]
  exact Nat.lt_of_lt_of_le (sumK_bound hG2 hf hk) (Nat.pow_le_pow_right (by decide) (by omega))
 have hmx : len <= 9223372036854775807 := by omega
 clear h hlt hf hE
 have X0 : Below w.heap.size w (((w.alloc (.cells #[.bool false, .slice none 0 0, .int .i64 0] 65)).alloc (.cells #[.bool false, .slice none 0 0, .int .i64 0] 65)).alloc (.cells #[.bool false, .slice none 0 0, .int .i64 0] 65)) := (((Below.refl _ w).alloc (Nat.le_refl _) _).alloc (by simp only [alloc_size]; omega) _).alloc (by simp only [alloc_size]; omega) _
 have Y0 : (((w.alloc (.cells #[.bool false, .slice none 0 0, .int .i64 0] 65)).alloc (.cells #[.bool false, .slice none 0 0, .int .i64 0] 65)).alloc (.cells #[.bool false, .slice none 0 0, .int .i64 0] 65)).heap[w.heap.size]? = some (.cells #[.bool false, .slice none 0 0, .int .i64 0] 65) := alloc_kept (alloc_kept (heap_alloc_new w _) _) _
 have Y1 : (((w.alloc (.cells #[.bool false, .slice none 0 0, .int .i64 0] 65)).alloc (.cells #[.bool false, .slice none 0 0, .int .i64 0] 65)).alloc (.cells #[.bool false, .slice none 0 0, .int .i64 0] 65)).heap[(w.heap.size + 1)]? = some (.cells #[.bool false, .slice none 0 0, .int .i64 0] 65) := alloc_kept (heap_at _ _ (w.heap.size + 1) (by simp only [alloc_size])) _
 have Y2 : (((w.alloc (.cells #[.bool false, .slice none 0 0, .int .i64 0] 65)).alloc (.cells #[.bool false, .slice none 0 0, .int .i64 0] 65)).alloc (.cells #[.bool false, .slice none 0 0, .int .i64 0] 65)).heap[(w.heap.size + 1 + 1)]? = some (.cells #[.bool false, .slice none 0 0, .int .i64 0] 65) := heap_at _ _ (w.heap.size + 1 + 1) (by simp only [alloc_size])
 go_enter Tryz.func42, Tryz.ntmps42
 go_upto_region 2 with fail
 obtain ⟨X, hX⟩ : ∃ X, (((w.alloc (.cells #[.bool false, .slice none 0 0, .int .i64 0] 65)).alloc (.cells #[.bool false, .slice none 0 0, .int .i64 0] 65)).alloc (.cells #[.bool false, .slice none 0 0, .int .i64 0] 65)) = X := ⟨_, rfl⟩
 rw [hX] at X0 Y0 Y1 Y2 ⊢
 have T0 : Hid (Below w.heap.size w X /\ X.heap[w.heap.size]? = some (.cells #[.bool false, .slice none 0 0, .int .i64 0] 65) /\ (∃ n o l c x, BxN X (w.heap.size + 1) E 1300 (sumK us 0 : Int) n o l c x) /\ ∃ n o l c x, BxN X (w.heap.size + 1 + 1) E 1300 (rmag (grK us 0) : Int) n o l c x) := ⟨X0, Y0, ⟨false, none, 0, 0, 0, Y1, NumC.zeroJ _ _ _ (by decide)⟩, ⟨false, none, 0, 0, 0, Y2, by rw [show (rmag (grK us 0) : Int) = 0 from rfl]; exact NumC.zeroJ _ _ _ (by decide)⟩⟩
 clear hX X0 Y0 Y1 Y2
 go_wp2_with fail
 go_loopg [5] len (fun g iv wx => ∃ i : Nat, iv = .int .i64 i /\ i + g = len /\ Hid (Below w.heap.size w wx /\ wx.heap[w.heap.size]? = some (.cells #[.bool false, .slice none 0 0, .int .i64 0] 65) /\ (∃ n o l c x, BxN wx (w.heap.size + 1) E 1300 (sumK us i : Int) n o l c x) /\ ∃ n o l c x, BxN wx (w.heap.size + 1 + 1) E 1300 (rmag (grK us i) : Int) n o l c x))
 case atStart => exact ⟨0, rfl, by omega, T0⟩
 case round =>
  clear T0
  obtain ⟨i, rfl, hi, TT⟩ := hrel
  obtain ⟨t1, t2, ⟨n1, o1, l1, c1, x1, B1'⟩, n2, o2, l2, c2, x2, B2'⟩ := TT.out
  have P1 : Hid (Below w.heap.size w wr /\ wr.heap[w.heap.size]? = some (.cells #[.bool false, .slice none 0 0, .int .i64 0] 65) /\ BxN wr (w.heap.size + 1) E 1300 (sumK us i : Int) n1 o1 l1 c1 x1 /\ BxN wr (w.heap.size + 1 + 1) E 1300 (rmag (grK us i) : Int) n2 o2 l2 c2 x2) := ⟨t1, t2, B1', B2'⟩
  clear TT t1 t2 B1' B2'
  by_cases hlt2 : i < len
  ·have hd : decide ((i : Int) < (len : Int)) = true := decide_eq_true (by omega)
   obtain ⟨q, rfl⟩ : ∃ q, gk = q + 1 := ⟨gk - 1, by omega⟩
   have HIG : Hid (i + (q + 1) = len) := hi
   have hlt' : (i : Int) < (len : Int) := by omega
   rcases (HR.out _ P1.out.1).cells with h0 | ⟨ub, uo, rfl, hcu⟩
   ·omega
   have gu := hcu i hlt2
   have hux := HLT.out _ (getD_mem (us := us) (j := i) (by rw [HL.out]; exact hlt2))
   have hfx := HF.out i
   obtain ⟨x, hx⟩ : ∃ x, us[i]?.getD 0 = x := ⟨_, rfl⟩
   have HSK : Hid (sumK us (i + 1) = sumK us i + rmag (frung x)) := by unfold Hid; rw [<- hx]; rfl
   have HGK : Hid (grK us (i + 1) = max (grK us i) (frung x)) := by unfold Hid; rw [<- hx]; rfl
   rw [hx] at gu hux hfx
   have hfz : fz x = x := by unfold fz; rw [if_pos hfx]
   have HVA := fun W => valueD_any x hux E HE.out W
   rw [hfz] at HVA
   have HVA : Hid _ := HVA
   clear hcu hx hi hfz hfx
   go_upto_region 6 with (first
    | (go_at_call 27; refine Calls.mono (HVA.out _) ?_; rintro e w3 ⟨v3, rfl, z3, b3⟩)
    | (go_at_call 29; refine Calls.mono (sizeC_any v3 _ _ _ _ z3) ?_; rintro e w4 ⟨v4, rfl, z4, b4⟩; obtain ⟨n4, o4, l4, c4, x4, hv4⟩ := z4.form; subst hv4))
   obtain ⟨V, hV⟩ : ∃ V, (w4.alloc (.cells #[.bool n4, .slice o4 l4 c4, .int .i64 x4] 65)) = V := ⟨_, rfl⟩
   obtain ⟨B6, hB6⟩ : ∃ b, w4.heap.size = b := ⟨_, rfl⟩
   have A1 : Below w4.heap.size w4 V := by rw [<- hV]; exact (Below.refl _ w4).alloc (Nat.le_refl _) _
   have Y1 : V.heap[B6]? = some (.cells #[.bool n4, .slice o4 l4 c4, .int .i64 x4] 65) := by rw [<- hV, <- hB6]; exact heap_alloc_new w4 _
   have bc : Below wr.heap.size wr V := to_callD (to_callD b3 b4) A1
   have hne : w.heap.size + 1 + 1 < B6 := by rw [<- hB6]; exact Nat.lt_of_lt_of_le (blk_lt P1.out.2.2.2.row) (Nat.le_trans b3.size b4.size)
   have z5 : NumC V (.agg #[.bool n4, .slice o4 l4 c4, .int .i64 x4]) E 1024 (rmag (frung x) : Int) := by rw [<- fval_absJ]; exact z4.later A1
   have P2 : Hid ((Below w.heap.size w V /\ V.heap[w.heap.size]? = some (.cells #[.bool false, .slice none 0 0, .int .i64 0] 65) /\ BxN V (w.heap.size + 1) E 1300 (sumK us i : Int) n1 o1 l1 c1 x1 /\ BxN V (w.heap.size + 1 + 1) E 1300 (rmag (grK us i) : Int) n2 o2 l2 c2 x2) /\ BxN V B6 E 1300 (rmag (frung x) : Int) n4 o4 l4 c4 x4) := ⟨⟨to_callD P1.out.1 bc, kept bc P1.out.2.1, ⟨kept bc P1.out.2.2.1.row, P1.out.2.2.1.num.later bc⟩, ⟨kept bc P1.out.2.2.2.row, P1.out.2.2.2.num.later bc⟩⟩, ⟨Y1, z5.mono (by omega)⟩⟩
   rw [hV, hB6]
   clear hV hB6 A1 Y1 bc z3 z4 z5 b3 b4 P1 gu HVA
   go_wp2_with (first | (refine wpList_load_row (by rfl) 65 _ (by rfl) (w.heap.size + 1) #[.bool n1, .slice o1 l1 c1, .int .i64 x1] (by rfl) P2.out.1.2.2.1.row _ Tryz.underlying65 rfl 3 Tryz.infoN3 (by rfl) ?_) | (refine wpList_load_row (by rfl) 65 _ (by rfl) B6 #[.bool n4, .slice o4 l4 c4, .int .i64 x4] (by rfl) P2.out.2.row _ Tryz.underlying65 rfl 3 Tryz.infoN3 (by rfl) ?_))
   refine Calls.mono (plusC_any _ _ E 1300 _ _ _ P2.out.1.2.2.1.num P2.out.2.num (by have := HE.out; omega) (by omega)) ?_
   rintro e w5 ⟨v5, rfl, z5, b5⟩
   obtain ⟨n5, o5, l5, c5, x5, hv5⟩ := z5.form
   subst hv5
   have z6 : NumC w5 (.agg #[.bool n5, .slice o5 l5 c5, .int .i64 x5]) E 1300 (sumK us (i + 1) : Int) := HTI.out _ _ 1301 (i + 1) (by omega) (by rw [HSK.out, Int.natCast_add]; exact z5)
   have P3 : Hid ((Below w.heap.size w w5 /\ w5.heap[w.heap.size]? = some (.cells #[.bool false, .slice none 0 0, .int .i64 0] 65) /\ BxN w5 (w.heap.size + 1) E 1300 (sumK us i : Int) n1 o1 l1 c1 x1 /\ BxN w5 (w.heap.size + 1 + 1) E 1300 (rmag (grK us i) : Int) n2 o2 l2 c2 x2) /\ BxN w5 B6 E 1300 (rmag (frung x) : Int) n4 o4 l4 c4 x4 /\ NumC w5 (.agg #[.bool n5, .slice o5 l5 c5, .int .i64 x5]) E 1300 (sumK us (i + 1) : Int)) := ⟨⟨to_callD P2.out.1.1 b5, kept b5 P2.out.1.2.1, ⟨kept b5 P2.out.1.2.2.1.row, P2.out.1.2.2.1.num.later b5⟩, ⟨kept b5 P2.out.1.2.2.2.row, P2.out.1.2.2.2.num.later b5⟩⟩, ⟨kept b5 P2.out.2.row, P2.out.2.num.later b5⟩, z6⟩
   clear P2 z5 z6 b5
   go_upto_region 7 with (first | (refine wpList_store_row (by rfl) 65 _ _ (by rfl) w w.heap.size (w.heap.size + 1) #[.bool n5, .slice o5 l5 c5, .int .i64 x5] _ (by rfl) (by rfl) P3.out.1.2.2.1.row P3.out.1.1 (by omega) 3 Tryz.infoN3 rfl rfl (oneN _ _ _ _ _) ?_; intro X1 e1x b1x s1x k1x))
   have P4 : Hid ((Below w.heap.size w X1 /\ X1.heap[w.heap.size]? = some (.cells #[.bool false, .slice none 0 0, .int .i64 0] 65) /\ BxN X1 (w.heap.size + 1) E 1300 (sumK us (i + 1) : Int) n5 o5 l5 c5 x5 /\ BxN X1 (w.heap.size + 1 + 1) E 1300 (rmag (grK us i) : Int) n2 o2 l2 c2 x2) /\ BxN X1 B6 E 1300 (rmag (frung x) : Int) n4 o4 l4 c4 x4) := by
    have hcl := num_cl P3.out.1.2.2.1.row
    have kk : ∀ b, b ≠ (w.heap.size + 1) -> b < w5.heap.size -> X1.heap[b]? = w5.heap[b]? := fun b hb _ => k1x b hb
    exact ⟨⟨b1x, (k1x _ (by omega)).trans P3.out.1.2.1, ⟨e1x, P3.out.2.2.cl hcl kk⟩, ⟨(k1x _ (by omega)).trans P3.out.1.2.2.2.row, P3.out.1.2.2.2.num.cl hcl kk⟩⟩, ⟨(k1x _ (by omega)).trans P3.out.2.1.row, P3.out.2.1.num.cl hcl kk⟩⟩
   clear P3 e1x b1x s1x k1x
   go_wp2_with (first | (refine wpList_load_row (by rfl) 65 _ (by rfl) (w.heap.size + 1 + 1) #[.bool n2, .slice o2 l2 c2, .int .i64 x2] (by rfl) P4.out.1.2.2.2.row _ Tryz.underlying65 rfl 3 Tryz.infoN3 (by rfl) ?_) | (refine wpList_load_row (by rfl) 65 _ (by rfl) B6 #[.bool n4, .slice o4 l4 c4, .int .i64 x4] (by rfl) P4.out.2.row _ Tryz.underlying65 rfl 3 Tryz.infoN3 (by rfl) ?_))
   refine Calls.mono (mostT_any _ _ E 1300 _ _ _ P4.out.1.2.2.2.num P4.out.2.num (by have := HE.out; omega) (by omega)) ?_
   rintro e w6 ⟨v6, rfl, z6, b6⟩
   obtain ⟨n6, o6, l6, c6, x6, hv6⟩ := z6.form
   subst hv6
   have P5 : Hid ((Below w.heap.size w w6 /\ w6.heap[w.heap.size]? = some (.cells #[.bool false, .slice none 0 0, .int .i64 0] 65) /\ BxN w6 (w.heap.size + 1) E 1300 (sumK us (i + 1) : Int) n5 o5 l5 c5 x5 /\ BxN w6 (w.heap.size + 1 + 1) E 1300 (rmag (grK us i) : Int) n2 o2 l2 c2 x2) /\ NumC w6 (.agg #[.bool n6, .slice o6 l6 c6, .int .i64 x6]) E 1300 (rmag (grK us (i + 1)) : Int)) := ⟨⟨to_callD P4.out.1.1 b6, kept b6 P4.out.1.2.1, ⟨kept b6 P4.out.1.2.2.1.row, P4.out.1.2.2.1.num.later b6⟩, ⟨kept b6 P4.out.1.2.2.2.row, P4.out.1.2.2.2.num.later b6⟩⟩, by rw [HGK.out, rmag_max]; exact z6⟩
   clear P4 z6 b6
   go_wp2_with (first | (refine wpList_store_row (by rfl) 65 _ _ (by rfl) w w.heap.size (w.heap.size + 1 + 1) #[.bool n6, .slice o6 l6 c6, .int .i64 x6] _ (by rfl) (by rfl) P5.out.1.2.2.2.row P5.out.1.1 (by omega) 3 Tryz.infoN3 rfl rfl (oneN _ _ _ _ _) ?_; intro X2 e2x b2x s2x k2x))
   have T2 : Hid (Below w.heap.size w X2 /\ X2.heap[w.heap.size]? = some (.cells #[.bool false, .slice none 0 0, .int .i64 0] 65) /\ (∃ n o l c x, BxN X2 (w.heap.size + 1) E 1300 (sumK us (i + 1) : Int) n o l c x) /\ ∃ n o l c x, BxN X2 (w.heap.size + 1 + 1) E 1300 (rmag (grK us (i + 1)) : Int) n o l c x) := by
    have hcl := num_cl P5.out.1.2.2.2.row
    have kk : ∀ b, b ≠ (w.heap.size + 1 + 1) -> b < w6.heap.size -> X2.heap[b]? = w6.heap[b]? := fun b hb _ => k2x b hb
    exact ⟨b2x, (k2x _ (by omega)).trans P5.out.1.2.1, ⟨n5, o5, l5, c5, x5, (k2x _ (by omega)).trans P5.out.1.2.2.1.row, P5.out.1.2.2.1.num.cl hcl kk⟩, n6, o6, l6, c6, x6, e2x, P5.out.2.cl hcl kk⟩
   clear P5 e2x b2x s2x k2x
   go_roundg q
   case measure => omega
   case rel => exact ⟨i + 1, by go_num, by have := HIG.out; omega, T2⟩
  ·have hd : decide ((i : Int) < (len : Int)) = false := decide_eq_false (by omega)
   have hd' : decide (i < len) = false := decide_eq_false (by omega)
   have ei : i = len := by omega
   rw [ei] at P1
   clear hi ei
   go_wp2_with (first | (refine wpList_load_row (by rfl) 65 _ (by rfl) (w.heap.size + 1) #[.bool n1, .slice o1 l1 c1, .int .i64 x1] (by rfl) P1.out.2.2.1.row _ Tryz.underlying65 rfl 3 Tryz.infoN3 (by rfl) ?_) | (refine wpList_load_row (by rfl) 65 _ (by rfl) (w.heap.size + 1 + 1) #[.bool n2, .slice o2 l2 c2, .int .i64 x2] (by rfl) P1.out.2.2.2.row _ Tryz.underlying65 rfl 3 Tryz.infoN3 (by rfl) ?_))
   refine Calls.mono (minusC_any _ _ E 1300 _ _ _ P1.out.2.2.1.num P1.out.2.2.2.num (by have := HE.out; omega) (by omega)) ?_
   rintro e w5 ⟨v5, rfl, z5, b5⟩
   obtain ⟨n5, o5, l5, c5, x5, hv5⟩ := z5.form
   subst hv5
   have P5 : Hid (Below w.heap.size w w5 /\ w5.heap[w.heap.size]? = some (.cells #[.bool false, .slice none 0 0, .int .i64 0] 65) /\ NumC w5 (.agg #[.bool n5, .slice o5 l5 c5, .int .i64 x5]) E 1301 (lossV us)) := ⟨to_callD P1.out.1 b5, kept b5 P1.out.2.1, by unfold lossV; rw [HL.out]; exact z5⟩
   clear P1 z5 b5
   go_wp2_with (first | (refine wpList_store_row (by rfl) 65 _ _ (by rfl) w w.heap.size w.heap.size #[.bool n5, .slice o5 l5 c5, .int .i64 x5] _ (by rfl) (by rfl) P5.out.2.1 P5.out.1 (Nat.le_refl _) 3 Tryz.infoN3 rfl rfl (oneN _ _ _ _ _) ?_; intro X3 e3x b3x s3x k3x))
   refine bodyPost_ret (v := .agg #[.bool n5, .slice o5 l5 c5, .int .i64 x5]) (res_num _ 2 (by kernel_rfl) _ _ w.heap.size _ _ _ (by rfl) e3x) rfl ⟨_, rfl, ?_, b3x⟩
   have z9 : NumC X3 (.agg #[.bool n5, .slice o5 l5 c5, .int .i64 x5]) E 1301 (lossV us) := P5.out.2.2.cl (num_cl P5.out.2.1) (fun b hb _ => k3x b hb)
   obtain ⟨G, hG⟩ : ∃ G : Nat, G = 2374 := ⟨_, rfl⟩
   obtain ⟨G2, hG2⟩ : ∃ G2 : Nat, G2 = 2140 := ⟨_, rfl⟩
   refine NumC.tight z9 (by decide) (X := G) (by rw [hG, HE.out]; rfl) ?_
   have h1 := sumK_bound hG2 HF.out (k := us.length) (by rw [HL.out]; exact hl)
   have h2 := rmag_le_sum (us := us) us.length
   have h3 : (2 : Nat) ^ G2 <= 2 ^ G := Nat.pow_le_pow_right (by decide) (by omega)
   unfold lossV
   omega
end Go.Proofs.YthmhgpadinecfaaGreat
