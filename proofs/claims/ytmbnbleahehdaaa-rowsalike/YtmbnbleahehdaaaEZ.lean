import Derived.Test.YtmbnbleahehdaaaEY
namespace Go.Proofs.Ytmbnbleahehdaaa
open Go.RowKit
set_option linter.unusedVariables false
set_option linter.unusedSimpArgs false

set_option maxRecDepth 100000 in
set_option maxHeartbeats 8000000 in
theorem made_any (kd g1 g2 g3 g4 g5 g6 seed c : Int) (o p : Nat) (hkd : ¬ kd = 4) (ho : o ≤ 30) (hp : p ≤ 900)
    (hL : ∀ w, Calls Try.prog 14 #[.agg #[.int .i64 kd, .int .i64 (o : Int), .int .i64 g1, .int .i64 g2, .int .i64 g3, .int .i64 g4, .int .i64 g5, .int .i64 g6, .int .i64 0, .int .u64 0, .slice none 0 0, .slice none 0 0, .slice none 0 0, .slice none 0 0], .agg #[.int .i64 c, .int .i64 1, .int .i64 1]] w fun e w' => e = .returned (.tuple #[.agg #[.int .i64 (p : Int), .int .i64 (o : Int), .int .i64 0, .int .i64 0], .int .i64 0]) ∧ Below w.heap.size w w') (w : World) :
    Calls Try.prog 5 #[.agg #[.int .i64 kd, .int .i64 (o : Int), .int .i64 g1, .int .i64 g2, .int .i64 g3, .int .i64 g4, .int .i64 g5, .int .i64 g6, .int .i64 seed], .agg #[.int .i64 c, .int .i64 1, .int .i64 1]] w fun e w' => ∃ wo wc bo bc, e = .returned (.tuple #[.agg #[.int .i64 kd, .int .i64 (o : Int), .int .i64 g1, .int .i64 g2, .int .i64 g3, .int .i64 g4, .int .i64 g5, .int .i64 g6, .int .i64 0, .float .f64 0, .slice wo p wc, .slice bo o bc, .slice none 0 0, .slice none 0 0], .bool true]) ∧ p ≤ wc ∧ RdF w' wo p wc (wL seed p) ∧ RdF w' bo o bc (bL seed o) ∧ Below w.heap.size w w' := by
  have HL : Hid _ := hL
  have OFL : Hid _ := ofLayer_nil kd (o : Int) g1 g2 g3 g4 g5 g6 0
  clear hL
  have X0 : Below w.heap.size w (((w.alloc (.cells #[.int .i64 kd, .int .i64 (o : Int), .int .i64 g1, .int .i64 g2, .int .i64 g3, .int .i64 g4, .int .i64 g5, .int .i64 g6, .int .i64 seed] 23)).alloc (.cells #[.int .i64 c, .int .i64 1, .int .i64 1] 25)).alloc (.cells #[.int .i64 0, .int .i64 0, .int .i64 0, .int .i64 0, .int .i64 0, .int .i64 0, .int .i64 0, .int .i64 0, .int .i64 0, .float .f64 0, .slice none 0 0, .slice none 0 0, .slice none 0 0, .slice none 0 0] 30)) := (((Below.refl _ w).alloc (Nat.le_refl _) _).alloc (by simp only [alloc_size]; omega) _).alloc (by simp only [alloc_size]; omega) _
  have Y0 : (((w.alloc (.cells #[.int .i64 kd, .int .i64 (o : Int), .int .i64 g1, .int .i64 g2, .int .i64 g3, .int .i64 g4, .int .i64 g5, .int .i64 g6, .int .i64 seed] 23)).alloc (.cells #[.int .i64 c, .int .i64 1, .int .i64 1] 25)).alloc (.cells #[.int .i64 0, .int .i64 0, .int .i64 0, .int .i64 0, .int .i64 0, .int .i64 0, .int .i64 0, .int .i64 0, .int .i64 0, .float .f64 0, .slice none 0 0, .slice none 0 0, .slice none 0 0, .slice none 0 0] 30)).heap[w.heap.size]? = _ := alloc_kept (alloc_kept (heap_alloc_new w _) _) _
  have Y1 : (((w.alloc (.cells #[.int .i64 kd, .int .i64 (o : Int), .int .i64 g1, .int .i64 g2, .int .i64 g3, .int .i64 g4, .int .i64 g5, .int .i64 g6, .int .i64 seed] 23)).alloc (.cells #[.int .i64 c, .int .i64 1, .int .i64 1] 25)).alloc (.cells #[.int .i64 0, .int .i64 0, .int .i64 0, .int .i64 0, .int .i64 0, .int .i64 0, .int .i64 0, .int .i64 0, .int .i64 0, .float .f64 0, .slice none 0 0, .slice none 0 0, .slice none 0 0, .slice none 0 0] 30)).heap[w.heap.size + 1]? = _ := alloc_kept (heap_at _ _ (w.heap.size + 1) (by simp only [alloc_size])) _
  have Y2 : (((w.alloc (.cells #[.int .i64 kd, .int .i64 (o : Int), .int .i64 g1, .int .i64 g2, .int .i64 g3, .int .i64 g4, .int .i64 g5, .int .i64 g6, .int .i64 seed] 23)).alloc (.cells #[.int .i64 c, .int .i64 1, .int .i64 1] 25)).alloc (.cells #[.int .i64 0, .int .i64 0, .int .i64 0, .int .i64 0, .int .i64 0, .int .i64 0, .int .i64 0, .int .i64 0, .int .i64 0, .float .f64 0, .slice none 0 0, .slice none 0 0, .slice none 0 0, .slice none 0 0] 30)).heap[w.heap.size + 1 + 1]? = _ := heap_at _ _ (w.heap.size + 1 + 1) (by simp only [alloc_size])
  have hd4 : decide (kd = 4) = false := decide_eq_false hkd
  go_enter Try.func5, Try.ntmps5
  go_upto_region 1 with fail
  have Z3 : ((((w.alloc (.cells #[.int .i64 kd, .int .i64 (o : Int), .int .i64 g1, .int .i64 g2, .int .i64 g3, .int .i64 g4, .int .i64 g5, .int .i64 g6, .int .i64 seed] 23)).alloc (.cells #[.int .i64 c, .int .i64 1, .int .i64 1] 25)).alloc (.cells #[.int .i64 0, .int .i64 0, .int .i64 0, .int .i64 0, .int .i64 0, .int .i64 0, .int .i64 0, .int .i64 0, .int .i64 0, .float .f64 0, .slice none 0 0, .slice none 0 0, .slice none 0 0, .slice none 0 0] 30)).alloc (.cells #[.int .i64 0, .int .i64 0, .int .i64 0, .int .i64 0, .int .i64 0, .int .i64 0, .int .i64 0, .int .i64 0, .int .i64 0, .float .f64 0, .slice none 0 0, .slice none 0 0, .slice none 0 0, .slice none 0 0] 30)).heap[w.heap.size + 1 + 1 + 1]? = _ := heap_at _ _ (w.heap.size + 1 + 1 + 1) (by simp only [alloc_size])
  have BZ : Below w.heap.size w ((((w.alloc (.cells #[.int .i64 kd, .int .i64 (o : Int), .int .i64 g1, .int .i64 g2, .int .i64 g3, .int .i64 g4, .int .i64 g5, .int .i64 g6, .int .i64 seed] 23)).alloc (.cells #[.int .i64 c, .int .i64 1, .int .i64 1] 25)).alloc (.cells #[.int .i64 0, .int .i64 0, .int .i64 0, .int .i64 0, .int .i64 0, .int .i64 0, .int .i64 0, .int .i64 0, .int .i64 0, .float .f64 0, .slice none 0 0, .slice none 0 0, .slice none 0 0, .slice none 0 0] 30)).alloc (.cells #[.int .i64 0, .int .i64 0, .int .i64 0, .int .i64 0, .int .i64 0, .int .i64 0, .int .i64 0, .int .i64 0, .int .i64 0, .float .f64 0, .slice none 0 0, .slice none 0 0, .slice none 0 0, .slice none 0 0] 30)) := X0.alloc (by simp only [alloc_size]; omega) _
  go_upto_region 2 with (first | (refine wpList_store_row (by rfl) 30 _ _ (by rfl) w w.heap.size (w.heap.size + 1 + 1 + 1) _ _ (by rfl) (by rfl) Z3 BZ (by omega) 14 Try.infoLy (by rfl) (by rfl) (one14i _ _ _ _ _ _ _ _ _ _ _ _ _ _ rfl rfl rfl rfl) ?_; intro X e3 hb3 hs3 ho3))
  have HX : Hid (Below w.heap.size w X ∧ X.heap[w.heap.size]? = _ ∧ X.heap[w.heap.size + 1]? = _ ∧ X.heap[w.heap.size + 1 + 1]? = _ ∧ X.heap[w.heap.size + 1 + 1 + 1]? = _ ∧ True) := ⟨hb3, (ho3 _ (by omega)).trans (alloc_kept Y0 _), (ho3 _ (by omega)).trans (alloc_kept Y1 _), (ho3 _ (by omega)).trans (alloc_kept Y2 _), e3, trivial⟩
  clear X0 Y0 Y1 Y2 Z3 BZ e3 hb3 hs3 ho3
  have c0 := cellAt HX.out.2.1 0 (.int .i64 kd) rfl
  go_upto_region 4 with fail
  clear c0
  go_cut [7, 8] (fun v u wx => ∃ D, v = .pointer (some ⟨D, 0, none⟩) ∧ u = .int .i64 0 ∧ Hid (MD w wx #[.int .i64 kd, .int .i64 (o : Int), .int .i64 g1, .int .i64 g2, .int .i64 g3, .int .i64 g4, .int .i64 g5, .int .i64 g6, .int .i64 seed] #[.int .i64 kd, .int .i64 (o : Int), .int .i64 g1, .int .i64 g2, .int .i64 g3, .int .i64 g4, .int .i64 g5, .int .i64 g6, .int .i64 0, .float .f64 0, .slice none 0 0, .slice none 0 0, .slice none 0 0, .slice none 0 0] #[.int .i64 (p : Int), .int .i64 (o : Int), .int .i64 0, .int .i64 0] D))
  case first =>
    have bX : Below X.heap.size X X.drew := (Below.refl _ _).drew
    refine wp_region_noPanic ?_
    refine wp_region_held_drew (S := (fun W' => Below X.heap.size X W')) (by kernel_rfl) bX (fun _ => ?_)
    refine takeH 39 (i := 0) (v := .agg #[.int .i64 kd, .int .i64 (o : Int), .int .i64 g1, .int .i64 g2, .int .i64 g3, .int .i64 g4, .int .i64 g5, .int .i64 g6, .int .i64 0, .float .f64 0, .slice none 0 0, .slice none 0 0, .slice none 0 0, .slice none 0 0]) rfl rfl (by kernel_rfl) (by kernel_rfl) (by kernel_rfl) (fun _ _ _ h => h) (Or.inl ⟨by kernel_rfl, fun w' hS => ex_loadR _ 30 _ rfl (w.heap.size + 1 + 1 + 1) (by kernel_rfl) w' _ (kept hS HX.out.2.2.2.2.1) _ Try.underlying30 rfl 14 Try.infoLy rfl⟩) bX ?_
    try simp only [Act.put, List.setIfInBounds_toArray, List.set_cons_zero, List.set_cons_succ]
    refine takeH 41 (i := 2) (v := .agg #[.int .i64 c, .int .i64 1, .int .i64 1]) rfl rfl (by kernel_rfl) (by kernel_rfl) (by kernel_rfl) (fun _ _ _ h => h) (Or.inl ⟨by kernel_rfl, fun w' hS => ex_loadR _ 25 _ rfl (w.heap.size + 1) (by kernel_rfl) w' _ (kept hS HX.out.2.2.1) _ Try.underlying25 rfl 3 Try.infoShape rfl⟩) bX ?_
    try simp only [Act.put, List.setIfInBounds_toArray, List.set_cons_zero, List.set_cons_succ]
    refine wpAnyH_ready (rs := [1, 7]) (by kernel_rfl) (by simp) ?_
    refine consH _ rfl ?_ (consH _ rfl ?_ AllReadyH.nil)
    · refine hopCd 40 rfl (by kernel_rfl) rfl (by kernel_rfl) (Calls.mono (OFL.out _) ?_)
      rintro e m01 ⟨rfl, hcm01⟩
      have bm01 : Below X.heap.size X m01 := bX.trans (hcm01.mono bX.size)
      refine ⟨_, rfl, bm01, ?_⟩
      try simp only [Act.put, List.setIfInBounds_toArray, List.set_cons_zero, List.set_cons_succ]
      refine wpAnyH_ready (rs := [3, 7]) (by kernel_rfl) (by simp) ?_
      refine consH _ rfl ?_ (consH _ rfl ?_ AllReadyH.nil)
      · refine hopCd 42 rfl (by kernel_rfl) rfl (by kernel_rfl) (Calls.mono (HL.out _) ?_)
        rintro e m13 ⟨rfl, hcm13⟩
        have bm13 : Below X.heap.size X m13 := bm01.trans (hcm13.mono bm01.size)
        refine ⟨_, rfl, bm13, ?_⟩
        try simp only [Act.put, List.setIfInBounds_toArray, List.set_cons_zero, List.set_cons_succ]
        refine takeH 38 (i := 4) (v := ?_) rfl rfl (by kernel_rfl) (by kernel_rfl) (by kernel_rfl) (fun _ _ _ h => h) (Or.inl ⟨by kernel_rfl, ?_⟩) bm13 ?_
        rotate_left
        · intro w' hSw; (try dsimp only at hSw); go_simp; try with_reducible rfl
        try simp only [Act.put, List.setIfInBounds_toArray, List.set_cons_zero, List.set_cons_succ]
        refine takeH 43 (i := 5) (v := ?_) rfl rfl (by kernel_rfl) (by kernel_rfl) (by kernel_rfl) (fun _ _ _ h => h) (Or.inl ⟨by kernel_rfl, ?_⟩) bm13 ?_
        rotate_left
        · intro w' hSw; (try dsimp only at hSw); go_simp; try with_reducible rfl
        try simp only [Act.put, List.setIfInBounds_toArray, List.set_cons_zero, List.set_cons_succ]
        refine takeH 44 (i := 6) (v := ?_) rfl rfl (by kernel_rfl) (by kernel_rfl) (by kernel_rfl) (fun _ _ _ h => h) (Or.inl ⟨by kernel_rfl, ?_⟩) bm13 ?_
        rotate_left
        · intro w' hSw; (try dsimp only at hSw); go_simp; try with_reducible rfl
        try simp only [Act.put, List.setIfInBounds_toArray, List.set_cons_zero, List.set_cons_succ]
        refine wpAnyH_ready (rs := [7]) (by kernel_rfl) (by simp) ?_
        refine consH _ rfl ?_ AllReadyH.nil
        · refine hopA 7 rfl rfl rfl 49 rfl #[.int .i64 0, .int .i64 0, .int .i64 0, .int .i64 0] madeK_alloc fun D m27 hD hDw bD => ?_
          have bm27 : Below X.heap.size X m27 := bm13.trans (bD.mono bm13.size)
          have hDX : X.heap.size ≤ D := Nat.le_trans bm13.size hDw
          refine ⟨bm27, ?_⟩
          try simp only [Act.put, List.setIfInBounds_toArray, List.set_cons_zero, List.set_cons_succ]
          refine wpAnyH_ready (rs := [8]) (by kernel_rfl) (by simp) ?_
          refine consH _ rfl (hopL rfl (wpList_store_row (by rfl) 49 _ _ (by rfl) X X.heap.size D #[.int .i64 (p : Int), .int .i64 (o : Int), .int .i64 0, .int .i64 0] _ (by kernel_rfl) (by kernel_rfl) hD bm27 hDX 4 Try.info4 (by rfl) (by rfl) (one4 ..) fun W9 e9 b9 hs9 ho9 => ?_)) AllReadyH.nil
          refine (And.intro b9 ?_ : _ ∧ _)
          try simp only [Act.put, List.setIfInBounds_toArray, List.set_cons_zero, List.set_cons_succ]
          refine takeH 8 (i := 9) (v := ?_) rfl rfl (by kernel_rfl) (by kernel_rfl) (by kernel_rfl) (fun _ _ _ h => h) (Or.inl ⟨by kernel_rfl, ?_⟩) b9 ?_
          rotate_left
          · intro w' hSw; (try dsimp only at hSw); go_simp; try with_reducible rfl
          try simp only [Act.put, List.setIfInBounds_toArray, List.set_cons_zero, List.set_cons_succ]
          refine wpAnyH_done (by kernel_rfl) ?_ _
          refine NoPanic.normal ?_
          try simp only [Act.put, List.setIfInBounds_toArray, List.set_cons_zero, List.set_cons_succ]
          go_wp2_with fail
          go_meet
          exact ⟨D, rfl, rfl, ⟨to_call HX.out.1 b9, kept b9 HX.out.2.1, kept b9 HX.out.2.2.2.1, kept b9 HX.out.2.2.2.2.1, e9, Nat.lt_of_lt_of_le (blk_lt HX.out.2.2.2.2.1) hDX⟩⟩
      · refine hopA 7 rfl rfl rfl 49 rfl #[.int .i64 0, .int .i64 0, .int .i64 0, .int .i64 0] madeK_alloc fun D m17 hD hDw bD => ?_
        have bm17 : Below X.heap.size X m17 := bm01.trans (bD.mono bm01.size)
        have hDX : X.heap.size ≤ D := Nat.le_trans bm01.size hDw
        refine ⟨bm17, ?_⟩
        try simp only [Act.put, List.setIfInBounds_toArray, List.set_cons_zero, List.set_cons_succ]
        refine wpAnyH_ready (rs := [3]) (by kernel_rfl) (by simp) ?_
        refine consH _ rfl ?_ AllReadyH.nil
        · refine hopCd 42 rfl (by kernel_rfl) rfl (by kernel_rfl) (Calls.mono (HL.out _) ?_)
          rintro e m23 ⟨rfl, hcm23⟩
          have bm23 : Below X.heap.size X m23 := bm17.trans (hcm23.mono bm17.size)
          replace hD := kept hcm23 hD
          refine ⟨_, rfl, bm23, ?_⟩
          try simp only [Act.put, List.setIfInBounds_toArray, List.set_cons_zero, List.set_cons_succ]
          refine takeH 38 (i := 4) (v := ?_) rfl rfl (by kernel_rfl) (by kernel_rfl) (by kernel_rfl) (fun _ _ _ h => h) (Or.inl ⟨by kernel_rfl, ?_⟩) bm23 ?_
          rotate_left
          · intro w' hSw; (try dsimp only at hSw); go_simp; try with_reducible rfl
          try simp only [Act.put, List.setIfInBounds_toArray, List.set_cons_zero, List.set_cons_succ]
          refine takeH 43 (i := 5) (v := ?_) rfl rfl (by kernel_rfl) (by kernel_rfl) (by kernel_rfl) (fun _ _ _ h => h) (Or.inl ⟨by kernel_rfl, ?_⟩) bm23 ?_
          rotate_left
          · intro w' hSw; (try dsimp only at hSw); go_simp; try with_reducible rfl
          try simp only [Act.put, List.setIfInBounds_toArray, List.set_cons_zero, List.set_cons_succ]
          refine takeH 44 (i := 6) (v := ?_) rfl rfl (by kernel_rfl) (by kernel_rfl) (by kernel_rfl) (fun _ _ _ h => h) (Or.inl ⟨by kernel_rfl, ?_⟩) bm23 ?_
          rotate_left
          · intro w' hSw; (try dsimp only at hSw); go_simp; try with_reducible rfl
          try simp only [Act.put, List.setIfInBounds_toArray, List.set_cons_zero, List.set_cons_succ]
          refine wpAnyH_ready (rs := [8]) (by kernel_rfl) (by simp) ?_
          refine consH _ rfl (hopL rfl (wpList_store_row (by rfl) 49 _ _ (by rfl) X X.heap.size D #[.int .i64 (p : Int), .int .i64 (o : Int), .int .i64 0, .int .i64 0] _ (by kernel_rfl) (by kernel_rfl) hD bm23 hDX 4 Try.info4 (by rfl) (by rfl) (one4 ..) fun W9 e9 b9 hs9 ho9 => ?_)) AllReadyH.nil
          refine (And.intro b9 ?_ : _ ∧ _)
          try simp only [Act.put, List.setIfInBounds_toArray, List.set_cons_zero, List.set_cons_succ]
          refine takeH 8 (i := 9) (v := ?_) rfl rfl (by kernel_rfl) (by kernel_rfl) (by kernel_rfl) (fun _ _ _ h => h) (Or.inl ⟨by kernel_rfl, ?_⟩) b9 ?_
          rotate_left
          · intro w' hSw; (try dsimp only at hSw); go_simp; try with_reducible rfl
          try simp only [Act.put, List.setIfInBounds_toArray, List.set_cons_zero, List.set_cons_succ]
          refine wpAnyH_done (by kernel_rfl) ?_ _
          refine NoPanic.normal ?_
          try simp only [Act.put, List.setIfInBounds_toArray, List.set_cons_zero, List.set_cons_succ]
          go_wp2_with fail
          go_meet
          exact ⟨D, rfl, rfl, ⟨to_call HX.out.1 b9, kept b9 HX.out.2.1, kept b9 HX.out.2.2.2.1, kept b9 HX.out.2.2.2.2.1, e9, Nat.lt_of_lt_of_le (blk_lt HX.out.2.2.2.2.1) hDX⟩⟩
    · refine hopA 7 rfl rfl rfl 49 rfl #[.int .i64 0, .int .i64 0, .int .i64 0, .int .i64 0] madeK_alloc fun D m07 hD hDw bD => ?_
      have bm07 : Below X.heap.size X m07 := bX.trans (bD.mono bX.size)
      have hDX : X.heap.size ≤ D := Nat.le_trans bX.size hDw
      refine ⟨bm07, ?_⟩
      try simp only [Act.put, List.setIfInBounds_toArray, List.set_cons_zero, List.set_cons_succ]
      refine wpAnyH_ready (rs := [1]) (by kernel_rfl) (by simp) ?_
      refine consH _ rfl ?_ AllReadyH.nil
      · refine hopCd 40 rfl (by kernel_rfl) rfl (by kernel_rfl) (Calls.mono (OFL.out _) ?_)
        rintro e m11 ⟨rfl, hcm11⟩
        have bm11 : Below X.heap.size X m11 := bm07.trans (hcm11.mono bm07.size)
        replace hD := kept hcm11 hD
        refine ⟨_, rfl, bm11, ?_⟩
        try simp only [Act.put, List.setIfInBounds_toArray, List.set_cons_zero, List.set_cons_succ]
        refine wpAnyH_ready (rs := [3]) (by kernel_rfl) (by simp) ?_
        refine consH _ rfl ?_ AllReadyH.nil
        · refine hopCd 42 rfl (by kernel_rfl) rfl (by kernel_rfl) (Calls.mono (HL.out _) ?_)
          rintro e m23 ⟨rfl, hcm23⟩
          have bm23 : Below X.heap.size X m23 := bm11.trans (hcm23.mono bm11.size)
          replace hD := kept hcm23 hD
          refine ⟨_, rfl, bm23, ?_⟩
          try simp only [Act.put, List.setIfInBounds_toArray, List.set_cons_zero, List.set_cons_succ]
          refine takeH 38 (i := 4) (v := ?_) rfl rfl (by kernel_rfl) (by kernel_rfl) (by kernel_rfl) (fun _ _ _ h => h) (Or.inl ⟨by kernel_rfl, ?_⟩) bm23 ?_
          rotate_left
          · intro w' hSw; (try dsimp only at hSw); go_simp; try with_reducible rfl
          try simp only [Act.put, List.setIfInBounds_toArray, List.set_cons_zero, List.set_cons_succ]
          refine takeH 43 (i := 5) (v := ?_) rfl rfl (by kernel_rfl) (by kernel_rfl) (by kernel_rfl) (fun _ _ _ h => h) (Or.inl ⟨by kernel_rfl, ?_⟩) bm23 ?_
          rotate_left
          · intro w' hSw; (try dsimp only at hSw); go_simp; try with_reducible rfl
          try simp only [Act.put, List.setIfInBounds_toArray, List.set_cons_zero, List.set_cons_succ]
          refine takeH 44 (i := 6) (v := ?_) rfl rfl (by kernel_rfl) (by kernel_rfl) (by kernel_rfl) (fun _ _ _ h => h) (Or.inl ⟨by kernel_rfl, ?_⟩) bm23 ?_
          rotate_left
          · intro w' hSw; (try dsimp only at hSw); go_simp; try with_reducible rfl
          try simp only [Act.put, List.setIfInBounds_toArray, List.set_cons_zero, List.set_cons_succ]
          refine wpAnyH_ready (rs := [8]) (by kernel_rfl) (by simp) ?_
          refine consH _ rfl (hopL rfl (wpList_store_row (by rfl) 49 _ _ (by rfl) X X.heap.size D #[.int .i64 (p : Int), .int .i64 (o : Int), .int .i64 0, .int .i64 0] _ (by kernel_rfl) (by kernel_rfl) hD bm23 hDX 4 Try.info4 (by rfl) (by rfl) (one4 ..) fun W9 e9 b9 hs9 ho9 => ?_)) AllReadyH.nil
          refine (And.intro b9 ?_ : _ ∧ _)
          try simp only [Act.put, List.setIfInBounds_toArray, List.set_cons_zero, List.set_cons_succ]
          refine takeH 8 (i := 9) (v := ?_) rfl rfl (by kernel_rfl) (by kernel_rfl) (by kernel_rfl) (fun _ _ _ h => h) (Or.inl ⟨by kernel_rfl, ?_⟩) b9 ?_
          rotate_left
          · intro w' hSw; (try dsimp only at hSw); go_simp; try with_reducible rfl
          try simp only [Act.put, List.setIfInBounds_toArray, List.set_cons_zero, List.set_cons_succ]
          refine wpAnyH_done (by kernel_rfl) ?_ _
          refine NoPanic.normal ?_
          try simp only [Act.put, List.setIfInBounds_toArray, List.set_cons_zero, List.set_cons_succ]
          go_wp2_with fail
          go_meet
          exact ⟨D, rfl, rfl, ⟨to_call HX.out.1 b9, kept b9 HX.out.2.1, kept b9 HX.out.2.2.2.1, kept b9 HX.out.2.2.2.2.1, e9, Nat.lt_of_lt_of_le (blk_lt HX.out.2.2.2.2.1) hDX⟩⟩
  case rest =>
  obtain ⟨D, rfl, rfl, HM0⟩ := hcut
  have k0 := cellAt HM0.out.k 0 (.int .i64 (p : Int)) rfl
  have k2 := cellAt HM0.out.k 2 (.int .i64 0) rfl
  have hd7 : decide ((70000 : Int) < (p : Int)) = false := decide_eq_false (by omega)
  clear HX HL OFL
  go_upto_region 7 with fail
  clear k0 k2 hd7
  go_wp2_with fail
  go_loopg [9] p (fun g u wx => ∃ (i : Nat) (v : Value), u = .int .i64 i ∧ i + g = p ∧ Hid (MD w wx #[.int .i64 kd, .int .i64 (o : Int), .int .i64 g1, .int .i64 g2, .int .i64 g3, .int .i64 g4, .int .i64 g5, .int .i64 g6, .int .i64 seed] #[.int .i64 kd, .int .i64 (o : Int), .int .i64 g1, .int .i64 g2, .int .i64 g3, .int .i64 g4, .int .i64 g5, .int .i64 g6, .int .i64 0, .float .f64 0, v, .slice none 0 0, .slice none 0 0, .slice none 0 0] #[.int .i64 (p : Int), .int .i64 (o : Int), .int .i64 0, .int .i64 0] D) ∧ Hid (OwnF wx w.heap.size v (wL seed i)))
  case atStart => exact ⟨0, _, rfl, by omega, HM0, OwnF.nil _ _⟩
  case round =>
    obtain ⟨i, v, rfl, hi, HM, HO⟩ := hrel
    have k0 := cellAt HM.out.k 0 (.int .i64 (p : Int)) rfl
    by_cases hlt : i < p
    · have hd : decide ((i : Int) < (p : Int)) = true := decide_eq_true (by omega)
      obtain ⟨g, rfl⟩ : ∃ g, gk = g + 1 := ⟨gk - 1, by omega⟩
      have HLE : Hid ((flV' (wL seed i)).length + 1 ≤ 1000000) := by unfold Hid; simp [flV', wL_len]; omega
      have HBS : Hid (w.heap.size ≤ wr.drew.heap.size) := HM.out.bel.size
      have HW : Hid (w.heap.size ≤ w.heap.size) := Nat.le_refl _
      go_upto_region 10 with fail
      clear k0
      have h3 : IntKind.i64.wrap (3 * (i : Int)) = 3 * (i : Int) := by rw [IntKind.wrap_i64]; omega
      have hS : (fun w' => w'.cell? ⟨w.heap.size, 8, none⟩ = some (.int .i64 seed)) wr.drew := cellAt HM.out.x 8 _ rfl
      refine wp_region_noPanic ?_
      refine wp_region_held_drew (S := (fun w' => w'.cell? ⟨w.heap.size, 8, none⟩ = some (.int .i64 seed))) (by kernel_rfl) hS (fun _ => ?_)
      refine takeH 64 (i := 0) (v := ?_) rfl rfl (by kernel_rfl) (by kernel_rfl) (by kernel_rfl) (fun _ _ _ h => h) (Or.inl ⟨by kernel_rfl, ?_⟩) (by assumption) ?_
      rotate_left
      · intro w' hSw; (try dsimp only at hSw); go_simp; try with_reducible rfl
      try simp only [Act.put, List.setIfInBounds_toArray, List.set_cons_zero, List.set_cons_succ]
      refine takeH 66 (i := 2) (v := ?_) rfl rfl (by kernel_rfl) (by kernel_rfl) (by kernel_rfl) (fun _ _ _ h => h) (Or.inl ⟨by kernel_rfl, ?_⟩) (by assumption) ?_
      rotate_left
      · intro w' hSw; (try dsimp only at hSw); go_simp; try with_reducible rfl
      try simp only [Act.put, List.setIfInBounds_toArray, List.set_cons_zero, List.set_cons_succ]
      refine takeH 67 (i := 3) (v := ?_) rfl rfl (by kernel_rfl) (by kernel_rfl) (by kernel_rfl) (fun _ _ _ h => h) (Or.inl ⟨by kernel_rfl, ?_⟩) (by assumption) ?_
      rotate_left
      · intro w' hSw; (try dsimp only at hSw); go_simp; try with_reducible rfl
      try simp only [Act.put, List.setIfInBounds_toArray, List.set_cons_zero, List.set_cons_succ]
      refine takeH 68 (i := 4) (v := ?_) rfl rfl (by kernel_rfl) (by kernel_rfl) (by kernel_rfl) (fun _ _ _ h => h) (Or.inl ⟨by kernel_rfl, ?_⟩) (by assumption) ?_
      rotate_left
      · intro w' hSw; (try dsimp only at hSw); go_simp; try with_reducible rfl
      try simp only [Act.put, List.setIfInBounds_toArray, List.set_cons_zero, List.set_cons_succ]
      refine takeH 69 (i := 5) (v := ?_) rfl rfl (by kernel_rfl) (by kernel_rfl) (by kernel_rfl) (fun _ _ _ h => h) (Or.inl ⟨by kernel_rfl, ?_⟩) (by assumption) ?_
      rotate_left
      · intro w' hSw; (try dsimp only at hSw); go_simp; try with_reducible rfl
      try simp only [Act.put, List.setIfInBounds_toArray, List.set_cons_zero, List.set_cons_succ]
      refine wpAnyH_ready (rs := [1, 6]) (by kernel_rfl) (by simp) ?_
      refine consH _ rfl ?_ (consH _ rfl ?_ AllReadyH.nil)
      · refine hopV 65 (v := v) (w' := wr.drew) rfl rfl rfl (ex_load1 _ 27 _ rfl ⟨w.heap.size + 1 + 1 + 1, 10, none⟩ (by kernel_rfl) _ _ (cellAt HM.out.l 10 _ rfl) agF) ⟨hS, ?_⟩
        try simp only [Act.put, List.setIfInBounds_toArray, List.set_cons_zero, List.set_cons_succ]
        refine wpAnyH_ready (rs := [6]) (by kernel_rfl) (by simp) ?_
        refine consH _ rfl ?_ AllReadyH.nil
        · refine hopCd 70 rfl (by kernel_rfl) rfl (by kernel_rfl) (Calls.mono (small_any seed (3 * (i : Int)) _) ?_)
          rintro e m ⟨rfl, hw⟩
          subst hw
          refine ⟨_, rfl, hS, ?_⟩
          try simp only [Act.put, List.setIfInBounds_toArray, List.set_cons_zero, List.set_cons_succ]
          refine takeH 71 (i := 7) (v := (.float .f64 (flZ (smallZ seed (3 * (i : Int)))))) rfl rfl (by kernel_rfl) (by kernel_rfl) (by kernel_rfl) (fun _ _ _ h => h) (Or.inl ⟨by kernel_rfl, fun w' _ => by kernel_rfl⟩) (by assumption) ?_
          try simp only [Act.put, List.setIfInBounds_toArray, List.set_cons_zero, List.set_cons_succ]
          refine wpAnyH_ready (rs := [8]) (by kernel_rfl) (by simp) ?_
          refine consH _ rfl ?_ AllReadyH.nil
          · refine hopV 72 (v := .slice (some ⟨wr.drew.heap.size, 0, none⟩) 1 1) (w' := (wr.drew.alloc (.cells #[(.float .f64 (flZ (smallZ seed (3 * (i : Int)))))] 26))) rfl rfl rfl (by kernel_rfl) ?_
            have hSA : (fun w' => w'.cell? ⟨w.heap.size, 8, none⟩ = some (.int .i64 seed)) (wr.drew.alloc (.cells #[(.float .f64 (flZ (smallZ seed (3 * (i : Int)))))] 26)) := cellAt (alloc_kept HM.out.x _) 8 _ rfl
            refine ⟨hSA, ?_⟩
            try simp only [Act.put, List.setIfInBounds_toArray, List.set_cons_zero, List.set_cons_succ]
            refine wpAnyH_ready (rs := [9]) (by kernel_rfl) (by simp) ?_
            refine consH _ rfl (hopL rfl (appendG1 Try.underlying27 Try.infoF rfl (by decide) wr.drew (by rfl) _ _ (by rfl) w.heap.size v (flV' (wL seed i)) (by kernel_rfl) (own_kp HO.out fun _ _ => rfl) (.float .f64 (flZ (smallZ seed (3 * (i : Int))))) (by kernel_rfl) rfl HLE.out HBS.out fun v5 w5 hO5 hk5 hb5 => ?_)) AllReadyH.nil
            change QK _ _ Exit.normal (Act.put _ (some 73) v5) w5
            have hk6 : ∀ k, k < wr.heap.size → v.ownBlock ≠ some k → w5.heap[k]? = wr.heap[k]? := hk5
            have hS5 : (fun w' => w'.cell? ⟨w.heap.size, 8, none⟩ = some (.int .i64 seed)) w5 := cellAt ((hk6 _ (blk_lt HM.out.x) (own_ne HO.out HM.out.x (by decide))).trans HM.out.x) 8 _ rfl
            refine (And.intro hS5 ?_ : _ ∧ _)
            try simp only [Act.put, List.setIfInBounds_toArray, List.set_cons_zero, List.set_cons_succ]
            refine takeH 74 (i := 10) (v := ?_) rfl rfl (by kernel_rfl) (by kernel_rfl) (by kernel_rfl) (fun _ _ _ h => h) (Or.inl ⟨by kernel_rfl, ?_⟩) (by assumption) ?_
            rotate_left
            · intro w' hSw; (try dsimp only at hSw); go_simp; try with_reducible rfl
            try simp only [Act.put, List.setIfInBounds_toArray, List.set_cons_zero, List.set_cons_succ]
            refine wpAnyH_ready (rs := [11]) (by kernel_rfl) (by simp) ?_
            have hL5 := (hk6 _ (blk_lt HM.out.l) (own_ne HO.out HM.out.l (by decide))).trans HM.out.l
            have hB5 : Below w.heap.size w w5 := HM.out.bel.drew.trans (hb5.mono HW.out)
            refine consH _ rfl (hopL rfl (wpList_store_at (by rfl) 27 _ _ (by rfl) w w.heap.size (w.heap.size + 1 + 1 + 1) 10 v5 _ #[.int .i64 kd, .int .i64 (o : Int), .int .i64 g1, .int .i64 g2, .int .i64 g3, .int .i64 g4, .int .i64 g5, .int .i64 g6, .int .i64 0, .float .f64 0, v5, .slice none 0 0, .slice none 0 0, .slice none 0 0] 30 (by kernel_rfl) (by kernel_rfl) hL5 hB5 (by omega) 1 Try.infoSl2 (by rw [(own_val hO5).2]; rfl) (Nat.le_of_ble_eq_true rfl) (by intro u hu; rw [(own_val hO5).2] at hu; simp at hu; subst hu; exact (own_val hO5).1) (by rw [(own_val hO5).2]; rfl) fun w9 e9 b9 s9 k9 => ?_)) AllReadyH.nil
            have hS9 : (fun w' => w'.cell? ⟨w.heap.size, 8, none⟩ = some (.int .i64 seed)) w9 := cellAt ((k9 _ (by omega)).trans ((hk6 _ (blk_lt HM.out.x) (own_ne HO.out HM.out.x (by decide))).trans HM.out.x)) 8 _ rfl
            refine (And.intro hS9 ?_ : _ ∧ _)
            try simp only [Act.put, List.setIfInBounds_toArray, List.set_cons_zero, List.set_cons_succ]
            refine wpAnyH_done (by kernel_rfl) ?_ _
            refine NoPanic.normal ?_
            try simp only [Act.put, List.setIfInBounds_toArray, List.set_cons_zero, List.set_cons_succ]
            have HM9 : Hid (MD w w9 #[.int .i64 kd, .int .i64 (o : Int), .int .i64 g1, .int .i64 g2, .int .i64 g3, .int .i64 g4, .int .i64 g5, .int .i64 g6, .int .i64 seed] #[.int .i64 kd, .int .i64 (o : Int), .int .i64 g1, .int .i64 g2, .int .i64 g3, .int .i64 g4, .int .i64 g5, .int .i64 g6, .int .i64 0, .float .f64 0, v5, .slice none 0 0, .slice none 0 0, .slice none 0 0] #[.int .i64 (p : Int), .int .i64 (o : Int), .int .i64 0, .int .i64 0] D) := MD.app HM.out (Below.refl _ _) HO.out HW.out hk6 e9 b9 k9
            have HO9 : Hid (OwnF w9 w.heap.size v5 (wL seed (i + 1))) := by
              unfold Hid OwnF; rw [wL_snoc, flV'_snoc]; exact own_kp hO5 fun k hk => k9 k fun e => own_ne hO5 hL5 (by decide) (e ▸ hk)
            clear hS hS5 hS9 hk5 hk6 hb5 hL5 hB5 e9 b9 s9 k9 hO5
            go_wp2_with fail
            go_roundg g
            case measure => omega
            case rel => exact ⟨i + 1, v5, by go_num, by omega, HM9, HO9⟩
      · refine hopCd 70 rfl (by kernel_rfl) rfl (by kernel_rfl) (Calls.mono (small_any seed (3 * (i : Int)) _) ?_)
        rintro e m ⟨rfl, hw⟩
        subst hw
        refine ⟨_, rfl, hS, ?_⟩
        try simp only [Act.put, List.setIfInBounds_toArray, List.set_cons_zero, List.set_cons_succ]
        refine takeH 71 (i := 7) (v := (.float .f64 (flZ (smallZ seed (3 * (i : Int)))))) rfl rfl (by kernel_rfl) (by kernel_rfl) (by kernel_rfl) (fun _ _ _ h => h) (Or.inl ⟨by kernel_rfl, fun w' _ => by kernel_rfl⟩) (by assumption) ?_
        try simp only [Act.put, List.setIfInBounds_toArray, List.set_cons_zero, List.set_cons_succ]
        refine wpAnyH_ready (rs := [1, 8]) (by kernel_rfl) (by simp) ?_
        refine consH _ rfl ?_ (consH _ rfl ?_ AllReadyH.nil)
        · refine hopV 65 (v := v) (w' := wr.drew) rfl rfl rfl (ex_load1 _ 27 _ rfl ⟨w.heap.size + 1 + 1 + 1, 10, none⟩ (by kernel_rfl) _ _ (cellAt HM.out.l 10 _ rfl) agF) ⟨hS, ?_⟩
          try simp only [Act.put, List.setIfInBounds_toArray, List.set_cons_zero, List.set_cons_succ]
          refine wpAnyH_ready (rs := [8]) (by kernel_rfl) (by simp) ?_
          refine consH _ rfl ?_ AllReadyH.nil
          · refine hopV 72 (v := .slice (some ⟨wr.drew.heap.size, 0, none⟩) 1 1) (w' := (wr.drew.alloc (.cells #[(.float .f64 (flZ (smallZ seed (3 * (i : Int)))))] 26))) rfl rfl rfl (by kernel_rfl) ?_
            have hSA : (fun w' => w'.cell? ⟨w.heap.size, 8, none⟩ = some (.int .i64 seed)) (wr.drew.alloc (.cells #[(.float .f64 (flZ (smallZ seed (3 * (i : Int)))))] 26)) := cellAt (alloc_kept HM.out.x _) 8 _ rfl
            refine ⟨hSA, ?_⟩
            try simp only [Act.put, List.setIfInBounds_toArray, List.set_cons_zero, List.set_cons_succ]
            refine wpAnyH_ready (rs := [9]) (by kernel_rfl) (by simp) ?_
            refine consH _ rfl (hopL rfl (appendG1 Try.underlying27 Try.infoF rfl (by decide) wr.drew (by rfl) _ _ (by rfl) w.heap.size v (flV' (wL seed i)) (by kernel_rfl) (own_kp HO.out fun _ _ => rfl) (.float .f64 (flZ (smallZ seed (3 * (i : Int))))) (by kernel_rfl) rfl HLE.out HBS.out fun v5 w5 hO5 hk5 hb5 => ?_)) AllReadyH.nil
            change QK _ _ Exit.normal (Act.put _ (some 73) v5) w5
            have hk6 : ∀ k, k < wr.heap.size → v.ownBlock ≠ some k → w5.heap[k]? = wr.heap[k]? := hk5
            have hS5 : (fun w' => w'.cell? ⟨w.heap.size, 8, none⟩ = some (.int .i64 seed)) w5 := cellAt ((hk6 _ (blk_lt HM.out.x) (own_ne HO.out HM.out.x (by decide))).trans HM.out.x) 8 _ rfl
            refine (And.intro hS5 ?_ : _ ∧ _)
            try simp only [Act.put, List.setIfInBounds_toArray, List.set_cons_zero, List.set_cons_succ]
            refine takeH 74 (i := 10) (v := ?_) rfl rfl (by kernel_rfl) (by kernel_rfl) (by kernel_rfl) (fun _ _ _ h => h) (Or.inl ⟨by kernel_rfl, ?_⟩) (by assumption) ?_
            rotate_left
            · intro w' hSw; (try dsimp only at hSw); go_simp; try with_reducible rfl
            try simp only [Act.put, List.setIfInBounds_toArray, List.set_cons_zero, List.set_cons_succ]
            refine wpAnyH_ready (rs := [11]) (by kernel_rfl) (by simp) ?_
            have hL5 := (hk6 _ (blk_lt HM.out.l) (own_ne HO.out HM.out.l (by decide))).trans HM.out.l
            have hB5 : Below w.heap.size w w5 := HM.out.bel.drew.trans (hb5.mono HW.out)
            refine consH _ rfl (hopL rfl (wpList_store_at (by rfl) 27 _ _ (by rfl) w w.heap.size (w.heap.size + 1 + 1 + 1) 10 v5 _ #[.int .i64 kd, .int .i64 (o : Int), .int .i64 g1, .int .i64 g2, .int .i64 g3, .int .i64 g4, .int .i64 g5, .int .i64 g6, .int .i64 0, .float .f64 0, v5, .slice none 0 0, .slice none 0 0, .slice none 0 0] 30 (by kernel_rfl) (by kernel_rfl) hL5 hB5 (by omega) 1 Try.infoSl2 (by rw [(own_val hO5).2]; rfl) (Nat.le_of_ble_eq_true rfl) (by intro u hu; rw [(own_val hO5).2] at hu; simp at hu; subst hu; exact (own_val hO5).1) (by rw [(own_val hO5).2]; rfl) fun w9 e9 b9 s9 k9 => ?_)) AllReadyH.nil
            have hS9 : (fun w' => w'.cell? ⟨w.heap.size, 8, none⟩ = some (.int .i64 seed)) w9 := cellAt ((k9 _ (by omega)).trans ((hk6 _ (blk_lt HM.out.x) (own_ne HO.out HM.out.x (by decide))).trans HM.out.x)) 8 _ rfl
            refine (And.intro hS9 ?_ : _ ∧ _)
            try simp only [Act.put, List.setIfInBounds_toArray, List.set_cons_zero, List.set_cons_succ]
            refine wpAnyH_done (by kernel_rfl) ?_ _
            refine NoPanic.normal ?_
            try simp only [Act.put, List.setIfInBounds_toArray, List.set_cons_zero, List.set_cons_succ]
            have HM9 : Hid (MD w w9 #[.int .i64 kd, .int .i64 (o : Int), .int .i64 g1, .int .i64 g2, .int .i64 g3, .int .i64 g4, .int .i64 g5, .int .i64 g6, .int .i64 seed] #[.int .i64 kd, .int .i64 (o : Int), .int .i64 g1, .int .i64 g2, .int .i64 g3, .int .i64 g4, .int .i64 g5, .int .i64 g6, .int .i64 0, .float .f64 0, v5, .slice none 0 0, .slice none 0 0, .slice none 0 0] #[.int .i64 (p : Int), .int .i64 (o : Int), .int .i64 0, .int .i64 0] D) := MD.app HM.out (Below.refl _ _) HO.out HW.out hk6 e9 b9 k9
            have HO9 : Hid (OwnF w9 w.heap.size v5 (wL seed (i + 1))) := by
              unfold Hid OwnF; rw [wL_snoc, flV'_snoc]; exact own_kp hO5 fun k hk => k9 k fun e => own_ne hO5 hL5 (by decide) (e ▸ hk)
            clear hS hS5 hS9 hk5 hk6 hb5 hL5 hB5 e9 b9 s9 k9 hO5
            go_wp2_with fail
            go_roundg g
            case measure => omega
            case rel => exact ⟨i + 1, v5, by go_num, by omega, HM9, HO9⟩
        · refine hopV 72 (v := .slice (some ⟨wr.drew.heap.size, 0, none⟩) 1 1) (w' := (wr.drew.alloc (.cells #[(.float .f64 (flZ (smallZ seed (3 * (i : Int)))))] 26))) rfl rfl rfl (by kernel_rfl) ?_
          have hSA : (fun w' => w'.cell? ⟨w.heap.size, 8, none⟩ = some (.int .i64 seed)) (wr.drew.alloc (.cells #[(.float .f64 (flZ (smallZ seed (3 * (i : Int)))))] 26)) := cellAt (alloc_kept HM.out.x _) 8 _ rfl
          refine ⟨hSA, ?_⟩
          try simp only [Act.put, List.setIfInBounds_toArray, List.set_cons_zero, List.set_cons_succ]
          refine wpAnyH_ready (rs := [1]) (by kernel_rfl) (by simp) ?_
          refine consH _ rfl ?_ AllReadyH.nil
          · refine hopV 65 (v := v) (w' := (wr.drew.alloc (.cells #[(.float .f64 (flZ (smallZ seed (3 * (i : Int)))))] 26))) rfl rfl rfl (ex_load1 _ 27 _ rfl ⟨w.heap.size + 1 + 1 + 1, 10, none⟩ (by kernel_rfl) _ _ (cellAt (alloc_kept HM.out.l _) 10 _ rfl) agF) ⟨hSA, ?_⟩
            try simp only [Act.put, List.setIfInBounds_toArray, List.set_cons_zero, List.set_cons_succ]
            refine wpAnyH_ready (rs := [9]) (by kernel_rfl) (by simp) ?_
            refine consH _ rfl (hopL rfl (appendG1 Try.underlying27 Try.infoF rfl (by decide) wr.drew (by rfl) _ _ (by rfl) w.heap.size v (flV' (wL seed i)) (by kernel_rfl) (own_kp HO.out fun _ _ => rfl) (.float .f64 (flZ (smallZ seed (3 * (i : Int))))) (by kernel_rfl) rfl HLE.out HBS.out fun v5 w5 hO5 hk5 hb5 => ?_)) AllReadyH.nil
            change QK _ _ Exit.normal (Act.put _ (some 73) v5) w5
            have hk6 : ∀ k, k < wr.heap.size → v.ownBlock ≠ some k → w5.heap[k]? = wr.heap[k]? := hk5
            have hS5 : (fun w' => w'.cell? ⟨w.heap.size, 8, none⟩ = some (.int .i64 seed)) w5 := cellAt ((hk6 _ (blk_lt HM.out.x) (own_ne HO.out HM.out.x (by decide))).trans HM.out.x) 8 _ rfl
            refine (And.intro hS5 ?_ : _ ∧ _)
            try simp only [Act.put, List.setIfInBounds_toArray, List.set_cons_zero, List.set_cons_succ]
            refine takeH 74 (i := 10) (v := ?_) rfl rfl (by kernel_rfl) (by kernel_rfl) (by kernel_rfl) (fun _ _ _ h => h) (Or.inl ⟨by kernel_rfl, ?_⟩) (by assumption) ?_
            rotate_left
            · intro w' hSw; (try dsimp only at hSw); go_simp; try with_reducible rfl
            try simp only [Act.put, List.setIfInBounds_toArray, List.set_cons_zero, List.set_cons_succ]
            refine wpAnyH_ready (rs := [11]) (by kernel_rfl) (by simp) ?_
            have hL5 := (hk6 _ (blk_lt HM.out.l) (own_ne HO.out HM.out.l (by decide))).trans HM.out.l
            have hB5 : Below w.heap.size w w5 := HM.out.bel.drew.trans (hb5.mono HW.out)
            refine consH _ rfl (hopL rfl (wpList_store_at (by rfl) 27 _ _ (by rfl) w w.heap.size (w.heap.size + 1 + 1 + 1) 10 v5 _ #[.int .i64 kd, .int .i64 (o : Int), .int .i64 g1, .int .i64 g2, .int .i64 g3, .int .i64 g4, .int .i64 g5, .int .i64 g6, .int .i64 0, .float .f64 0, v5, .slice none 0 0, .slice none 0 0, .slice none 0 0] 30 (by kernel_rfl) (by kernel_rfl) hL5 hB5 (by omega) 1 Try.infoSl2 (by rw [(own_val hO5).2]; rfl) (Nat.le_of_ble_eq_true rfl) (by intro u hu; rw [(own_val hO5).2] at hu; simp at hu; subst hu; exact (own_val hO5).1) (by rw [(own_val hO5).2]; rfl) fun w9 e9 b9 s9 k9 => ?_)) AllReadyH.nil
            have hS9 : (fun w' => w'.cell? ⟨w.heap.size, 8, none⟩ = some (.int .i64 seed)) w9 := cellAt ((k9 _ (by omega)).trans ((hk6 _ (blk_lt HM.out.x) (own_ne HO.out HM.out.x (by decide))).trans HM.out.x)) 8 _ rfl
            refine (And.intro hS9 ?_ : _ ∧ _)
            try simp only [Act.put, List.setIfInBounds_toArray, List.set_cons_zero, List.set_cons_succ]
            refine wpAnyH_done (by kernel_rfl) ?_ _
            refine NoPanic.normal ?_
            try simp only [Act.put, List.setIfInBounds_toArray, List.set_cons_zero, List.set_cons_succ]
            have HM9 : Hid (MD w w9 #[.int .i64 kd, .int .i64 (o : Int), .int .i64 g1, .int .i64 g2, .int .i64 g3, .int .i64 g4, .int .i64 g5, .int .i64 g6, .int .i64 seed] #[.int .i64 kd, .int .i64 (o : Int), .int .i64 g1, .int .i64 g2, .int .i64 g3, .int .i64 g4, .int .i64 g5, .int .i64 g6, .int .i64 0, .float .f64 0, v5, .slice none 0 0, .slice none 0 0, .slice none 0 0] #[.int .i64 (p : Int), .int .i64 (o : Int), .int .i64 0, .int .i64 0] D) := MD.app HM.out (Below.refl _ _) HO.out HW.out hk6 e9 b9 k9
            have HO9 : Hid (OwnF w9 w.heap.size v5 (wL seed (i + 1))) := by
              unfold Hid OwnF; rw [wL_snoc, flV'_snoc]; exact own_kp hO5 fun k hk => k9 k fun e => own_ne hO5 hL5 (by decide) (e ▸ hk)
            clear hS hS5 hS9 hk5 hk6 hb5 hL5 hB5 e9 b9 s9 k9 hO5
            go_wp2_with fail
            go_roundg g
            case measure => omega
            case rel => exact ⟨i + 1, v5, by go_num, by omega, HM9, HO9⟩
    · have HV0 : Hid (OwnF wr w.heap.size v (wL seed p)) := by have e : i = p := by omega
                                                               exact e ▸ HO.out
      have hd : decide ((i : Int) < (p : Int)) = false := decide_eq_false (by omega)
      have hd' : decide (i < p) = false := decide_eq_false (by omega)
      obtain ⟨nb, hnb⟩ : ∃ nb, wr.heap.size = nb := ⟨_, rfl⟩
      have HNB : Hid (wr.heap.size = nb) := hnb
      clear hnb
      have HW : Hid (w.heap.size ≤ nb) := HNB.out ▸ HM.out.bel.size
      have HVL : Hid (∀ k, v.ownBlock = some k → k < nb) := fun k hk => HNB.out ▸ (World.ownsRow.lt HV0.out k hk).2
      have HN0 : Hid (nb ≤ wr.heap.size) := Nat.le_of_eq HNB.out.symm
      have HM0 : Hid _ := HM.out
      clear HO hlt hi
      go_wp2_with fail
      clear k0 hd hd'
      go_loopg [10] o (fun g u wx => ∃ (i : Nat) (v2 : Value), u = .int .i64 i ∧ i + g = o ∧ Hid (MD w wx #[.int .i64 kd, .int .i64 (o : Int), .int .i64 g1, .int .i64 g2, .int .i64 g3, .int .i64 g4, .int .i64 g5, .int .i64 g6, .int .i64 seed] #[.int .i64 kd, .int .i64 (o : Int), .int .i64 g1, .int .i64 g2, .int .i64 g3, .int .i64 g4, .int .i64 g5, .int .i64 g6, .int .i64 0, .float .f64 0, v, v2, .slice none 0 0, .slice none 0 0] #[.int .i64 (p : Int), .int .i64 (o : Int), .int .i64 0, .int .i64 0] D) ∧ Hid (OwnF wx w.heap.size v (wL seed p) ∧ ∀ k, v.ownBlock = some k → k < nb) ∧ Hid (OwnF wx nb v2 (bL seed i)) ∧ Hid (nb ≤ wx.heap.size))
      case atStart => exact ⟨0, _, rfl, by omega, HM0, ⟨HV0.out, HVL.out⟩, OwnF.nil _ _, HN0⟩
      case round =>
        clear HM HM0 HV0 HVL HN0 HNB
        obtain ⟨i, v2, rfl, hi, HM, HV, HO, HN⟩ := hrel
        have k1 := cellAt HM.out.k 1 (.int .i64 (o : Int)) rfl
        by_cases hlt : i < o
        · have hd : decide ((i : Int) < (o : Int)) = true := decide_eq_true (by omega)
          obtain ⟨g, rfl⟩ : ∃ g, gk = g + 1 := ⟨gk - 1, by omega⟩
          have HLE : Hid ((flV' (bL seed i)).length + 1 ≤ 1000000) := by unfold Hid; simp [flV', bL_len]; omega
          have HBS : Hid (nb ≤ wr.drew.heap.size) := HN.out
          go_upto_region 14 with fail
          clear k1
          have h5 : IntKind.i64.wrap (5 * (i : Int)) = 5 * (i : Int) := by rw [IntKind.wrap_i64]; omega
          have h51 : IntKind.i64.wrap (5 * (i : Int) + 1) = 5 * (i : Int) + 1 := by rw [IntKind.wrap_i64]; omega
          have hS : (fun w' => w'.cell? ⟨w.heap.size, 8, none⟩ = some (.int .i64 seed)) wr.drew := cellAt HM.out.x 8 _ rfl
          refine wp_region_noPanic ?_
          refine wp_region_held_drew (S := (fun w' => w'.cell? ⟨w.heap.size, 8, none⟩ = some (.int .i64 seed))) (by kernel_rfl) hS (fun _ => ?_)
          refine takeH 81 (i := 0) (v := ?_) rfl rfl (by kernel_rfl) (by kernel_rfl) (by kernel_rfl) (fun _ _ _ h => h) (Or.inl ⟨by kernel_rfl, ?_⟩) (by assumption) ?_
          rotate_left
          · intro w' hSw; (try dsimp only at hSw); go_simp; try with_reducible rfl
          try simp only [Act.put, List.setIfInBounds_toArray, List.set_cons_zero, List.set_cons_succ]
          refine takeH 83 (i := 2) (v := ?_) rfl rfl (by kernel_rfl) (by kernel_rfl) (by kernel_rfl) (fun _ _ _ h => h) (Or.inl ⟨by kernel_rfl, ?_⟩) (by assumption) ?_
          rotate_left
          · intro w' hSw; (try dsimp only at hSw); go_simp; try with_reducible rfl
          try simp only [Act.put, List.setIfInBounds_toArray, List.set_cons_zero, List.set_cons_succ]
          refine takeH 84 (i := 3) (v := ?_) rfl rfl (by kernel_rfl) (by kernel_rfl) (by kernel_rfl) (fun _ _ _ h => h) (Or.inl ⟨by kernel_rfl, ?_⟩) (by assumption) ?_
          rotate_left
          · intro w' hSw; (try dsimp only at hSw); go_simp; try with_reducible rfl
          try simp only [Act.put, List.setIfInBounds_toArray, List.set_cons_zero, List.set_cons_succ]
          refine takeH 85 (i := 4) (v := ?_) rfl rfl (by kernel_rfl) (by kernel_rfl) (by kernel_rfl) (fun _ _ _ h => h) (Or.inl ⟨by kernel_rfl, ?_⟩) (by assumption) ?_
          rotate_left
          · intro w' hSw; (try dsimp only at hSw); go_simp; try with_reducible rfl
          try simp only [Act.put, List.setIfInBounds_toArray, List.set_cons_zero, List.set_cons_succ]
          refine takeH 86 (i := 5) (v := ?_) rfl rfl (by kernel_rfl) (by kernel_rfl) (by kernel_rfl) (fun _ _ _ h => h) (Or.inl ⟨by kernel_rfl, ?_⟩) (by assumption) ?_
          rotate_left
          · intro w' hSw; (try dsimp only at hSw); go_simp; try with_reducible rfl
          try simp only [Act.put, List.setIfInBounds_toArray, List.set_cons_zero, List.set_cons_succ]
          refine takeH 87 (i := 6) (v := ?_) rfl rfl (by kernel_rfl) (by kernel_rfl) (by kernel_rfl) (fun _ _ _ h => h) (Or.inl ⟨by kernel_rfl, ?_⟩) (by assumption) ?_
          rotate_left
          · intro w' hSw; (try dsimp only at hSw); go_simp; try with_reducible rfl
          try simp only [Act.put, List.setIfInBounds_toArray, List.set_cons_zero, List.set_cons_succ]
          refine wpAnyH_ready (rs := [1, 7]) (by kernel_rfl) (by simp) ?_
          refine consH _ rfl ?_ (consH _ rfl ?_ AllReadyH.nil)
          · refine hopV 82 (v := v2) (w' := wr.drew) rfl rfl rfl (ex_load1 _ 27 _ rfl ⟨w.heap.size + 1 + 1 + 1, 11, none⟩ (by kernel_rfl) _ _ (cellAt HM.out.l 11 _ rfl) agF) ⟨hS, ?_⟩
            try simp only [Act.put, List.setIfInBounds_toArray, List.set_cons_zero, List.set_cons_succ]
            refine wpAnyH_ready (rs := [7]) (by kernel_rfl) (by simp) ?_
            refine consH _ rfl ?_ AllReadyH.nil
            · refine hopCd 88 rfl (by kernel_rfl) rfl (by kernel_rfl) (Calls.mono (small_any seed (5 * (i : Int) + 1) _) ?_)
              rintro e m ⟨rfl, hw⟩
              subst hw
              refine ⟨_, rfl, hS, ?_⟩
              try simp only [Act.put, List.setIfInBounds_toArray, List.set_cons_zero, List.set_cons_succ]
              refine takeH 89 (i := 8) (v := (.float .f64 (flZ (smallZ seed (5 * (i : Int) + 1))))) rfl rfl (by kernel_rfl) (by kernel_rfl) (by kernel_rfl) (fun _ _ _ h => h) (Or.inl ⟨by kernel_rfl, fun w' _ => by kernel_rfl⟩) (by assumption) ?_
              try simp only [Act.put, List.setIfInBounds_toArray, List.set_cons_zero, List.set_cons_succ]
              refine wpAnyH_ready (rs := [9]) (by kernel_rfl) (by simp) ?_
              refine consH _ rfl ?_ AllReadyH.nil
              · refine hopV 90 (v := .slice (some ⟨wr.drew.heap.size, 0, none⟩) 1 1) (w' := (wr.drew.alloc (.cells #[(.float .f64 (flZ (smallZ seed (5 * (i : Int) + 1))))] 26))) rfl rfl rfl (by kernel_rfl) ?_
                have hSA : (fun w' => w'.cell? ⟨w.heap.size, 8, none⟩ = some (.int .i64 seed)) (wr.drew.alloc (.cells #[(.float .f64 (flZ (smallZ seed (5 * (i : Int) + 1))))] 26)) := cellAt (alloc_kept HM.out.x _) 8 _ rfl
                refine ⟨hSA, ?_⟩
                try simp only [Act.put, List.setIfInBounds_toArray, List.set_cons_zero, List.set_cons_succ]
                refine wpAnyH_ready (rs := [10]) (by kernel_rfl) (by simp) ?_
                refine consH _ rfl (hopL rfl (appendG1 Try.underlying27 Try.infoF rfl (by decide) wr.drew (by rfl) _ _ (by rfl) nb v2 (flV' (bL seed i)) (by kernel_rfl) (own_kp HO.out fun _ _ => rfl) (.float .f64 (flZ (smallZ seed (5 * (i : Int) + 1)))) (by kernel_rfl) rfl HLE.out HBS.out fun v5 w5 hO5 hk5 hb5 => ?_)) AllReadyH.nil
                change QK _ _ Exit.normal (Act.put _ (some 91) v5) w5
                have hk6 : ∀ k, k < wr.heap.size → v2.ownBlock ≠ some k → w5.heap[k]? = wr.heap[k]? := hk5
                have hS5 : (fun w' => w'.cell? ⟨w.heap.size, 8, none⟩ = some (.int .i64 seed)) w5 := cellAt ((hk6 _ (blk_lt HM.out.x) (own_ne HO.out HM.out.x (by decide))).trans HM.out.x) 8 _ rfl
                refine (And.intro hS5 ?_ : _ ∧ _)
                try simp only [Act.put, List.setIfInBounds_toArray, List.set_cons_zero, List.set_cons_succ]
                refine takeH 92 (i := 11) (v := ?_) rfl rfl (by kernel_rfl) (by kernel_rfl) (by kernel_rfl) (fun _ _ _ h => h) (Or.inl ⟨by kernel_rfl, ?_⟩) (by assumption) ?_
                rotate_left
                · intro w' hSw; (try dsimp only at hSw); go_simp; try with_reducible rfl
                try simp only [Act.put, List.setIfInBounds_toArray, List.set_cons_zero, List.set_cons_succ]
                refine wpAnyH_ready (rs := [12]) (by kernel_rfl) (by simp) ?_
                have hL5 := (hk6 _ (blk_lt HM.out.l) (own_ne HO.out HM.out.l (by decide))).trans HM.out.l
                have hB5 : Below w.heap.size w w5 := HM.out.bel.drew.trans (hb5.mono HW.out)
                refine consH _ rfl (hopL rfl (wpList_store_at (by rfl) 27 _ _ (by rfl) w w.heap.size (w.heap.size + 1 + 1 + 1) 11 v5 _ #[.int .i64 kd, .int .i64 (o : Int), .int .i64 g1, .int .i64 g2, .int .i64 g3, .int .i64 g4, .int .i64 g5, .int .i64 g6, .int .i64 0, .float .f64 0, v, v5, .slice none 0 0, .slice none 0 0] 30 (by kernel_rfl) (by kernel_rfl) hL5 hB5 (by omega) 1 Try.infoSl2 (by rw [(own_val hO5).2]; rfl) (Nat.le_of_ble_eq_true rfl) (by intro u hu; rw [(own_val hO5).2] at hu; simp at hu; subst hu; exact (own_val hO5).1) (by rw [(own_val hO5).2]; rfl) fun w9 e9 b9 s9 k9 => ?_)) AllReadyH.nil
                have hS9 : (fun w' => w'.cell? ⟨w.heap.size, 8, none⟩ = some (.int .i64 seed)) w9 := cellAt ((k9 _ (by omega)).trans ((hk6 _ (blk_lt HM.out.x) (own_ne HO.out HM.out.x (by decide))).trans HM.out.x)) 8 _ rfl
                refine (And.intro hS9 ?_ : _ ∧ _)
                try simp only [Act.put, List.setIfInBounds_toArray, List.set_cons_zero, List.set_cons_succ]
                refine wpAnyH_done (by kernel_rfl) ?_ _
                refine NoPanic.normal ?_
                try simp only [Act.put, List.setIfInBounds_toArray, List.set_cons_zero, List.set_cons_succ]
                have HM9 : Hid (MD w w9 #[.int .i64 kd, .int .i64 (o : Int), .int .i64 g1, .int .i64 g2, .int .i64 g3, .int .i64 g4, .int .i64 g5, .int .i64 g6, .int .i64 seed] #[.int .i64 kd, .int .i64 (o : Int), .int .i64 g1, .int .i64 g2, .int .i64 g3, .int .i64 g4, .int .i64 g5, .int .i64 g6, .int .i64 0, .float .f64 0, v, v5, .slice none 0 0, .slice none 0 0] #[.int .i64 (p : Int), .int .i64 (o : Int), .int .i64 0, .int .i64 0] D) := MD.app HM.out (Below.refl _ _) HO.out HW.out hk6 e9 b9 k9
                have HO9 : Hid (OwnF w9 nb v5 (bL seed (i + 1))) := by
                  unfold Hid OwnF; rw [bL_snoc, flV'_snoc]; exact own_kp hO5 fun k hk => k9 k fun e => own_ne hO5 hL5 (by decide) (e ▸ hk)
                have HV9 : Hid (OwnF w9 w.heap.size v (wL seed p) ∧ ∀ k, v.ownBlock = some k → k < nb) := ⟨own_kp HV.out.1 fun k hk => (k9 k fun e => own_ne HV.out.1 HM.out.l (by decide) (e ▸ hk)).trans (hk6 k (World.ownsRow.lt HV.out.1 k hk).2 fun e => by have h1 := (World.ownsRow.lt HO.out k e).1; have h2 := HV.out.2 k hk; omega), HV.out.2⟩
                have HN9 : Hid (nb ≤ w9.heap.size) := by unfold Hid; have h1 := hb5.size; have h2 := HN.out; rw [s9]; exact Nat.le_trans h2 h1
                clear hS hS5 hS9 hk5 hk6 hb5 hL5 hB5 e9 b9 s9 k9 hO5
                go_wp2_with fail
                go_roundg g
                case measure => omega
                case rel => exact ⟨i + 1, v5, by go_num, by omega, HM9, HV9, HO9, HN9⟩
          · refine hopCd 88 rfl (by kernel_rfl) rfl (by kernel_rfl) (Calls.mono (small_any seed (5 * (i : Int) + 1) _) ?_)
            rintro e m ⟨rfl, hw⟩
            subst hw
            refine ⟨_, rfl, hS, ?_⟩
            try simp only [Act.put, List.setIfInBounds_toArray, List.set_cons_zero, List.set_cons_succ]
            refine takeH 89 (i := 8) (v := (.float .f64 (flZ (smallZ seed (5 * (i : Int) + 1))))) rfl rfl (by kernel_rfl) (by kernel_rfl) (by kernel_rfl) (fun _ _ _ h => h) (Or.inl ⟨by kernel_rfl, fun w' _ => by kernel_rfl⟩) (by assumption) ?_
            try simp only [Act.put, List.setIfInBounds_toArray, List.set_cons_zero, List.set_cons_succ]
            refine wpAnyH_ready (rs := [1, 9]) (by kernel_rfl) (by simp) ?_
            refine consH _ rfl ?_ (consH _ rfl ?_ AllReadyH.nil)
            · refine hopV 82 (v := v2) (w' := wr.drew) rfl rfl rfl (ex_load1 _ 27 _ rfl ⟨w.heap.size + 1 + 1 + 1, 11, none⟩ (by kernel_rfl) _ _ (cellAt HM.out.l 11 _ rfl) agF) ⟨hS, ?_⟩
              try simp only [Act.put, List.setIfInBounds_toArray, List.set_cons_zero, List.set_cons_succ]
              refine wpAnyH_ready (rs := [9]) (by kernel_rfl) (by simp) ?_
              refine consH _ rfl ?_ AllReadyH.nil
              · refine hopV 90 (v := .slice (some ⟨wr.drew.heap.size, 0, none⟩) 1 1) (w' := (wr.drew.alloc (.cells #[(.float .f64 (flZ (smallZ seed (5 * (i : Int) + 1))))] 26))) rfl rfl rfl (by kernel_rfl) ?_
                have hSA : (fun w' => w'.cell? ⟨w.heap.size, 8, none⟩ = some (.int .i64 seed)) (wr.drew.alloc (.cells #[(.float .f64 (flZ (smallZ seed (5 * (i : Int) + 1))))] 26)) := cellAt (alloc_kept HM.out.x _) 8 _ rfl
                refine ⟨hSA, ?_⟩
                try simp only [Act.put, List.setIfInBounds_toArray, List.set_cons_zero, List.set_cons_succ]
                refine wpAnyH_ready (rs := [10]) (by kernel_rfl) (by simp) ?_
                refine consH _ rfl (hopL rfl (appendG1 Try.underlying27 Try.infoF rfl (by decide) wr.drew (by rfl) _ _ (by rfl) nb v2 (flV' (bL seed i)) (by kernel_rfl) (own_kp HO.out fun _ _ => rfl) (.float .f64 (flZ (smallZ seed (5 * (i : Int) + 1)))) (by kernel_rfl) rfl HLE.out HBS.out fun v5 w5 hO5 hk5 hb5 => ?_)) AllReadyH.nil
                change QK _ _ Exit.normal (Act.put _ (some 91) v5) w5
                have hk6 : ∀ k, k < wr.heap.size → v2.ownBlock ≠ some k → w5.heap[k]? = wr.heap[k]? := hk5
                have hS5 : (fun w' => w'.cell? ⟨w.heap.size, 8, none⟩ = some (.int .i64 seed)) w5 := cellAt ((hk6 _ (blk_lt HM.out.x) (own_ne HO.out HM.out.x (by decide))).trans HM.out.x) 8 _ rfl
                refine (And.intro hS5 ?_ : _ ∧ _)
                try simp only [Act.put, List.setIfInBounds_toArray, List.set_cons_zero, List.set_cons_succ]
                refine takeH 92 (i := 11) (v := ?_) rfl rfl (by kernel_rfl) (by kernel_rfl) (by kernel_rfl) (fun _ _ _ h => h) (Or.inl ⟨by kernel_rfl, ?_⟩) (by assumption) ?_
                rotate_left
                · intro w' hSw; (try dsimp only at hSw); go_simp; try with_reducible rfl
                try simp only [Act.put, List.setIfInBounds_toArray, List.set_cons_zero, List.set_cons_succ]
                refine wpAnyH_ready (rs := [12]) (by kernel_rfl) (by simp) ?_
                have hL5 := (hk6 _ (blk_lt HM.out.l) (own_ne HO.out HM.out.l (by decide))).trans HM.out.l
                have hB5 : Below w.heap.size w w5 := HM.out.bel.drew.trans (hb5.mono HW.out)
                refine consH _ rfl (hopL rfl (wpList_store_at (by rfl) 27 _ _ (by rfl) w w.heap.size (w.heap.size + 1 + 1 + 1) 11 v5 _ #[.int .i64 kd, .int .i64 (o : Int), .int .i64 g1, .int .i64 g2, .int .i64 g3, .int .i64 g4, .int .i64 g5, .int .i64 g6, .int .i64 0, .float .f64 0, v, v5, .slice none 0 0, .slice none 0 0] 30 (by kernel_rfl) (by kernel_rfl) hL5 hB5 (by omega) 1 Try.infoSl2 (by rw [(own_val hO5).2]; rfl) (Nat.le_of_ble_eq_true rfl) (by intro u hu; rw [(own_val hO5).2] at hu; simp at hu; subst hu; exact (own_val hO5).1) (by rw [(own_val hO5).2]; rfl) fun w9 e9 b9 s9 k9 => ?_)) AllReadyH.nil
                have hS9 : (fun w' => w'.cell? ⟨w.heap.size, 8, none⟩ = some (.int .i64 seed)) w9 := cellAt ((k9 _ (by omega)).trans ((hk6 _ (blk_lt HM.out.x) (own_ne HO.out HM.out.x (by decide))).trans HM.out.x)) 8 _ rfl
                refine (And.intro hS9 ?_ : _ ∧ _)
                try simp only [Act.put, List.setIfInBounds_toArray, List.set_cons_zero, List.set_cons_succ]
                refine wpAnyH_done (by kernel_rfl) ?_ _
                refine NoPanic.normal ?_
                try simp only [Act.put, List.setIfInBounds_toArray, List.set_cons_zero, List.set_cons_succ]
                have HM9 : Hid (MD w w9 #[.int .i64 kd, .int .i64 (o : Int), .int .i64 g1, .int .i64 g2, .int .i64 g3, .int .i64 g4, .int .i64 g5, .int .i64 g6, .int .i64 seed] #[.int .i64 kd, .int .i64 (o : Int), .int .i64 g1, .int .i64 g2, .int .i64 g3, .int .i64 g4, .int .i64 g5, .int .i64 g6, .int .i64 0, .float .f64 0, v, v5, .slice none 0 0, .slice none 0 0] #[.int .i64 (p : Int), .int .i64 (o : Int), .int .i64 0, .int .i64 0] D) := MD.app HM.out (Below.refl _ _) HO.out HW.out hk6 e9 b9 k9
                have HO9 : Hid (OwnF w9 nb v5 (bL seed (i + 1))) := by
                  unfold Hid OwnF; rw [bL_snoc, flV'_snoc]; exact own_kp hO5 fun k hk => k9 k fun e => own_ne hO5 hL5 (by decide) (e ▸ hk)
                have HV9 : Hid (OwnF w9 w.heap.size v (wL seed p) ∧ ∀ k, v.ownBlock = some k → k < nb) := ⟨own_kp HV.out.1 fun k hk => (k9 k fun e => own_ne HV.out.1 HM.out.l (by decide) (e ▸ hk)).trans (hk6 k (World.ownsRow.lt HV.out.1 k hk).2 fun e => by have h1 := (World.ownsRow.lt HO.out k e).1; have h2 := HV.out.2 k hk; omega), HV.out.2⟩
                have HN9 : Hid (nb ≤ w9.heap.size) := by unfold Hid; have h1 := hb5.size; have h2 := HN.out; rw [s9]; exact Nat.le_trans h2 h1
                clear hS hS5 hS9 hk5 hk6 hb5 hL5 hB5 e9 b9 s9 k9 hO5
                go_wp2_with fail
                go_roundg g
                case measure => omega
                case rel => exact ⟨i + 1, v5, by go_num, by omega, HM9, HV9, HO9, HN9⟩
            · refine hopV 90 (v := .slice (some ⟨wr.drew.heap.size, 0, none⟩) 1 1) (w' := (wr.drew.alloc (.cells #[(.float .f64 (flZ (smallZ seed (5 * (i : Int) + 1))))] 26))) rfl rfl rfl (by kernel_rfl) ?_
              have hSA : (fun w' => w'.cell? ⟨w.heap.size, 8, none⟩ = some (.int .i64 seed)) (wr.drew.alloc (.cells #[(.float .f64 (flZ (smallZ seed (5 * (i : Int) + 1))))] 26)) := cellAt (alloc_kept HM.out.x _) 8 _ rfl
              refine ⟨hSA, ?_⟩
              try simp only [Act.put, List.setIfInBounds_toArray, List.set_cons_zero, List.set_cons_succ]
              refine wpAnyH_ready (rs := [1]) (by kernel_rfl) (by simp) ?_
              refine consH _ rfl ?_ AllReadyH.nil
              · refine hopV 82 (v := v2) (w' := (wr.drew.alloc (.cells #[(.float .f64 (flZ (smallZ seed (5 * (i : Int) + 1))))] 26))) rfl rfl rfl (ex_load1 _ 27 _ rfl ⟨w.heap.size + 1 + 1 + 1, 11, none⟩ (by kernel_rfl) _ _ (cellAt (alloc_kept HM.out.l _) 11 _ rfl) agF) ⟨hSA, ?_⟩
                try simp only [Act.put, List.setIfInBounds_toArray, List.set_cons_zero, List.set_cons_succ]
                refine wpAnyH_ready (rs := [10]) (by kernel_rfl) (by simp) ?_
                refine consH _ rfl (hopL rfl (appendG1 Try.underlying27 Try.infoF rfl (by decide) wr.drew (by rfl) _ _ (by rfl) nb v2 (flV' (bL seed i)) (by kernel_rfl) (own_kp HO.out fun _ _ => rfl) (.float .f64 (flZ (smallZ seed (5 * (i : Int) + 1)))) (by kernel_rfl) rfl HLE.out HBS.out fun v5 w5 hO5 hk5 hb5 => ?_)) AllReadyH.nil
                change QK _ _ Exit.normal (Act.put _ (some 91) v5) w5
                have hk6 : ∀ k, k < wr.heap.size → v2.ownBlock ≠ some k → w5.heap[k]? = wr.heap[k]? := hk5
                have hS5 : (fun w' => w'.cell? ⟨w.heap.size, 8, none⟩ = some (.int .i64 seed)) w5 := cellAt ((hk6 _ (blk_lt HM.out.x) (own_ne HO.out HM.out.x (by decide))).trans HM.out.x) 8 _ rfl
                refine (And.intro hS5 ?_ : _ ∧ _)
                try simp only [Act.put, List.setIfInBounds_toArray, List.set_cons_zero, List.set_cons_succ]
                refine takeH 92 (i := 11) (v := ?_) rfl rfl (by kernel_rfl) (by kernel_rfl) (by kernel_rfl) (fun _ _ _ h => h) (Or.inl ⟨by kernel_rfl, ?_⟩) (by assumption) ?_
                rotate_left
                · intro w' hSw; (try dsimp only at hSw); go_simp; try with_reducible rfl
                try simp only [Act.put, List.setIfInBounds_toArray, List.set_cons_zero, List.set_cons_succ]
                refine wpAnyH_ready (rs := [12]) (by kernel_rfl) (by simp) ?_
                have hL5 := (hk6 _ (blk_lt HM.out.l) (own_ne HO.out HM.out.l (by decide))).trans HM.out.l
                have hB5 : Below w.heap.size w w5 := HM.out.bel.drew.trans (hb5.mono HW.out)
                refine consH _ rfl (hopL rfl (wpList_store_at (by rfl) 27 _ _ (by rfl) w w.heap.size (w.heap.size + 1 + 1 + 1) 11 v5 _ #[.int .i64 kd, .int .i64 (o : Int), .int .i64 g1, .int .i64 g2, .int .i64 g3, .int .i64 g4, .int .i64 g5, .int .i64 g6, .int .i64 0, .float .f64 0, v, v5, .slice none 0 0, .slice none 0 0] 30 (by kernel_rfl) (by kernel_rfl) hL5 hB5 (by omega) 1 Try.infoSl2 (by rw [(own_val hO5).2]; rfl) (Nat.le_of_ble_eq_true rfl) (by intro u hu; rw [(own_val hO5).2] at hu; simp at hu; subst hu; exact (own_val hO5).1) (by rw [(own_val hO5).2]; rfl) fun w9 e9 b9 s9 k9 => ?_)) AllReadyH.nil
                have hS9 : (fun w' => w'.cell? ⟨w.heap.size, 8, none⟩ = some (.int .i64 seed)) w9 := cellAt ((k9 _ (by omega)).trans ((hk6 _ (blk_lt HM.out.x) (own_ne HO.out HM.out.x (by decide))).trans HM.out.x)) 8 _ rfl
                refine (And.intro hS9 ?_ : _ ∧ _)
                try simp only [Act.put, List.setIfInBounds_toArray, List.set_cons_zero, List.set_cons_succ]
                refine wpAnyH_done (by kernel_rfl) ?_ _
                refine NoPanic.normal ?_
                try simp only [Act.put, List.setIfInBounds_toArray, List.set_cons_zero, List.set_cons_succ]
                have HM9 : Hid (MD w w9 #[.int .i64 kd, .int .i64 (o : Int), .int .i64 g1, .int .i64 g2, .int .i64 g3, .int .i64 g4, .int .i64 g5, .int .i64 g6, .int .i64 seed] #[.int .i64 kd, .int .i64 (o : Int), .int .i64 g1, .int .i64 g2, .int .i64 g3, .int .i64 g4, .int .i64 g5, .int .i64 g6, .int .i64 0, .float .f64 0, v, v5, .slice none 0 0, .slice none 0 0] #[.int .i64 (p : Int), .int .i64 (o : Int), .int .i64 0, .int .i64 0] D) := MD.app HM.out (Below.refl _ _) HO.out HW.out hk6 e9 b9 k9
                have HO9 : Hid (OwnF w9 nb v5 (bL seed (i + 1))) := by
                  unfold Hid OwnF; rw [bL_snoc, flV'_snoc]; exact own_kp hO5 fun k hk => k9 k fun e => own_ne hO5 hL5 (by decide) (e ▸ hk)
                have HV9 : Hid (OwnF w9 w.heap.size v (wL seed p) ∧ ∀ k, v.ownBlock = some k → k < nb) := ⟨own_kp HV.out.1 fun k hk => (k9 k fun e => own_ne HV.out.1 HM.out.l (by decide) (e ▸ hk)).trans (hk6 k (World.ownsRow.lt HV.out.1 k hk).2 fun e => by have h1 := (World.ownsRow.lt HO.out k e).1; have h2 := HV.out.2 k hk; omega), HV.out.2⟩
                have HN9 : Hid (nb ≤ w9.heap.size) := by unfold Hid; have h1 := hb5.size; have h2 := HN.out; rw [s9]; exact Nat.le_trans h2 h1
                clear hS hS5 hS9 hk5 hk6 hb5 hL5 hB5 e9 b9 s9 k9 hO5
                go_wp2_with fail
                go_roundg g
                case measure => omega
                case rel => exact ⟨i + 1, v5, by go_num, by omega, HM9, HV9, HO9, HN9⟩
        · have HO0 : Hid (OwnF wr nb v2 (bL seed o)) := by have e : i = o := by omega
                                                           exact e ▸ HO.out
          have hd : decide ((i : Int) < (o : Int)) = false := decide_eq_false (by omega)
          have hd' : decide (i < o) = false := decide_eq_false (by omega)
          clear HO hlt hi
          have k2 := cellAt HM.out.k 2 (.int .i64 0) rfl
          have k3 := cellAt HM.out.k 3 (.int .i64 0) rfl
          go_wp2_with fail
          clear k1 hd hd'
          go_loopg [11] 0 (fun g u wx => u = .int .i64 0 ∧ Hid (wx = wr))
          case atStart => exact ⟨rfl, rfl⟩
          case round wy =>
            obtain ⟨rfl, hw⟩ := hrel
            have hw' := hw.out
            subst hw'
            clear hw
            go_wp2_with fail
            go_loopg [12] 0 (fun g u wx => u = .int .i64 0 ∧ Hid (wx = wr))
            case atStart => exact ⟨rfl, rfl⟩
            case round =>
              obtain ⟨rfl, hw⟩ := hrel
              have hw' := hw.out
              subst hw'
              clear hw
              go_wp2_with (first
                | (refine wpList_load_row (by rfl) 30 _ (by rfl) (w.heap.size + 1 + 1 + 1) _ (by rfl) HM.out.l _ Try.underlying30 rfl 14 Try.infoLy (by rfl) ?_)
                | (refine wpList_store_row (by rfl) 30 _ _ (by rfl) w w.heap.size (w.heap.size + 1 + 1) _ _ (by rfl) (by rfl) HM.out.r HM.out.bel (by omega) 14 Try.infoLy (by rfl) (by rfl) (one14i _ _ _ _ _ _ _ _ _ _ _ _ _ _ (own_val HV.out.1).1 (own_val HO0.out).1 rfl rfl) ?_; intro W9 e9 hb9 hs9 ho9))
              refine bodyPost_ret (res_ct _ 4 5 30 (by kernel_rfl) _ _ (w.heap.size + 1 + 1) _ _ (by rfl) (by rfl) _ Try.underlying30 rfl 14 Try.infoLy rfl e9) rfl ?_
              have o1 : OwnF W9 w.heap.size v (wL seed p) := own_kp HV.out.1 fun k hk => ho9 k fun e => own_ne HV.out.1 HM.out.r (by decide) (e ▸ hk)
              have o2 : OwnF W9 nb v2 (bL seed o) := own_kp HO0.out fun k hk => ho9 k fun e => own_ne HO0.out HM.out.r (by decide) (e ▸ hk)
              obtain ⟨wo, wc, rfl, q1, r1⟩ := o1.rd (by rw [wL_len]; omega) (wL_lt seed p)
              obtain ⟨bo, bc, rfl, q2, r2⟩ := o2.rd (by rw [bL_len]; omega) (bL_lt seed o)
              rw [wL_len] at q1 r1
              rw [bL_len] at r2
              exact ⟨wo, wc, bo, bc, by rw [wL_len, bL_len]; rfl, q1, r1, r2, hb9⟩
end Go.Proofs.Ytmbnbleahehdaaa
