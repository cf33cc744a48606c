import Derived.Test.YtokglpemefkmjaaRWl
namespace Go.Proofs.Ytokglpemefkmjaa
open Go.RowKit
set_option linter.unusedVariables false
set_option linter.unusedSimpArgs false
set_option maxRecDepth 100000 in
set_option maxHeartbeats 8000000 in
theorem made_all (kd g0 g1 g2 g3 g4 g5 g6 seed c h k : Int) (AV : Nat) (hAV : (kd = 4 ∧ AV = flZ (smallZ seed 7)) ∨ (¬ kd = 4 ∧ AV = 0)) (LK : Int → Int → Int → Int → Prop) (hLK : ∀ q0 q1 q2 q3, LK q0 q1 q2 q3 → 0 ≤ q0 ∧ 0 ≤ q1 ∧ q1 ≤ 256 ∧ 0 ≤ q2 ∧ 0 ≤ q3 ∧ q3 ≤ 256)
    (hL : ∀ w, Calls Try.prog 16 #[.agg #[.int .i64 kd, .int .i64 g0, .int .i64 g1, .int .i64 g2, .int .i64 g3, .int .i64 g4, .int .i64 g5, .int .i64 g6, .int .i64 0, .int .u64 (AV : Int), .slice none 0 0, .slice none 0 0, .slice none 0 0, .slice none 0 0], .agg #[.int .i64 c, .int .i64 h, .int .i64 k]] w fun e w' => ∃ q0 q1 q2 q3 f : Int, e = .returned (.tuple #[.agg #[.int .i64 q0, .int .i64 q1, .int .i64 q2, .int .i64 q3], .int .i64 f]) ∧ (f = 0 → LK q0 q1 q2 q3) ∧ Below w.heap.size w w') (w : World) :
    Calls Try.prog 5 #[.agg #[.int .i64 kd, .int .i64 g0, .int .i64 g1, .int .i64 g2, .int .i64 g3, .int .i64 g4, .int .i64 g5, .int .i64 g6, .int .i64 seed], .agg #[.int .i64 c, .int .i64 h, .int .i64 k]] w fun e w' => MdP LK kd g0 g1 g2 g3 g4 g5 g6 seed AV w.heap.size w' e ∧ Below w.heap.size w w' := by
  have HL : Hid _ := hL
  have HLKB : Hid (∀ q0 q1 q2 q3, LK q0 q1 q2 q3 → 0 ≤ q0 ∧ 0 ≤ q1 ∧ q1 ≤ 256 ∧ 0 ≤ q2 ∧ 0 ≤ q3 ∧ q3 ≤ 256) := hLK
  have HAV : Hid ((kd = 4 ∧ AV = flZ (smallZ seed 7)) ∨ (¬ kd = 4 ∧ AV = 0)) := hAV
  have hA64 : AV < 18446744073709551616 := by
    rcases hAV with ⟨_, rfl⟩ | ⟨_, rfl⟩
    · exact (flZ_lt (smallZ_bd _ _)).1
    · decide
  have OFL : Hid _ := ofLayer_A AV hA64 kd g0 g1 g2 g3 g4 g5 g6 0
  clear hL hLK hAV hA64
  have X0 : Below w.heap.size w (((w.alloc (.cells #[.int .i64 kd, .int .i64 g0, .int .i64 g1, .int .i64 g2, .int .i64 g3, .int .i64 g4, .int .i64 g5, .int .i64 g6, .int .i64 seed] 23)).alloc (.cells #[.int .i64 c, .int .i64 h, .int .i64 k] 25)).alloc (.cells #[.int .i64 0, .int .i64 0, .int .i64 0, .int .i64 0, .int .i64 0, .int .i64 0, .int .i64 0, .int .i64 0, .int .i64 0, .float .f64 0, .slice none 0 0, .slice none 0 0, .slice none 0 0, .slice none 0 0] 30)) := (((Below.refl _ w).alloc (Nat.le_refl _) _).alloc (by simp only [alloc_size]; omega) _).alloc (by simp only [alloc_size]; omega) _
  have Y0 : (((w.alloc (.cells #[.int .i64 kd, .int .i64 g0, .int .i64 g1, .int .i64 g2, .int .i64 g3, .int .i64 g4, .int .i64 g5, .int .i64 g6, .int .i64 seed] 23)).alloc (.cells #[.int .i64 c, .int .i64 h, .int .i64 k] 25)).alloc (.cells #[.int .i64 0, .int .i64 0, .int .i64 0, .int .i64 0, .int .i64 0, .int .i64 0, .int .i64 0, .int .i64 0, .int .i64 0, .float .f64 0, .slice none 0 0, .slice none 0 0, .slice none 0 0, .slice none 0 0] 30)).heap[w.heap.size]? = _ := alloc_kept (alloc_kept (heap_alloc_new w _) _) _
  have Y1 : (((w.alloc (.cells #[.int .i64 kd, .int .i64 g0, .int .i64 g1, .int .i64 g2, .int .i64 g3, .int .i64 g4, .int .i64 g5, .int .i64 g6, .int .i64 seed] 23)).alloc (.cells #[.int .i64 c, .int .i64 h, .int .i64 k] 25)).alloc (.cells #[.int .i64 0, .int .i64 0, .int .i64 0, .int .i64 0, .int .i64 0, .int .i64 0, .int .i64 0, .int .i64 0, .int .i64 0, .float .f64 0, .slice none 0 0, .slice none 0 0, .slice none 0 0, .slice none 0 0] 30)).heap[w.heap.size + 1]? = _ := alloc_kept (heap_at _ _ (w.heap.size + 1) (by simp only [alloc_size])) _
  have Y2 : (((w.alloc (.cells #[.int .i64 kd, .int .i64 g0, .int .i64 g1, .int .i64 g2, .int .i64 g3, .int .i64 g4, .int .i64 g5, .int .i64 g6, .int .i64 seed] 23)).alloc (.cells #[.int .i64 c, .int .i64 h, .int .i64 k] 25)).alloc (.cells #[.int .i64 0, .int .i64 0, .int .i64 0, .int .i64 0, .int .i64 0, .int .i64 0, .int .i64 0, .int .i64 0, .int .i64 0, .float .f64 0, .slice none 0 0, .slice none 0 0, .slice none 0 0, .slice none 0 0] 30)).heap[w.heap.size + 1 + 1]? = _ := heap_at _ _ (w.heap.size + 1 + 1) (by simp only [alloc_size])
  go_enter Try.func5, Try.ntmps5
  go_upto_region 1 with fail
  have Z3 : ((((w.alloc (.cells #[.int .i64 kd, .int .i64 g0, .int .i64 g1, .int .i64 g2, .int .i64 g3, .int .i64 g4, .int .i64 g5, .int .i64 g6, .int .i64 seed] 23)).alloc (.cells #[.int .i64 c, .int .i64 h, .int .i64 k] 25)).alloc (.cells #[.int .i64 0, .int .i64 0, .int .i64 0, .int .i64 0, .int .i64 0, .int .i64 0, .int .i64 0, .int .i64 0, .int .i64 0, .float .f64 0, .slice none 0 0, .slice none 0 0, .slice none 0 0, .slice none 0 0] 30)).alloc (.cells #[.int .i64 0, .int .i64 0, .int .i64 0, .int .i64 0, .int .i64 0, .int .i64 0, .int .i64 0, .int .i64 0, .int .i64 0, .float .f64 0, .slice none 0 0, .slice none 0 0, .slice none 0 0, .slice none 0 0] 30)).heap[w.heap.size + 1 + 1 + 1]? = _ := heap_at _ _ (w.heap.size + 1 + 1 + 1) (by simp only [alloc_size])
  have BZ : Below w.heap.size w ((((w.alloc (.cells #[.int .i64 kd, .int .i64 g0, .int .i64 g1, .int .i64 g2, .int .i64 g3, .int .i64 g4, .int .i64 g5, .int .i64 g6, .int .i64 seed] 23)).alloc (.cells #[.int .i64 c, .int .i64 h, .int .i64 k] 25)).alloc (.cells #[.int .i64 0, .int .i64 0, .int .i64 0, .int .i64 0, .int .i64 0, .int .i64 0, .int .i64 0, .int .i64 0, .int .i64 0, .float .f64 0, .slice none 0 0, .slice none 0 0, .slice none 0 0, .slice none 0 0] 30)).alloc (.cells #[.int .i64 0, .int .i64 0, .int .i64 0, .int .i64 0, .int .i64 0, .int .i64 0, .int .i64 0, .int .i64 0, .int .i64 0, .float .f64 0, .slice none 0 0, .slice none 0 0, .slice none 0 0, .slice none 0 0] 30)) := X0.alloc (by simp only [alloc_size]; omega) _
  go_upto_region 2 with (first | (refine wpList_store_row (by rfl) 30 _ _ (by rfl) w w.heap.size (w.heap.size + 1 + 1 + 1) _ _ (by rfl) (by rfl) Z3 BZ (by omega) 14 Try.infoLy (by rfl) (by rfl) (one14i _ _ _ _ _ _ _ _ _ _ _ _ _ _ rfl rfl rfl rfl) ?_; intro X e3 hb3 hs3 ho3))
  have HX0 : Hid (Below w.heap.size w X ∧ X.heap[w.heap.size]? = _ ∧ X.heap[w.heap.size + 1]? = _ ∧ X.heap[w.heap.size + 1 + 1]? = _ ∧ X.heap[w.heap.size + 1 + 1 + 1]? = _) := ⟨hb3, (ho3 _ (by omega)).trans (alloc_kept Y0 _), (ho3 _ (by omega)).trans (alloc_kept Y1 _), (ho3 _ (by omega)).trans (alloc_kept Y2 _), e3⟩
  clear X0 Y0 Y1 Y2 Z3 BZ e3 hb3 hs3 ho3
  have c0 := cellAt HX0.out.2.1 0 (.int .i64 kd) rfl
  have c8 := cellAt HX0.out.2.1 8 (.int .i64 seed) rfl
  go_upto_if 32 with fail
  go_cut [8] (fun v wx => v = undef ∧ Hid (Below w.heap.size w wx ∧ wx.heap[w.heap.size]? = some (.cells #[.int .i64 kd, .int .i64 g0, .int .i64 g1, .int .i64 g2, .int .i64 g3, .int .i64 g4, .int .i64 g5, .int .i64 g6, .int .i64 seed] 23) ∧ wx.heap[w.heap.size + 1]? = some (.cells #[.int .i64 c, .int .i64 h, .int .i64 k] 25) ∧ wx.heap[w.heap.size + 1 + 1]? = some (.cells #[.int .i64 0, .int .i64 0, .int .i64 0, .int .i64 0, .int .i64 0, .int .i64 0, .int .i64 0, .int .i64 0, .int .i64 0, .float .f64 0, .slice none 0 0, .slice none 0 0, .slice none 0 0, .slice none 0 0] 30) ∧ wx.heap[w.heap.size + 1 + 1 + 1]? = some (.cells #[.int .i64 kd, .int .i64 g0, .int .i64 g1, .int .i64 g2, .int .i64 g3, .int .i64 g4, .int .i64 g5, .int .i64 g6, .int .i64 0, .float .f64 AV, .slice none 0 0, .slice none 0 0, .slice none 0 0, .slice none 0 0] 30)))
  case first =>
    rcases HAV.out with ⟨h4, hav⟩ | ⟨h4, hav⟩
    · have HE : Hid (AV = flZ (smallZ seed 7)) := hav
      have d4 : decide (kd = 4) = true := decide_eq_true h4
      have b4 : (kd == 4) = true := beq_iff_eq.2 h4
      have hcv := flZ_conv (smallZ seed 7)
      clear hav h4
      go_wp2_with (first
        | (go_at_call 15; refine Calls.mono (small_any seed 7 _) ?_; rintro e m ⟨rfl, hw⟩; subst hw)
        | (refine wpList_store_at (by rfl) 26 _ _ (by rfl) w w.heap.size (w.heap.size + 1 + 1 + 1) 9 (.float .f64 (flZ (smallZ seed 7))) _ #[.int .i64 kd, .int .i64 g0, .int .i64 g1, .int .i64 g2, .int .i64 g3, .int .i64 g4, .int .i64 g5, .int .i64 g6, .int .i64 0, .float .f64 (flZ (smallZ seed 7)), .slice none 0 0, .slice none 0 0, .slice none 0 0, .slice none 0 0] 30 (by rfl) (by rfl) HX0.out.2.2.2.2 HX0.out.1 (by omega) 1 Try.infoFl1 (by rfl) (Nat.le_of_ble_eq_true rfl) (by intro u hu; simp [Value.cells] at hu; subst hu; rfl) (by rfl) ?_; intro w9 e9 b9 s9 k9))
      go_meet
      exact ⟨rfl, ⟨b9, (k9 _ (by omega)).trans HX0.out.2.1, (k9 _ (by omega)).trans HX0.out.2.2.1, (k9 _ (by omega)).trans HX0.out.2.2.2.1, by rw [HE.out]; exact e9⟩⟩
    · have HE : Hid (AV = 0) := hav
      have d4 : decide (kd = 4) = false := decide_eq_false h4
      have b4 : (kd == 4) = false := beq_eq_false_iff_ne.2 h4
      clear hav
      go_wp2_with fail
      go_meet
      exact ⟨rfl, ⟨HX0.out.1, HX0.out.2.1, HX0.out.2.2.1, HX0.out.2.2.2.1, by rw [HE.out]; exact HX0.out.2.2.2.2⟩⟩
  case rest =>
  obtain ⟨rfl, HX1⟩ := hcut
  clear HX0 c0 c8 HAV
  obtain ⟨X, hXX⟩ : ∃ X, X = wc := ⟨_, rfl⟩
  rw [← hXX] at HX1 ⊢
  clear hXX
  have HX : Hid (Below w.heap.size w X ∧ X.heap[w.heap.size]? = _ ∧ X.heap[w.heap.size + 1]? = _ ∧ X.heap[w.heap.size + 1 + 1]? = _ ∧ X.heap[w.heap.size + 1 + 1 + 1]? = _ ∧ True) := ⟨HX1.out.1, HX1.out.2.1, HX1.out.2.2.1, HX1.out.2.2.2.1, HX1.out.2.2.2.2, trivial⟩
  clear HX1
  go_upto_region 4 with fail
  go_cut [7, 8] (fun v u wx => ∃ (D : Nat) (q0 q1 q2 q3 f : Int), v = .pointer (some ⟨D, 0, none⟩) ∧ u = .int .i64 f ∧ Hid (f = 0 → LK q0 q1 q2 q3) ∧ Hid (MD w wx #[.int .i64 kd, .int .i64 g0, .int .i64 g1, .int .i64 g2, .int .i64 g3, .int .i64 g4, .int .i64 g5, .int .i64 g6, .int .i64 seed] #[.int .i64 kd, .int .i64 g0, .int .i64 g1, .int .i64 g2, .int .i64 g3, .int .i64 g4, .int .i64 g5, .int .i64 g6, .int .i64 0, .float .f64 AV, .slice none 0 0, .slice none 0 0, .slice none 0 0, .slice none 0 0] #[.int .i64 q0, .int .i64 q1, .int .i64 q2, .int .i64 q3] D))
  case first =>
    have bX : Below X.heap.size X X.drew := (Below.refl _ _).drew
    refine wp_region_noPanic ?_
    refine wp_region_held_drew (S := (fun W' => Below X.heap.size X W')) (by kernel_rfl) bX (fun _ => ?_)
    refine takeH 39 (i := 0) (v := .agg #[.int .i64 kd, .int .i64 g0, .int .i64 g1, .int .i64 g2, .int .i64 g3, .int .i64 g4, .int .i64 g5, .int .i64 g6, .int .i64 0, .float .f64 AV, .slice none 0 0, .slice none 0 0, .slice none 0 0, .slice none 0 0]) rfl rfl (by kernel_rfl) (by kernel_rfl) (by kernel_rfl) (fun _ _ _ h => h) (Or.inl ⟨by kernel_rfl, fun w' hS => ex_loadR _ 30 _ rfl (w.heap.size + 1 + 1 + 1) (by kernel_rfl) w' _ (kept hS HX.out.2.2.2.2.1) _ Try.underlying30 rfl 14 Try.infoLy rfl⟩) bX ?_
    try simp only [Act.put, List.setIfInBounds_toArray, List.set_cons_zero, List.set_cons_succ]
    refine takeH 41 (i := 2) (v := .agg #[.int .i64 c, .int .i64 h, .int .i64 k]) rfl rfl (by kernel_rfl) (by kernel_rfl) (by kernel_rfl) (fun _ _ _ h => h) (Or.inl ⟨by kernel_rfl, fun w' hS => ex_loadR _ 25 _ rfl (w.heap.size + 1) (by kernel_rfl) w' _ (kept hS HX.out.2.2.1) _ Try.underlying25 rfl 3 Try.infoShape rfl⟩) bX ?_
    try simp only [Act.put, List.setIfInBounds_toArray, List.set_cons_zero, List.set_cons_succ]
    refine wpAnyH_ready (rs := [1, 7]) (by kernel_rfl) (by simp) ?_
    refine consH _ rfl ?_ (consH _ rfl ?_ AllReadyH.nil)
    · refine hopCd 40 rfl (by kernel_rfl) rfl (by kernel_rfl) (Calls.mono (OFL.out _) ?_)
      rintro e m01 ⟨rfl, hcm01⟩
      have bm01 : Below X.heap.size X m01 := bX.trans (hcm01.mono bX.size)
      refine ⟨_, rfl, bm01, ?_⟩
      try simp only [Act.put, List.setIfInBounds_toArray, List.set_cons_zero, List.set_cons_succ]
      refine wpAnyH_ready (rs := [3, 7]) (by kernel_rfl) (by simp) ?_
      refine consH _ rfl ?_ (consH _ rfl ?_ AllReadyH.nil)
      · refine hopCd 42 rfl (by kernel_rfl) rfl (by kernel_rfl) (Calls.mono (HL.out _) ?_)
        rintro e m13 ⟨q0, q1, q2, q3, f, rfl, hlk, hcm13⟩
        have bm13 : Below X.heap.size X m13 := bm01.trans (hcm13.mono bm01.size)
        have HLK : Hid (f = 0 → LK q0 q1 q2 q3) := hlk
        clear hlk
        refine ⟨_, rfl, bm13, ?_⟩
        try simp only [Act.put, List.setIfInBounds_toArray, List.set_cons_zero, List.set_cons_succ]
        refine takeH 38 (i := 4) (v := ?_) rfl rfl (by kernel_rfl) (by kernel_rfl) (by kernel_rfl) (fun _ _ _ h => h) (Or.inl ⟨by kernel_rfl, ?_⟩) bm13 ?_
        rotate_left
        · intro w' hSw; (try dsimp only at hSw); go_simp; try with_reducible rfl
        try simp only [Act.put, List.setIfInBounds_toArray, List.set_cons_zero, List.set_cons_succ]
        refine takeH 43 (i := 5) (v := ?_) rfl rfl (by kernel_rfl) (by kernel_rfl) (by kernel_rfl) (fun _ _ _ h => h) (Or.inl ⟨by kernel_rfl, ?_⟩) bm13 ?_
        rotate_left
        · intro w' hSw; (try dsimp only at hSw); go_simp; try with_reducible rfl
        try simp only [Act.put, List.setIfInBounds_toArray, List.set_cons_zero, List.set_cons_succ]
        refine takeH 44 (i := 6) (v := ?_) rfl rfl (by kernel_rfl) (by kernel_rfl) (by kernel_rfl) (fun _ _ _ h => h) (Or.inl ⟨by kernel_rfl, ?_⟩) bm13 ?_
        rotate_left
        · intro w' hSw; (try dsimp only at hSw); go_simp; try with_reducible rfl
        try simp only [Act.put, List.setIfInBounds_toArray, List.set_cons_zero, List.set_cons_succ]
        refine wpAnyH_ready (rs := [7]) (by kernel_rfl) (by simp) ?_
        refine consH _ rfl ?_ AllReadyH.nil
        · refine hopA 7 rfl rfl rfl 48 rfl #[.int .i64 0, .int .i64 0, .int .i64 0, .int .i64 0] madeK_alloc fun D m27 hD hDw bD => ?_
          have bm27 : Below X.heap.size X m27 := bm13.trans (bD.mono bm13.size)
          have hDX : X.heap.size ≤ D := Nat.le_trans bm13.size hDw
          refine ⟨bm27, ?_⟩
          try simp only [Act.put, List.setIfInBounds_toArray, List.set_cons_zero, List.set_cons_succ]
          refine wpAnyH_ready (rs := [8]) (by kernel_rfl) (by simp) ?_
          refine consH _ rfl (hopL rfl (wpList_store_row (by rfl) 48 _ _ (by rfl) X X.heap.size D #[.int .i64 q0, .int .i64 q1, .int .i64 q2, .int .i64 q3] _ (by kernel_rfl) (by kernel_rfl) hD bm27 hDX 4 Try.info4 (by rfl) (by rfl) (one4 ..) fun W9 e9 b9 hs9 ho9 => ?_)) AllReadyH.nil
          refine (And.intro b9 ?_ : _ ∧ _)
          try simp only [Act.put, List.setIfInBounds_toArray, List.set_cons_zero, List.set_cons_succ]
          refine takeH 8 (i := 9) (v := ?_) rfl rfl (by kernel_rfl) (by kernel_rfl) (by kernel_rfl) (fun _ _ _ h => h) (Or.inl ⟨by kernel_rfl, ?_⟩) b9 ?_
          rotate_left
          · intro w' hSw; (try dsimp only at hSw); go_simp; try with_reducible rfl
          try simp only [Act.put, List.setIfInBounds_toArray, List.set_cons_zero, List.set_cons_succ]
          refine wpAnyH_done (by kernel_rfl) ?_ _
          refine NoPanic.normal ?_
          try simp only [Act.put, List.setIfInBounds_toArray, List.set_cons_zero, List.set_cons_succ]
          go_wp2_with fail
          go_meet
          exact ⟨D, q0, q1, q2, q3, f, rfl, rfl, HLK, ⟨to_call HX.out.1 b9, kept b9 HX.out.2.1, kept b9 HX.out.2.2.2.1, kept b9 HX.out.2.2.2.2.1, e9, Nat.lt_of_lt_of_le (blk_lt HX.out.2.2.2.2.1) hDX⟩⟩
      · refine hopA 7 rfl rfl rfl 48 rfl #[.int .i64 0, .int .i64 0, .int .i64 0, .int .i64 0] madeK_alloc fun D m17 hD hDw bD => ?_
        have bm17 : Below X.heap.size X m17 := bm01.trans (bD.mono bm01.size)
        have hDX : X.heap.size ≤ D := Nat.le_trans bm01.size hDw
        refine ⟨bm17, ?_⟩
        try simp only [Act.put, List.setIfInBounds_toArray, List.set_cons_zero, List.set_cons_succ]
        refine wpAnyH_ready (rs := [3]) (by kernel_rfl) (by simp) ?_
        refine consH _ rfl ?_ AllReadyH.nil
        · refine hopCd 42 rfl (by kernel_rfl) rfl (by kernel_rfl) (Calls.mono (HL.out _) ?_)
          rintro e m23 ⟨q0, q1, q2, q3, f, rfl, hlk, hcm23⟩
          have bm23 : Below X.heap.size X m23 := bm17.trans (hcm23.mono bm17.size)
          have HLK : Hid (f = 0 → LK q0 q1 q2 q3) := hlk
          clear hlk
          replace hD := kept hcm23 hD
          refine ⟨_, rfl, bm23, ?_⟩
          try simp only [Act.put, List.setIfInBounds_toArray, List.set_cons_zero, List.set_cons_succ]
          refine takeH 38 (i := 4) (v := ?_) rfl rfl (by kernel_rfl) (by kernel_rfl) (by kernel_rfl) (fun _ _ _ h => h) (Or.inl ⟨by kernel_rfl, ?_⟩) bm23 ?_
          rotate_left
          · intro w' hSw; (try dsimp only at hSw); go_simp; try with_reducible rfl
          try simp only [Act.put, List.setIfInBounds_toArray, List.set_cons_zero, List.set_cons_succ]
          refine takeH 43 (i := 5) (v := ?_) rfl rfl (by kernel_rfl) (by kernel_rfl) (by kernel_rfl) (fun _ _ _ h => h) (Or.inl ⟨by kernel_rfl, ?_⟩) bm23 ?_
          rotate_left
          · intro w' hSw; (try dsimp only at hSw); go_simp; try with_reducible rfl
          try simp only [Act.put, List.setIfInBounds_toArray, List.set_cons_zero, List.set_cons_succ]
          refine takeH 44 (i := 6) (v := ?_) rfl rfl (by kernel_rfl) (by kernel_rfl) (by kernel_rfl) (fun _ _ _ h => h) (Or.inl ⟨by kernel_rfl, ?_⟩) bm23 ?_
          rotate_left
          · intro w' hSw; (try dsimp only at hSw); go_simp; try with_reducible rfl
          try simp only [Act.put, List.setIfInBounds_toArray, List.set_cons_zero, List.set_cons_succ]
          refine wpAnyH_ready (rs := [8]) (by kernel_rfl) (by simp) ?_
          refine consH _ rfl (hopL rfl (wpList_store_row (by rfl) 48 _ _ (by rfl) X X.heap.size D #[.int .i64 q0, .int .i64 q1, .int .i64 q2, .int .i64 q3] _ (by kernel_rfl) (by kernel_rfl) hD bm23 hDX 4 Try.info4 (by rfl) (by rfl) (one4 ..) fun W9 e9 b9 hs9 ho9 => ?_)) AllReadyH.nil
          refine (And.intro b9 ?_ : _ ∧ _)
          try simp only [Act.put, List.setIfInBounds_toArray, List.set_cons_zero, List.set_cons_succ]
          refine takeH 8 (i := 9) (v := ?_) rfl rfl (by kernel_rfl) (by kernel_rfl) (by kernel_rfl) (fun _ _ _ h => h) (Or.inl ⟨by kernel_rfl, ?_⟩) b9 ?_
          rotate_left
          · intro w' hSw; (try dsimp only at hSw); go_simp; try with_reducible rfl
          try simp only [Act.put, List.setIfInBounds_toArray, List.set_cons_zero, List.set_cons_succ]
          refine wpAnyH_done (by kernel_rfl) ?_ _
          refine NoPanic.normal ?_
          try simp only [Act.put, List.setIfInBounds_toArray, List.set_cons_zero, List.set_cons_succ]
          go_wp2_with fail
          go_meet
          exact ⟨D, q0, q1, q2, q3, f, rfl, rfl, HLK, ⟨to_call HX.out.1 b9, kept b9 HX.out.2.1, kept b9 HX.out.2.2.2.1, kept b9 HX.out.2.2.2.2.1, e9, Nat.lt_of_lt_of_le (blk_lt HX.out.2.2.2.2.1) hDX⟩⟩
    · refine hopA 7 rfl rfl rfl 48 rfl #[.int .i64 0, .int .i64 0, .int .i64 0, .int .i64 0] madeK_alloc fun D m07 hD hDw bD => ?_
      have bm07 : Below X.heap.size X m07 := bX.trans (bD.mono bX.size)
      have hDX : X.heap.size ≤ D := Nat.le_trans bX.size hDw
      refine ⟨bm07, ?_⟩
      try simp only [Act.put, List.setIfInBounds_toArray, List.set_cons_zero, List.set_cons_succ]
      refine wpAnyH_ready (rs := [1]) (by kernel_rfl) (by simp) ?_
      refine consH _ rfl ?_ AllReadyH.nil
      · refine hopCd 40 rfl (by kernel_rfl) rfl (by kernel_rfl) (Calls.mono (OFL.out _) ?_)
        rintro e m11 ⟨rfl, hcm11⟩
        have bm11 : Below X.heap.size X m11 := bm07.trans (hcm11.mono bm07.size)
        replace hD := kept hcm11 hD
        refine ⟨_, rfl, bm11, ?_⟩
        try simp only [Act.put, List.setIfInBounds_toArray, List.set_cons_zero, List.set_cons_succ]
        refine wpAnyH_ready (rs := [3]) (by kernel_rfl) (by simp) ?_
        refine consH _ rfl ?_ AllReadyH.nil
        · refine hopCd 42 rfl (by kernel_rfl) rfl (by kernel_rfl) (Calls.mono (HL.out _) ?_)
          rintro e m23 ⟨q0, q1, q2, q3, f, rfl, hlk, hcm23⟩
          have bm23 : Below X.heap.size X m23 := bm11.trans (hcm23.mono bm11.size)
          have HLK : Hid (f = 0 → LK q0 q1 q2 q3) := hlk
          clear hlk
          replace hD := kept hcm23 hD
          refine ⟨_, rfl, bm23, ?_⟩
          try simp only [Act.put, List.setIfInBounds_toArray, List.set_cons_zero, List.set_cons_succ]
          refine takeH 38 (i := 4) (v := ?_) rfl rfl (by kernel_rfl) (by kernel_rfl) (by kernel_rfl) (fun _ _ _ h => h) (Or.inl ⟨by kernel_rfl, ?_⟩) bm23 ?_
          rotate_left
          · intro w' hSw; (try dsimp only at hSw); go_simp; try with_reducible rfl
          try simp only [Act.put, List.setIfInBounds_toArray, List.set_cons_zero, List.set_cons_succ]
          refine takeH 43 (i := 5) (v := ?_) rfl rfl (by kernel_rfl) (by kernel_rfl) (by kernel_rfl) (fun _ _ _ h => h) (Or.inl ⟨by kernel_rfl, ?_⟩) bm23 ?_
          rotate_left
          · intro w' hSw; (try dsimp only at hSw); go_simp; try with_reducible rfl
          try simp only [Act.put, List.setIfInBounds_toArray, List.set_cons_zero, List.set_cons_succ]
          refine takeH 44 (i := 6) (v := ?_) rfl rfl (by kernel_rfl) (by kernel_rfl) (by kernel_rfl) (fun _ _ _ h => h) (Or.inl ⟨by kernel_rfl, ?_⟩) bm23 ?_
          rotate_left
          · intro w' hSw; (try dsimp only at hSw); go_simp; try with_reducible rfl
          try simp only [Act.put, List.setIfInBounds_toArray, List.set_cons_zero, List.set_cons_succ]
          refine wpAnyH_ready (rs := [8]) (by kernel_rfl) (by simp) ?_
          refine consH _ rfl (hopL rfl (wpList_store_row (by rfl) 48 _ _ (by rfl) X X.heap.size D #[.int .i64 q0, .int .i64 q1, .int .i64 q2, .int .i64 q3] _ (by kernel_rfl) (by kernel_rfl) hD bm23 hDX 4 Try.info4 (by rfl) (by rfl) (one4 ..) fun W9 e9 b9 hs9 ho9 => ?_)) AllReadyH.nil
          refine (And.intro b9 ?_ : _ ∧ _)
          try simp only [Act.put, List.setIfInBounds_toArray, List.set_cons_zero, List.set_cons_succ]
          refine takeH 8 (i := 9) (v := ?_) rfl rfl (by kernel_rfl) (by kernel_rfl) (by kernel_rfl) (fun _ _ _ h => h) (Or.inl ⟨by kernel_rfl, ?_⟩) b9 ?_
          rotate_left
          · intro w' hSw; (try dsimp only at hSw); go_simp; try with_reducible rfl
          try simp only [Act.put, List.setIfInBounds_toArray, List.set_cons_zero, List.set_cons_succ]
          refine wpAnyH_done (by kernel_rfl) ?_ _
          refine NoPanic.normal ?_
          try simp only [Act.put, List.setIfInBounds_toArray, List.set_cons_zero, List.set_cons_succ]
          go_wp2_with fail
          go_meet
          exact ⟨D, q0, q1, q2, q3, f, rfl, rfl, HLK, ⟨to_call HX.out.1 b9, kept b9 HX.out.2.1, kept b9 HX.out.2.2.2.1, kept b9 HX.out.2.2.2.2.1, e9, Nat.lt_of_lt_of_le (blk_lt HX.out.2.2.2.2.1) hDX⟩⟩
  case rest =>
  obtain ⟨D, q0, q1, q2, q3, f, rfl, rfl, HF, HM0⟩ := hcut
  clear HX HL OFL
  have RETF : Hid (∀ W, Below w.heap.size w W → True) := fun _ _ => trivial
  by_cases hf : f = 0
  rotate_left
  · have k0 := cellAt HM0.out.k 0 (.int .i64 q0) rfl
    have k2 := cellAt HM0.out.k 2 (.int .i64 q2) rfl
    have bf : (f == 0) = false := beq_eq_false_iff_ne.2 hf
    go_wp2_with (first
      | (refine wpList_load_row (by rfl) 30 _ (by rfl) (w.heap.size + 1 + 1 + 1) _ (by rfl) HM0.out.l _ Try.underlying30 rfl 14 Try.infoLy (by rfl) ?_)
      | (refine wpList_store_row (by rfl) 30 _ _ (by rfl) w w.heap.size (w.heap.size + 1 + 1) _ _ (by rfl) (by rfl) HM0.out.r HM0.out.bel (by omega) 14 Try.infoLy (by rfl) (by rfl) (one14i _ _ _ _ _ _ _ _ _ _ _ _ _ _ rfl rfl rfl rfl) ?_; intro W9 e9 hb9 hs9 ho9))
    refine bodyPost_ret (res_ct _ 4 5 30 (by kernel_rfl) _ _ (w.heap.size + 1 + 1) _ _ (by rfl) (by rfl) _ Try.underlying30 rfl 14 Try.infoLy rfl e9) rfl ?_
    exact ⟨.inl rfl, hb9⟩
  subst hf
  have HQ : Hid (LK q0 q1 q2 q3) := HF.out rfl
  obtain ⟨n0, n1, n1b, n2, n3, n3b⟩ := HLKB.out _ _ _ _ HQ.out
  clear HF RETF HLKB
  by_cases h70 : 70000 < q0 ∨ 70000 < q2
  · have k0 := cellAt HM0.out.k 0 (.int .i64 q0) rfl
    have k2 := cellAt HM0.out.k 2 (.int .i64 q2) rfl
    have HOR : Hid (70000 < q0 ∨ 70000 < q2) := h70
    by_cases h7 : 70000 < q0
    · have d7 : decide (70000 < q0) = true := decide_eq_true h7
      clear h70 n0 n1 n1b n2 n3 n3b
      go_wp2_with (first
        | (refine wpList_load_row (by rfl) 30 _ (by rfl) (w.heap.size + 1 + 1 + 1) _ (by rfl) HM0.out.l _ Try.underlying30 rfl 14 Try.infoLy (by rfl) ?_)
        | (refine wpList_store_row (by rfl) 30 _ _ (by rfl) w w.heap.size (w.heap.size + 1 + 1) _ _ (by rfl) (by rfl) HM0.out.r HM0.out.bel (by omega) 14 Try.infoLy (by rfl) (by rfl) (one14i _ _ _ _ _ _ _ _ _ _ _ _ _ _ rfl rfl rfl rfl) ?_; intro W9 e9 hb9 hs9 ho9))
      refine bodyPost_ret (res_ct _ 4 5 30 (by kernel_rfl) _ _ (w.heap.size + 1 + 1) _ _ (by rfl) (by rfl) _ Try.underlying30 rfl 14 Try.infoLy rfl e9) rfl ?_
      exact ⟨.inl rfl, hb9⟩
    · have d7 : decide (70000 < q0) = false := decide_eq_false h7
      have h72 : 70000 < q2 := h70.resolve_left h7
      have d72 : decide (70000 < q2) = true := decide_eq_true h72
      clear h70 n0 n1 n1b n2 n3 n3b
      go_wp2_with (first
        | (refine wpList_load_row (by rfl) 30 _ (by rfl) (w.heap.size + 1 + 1 + 1) _ (by rfl) HM0.out.l _ Try.underlying30 rfl 14 Try.infoLy (by rfl) ?_)
        | (refine wpList_store_row (by rfl) 30 _ _ (by rfl) w w.heap.size (w.heap.size + 1 + 1) _ _ (by rfl) (by rfl) HM0.out.r HM0.out.bel (by omega) 14 Try.infoLy (by rfl) (by rfl) (one14i _ _ _ _ _ _ _ _ _ _ _ _ _ _ rfl rfl rfl rfl) ?_; intro W9 e9 hb9 hs9 ho9))
      refine bodyPost_ret (res_ct _ 4 5 30 (by kernel_rfl) _ _ (w.heap.size + 1 + 1) _ _ (by rfl) (by rfl) _ Try.underlying30 rfl 14 Try.infoLy rfl e9) rfl ?_
      exact ⟨.inl rfl, hb9⟩
  obtain ⟨Q0, rfl⟩ : ∃ n : Nat, q0 = n := ⟨q0.toNat, by omega⟩
  obtain ⟨Q1, rfl⟩ : ∃ n : Nat, q1 = n := ⟨q1.toNat, by omega⟩
  obtain ⟨Q2, rfl⟩ : ∃ n : Nat, q2 = n := ⟨q2.toNat, by omega⟩
  obtain ⟨Q3, rfl⟩ : ∃ n : Nat, q3 = n := ⟨q3.toNat, by omega⟩
  have HQL : Hid (LK Q0 Q1 Q2 Q3 ∧ Q0 ≤ 70000 ∧ Q2 ≤ 70000 ∧ Q1 ≤ 256 ∧ Q3 ≤ 256 ∧ Q0 ≤ 70000 ∧ Q2 ≤ 70000) := ⟨HQ.out, by omega, by omega, by omega, by omega, by omega, by omega⟩
  have k0 := cellAt HM0.out.k 0 (.int .i64 (Q0 : Int)) rfl
  have k2 := cellAt HM0.out.k 2 (.int .i64 (Q2 : Int)) rfl
  have d70 : decide (70000 < (Q0 : Int)) = false := decide_eq_false (by omega)
  have d72 : decide (70000 < (Q2 : Int)) = false := decide_eq_false (by omega)
  clear HQ n0 n1 n1b n2 n3 n3b h70
  go_upto_region 7 with fail
  clear k0 k2 d70 d72
  obtain ⟨q0, rfl⟩ : ∃ x, x = Q0 := ⟨_, rfl⟩
  obtain ⟨q1, rfl⟩ : ∃ x, x = Q1 := ⟨_, rfl⟩
  obtain ⟨q2, rfl⟩ : ∃ x, x = Q2 := ⟨_, rfl⟩
  obtain ⟨q3, rfl⟩ : ∃ x, x = Q3 := ⟨_, rfl⟩
  have hnb : w.heap.size ≤ wc.heap.size := HM0.out.bel.size
  obtain ⟨nb, hnb2⟩ : ∃ x, x = w.heap.size := ⟨_, rfl⟩
  have HNB : Hid (w.heap.size ≤ nb ∧ nb ≤ wc.heap.size) := ⟨Nat.le_of_eq hnb2.symm, by omega⟩
  have HK0 : Hid True := trivial
  clear hnb hnb2
  have hq := HQL.out.2.2.2
  have k0 := cellAt HM0.out.k 0 (.int .i64 (q0 : Int)) rfl
  go_wp2_with fail
  go_loopg [9] q0 (fun g u wx => ∃ (i : Nat) (v : Value), u = .int .i64 i ∧ i + g = q0 ∧ Hid (MD w wx #[.int .i64 kd, .int .i64 g0, .int .i64 g1, .int .i64 g2, .int .i64 g3, .int .i64 g4, .int .i64 g5, .int .i64 g6, .int .i64 seed] #[.int .i64 kd, .int .i64 g0, .int .i64 g1, .int .i64 g2, .int .i64 g3, .int .i64 g4, .int .i64 g5, .int .i64 g6, .int .i64 0, .float .f64 AV, v, .slice none 0 0, .slice none 0 0, .slice none 0 0] #[.int .i64 (q0 : Int), .int .i64 (q1 : Int), .int .i64 (q2 : Int), .int .i64 (q3 : Int)] D) ∧ Hid (OwnM wx nb 26 v (wV seed i)) ∧ Hid (True) ∧ Hid (w.heap.size ≤ nb ∧ nb ≤ wx.heap.size))
  case atStart => exact ⟨0, _, rfl, by omega, HM0, World.ownsRow_nil _ _ _ _, HK0, HNB.out⟩
  case round =>
    clear HM0 HK0 k0 HNB
    obtain ⟨i, v, rfl, hi, HM, HO, HK, HN⟩ := hrel
    have k0 := cellAt HM.out.k 0 (.int .i64 (q0 : Int)) rfl
    by_cases hlt : i < q0
    · have hd : decide ((i : Int) < (q0 : Int)) = true := decide_eq_true (by omega)
      obtain ⟨g, rfl⟩ : ∃ g, gk = g + 1 := ⟨gk - 1, by omega⟩
      have HIG : Hid (i + (g + 1) = q0) := hi
      have HLE : Hid ((wV seed i).length + 1 ≤ 1000000) := by unfold Hid; rw [wV_len]; omega
      have HBS : Hid (nb ≤ wr.drew.heap.size) := HN.out.2
      have HW : Hid (w.heap.size ≤ nb) := HN.out.1
      have h3 : IntKind.i64.wrap (3 * (i : Int)) = 3 * (i : Int) := by rw [IntKind.wrap_i64]; omega
      have hv1 : wrap64 ((i : Int) + 1) = (i : Int) + 1 := by unfold wrap64; omega
      have hv2 : IntKind.i64.wrap ((i : Int) + 1) = (i : Int) + 1 := by rw [IntKind.wrap_i64]; omega
      go_upto_region 10 with fail
      clear k0 hd hi hlt
      refine wp_region_noPanic ?_
      refine wp_region_P (fun V => V.cell? ⟨w.heap.size, 8, none⟩ = some (.int .i64 seed) ∧ V.cell? ⟨w.heap.size + 1 + 1 + 1, 10, none⟩ = some v) 11 (by kernel_rfl) ?_
      have SS : wr.drew.cell? ⟨w.heap.size, 8, none⟩ = some (.int .i64 seed) ∧ wr.drew.cell? ⟨w.heap.size + 1 + 1 + 1, 10, none⟩ = some v := ⟨cellAt HM.out.x 8 _ rfl, cellAt HM.out.l 10 _ rfl⟩
      refine takeP0 64 (i := 0) (v := ?_) rfl rfl (by kernel_rfl) (by kernel_rfl) (by kernel_rfl) rfl (fun _ _ _ h => h) (Or.inl ⟨by kernel_rfl, ?_⟩) (fun _ => SS) ?_
      rotate_left
      · intro w' hSw; go_simp; try with_reducible rfl
      try simp only [Act.put, List.setIfInBounds_toArray, List.set_cons_zero, List.set_cons_succ]
      refine takeP 65 (i := 1) (v := v) rfl rfl (by kernel_rfl) (by kernel_rfl) (by kernel_rfl) (by kernel_rfl) rfl (by kernel_rfl) (fun _ _ _ h => h) (Or.inl ⟨by kernel_rfl, fun w' hSw => ex_load1 _ 27 _ rfl ⟨w.heap.size + 1 + 1 + 1, 10, none⟩ (by kernel_rfl) w' v hSw.2 (fun w => by kernel_rfl)⟩) SS ?_
      try simp only [Act.put, List.setIfInBounds_toArray, List.set_cons_zero, List.set_cons_succ]
      refine takeP0 66 (i := 2) (v := ?_) rfl rfl (by kernel_rfl) (by kernel_rfl) (by kernel_rfl) rfl (fun _ _ _ h => h) (Or.inl ⟨by kernel_rfl, ?_⟩) (fun _ => SS) ?_
      rotate_left
      · intro w' hSw; go_simp; try with_reducible rfl
      try simp only [Act.put, List.setIfInBounds_toArray, List.set_cons_zero, List.set_cons_succ]
      refine takeP 67 (i := 3) (v := (.int .i64 seed)) rfl rfl (by kernel_rfl) (by kernel_rfl) (by kernel_rfl) (by kernel_rfl) rfl (by kernel_rfl) (fun _ _ _ h => h) (Or.inl ⟨by kernel_rfl, fun w' hSw => ex_load1 _ 3 _ rfl ⟨w.heap.size, 8, none⟩ (by kernel_rfl) w' (.int .i64 seed) hSw.1 (fun w => by kernel_rfl)⟩) SS ?_
      try simp only [Act.put, List.setIfInBounds_toArray, List.set_cons_zero, List.set_cons_succ]
      refine takeP0 68 (i := 4) (v := ?_) rfl rfl (by kernel_rfl) (by kernel_rfl) (by kernel_rfl) rfl (fun _ _ _ h => h) (Or.inl ⟨by kernel_rfl, ?_⟩) (fun _ => SS) ?_
      rotate_left
      · intro w' hSw; go_simp; try with_reducible rfl
      try simp only [Act.put, List.setIfInBounds_toArray, List.set_cons_zero, List.set_cons_succ]
      refine takeP0 69 (i := 5) (v := ?_) rfl rfl (by kernel_rfl) (by kernel_rfl) (by kernel_rfl) rfl (fun _ _ _ h => h) (Or.inl ⟨by kernel_rfl, ?_⟩) (fun _ => SS) ?_
      rotate_left
      · intro w' hSw; go_simp; try with_reducible rfl
      try simp only [Act.put, List.setIfInBounds_toArray, List.set_cons_zero, List.set_cons_succ]
      refine wpAnyP_ready (rs := [6]) (by kernel_rfl) (by simp) ?_
      refine consP _ rfl (hopCd 70 rfl (by kernel_rfl) rfl (by kernel_rfl) (Calls.mono (small_any seed (3 * (i : Int)) _) ?_)) AllReadyP.nil
      rintro e m6 ⟨rfl, hw⟩
      subst hw
      refine ⟨_, rfl, SS, ?_⟩
      try simp only [Act.put, List.setIfInBounds_toArray, List.set_cons_zero, List.set_cons_succ]
      refine takeP0 71 (i := 7) (v := (.float .f64 (flZ (smallZ seed (3 * (i : Int)))))) rfl rfl (by kernel_rfl) (by kernel_rfl) (by kernel_rfl) rfl (fun _ _ _ h => h) (Or.inl ⟨by kernel_rfl, fun w' _ => by kernel_rfl⟩) (fun _ => SS) ?_
      try simp only [Act.put, List.setIfInBounds_toArray, List.set_cons_zero, List.set_cons_succ]
      refine wpAnyP_ready (rs := [8]) (by kernel_rfl) (by simp) ?_
      refine consP _ rfl (hopV 72 (v := .slice (some ⟨wr.drew.heap.size, 0, none⟩) 1 1) (w' := (wr.drew.alloc (.cells #[.float .f64 (flZ (smallZ seed (3 * (i : Int))))] 26))) rfl rfl rfl (by kernel_rfl) ?_) AllReadyP.nil
      have SA : (wr.drew.alloc (.cells #[.float .f64 (flZ (smallZ seed (3 * (i : Int))))] 26)).cell? ⟨w.heap.size, 8, none⟩ = some (.int .i64 seed) ∧ (wr.drew.alloc (.cells #[.float .f64 (flZ (smallZ seed (3 * (i : Int))))] 26)).cell? ⟨w.heap.size + 1 + 1 + 1, 10, none⟩ = some v := ⟨cellAt (alloc_kept HM.out.x _) 8 _ rfl, cellAt (alloc_kept HM.out.l _) 10 _ rfl⟩
      refine ⟨SA, ?_⟩
      try simp only [Act.put, List.setIfInBounds_toArray, List.set_cons_zero, List.set_cons_succ]
      refine wpAnyP_ready (rs := [9]) (by kernel_rfl) (by simp) ?_
      refine consP _ rfl (hopL rfl (append_gr1 Try.underlying27 Try.infoFm rfl (by decide) wr.drew (by rfl) _ _ (by rfl) nb v (wV seed i) (by kernel_rfl) (OwnM.keep HO.out fun _ _ => rfl) (.float .f64 (flZ (smallZ seed (3 * (i : Int))))) (by kernel_rfl) rfl HLE.out HBS.out fun v5 w5 o5 gw5 => ?_)) AllReadyP.nil
      change QK _ _ Exit.normal (Act.put _ (some 73) v5) w5
      have hk5 : ∀ k, k < wr.heap.size → v.ownBlock ≠ some k → w5.heap[k]? = wr.heap[k]? := fun k hk hv => gw5.by'.block k hk fun e => hv e.symm
      have hX5 := (hk5 _ (blk_lt HM.out.x) (own_neM HO.out HM.out.x (by decide))).trans HM.out.x
      have hL5 := (hk5 _ (blk_lt HM.out.l) (own_neM HO.out HM.out.l (by decide))).trans HM.out.l
      have S5 : w5.cell? ⟨w.heap.size, 8, none⟩ = some (.int .i64 seed) ∧ w5.cell? ⟨w.heap.size + 1 + 1 + 1, 10, none⟩ = some v := ⟨cellAt hX5 8 _ rfl, cellAt hL5 10 _ rfl⟩
      refine (And.intro S5 ?_ : _ ∧ _)
      try simp only [Act.put, List.setIfInBounds_toArray, List.set_cons_zero, List.set_cons_succ]
      refine takeP0 74 (i := 10) (v := ?_) rfl rfl (by kernel_rfl) (by kernel_rfl) (by kernel_rfl) rfl (fun _ _ _ h => h) (Or.inl ⟨by kernel_rfl, ?_⟩) (fun _ => S5) ?_
      rotate_left
      · intro w' hSw; go_simp; try with_reducible rfl
      try simp only [Act.put, List.setIfInBounds_toArray, List.set_cons_zero, List.set_cons_succ]
      have hb5 : Below w.heap.size w w5 := HM.out.bel.drew.trans (gw5.below (fun k hk => Nat.le_trans HW.out (OwnM.lt HO.out k hk).1) HM.out.bel.size)
      have o5' : OwnM w5 nb 26 v5 (wV seed i ++ [.float .f64 (flZ (smallZ seed (3 * (i : Int))))]) := o5
      have ov5 := own_valM o5'
      refine wpAnyP_ready (rs := [11]) (by kernel_rfl) (by simp) ?_
      refine consPs _ rfl rfl (hopL rfl (wpList_store_at (by rfl) 27 _ _ (by rfl) w w.heap.size (w.heap.size + 1 + 1 + 1) 10 v5 _ #[.int .i64 kd, .int .i64 g0, .int .i64 g1, .int .i64 g2, .int .i64 g3, .int .i64 g4, .int .i64 g5, .int .i64 g6, .int .i64 0, .float .f64 AV, v5, .slice none 0 0, .slice none 0 0, .slice none 0 0] 30 (by kernel_rfl) (by kernel_rfl) hL5 hb5 (by omega) 1 Try.infoSl2 (by rw [ov5.2]; rfl) (Nat.le_of_ble_eq_true rfl) (by intro u hu; rw [ov5.2] at hu; simp at hu; subst hu; exact ov5.1) (by rw [ov5.2]; rfl) fun w9 e9 b9 s9 k9 => ?_)) AllReadyP.nil
      refine ⟨trivial, ?_⟩
      try simp only [Act.put, List.setIfInBounds_toArray, List.set_cons_zero, List.set_cons_succ]
      refine wpAnyP_done (by kernel_rfl) ?_ _
      refine NoPanic.normal ?_
      try simp only [Act.put, List.setIfInBounds_toArray, List.set_cons_zero, List.set_cons_succ]
      have HS9 : Hid _ := stepM (nb := nb) HM.out HO.out (by decide) HW.out gw5 o5 e9 b9 s9 k9 (Nat.le_refl _)
      clear SS SA S5 o5' o5 gw5 hk5 hX5 hL5 hb5 ov5 e9 b9 s9 k9
      have HN9 : Hid (w.heap.size ≤ nb ∧ nb ≤ w9.heap.size) := ⟨HW.out, Nat.le_trans HN.out.2 HS9.out.2.2.1⟩
      have HK9 : Hid (True) := trivial
      have HM9 : Hid _ := HS9.out.1
      have HO9 : Hid (OwnM w9 nb 26 v5 (wV seed (i + 1))) := by unfold Hid; rw [wV_snoc]; exact HS9.out.2.1
      clear HS9 HM HO HK HN HLE HBS
      go_wp2_with fail
      go_roundg g
      case measure => omega
      case rel => exact ⟨i + 1, v5, by have := HIG.out; go_num, by have := HIG.out; omega, HM9, HO9, HK9, HN9⟩
    · have hd : decide ((i : Int) < (q0 : Int)) = false := decide_eq_false (by omega)
      have hd' : decide (i < q0) = false := decide_eq_false (by omega)
      obtain rfl : q0 = i := by omega
      obtain ⟨v1, rfl⟩ : ∃ x, x = v := ⟨_, rfl⟩
      obtain ⟨nb', hnb'⟩ : ∃ x, wr.heap.size = x := ⟨_, rfl⟩
      have HM0 : Hid _ := HM.out
      have HNB : Hid (w.heap.size ≤ nb' ∧ nb' ≤ wr.heap.size) := ⟨hnb' ▸ Nat.le_trans HN.out.1 HN.out.2, Nat.le_of_eq hnb'.symm⟩
      have HL0 : Hid (∀ (T : TypeId) (u : Value) (ts : List Value), KpM wr w.heap.size nb T u ts → KpM wr w.heap.size nb' T u ts) := fun T u ts h => ⟨h.1, fun k hk => Nat.lt_of_lt_of_le (h.2 k hk) (hnb' ▸ HN.out.2)⟩
      have HK0 : Hid (KpM wr w.heap.size nb' 26 v1 (wV seed q0) ∧ True) := ⟨⟨own_mono HO.out HN.out.1, fun k hk => hnb' ▸ (OwnM.lt HO.out k hk).2⟩, trivial⟩
      clear hnb' HL0 HK HO HM HN hlt hi
      obtain ⟨nb, rfl⟩ : ∃ x, x = nb' := ⟨_, rfl⟩
      have hq := HQL.out.2.2.2
      have k1 := cellAt HM0.out.k 1 (.int .i64 (q1 : Int)) rfl
      go_wp2_with fail
      go_loopg [10] q1 (fun g u wx => ∃ (i : Nat) (v : Value), u = .int .i64 i ∧ i + g = q1 ∧ Hid (MD w wx #[.int .i64 kd, .int .i64 g0, .int .i64 g1, .int .i64 g2, .int .i64 g3, .int .i64 g4, .int .i64 g5, .int .i64 g6, .int .i64 seed] #[.int .i64 kd, .int .i64 g0, .int .i64 g1, .int .i64 g2, .int .i64 g3, .int .i64 g4, .int .i64 g5, .int .i64 g6, .int .i64 0, .float .f64 AV, v1, v, .slice none 0 0, .slice none 0 0] #[.int .i64 (q0 : Int), .int .i64 (q1 : Int), .int .i64 (q2 : Int), .int .i64 (q3 : Int)] D) ∧ Hid (OwnM wx nb 26 v (bV seed i)) ∧ Hid (KpM wx w.heap.size nb 26 v1 (wV seed q0) ∧ True) ∧ Hid (w.heap.size ≤ nb ∧ nb ≤ wx.heap.size))
      case atStart => exact ⟨0, _, rfl, by omega, HM0, World.ownsRow_nil _ _ _ _, HK0, HNB.out⟩
      case round =>
        clear HM0 HK0 k1 HNB
        obtain ⟨i, v, rfl, hi, HM, HO, HK, HN⟩ := hrel
        have k1 := cellAt HM.out.k 1 (.int .i64 (q1 : Int)) rfl
        by_cases hlt : i < q1
        · have hd : decide ((i : Int) < (q1 : Int)) = true := decide_eq_true (by omega)
          obtain ⟨g, rfl⟩ : ∃ g, gk = g + 1 := ⟨gk - 1, by omega⟩
          have HIG : Hid (i + (g + 1) = q1) := hi
          have HLE : Hid ((bV seed i).length + 1 ≤ 1000000) := by unfold Hid; rw [bV_len]; omega
          have HBS : Hid (nb ≤ wr.drew.heap.size) := HN.out.2
          have HW : Hid (w.heap.size ≤ nb) := HN.out.1
          have h3 : IntKind.i64.wrap (5 * (i : Int)) = 5 * (i : Int) := by rw [IntKind.wrap_i64]; omega
          have h4 : IntKind.i64.wrap (5 * (i : Int) + 1) = 5 * (i : Int) + 1 := by rw [IntKind.wrap_i64]; omega
          have hv1 : wrap64 ((i : Int) + 1) = (i : Int) + 1 := by unfold wrap64; omega
          have hv2 : IntKind.i64.wrap ((i : Int) + 1) = (i : Int) + 1 := by rw [IntKind.wrap_i64]; omega
          go_upto_region 14 with fail
          clear k1 hd hi hlt
          refine wp_region_noPanic ?_
          refine wp_region_P (fun V => V.cell? ⟨w.heap.size, 8, none⟩ = some (.int .i64 seed) ∧ V.cell? ⟨w.heap.size + 1 + 1 + 1, 11, none⟩ = some v) 12 (by kernel_rfl) ?_
          have SS : wr.drew.cell? ⟨w.heap.size, 8, none⟩ = some (.int .i64 seed) ∧ wr.drew.cell? ⟨w.heap.size + 1 + 1 + 1, 11, none⟩ = some v := ⟨cellAt HM.out.x 8 _ rfl, cellAt HM.out.l 11 _ rfl⟩
          refine takeP0 81 (i := 0) (v := ?_) rfl rfl (by kernel_rfl) (by kernel_rfl) (by kernel_rfl) rfl (fun _ _ _ h => h) (Or.inl ⟨by kernel_rfl, ?_⟩) (fun _ => SS) ?_
          rotate_left
          · intro w' hSw; go_simp; try with_reducible rfl
          try simp only [Act.put, List.setIfInBounds_toArray, List.set_cons_zero, List.set_cons_succ]
          refine takeP 82 (i := 1) (v := v) rfl rfl (by kernel_rfl) (by kernel_rfl) (by kernel_rfl) (by kernel_rfl) rfl (by kernel_rfl) (fun _ _ _ h => h) (Or.inl ⟨by kernel_rfl, fun w' hSw => ex_load1 _ 27 _ rfl ⟨w.heap.size + 1 + 1 + 1, 11, none⟩ (by kernel_rfl) w' v hSw.2 (fun w => by kernel_rfl)⟩) SS ?_
          try simp only [Act.put, List.setIfInBounds_toArray, List.set_cons_zero, List.set_cons_succ]
          refine takeP0 83 (i := 2) (v := ?_) rfl rfl (by kernel_rfl) (by kernel_rfl) (by kernel_rfl) rfl (fun _ _ _ h => h) (Or.inl ⟨by kernel_rfl, ?_⟩) (fun _ => SS) ?_
          rotate_left
          · intro w' hSw; go_simp; try with_reducible rfl
          try simp only [Act.put, List.setIfInBounds_toArray, List.set_cons_zero, List.set_cons_succ]
          refine takeP 84 (i := 3) (v := (.int .i64 seed)) rfl rfl (by kernel_rfl) (by kernel_rfl) (by kernel_rfl) (by kernel_rfl) rfl (by kernel_rfl) (fun _ _ _ h => h) (Or.inl ⟨by kernel_rfl, fun w' hSw => ex_load1 _ 3 _ rfl ⟨w.heap.size, 8, none⟩ (by kernel_rfl) w' (.int .i64 seed) hSw.1 (fun w => by kernel_rfl)⟩) SS ?_
          try simp only [Act.put, List.setIfInBounds_toArray, List.set_cons_zero, List.set_cons_succ]
          refine takeP0 85 (i := 4) (v := ?_) rfl rfl (by kernel_rfl) (by kernel_rfl) (by kernel_rfl) rfl (fun _ _ _ h => h) (Or.inl ⟨by kernel_rfl, ?_⟩) (fun _ => SS) ?_
          rotate_left
          · intro w' hSw; go_simp; try with_reducible rfl
          try simp only [Act.put, List.setIfInBounds_toArray, List.set_cons_zero, List.set_cons_succ]
          refine takeP0 86 (i := 5) (v := ?_) rfl rfl (by kernel_rfl) (by kernel_rfl) (by kernel_rfl) rfl (fun _ _ _ h => h) (Or.inl ⟨by kernel_rfl, ?_⟩) (fun _ => SS) ?_
          rotate_left
          · intro w' hSw; go_simp; try with_reducible rfl
          try simp only [Act.put, List.setIfInBounds_toArray, List.set_cons_zero, List.set_cons_succ]
          refine takeP0 87 (i := 6) (v := ?_) rfl rfl (by kernel_rfl) (by kernel_rfl) (by kernel_rfl) rfl (fun _ _ _ h => h) (Or.inl ⟨by kernel_rfl, ?_⟩) (fun _ => SS) ?_
          rotate_left
          · intro w' hSw; go_simp; try with_reducible rfl
          try simp only [Act.put, List.setIfInBounds_toArray, List.set_cons_zero, List.set_cons_succ]
          refine wpAnyP_ready (rs := [7]) (by kernel_rfl) (by simp) ?_
          refine consP _ rfl (hopCd 88 rfl (by kernel_rfl) rfl (by kernel_rfl) (Calls.mono (small_any seed (5 * (i : Int) + 1) _) ?_)) AllReadyP.nil
          rintro e m7 ⟨rfl, hw⟩
          subst hw
          refine ⟨_, rfl, SS, ?_⟩
          try simp only [Act.put, List.setIfInBounds_toArray, List.set_cons_zero, List.set_cons_succ]
          refine takeP0 89 (i := 8) (v := (.float .f64 (flZ (smallZ seed (5 * (i : Int) + 1))))) rfl rfl (by kernel_rfl) (by kernel_rfl) (by kernel_rfl) rfl (fun _ _ _ h => h) (Or.inl ⟨by kernel_rfl, fun w' _ => by kernel_rfl⟩) (fun _ => SS) ?_
          try simp only [Act.put, List.setIfInBounds_toArray, List.set_cons_zero, List.set_cons_succ]
          refine wpAnyP_ready (rs := [9]) (by kernel_rfl) (by simp) ?_
          refine consP _ rfl (hopV 90 (v := .slice (some ⟨wr.drew.heap.size, 0, none⟩) 1 1) (w' := (wr.drew.alloc (.cells #[.float .f64 (flZ (smallZ seed (5 * (i : Int) + 1)))] 26))) rfl rfl rfl (by kernel_rfl) ?_) AllReadyP.nil
          have SA : (wr.drew.alloc (.cells #[.float .f64 (flZ (smallZ seed (5 * (i : Int) + 1)))] 26)).cell? ⟨w.heap.size, 8, none⟩ = some (.int .i64 seed) ∧ (wr.drew.alloc (.cells #[.float .f64 (flZ (smallZ seed (5 * (i : Int) + 1)))] 26)).cell? ⟨w.heap.size + 1 + 1 + 1, 11, none⟩ = some v := ⟨cellAt (alloc_kept HM.out.x _) 8 _ rfl, cellAt (alloc_kept HM.out.l _) 11 _ rfl⟩
          refine ⟨SA, ?_⟩
          try simp only [Act.put, List.setIfInBounds_toArray, List.set_cons_zero, List.set_cons_succ]
          refine wpAnyP_ready (rs := [10]) (by kernel_rfl) (by simp) ?_
          refine consP _ rfl (hopL rfl (append_gr1 Try.underlying27 Try.infoFm rfl (by decide) wr.drew (by rfl) _ _ (by rfl) nb v (bV seed i) (by kernel_rfl) (OwnM.keep HO.out fun _ _ => rfl) (.float .f64 (flZ (smallZ seed (5 * (i : Int) + 1)))) (by kernel_rfl) rfl HLE.out HBS.out fun v5 w5 o5 gw5 => ?_)) AllReadyP.nil
          change QK _ _ Exit.normal (Act.put _ (some 91) v5) w5
          have hk5 : ∀ k, k < wr.heap.size → v.ownBlock ≠ some k → w5.heap[k]? = wr.heap[k]? := fun k hk hv => gw5.by'.block k hk fun e => hv e.symm
          have hX5 := (hk5 _ (blk_lt HM.out.x) (own_neM HO.out HM.out.x (by decide))).trans HM.out.x
          have hL5 := (hk5 _ (blk_lt HM.out.l) (own_neM HO.out HM.out.l (by decide))).trans HM.out.l
          have S5 : w5.cell? ⟨w.heap.size, 8, none⟩ = some (.int .i64 seed) ∧ w5.cell? ⟨w.heap.size + 1 + 1 + 1, 11, none⟩ = some v := ⟨cellAt hX5 8 _ rfl, cellAt hL5 11 _ rfl⟩
          refine (And.intro S5 ?_ : _ ∧ _)
          try simp only [Act.put, List.setIfInBounds_toArray, List.set_cons_zero, List.set_cons_succ]
          refine takeP0 92 (i := 11) (v := ?_) rfl rfl (by kernel_rfl) (by kernel_rfl) (by kernel_rfl) rfl (fun _ _ _ h => h) (Or.inl ⟨by kernel_rfl, ?_⟩) (fun _ => S5) ?_
          rotate_left
          · intro w' hSw; go_simp; try with_reducible rfl
          try simp only [Act.put, List.setIfInBounds_toArray, List.set_cons_zero, List.set_cons_succ]
          have hb5 : Below w.heap.size w w5 := HM.out.bel.drew.trans (gw5.below (fun k hk => Nat.le_trans HW.out (OwnM.lt HO.out k hk).1) HM.out.bel.size)
          have o5' : OwnM w5 nb 26 v5 (bV seed i ++ [.float .f64 (flZ (smallZ seed (5 * (i : Int) + 1)))]) := o5
          have ov5 := own_valM o5'
          refine wpAnyP_ready (rs := [12]) (by kernel_rfl) (by simp) ?_
          refine consPs _ rfl rfl (hopL rfl (wpList_store_at (by rfl) 27 _ _ (by rfl) w w.heap.size (w.heap.size + 1 + 1 + 1) 11 v5 _ #[.int .i64 kd, .int .i64 g0, .int .i64 g1, .int .i64 g2, .int .i64 g3, .int .i64 g4, .int .i64 g5, .int .i64 g6, .int .i64 0, .float .f64 AV, v1, v5, .slice none 0 0, .slice none 0 0] 30 (by kernel_rfl) (by kernel_rfl) hL5 hb5 (by omega) 1 Try.infoSl2 (by rw [ov5.2]; rfl) (Nat.le_of_ble_eq_true rfl) (by intro u hu; rw [ov5.2] at hu; simp at hu; subst hu; exact ov5.1) (by rw [ov5.2]; rfl) fun w9 e9 b9 s9 k9 => ?_)) AllReadyP.nil
          refine ⟨trivial, ?_⟩
          try simp only [Act.put, List.setIfInBounds_toArray, List.set_cons_zero, List.set_cons_succ]
          refine wpAnyP_done (by kernel_rfl) ?_ _
          refine NoPanic.normal ?_
          try simp only [Act.put, List.setIfInBounds_toArray, List.set_cons_zero, List.set_cons_succ]
          have HS9 : Hid _ := stepM (nb := nb) HM.out HO.out (by decide) HW.out gw5 o5 e9 b9 s9 k9 (Nat.le_refl _)
          clear SS SA S5 o5' o5 gw5 hk5 hX5 hL5 hb5 ov5 e9 b9 s9 k9
          have HN9 : Hid (w.heap.size ≤ nb ∧ nb ≤ w9.heap.size) := ⟨HW.out, Nat.le_trans HN.out.2 HS9.out.2.2.1⟩
          have HK9 : Hid (KpM w9 w.heap.size nb 26 v1 (wV seed q0) ∧ True) := ⟨HS9.out.2.2.2 _ _ _ (by decide) HK.out.1, trivial⟩
          have HM9 : Hid _ := HS9.out.1
          have HO9 : Hid (OwnM w9 nb 26 v5 (bV seed (i + 1))) := by unfold Hid; rw [bV_snoc]; exact HS9.out.2.1
          clear HS9 HM HO HK HN HLE HBS
          go_wp2_with fail
          go_roundg g
          case measure => omega
          case rel => exact ⟨i + 1, v5, by have := HIG.out; go_num, by have := HIG.out; omega, HM9, HO9, HK9, HN9⟩
        · have hd : decide ((i : Int) < (q1 : Int)) = false := decide_eq_false (by omega)
          have hd' : decide (i < q1) = false := decide_eq_false (by omega)
          obtain rfl : q1 = i := by omega
          obtain ⟨v2, rfl⟩ : ∃ x, x = v := ⟨_, rfl⟩
          obtain ⟨nb', hnb'⟩ : ∃ x, wr.heap.size = x := ⟨_, rfl⟩
          have HM0 : Hid _ := HM.out
          have HNB : Hid (w.heap.size ≤ nb' ∧ nb' ≤ wr.heap.size) := ⟨hnb' ▸ Nat.le_trans HN.out.1 HN.out.2, Nat.le_of_eq hnb'.symm⟩
          have HL0 : Hid (∀ (T : TypeId) (u : Value) (ts : List Value), KpM wr w.heap.size nb T u ts → KpM wr w.heap.size nb' T u ts) := fun T u ts h => ⟨h.1, fun k hk => Nat.lt_of_lt_of_le (h.2 k hk) (hnb' ▸ HN.out.2)⟩
          have HK0 : Hid (KpM wr w.heap.size nb' 26 v1 (wV seed q0) ∧ KpM wr w.heap.size nb' 26 v2 (bV seed q1) ∧ True) := ⟨HL0.out _ _ _ HK.out.1, ⟨own_mono HO.out HN.out.1, fun k hk => hnb' ▸ (OwnM.lt HO.out k hk).2⟩, trivial⟩
          clear hnb' HL0 HK HO HM HN hlt hi
          obtain ⟨nb, rfl⟩ : ∃ x, x = nb' := ⟨_, rfl⟩
          have hq := HQL.out.2.2.2
          have k2 := cellAt HM0.out.k 2 (.int .i64 (q2 : Int)) rfl
          go_wp2_with fail
          go_loopg [11] q2 (fun g u wx => ∃ (i : Nat) (v : Value), u = .int .i64 i ∧ i + g = q2 ∧ Hid (MD w wx #[.int .i64 kd, .int .i64 g0, .int .i64 g1, .int .i64 g2, .int .i64 g3, .int .i64 g4, .int .i64 g5, .int .i64 g6, .int .i64 seed] #[.int .i64 kd, .int .i64 g0, .int .i64 g1, .int .i64 g2, .int .i64 g3, .int .i64 g4, .int .i64 g5, .int .i64 g6, .int .i64 0, .float .f64 AV, v1, v2, v, .slice none 0 0] #[.int .i64 (q0 : Int), .int .i64 (q1 : Int), .int .i64 (q2 : Int), .int .i64 (q3 : Int)] D) ∧ Hid (OwnM wx nb 57 v (zV seed i)) ∧ Hid (KpM wx w.heap.size nb 26 v1 (wV seed q0) ∧ KpM wx w.heap.size nb 26 v2 (bV seed q1) ∧ True) ∧ Hid (w.heap.size ≤ nb ∧ nb ≤ wx.heap.size))
          case atStart => exact ⟨0, _, rfl, by omega, HM0, World.ownsRow_nil _ _ _ _, HK0, HNB.out⟩
          case round =>
            clear HM0 HK0 k2 HNB
            obtain ⟨i, v, rfl, hi, HM, HO, HK, HN⟩ := hrel
            have k2 := cellAt HM.out.k 2 (.int .i64 (q2 : Int)) rfl
            by_cases hlt : i < q2
            · have hd : decide ((i : Int) < (q2 : Int)) = true := decide_eq_true (by omega)
              obtain ⟨g, rfl⟩ : ∃ g, gk = g + 1 := ⟨gk - 1, by omega⟩
              have HIG : Hid (i + (g + 1) = q2) := hi
              have HLE : Hid ((zV seed i).length + 1 ≤ 1000000) := by unfold Hid; rw [zV_len]; omega
              have HBS : Hid (nb ≤ wr.drew.heap.size) := HN.out.2
              have HW : Hid (w.heap.size ≤ nb) := HN.out.1
              have h3 : IntKind.i64.wrap (2 * (i : Int)) = 2 * (i : Int) := by rw [IntKind.wrap_i64]; omega
              have h4 : IntKind.i64.wrap (9 * (i : Int)) = 9 * (i : Int) := by rw [IntKind.wrap_i64]; omega
              have h5 : IntKind.i64.wrap (9 * (i : Int) + 4) = 9 * (i : Int) + 4 := by rw [IntKind.wrap_i64]; omega
              have hv1 : wrap64 ((i : Int) + 1) = (i : Int) + 1 := by unfold wrap64; omega
              have hv2 : IntKind.i64.wrap ((i : Int) + 1) = (i : Int) + 1 := by rw [IntKind.wrap_i64]; omega
              go_upto_region 18 with fail
              clear k2 hd hi hlt
              refine wp_region_noPanic ?_
              refine wp_region_P (fun V => V.cell? ⟨w.heap.size, 8, none⟩ = some (.int .i64 seed) ∧ V.cell? ⟨w.heap.size + 1 + 1 + 1, 12, none⟩ = some v) 19 (by kernel_rfl) ?_
              have SS : wr.drew.cell? ⟨w.heap.size, 8, none⟩ = some (.int .i64 seed) ∧ wr.drew.cell? ⟨w.heap.size + 1 + 1 + 1, 12, none⟩ = some v := ⟨cellAt HM.out.x 8 _ rfl, cellAt HM.out.l 12 _ rfl⟩
              refine takeP0 99 (i := 0) (v := ?_) rfl rfl (by kernel_rfl) (by kernel_rfl) (by kernel_rfl) rfl (fun _ _ _ h => h) (Or.inl ⟨by kernel_rfl, ?_⟩) (fun _ => SS) ?_
              rotate_left
              · intro w' hSw; go_simp; try with_reducible rfl
              try simp only [Act.put, List.setIfInBounds_toArray, List.set_cons_zero, List.set_cons_succ]
              refine takeP 100 (i := 1) (v := v) rfl rfl (by kernel_rfl) (by kernel_rfl) (by kernel_rfl) (by kernel_rfl) rfl (by kernel_rfl) (fun _ _ _ h => h) (Or.inl ⟨by kernel_rfl, fun w' hSw => ex_load1 _ 28 _ rfl ⟨w.heap.size + 1 + 1 + 1, 12, none⟩ (by kernel_rfl) w' v hSw.2 (fun w => by kernel_rfl)⟩) SS ?_
              try simp only [Act.put, List.setIfInBounds_toArray, List.set_cons_zero, List.set_cons_succ]
              refine takeP0 101 (i := 2) (v := ?_) rfl rfl (by kernel_rfl) (by kernel_rfl) (by kernel_rfl) rfl (fun _ _ _ h => h) (Or.inl ⟨by kernel_rfl, ?_⟩) (fun _ => SS) ?_
              rotate_left
              · intro w' hSw; go_simp; try with_reducible rfl
              try simp only [Act.put, List.setIfInBounds_toArray, List.set_cons_zero, List.set_cons_succ]
              refine takeP 102 (i := 3) (v := (.int .i64 seed)) rfl rfl (by kernel_rfl) (by kernel_rfl) (by kernel_rfl) (by kernel_rfl) rfl (by kernel_rfl) (fun _ _ _ h => h) (Or.inl ⟨by kernel_rfl, fun w' hSw => ex_load1 _ 3 _ rfl ⟨w.heap.size, 8, none⟩ (by kernel_rfl) w' (.int .i64 seed) hSw.1 (fun w => by kernel_rfl)⟩) SS ?_
              try simp only [Act.put, List.setIfInBounds_toArray, List.set_cons_zero, List.set_cons_succ]
              refine takeP0 103 (i := 4) (v := ?_) rfl rfl (by kernel_rfl) (by kernel_rfl) (by kernel_rfl) rfl (fun _ _ _ h => h) (Or.inl ⟨by kernel_rfl, ?_⟩) (fun _ => SS) ?_
              rotate_left
              · intro w' hSw; go_simp; try with_reducible rfl
              try simp only [Act.put, List.setIfInBounds_toArray, List.set_cons_zero, List.set_cons_succ]
              refine takeP0 104 (i := 5) (v := ?_) rfl rfl (by kernel_rfl) (by kernel_rfl) (by kernel_rfl) rfl (fun _ _ _ h => h) (Or.inl ⟨by kernel_rfl, ?_⟩) (fun _ => SS) ?_
              rotate_left
              · intro w' hSw; go_simp; try with_reducible rfl
              try simp only [Act.put, List.setIfInBounds_toArray, List.set_cons_zero, List.set_cons_succ]
              refine takeP0 107 (i := 8) (v := ?_) rfl rfl (by kernel_rfl) (by kernel_rfl) (by kernel_rfl) rfl (fun _ _ _ h => h) (Or.inl ⟨by kernel_rfl, ?_⟩) (fun _ => SS) ?_
              rotate_left
              · intro w' hSw; go_simp; try with_reducible rfl
              try simp only [Act.put, List.setIfInBounds_toArray, List.set_cons_zero, List.set_cons_succ]
              refine takeP 108 (i := 9) (v := (.int .i64 seed)) rfl rfl (by kernel_rfl) (by kernel_rfl) (by kernel_rfl) (by kernel_rfl) rfl (by kernel_rfl) (fun _ _ _ h => h) (Or.inl ⟨by kernel_rfl, fun w' hSw => ex_load1 _ 3 _ rfl ⟨w.heap.size, 8, none⟩ (by kernel_rfl) w' (.int .i64 seed) hSw.1 (fun w => by kernel_rfl)⟩) SS ?_
              try simp only [Act.put, List.setIfInBounds_toArray, List.set_cons_zero, List.set_cons_succ]
              refine takeP0 109 (i := 10) (v := ?_) rfl rfl (by kernel_rfl) (by kernel_rfl) (by kernel_rfl) rfl (fun _ _ _ h => h) (Or.inl ⟨by kernel_rfl, ?_⟩) (fun _ => SS) ?_
              rotate_left
              · intro w' hSw; go_simp; try with_reducible rfl
              try simp only [Act.put, List.setIfInBounds_toArray, List.set_cons_zero, List.set_cons_succ]
              refine takeP0 110 (i := 11) (v := ?_) rfl rfl (by kernel_rfl) (by kernel_rfl) (by kernel_rfl) rfl (fun _ _ _ h => h) (Or.inl ⟨by kernel_rfl, ?_⟩) (fun _ => SS) ?_
              rotate_left
              · intro w' hSw; go_simp; try with_reducible rfl
              try simp only [Act.put, List.setIfInBounds_toArray, List.set_cons_zero, List.set_cons_succ]
              refine takeP0 111 (i := 12) (v := ?_) rfl rfl (by kernel_rfl) (by kernel_rfl) (by kernel_rfl) rfl (fun _ _ _ h => h) (Or.inl ⟨by kernel_rfl, ?_⟩) (fun _ => SS) ?_
              rotate_left
              · intro w' hSw; go_simp; try with_reducible rfl
              try simp only [Act.put, List.setIfInBounds_toArray, List.set_cons_zero, List.set_cons_succ]
              refine wpAnyP_ready (rs := [6]) (by kernel_rfl) (by simp) ?_
              refine consP _ rfl (hopCd 105 rfl (by kernel_rfl) rfl (by kernel_rfl) (Calls.mono (small_any seed (2 * (i : Int)) _) ?_)) AllReadyP.nil
              rintro e m6 ⟨rfl, hw⟩
              subst hw
              refine ⟨_, rfl, SS, ?_⟩
              try simp only [Act.put, List.setIfInBounds_toArray, List.set_cons_zero, List.set_cons_succ]
              refine takeP0 106 (i := 7) (v := (.float .f64 (flZ (smallZ seed (2 * (i : Int)))))) rfl rfl (by kernel_rfl) (by kernel_rfl) (by kernel_rfl) rfl (fun _ _ _ h => h) (Or.inl ⟨by kernel_rfl, fun w' _ => by kernel_rfl⟩) (fun _ => SS) ?_
              try simp only [Act.put, List.setIfInBounds_toArray, List.set_cons_zero, List.set_cons_succ]
              refine wpAnyP_ready (rs := [13]) (by kernel_rfl) (by simp) ?_
              refine consP _ rfl (hopCd 112 rfl (by kernel_rfl) rfl (by kernel_rfl) (Calls.mono (small_any seed (9 * (i : Int) + 4) _) ?_)) AllReadyP.nil
              rintro e m13 ⟨rfl, hw⟩
              subst hw
              refine ⟨_, rfl, SS, ?_⟩
              try simp only [Act.put, List.setIfInBounds_toArray, List.set_cons_zero, List.set_cons_succ]
              refine takeP0 113 (i := 14) (v := (.float .f64 (flZ (smallZ seed (9 * (i : Int) + 4))))) rfl rfl (by kernel_rfl) (by kernel_rfl) (by kernel_rfl) rfl (fun _ _ _ h => h) (Or.inl ⟨by kernel_rfl, fun w' _ => by kernel_rfl⟩) (fun _ => SS) ?_
              try simp only [Act.put, List.setIfInBounds_toArray, List.set_cons_zero, List.set_cons_succ]
              refine takeP0 114 (i := 15) (v := (.complex .f64 (flZ (smallZ seed (2 * (i : Int)))) (flZ (smallZ seed (9 * (i : Int) + 4))))) rfl rfl (by kernel_rfl) (by kernel_rfl) (by kernel_rfl) rfl (fun _ _ _ h => h) (Or.inl ⟨by kernel_rfl, fun w' _ => by kernel_rfl⟩) (fun _ => SS) ?_
              try simp only [Act.put, List.setIfInBounds_toArray, List.set_cons_zero, List.set_cons_succ]
              refine wpAnyP_ready (rs := [16]) (by kernel_rfl) (by simp) ?_
              refine consP _ rfl (hopV 115 (v := .slice (some ⟨wr.drew.heap.size, 0, none⟩) 1 1) (w' := (wr.drew.alloc (.cells #[.complex .f64 (flZ (smallZ seed (2 * (i : Int)))) (flZ (smallZ seed (9 * (i : Int) + 4)))] 57))) rfl rfl rfl (by kernel_rfl) ?_) AllReadyP.nil
              have SA : (wr.drew.alloc (.cells #[.complex .f64 (flZ (smallZ seed (2 * (i : Int)))) (flZ (smallZ seed (9 * (i : Int) + 4)))] 57)).cell? ⟨w.heap.size, 8, none⟩ = some (.int .i64 seed) ∧ (wr.drew.alloc (.cells #[.complex .f64 (flZ (smallZ seed (2 * (i : Int)))) (flZ (smallZ seed (9 * (i : Int) + 4)))] 57)).cell? ⟨w.heap.size + 1 + 1 + 1, 12, none⟩ = some v := ⟨cellAt (alloc_kept HM.out.x _) 8 _ rfl, cellAt (alloc_kept HM.out.l _) 12 _ rfl⟩
              refine ⟨SA, ?_⟩
              try simp only [Act.put, List.setIfInBounds_toArray, List.set_cons_zero, List.set_cons_succ]
              refine wpAnyP_ready (rs := [17]) (by kernel_rfl) (by simp) ?_
              refine consP _ rfl (hopL rfl (append_gr1 Try.underlying28 Try.infoCm rfl (by decide) wr.drew (by rfl) _ _ (by rfl) nb v (zV seed i) (by kernel_rfl) (OwnM.keep HO.out fun _ _ => rfl) (.complex .f64 (flZ (smallZ seed (2 * (i : Int)))) (flZ (smallZ seed (9 * (i : Int) + 4)))) (by kernel_rfl) rfl HLE.out HBS.out fun v5 w5 o5 gw5 => ?_)) AllReadyP.nil
              change QK _ _ Exit.normal (Act.put _ (some 116) v5) w5
              have hk5 : ∀ k, k < wr.heap.size → v.ownBlock ≠ some k → w5.heap[k]? = wr.heap[k]? := fun k hk hv => gw5.by'.block k hk fun e => hv e.symm
              have hX5 := (hk5 _ (blk_lt HM.out.x) (own_neM HO.out HM.out.x (by decide))).trans HM.out.x
              have hL5 := (hk5 _ (blk_lt HM.out.l) (own_neM HO.out HM.out.l (by decide))).trans HM.out.l
              have S5 : w5.cell? ⟨w.heap.size, 8, none⟩ = some (.int .i64 seed) ∧ w5.cell? ⟨w.heap.size + 1 + 1 + 1, 12, none⟩ = some v := ⟨cellAt hX5 8 _ rfl, cellAt hL5 12 _ rfl⟩
              refine (And.intro S5 ?_ : _ ∧ _)
              try simp only [Act.put, List.setIfInBounds_toArray, List.set_cons_zero, List.set_cons_succ]
              refine takeP0 117 (i := 18) (v := ?_) rfl rfl (by kernel_rfl) (by kernel_rfl) (by kernel_rfl) rfl (fun _ _ _ h => h) (Or.inl ⟨by kernel_rfl, ?_⟩) (fun _ => S5) ?_
              rotate_left
              · intro w' hSw; go_simp; try with_reducible rfl
              try simp only [Act.put, List.setIfInBounds_toArray, List.set_cons_zero, List.set_cons_succ]
              have hb5 : Below w.heap.size w w5 := HM.out.bel.drew.trans (gw5.below (fun k hk => Nat.le_trans HW.out (OwnM.lt HO.out k hk).1) HM.out.bel.size)
              have o5' : OwnM w5 nb 57 v5 (zV seed i ++ [.complex .f64 (flZ (smallZ seed (2 * (i : Int)))) (flZ (smallZ seed (9 * (i : Int) + 4)))]) := o5
              have ov5 := own_valM o5'
              refine wpAnyP_ready (rs := [19]) (by kernel_rfl) (by simp) ?_
              refine consPs _ rfl rfl (hopL rfl (wpList_store_at (by rfl) 28 _ _ (by rfl) w w.heap.size (w.heap.size + 1 + 1 + 1) 12 v5 _ #[.int .i64 kd, .int .i64 g0, .int .i64 g1, .int .i64 g2, .int .i64 g3, .int .i64 g4, .int .i64 g5, .int .i64 g6, .int .i64 0, .float .f64 AV, v1, v2, v5, .slice none 0 0] 30 (by kernel_rfl) (by kernel_rfl) hL5 hb5 (by omega) 1 Try.szCs (by rw [ov5.2]; rfl) (Nat.le_of_ble_eq_true rfl) (by intro u hu; rw [ov5.2] at hu; simp at hu; subst hu; exact ov5.1) (by rw [ov5.2]; rfl) fun w9 e9 b9 s9 k9 => ?_)) AllReadyP.nil
              refine ⟨trivial, ?_⟩
              try simp only [Act.put, List.setIfInBounds_toArray, List.set_cons_zero, List.set_cons_succ]
              refine wpAnyP_done (by kernel_rfl) ?_ _
              refine NoPanic.normal ?_
              try simp only [Act.put, List.setIfInBounds_toArray, List.set_cons_zero, List.set_cons_succ]
              have HS9 : Hid _ := stepM (nb := nb) HM.out HO.out (by decide) HW.out gw5 o5 e9 b9 s9 k9 (Nat.le_refl _)
              clear SS SA S5 o5' o5 gw5 hk5 hX5 hL5 hb5 ov5 e9 b9 s9 k9
              have HN9 : Hid (w.heap.size ≤ nb ∧ nb ≤ w9.heap.size) := ⟨HW.out, Nat.le_trans HN.out.2 HS9.out.2.2.1⟩
              have HK9 : Hid (KpM w9 w.heap.size nb 26 v1 (wV seed q0) ∧ KpM w9 w.heap.size nb 26 v2 (bV seed q1) ∧ True) := ⟨HS9.out.2.2.2 _ _ _ (by decide) HK.out.1, HS9.out.2.2.2 _ _ _ (by decide) HK.out.2.1, trivial⟩
              have HM9 : Hid _ := HS9.out.1
              have HO9 : Hid (OwnM w9 nb 57 v5 (zV seed (i + 1))) := by unfold Hid; rw [zV_snoc]; exact HS9.out.2.1
              clear HS9 HM HO HK HN HLE HBS
              go_wp2_with fail
              go_roundg g
              case measure => omega
              case rel => exact ⟨i + 1, v5, by have := HIG.out; go_num, by have := HIG.out; omega, HM9, HO9, HK9, HN9⟩
            · have hd : decide ((i : Int) < (q2 : Int)) = false := decide_eq_false (by omega)
              have hd' : decide (i < q2) = false := decide_eq_false (by omega)
              obtain rfl : q2 = i := by omega
              obtain ⟨v3, rfl⟩ : ∃ x, x = v := ⟨_, rfl⟩
              obtain ⟨nb', hnb'⟩ : ∃ x, wr.heap.size = x := ⟨_, rfl⟩
              have HM0 : Hid _ := HM.out
              have HNB : Hid (w.heap.size ≤ nb' ∧ nb' ≤ wr.heap.size) := ⟨hnb' ▸ Nat.le_trans HN.out.1 HN.out.2, Nat.le_of_eq hnb'.symm⟩
              have HL0 : Hid (∀ (T : TypeId) (u : Value) (ts : List Value), KpM wr w.heap.size nb T u ts → KpM wr w.heap.size nb' T u ts) := fun T u ts h => ⟨h.1, fun k hk => Nat.lt_of_lt_of_le (h.2 k hk) (hnb' ▸ HN.out.2)⟩
              have HK0 : Hid (KpM wr w.heap.size nb' 26 v1 (wV seed q0) ∧ KpM wr w.heap.size nb' 26 v2 (bV seed q1) ∧ KpM wr w.heap.size nb' 57 v3 (zV seed q2) ∧ True) := ⟨HL0.out _ _ _ HK.out.1, HL0.out _ _ _ HK.out.2.1, ⟨own_mono HO.out HN.out.1, fun k hk => hnb' ▸ (OwnM.lt HO.out k hk).2⟩, trivial⟩
              clear hnb' HL0 HK HO HM HN hlt hi
              obtain ⟨nb, rfl⟩ : ∃ x, x = nb' := ⟨_, rfl⟩
              have hq := HQL.out.2.2.2
              have k3 := cellAt HM0.out.k 3 (.int .i64 (q3 : Int)) rfl
              go_wp2_with fail
              go_loopg [12] q3 (fun g u wx => ∃ (i : Nat) (v : Value), u = .int .i64 i ∧ i + g = q3 ∧ Hid (MD w wx #[.int .i64 kd, .int .i64 g0, .int .i64 g1, .int .i64 g2, .int .i64 g3, .int .i64 g4, .int .i64 g5, .int .i64 g6, .int .i64 seed] #[.int .i64 kd, .int .i64 g0, .int .i64 g1, .int .i64 g2, .int .i64 g3, .int .i64 g4, .int .i64 g5, .int .i64 g6, .int .i64 0, .float .f64 AV, v1, v2, v3, v] #[.int .i64 (q0 : Int), .int .i64 (q1 : Int), .int .i64 (q2 : Int), .int .i64 (q3 : Int)] D) ∧ Hid (OwnM wx nb 57 v (yV seed i)) ∧ Hid (KpM wx w.heap.size nb 26 v1 (wV seed q0) ∧ KpM wx w.heap.size nb 26 v2 (bV seed q1) ∧ KpM wx w.heap.size nb 57 v3 (zV seed q2) ∧ True) ∧ Hid (w.heap.size ≤ nb ∧ nb ≤ wx.heap.size))
              case atStart => exact ⟨0, _, rfl, by omega, HM0, World.ownsRow_nil _ _ _ _, HK0, HNB.out⟩
              case round =>
                clear HM0 HK0 k3 HNB
                obtain ⟨i, v, rfl, hi, HM, HO, HK, HN⟩ := hrel
                have k3 := cellAt HM.out.k 3 (.int .i64 (q3 : Int)) rfl
                by_cases hlt : i < q3
                · have hd : decide ((i : Int) < (q3 : Int)) = true := decide_eq_true (by omega)
                  obtain ⟨g, rfl⟩ : ∃ g, gk = g + 1 := ⟨gk - 1, by omega⟩
                  have HIG : Hid (i + (g + 1) = q3) := hi
                  have HLE : Hid ((yV seed i).length + 1 ≤ 1000000) := by unfold Hid; rw [yV_len]; omega
                  have HBS : Hid (nb ≤ wr.drew.heap.size) := HN.out.2
                  have HW : Hid (w.heap.size ≤ nb) := HN.out.1
                  have h3 : IntKind.i64.wrap ((i : Int) + 2) = (i : Int) + 2 := by rw [IntKind.wrap_i64]; omega
                  have h4 : IntKind.i64.wrap (6 * (i : Int)) = 6 * (i : Int) := by rw [IntKind.wrap_i64]; omega
                  have hv1 : wrap64 ((i : Int) + 1) = (i : Int) + 1 := by unfold wrap64; omega
                  have hv2 : IntKind.i64.wrap ((i : Int) + 1) = (i : Int) + 1 := by rw [IntKind.wrap_i64]; omega
                  go_upto_region 22 with fail
                  clear k3 hd hi hlt
                  refine wp_region_noPanic ?_
                  refine wp_region_P (fun V => V.cell? ⟨w.heap.size, 8, none⟩ = some (.int .i64 seed) ∧ V.cell? ⟨w.heap.size + 1 + 1 + 1, 13, none⟩ = some v) 18 (by kernel_rfl) ?_
                  have SS : wr.drew.cell? ⟨w.heap.size, 8, none⟩ = some (.int .i64 seed) ∧ wr.drew.cell? ⟨w.heap.size + 1 + 1 + 1, 13, none⟩ = some v := ⟨cellAt HM.out.x 8 _ rfl, cellAt HM.out.l 13 _ rfl⟩
                  refine takeP0 124 (i := 0) (v := ?_) rfl rfl (by kernel_rfl) (by kernel_rfl) (by kernel_rfl) rfl (fun _ _ _ h => h) (Or.inl ⟨by kernel_rfl, ?_⟩) (fun _ => SS) ?_
                  rotate_left
                  · intro w' hSw; go_simp; try with_reducible rfl
                  try simp only [Act.put, List.setIfInBounds_toArray, List.set_cons_zero, List.set_cons_succ]
                  refine takeP 125 (i := 1) (v := v) rfl rfl (by kernel_rfl) (by kernel_rfl) (by kernel_rfl) (by kernel_rfl) rfl (by kernel_rfl) (fun _ _ _ h => h) (Or.inl ⟨by kernel_rfl, fun w' hSw => ex_load1 _ 28 _ rfl ⟨w.heap.size + 1 + 1 + 1, 13, none⟩ (by kernel_rfl) w' v hSw.2 (fun w => by kernel_rfl)⟩) SS ?_
                  try simp only [Act.put, List.setIfInBounds_toArray, List.set_cons_zero, List.set_cons_succ]
                  refine takeP0 126 (i := 2) (v := ?_) rfl rfl (by kernel_rfl) (by kernel_rfl) (by kernel_rfl) rfl (fun _ _ _ h => h) (Or.inl ⟨by kernel_rfl, ?_⟩) (fun _ => SS) ?_
                  rotate_left
                  · intro w' hSw; go_simp; try with_reducible rfl
                  try simp only [Act.put, List.setIfInBounds_toArray, List.set_cons_zero, List.set_cons_succ]
                  refine takeP 127 (i := 3) (v := (.int .i64 seed)) rfl rfl (by kernel_rfl) (by kernel_rfl) (by kernel_rfl) (by kernel_rfl) rfl (by kernel_rfl) (fun _ _ _ h => h) (Or.inl ⟨by kernel_rfl, fun w' hSw => ex_load1 _ 3 _ rfl ⟨w.heap.size, 8, none⟩ (by kernel_rfl) w' (.int .i64 seed) hSw.1 (fun w => by kernel_rfl)⟩) SS ?_
                  try simp only [Act.put, List.setIfInBounds_toArray, List.set_cons_zero, List.set_cons_succ]
                  refine takeP0 128 (i := 4) (v := ?_) rfl rfl (by kernel_rfl) (by kernel_rfl) (by kernel_rfl) rfl (fun _ _ _ h => h) (Or.inl ⟨by kernel_rfl, ?_⟩) (fun _ => SS) ?_
                  rotate_left
                  · intro w' hSw; go_simp; try with_reducible rfl
                  try simp only [Act.put, List.setIfInBounds_toArray, List.set_cons_zero, List.set_cons_succ]
                  refine takeP0 129 (i := 5) (v := ?_) rfl rfl (by kernel_rfl) (by kernel_rfl) (by kernel_rfl) rfl (fun _ _ _ h => h) (Or.inl ⟨by kernel_rfl, ?_⟩) (fun _ => SS) ?_
                  rotate_left
                  · intro w' hSw; go_simp; try with_reducible rfl
                  try simp only [Act.put, List.setIfInBounds_toArray, List.set_cons_zero, List.set_cons_succ]
                  refine takeP0 132 (i := 8) (v := ?_) rfl rfl (by kernel_rfl) (by kernel_rfl) (by kernel_rfl) rfl (fun _ _ _ h => h) (Or.inl ⟨by kernel_rfl, ?_⟩) (fun _ => SS) ?_
                  rotate_left
                  · intro w' hSw; go_simp; try with_reducible rfl
                  try simp only [Act.put, List.setIfInBounds_toArray, List.set_cons_zero, List.set_cons_succ]
                  refine takeP 133 (i := 9) (v := (.int .i64 seed)) rfl rfl (by kernel_rfl) (by kernel_rfl) (by kernel_rfl) (by kernel_rfl) rfl (by kernel_rfl) (fun _ _ _ h => h) (Or.inl ⟨by kernel_rfl, fun w' hSw => ex_load1 _ 3 _ rfl ⟨w.heap.size, 8, none⟩ (by kernel_rfl) w' (.int .i64 seed) hSw.1 (fun w => by kernel_rfl)⟩) SS ?_
                  try simp only [Act.put, List.setIfInBounds_toArray, List.set_cons_zero, List.set_cons_succ]
                  refine takeP0 134 (i := 10) (v := ?_) rfl rfl (by kernel_rfl) (by kernel_rfl) (by kernel_rfl) rfl (fun _ _ _ h => h) (Or.inl ⟨by kernel_rfl, ?_⟩) (fun _ => SS) ?_
                  rotate_left
                  · intro w' hSw; go_simp; try with_reducible rfl
                  try simp only [Act.put, List.setIfInBounds_toArray, List.set_cons_zero, List.set_cons_succ]
                  refine takeP0 135 (i := 11) (v := ?_) rfl rfl (by kernel_rfl) (by kernel_rfl) (by kernel_rfl) rfl (fun _ _ _ h => h) (Or.inl ⟨by kernel_rfl, ?_⟩) (fun _ => SS) ?_
                  rotate_left
                  · intro w' hSw; go_simp; try with_reducible rfl
                  try simp only [Act.put, List.setIfInBounds_toArray, List.set_cons_zero, List.set_cons_succ]
                  refine wpAnyP_ready (rs := [6]) (by kernel_rfl) (by simp) ?_
                  refine consP _ rfl (hopCd 130 rfl (by kernel_rfl) rfl (by kernel_rfl) (Calls.mono (small_any seed ((i : Int) + 2) _) ?_)) AllReadyP.nil
                  rintro e m6 ⟨rfl, hw⟩
                  subst hw
                  refine ⟨_, rfl, SS, ?_⟩
                  try simp only [Act.put, List.setIfInBounds_toArray, List.set_cons_zero, List.set_cons_succ]
                  refine takeP0 131 (i := 7) (v := (.float .f64 (flZ (smallZ seed ((i : Int) + 2))))) rfl rfl (by kernel_rfl) (by kernel_rfl) (by kernel_rfl) rfl (fun _ _ _ h => h) (Or.inl ⟨by kernel_rfl, fun w' _ => by kernel_rfl⟩) (fun _ => SS) ?_
                  try simp only [Act.put, List.setIfInBounds_toArray, List.set_cons_zero, List.set_cons_succ]
                  refine wpAnyP_ready (rs := [12]) (by kernel_rfl) (by simp) ?_
                  refine consP _ rfl (hopCd 136 rfl (by kernel_rfl) rfl (by kernel_rfl) (Calls.mono (small_any seed (6 * (i : Int)) _) ?_)) AllReadyP.nil
                  rintro e m12 ⟨rfl, hw⟩
                  subst hw
                  refine ⟨_, rfl, SS, ?_⟩
                  try simp only [Act.put, List.setIfInBounds_toArray, List.set_cons_zero, List.set_cons_succ]
                  refine takeP0 137 (i := 13) (v := (.float .f64 (flZ (smallZ seed (6 * (i : Int)))))) rfl rfl (by kernel_rfl) (by kernel_rfl) (by kernel_rfl) rfl (fun _ _ _ h => h) (Or.inl ⟨by kernel_rfl, fun w' _ => by kernel_rfl⟩) (fun _ => SS) ?_
                  try simp only [Act.put, List.setIfInBounds_toArray, List.set_cons_zero, List.set_cons_succ]
                  refine takeP0 138 (i := 14) (v := (.complex .f64 (flZ (smallZ seed ((i : Int) + 2))) (flZ (smallZ seed (6 * (i : Int)))))) rfl rfl (by kernel_rfl) (by kernel_rfl) (by kernel_rfl) rfl (fun _ _ _ h => h) (Or.inl ⟨by kernel_rfl, fun w' _ => by kernel_rfl⟩) (fun _ => SS) ?_
                  try simp only [Act.put, List.setIfInBounds_toArray, List.set_cons_zero, List.set_cons_succ]
                  refine wpAnyP_ready (rs := [15]) (by kernel_rfl) (by simp) ?_
                  refine consP _ rfl (hopV 139 (v := .slice (some ⟨wr.drew.heap.size, 0, none⟩) 1 1) (w' := (wr.drew.alloc (.cells #[.complex .f64 (flZ (smallZ seed ((i : Int) + 2))) (flZ (smallZ seed (6 * (i : Int))))] 57))) rfl rfl rfl (by kernel_rfl) ?_) AllReadyP.nil
                  have SA : (wr.drew.alloc (.cells #[.complex .f64 (flZ (smallZ seed ((i : Int) + 2))) (flZ (smallZ seed (6 * (i : Int))))] 57)).cell? ⟨w.heap.size, 8, none⟩ = some (.int .i64 seed) ∧ (wr.drew.alloc (.cells #[.complex .f64 (flZ (smallZ seed ((i : Int) + 2))) (flZ (smallZ seed (6 * (i : Int))))] 57)).cell? ⟨w.heap.size + 1 + 1 + 1, 13, none⟩ = some v := ⟨cellAt (alloc_kept HM.out.x _) 8 _ rfl, cellAt (alloc_kept HM.out.l _) 13 _ rfl⟩
                  refine ⟨SA, ?_⟩
                  try simp only [Act.put, List.setIfInBounds_toArray, List.set_cons_zero, List.set_cons_succ]
                  refine wpAnyP_ready (rs := [16]) (by kernel_rfl) (by simp) ?_
                  refine consP _ rfl (hopL rfl (append_gr1 Try.underlying28 Try.infoCm rfl (by decide) wr.drew (by rfl) _ _ (by rfl) nb v (yV seed i) (by kernel_rfl) (OwnM.keep HO.out fun _ _ => rfl) (.complex .f64 (flZ (smallZ seed ((i : Int) + 2))) (flZ (smallZ seed (6 * (i : Int))))) (by kernel_rfl) rfl HLE.out HBS.out fun v5 w5 o5 gw5 => ?_)) AllReadyP.nil
                  change QK _ _ Exit.normal (Act.put _ (some 140) v5) w5
                  have hk5 : ∀ k, k < wr.heap.size → v.ownBlock ≠ some k → w5.heap[k]? = wr.heap[k]? := fun k hk hv => gw5.by'.block k hk fun e => hv e.symm
                  have hX5 := (hk5 _ (blk_lt HM.out.x) (own_neM HO.out HM.out.x (by decide))).trans HM.out.x
                  have hL5 := (hk5 _ (blk_lt HM.out.l) (own_neM HO.out HM.out.l (by decide))).trans HM.out.l
                  have S5 : w5.cell? ⟨w.heap.size, 8, none⟩ = some (.int .i64 seed) ∧ w5.cell? ⟨w.heap.size + 1 + 1 + 1, 13, none⟩ = some v := ⟨cellAt hX5 8 _ rfl, cellAt hL5 13 _ rfl⟩
                  refine (And.intro S5 ?_ : _ ∧ _)
                  try simp only [Act.put, List.setIfInBounds_toArray, List.set_cons_zero, List.set_cons_succ]
                  refine takeP0 141 (i := 17) (v := ?_) rfl rfl (by kernel_rfl) (by kernel_rfl) (by kernel_rfl) rfl (fun _ _ _ h => h) (Or.inl ⟨by kernel_rfl, ?_⟩) (fun _ => S5) ?_
                  rotate_left
                  · intro w' hSw; go_simp; try with_reducible rfl
                  try simp only [Act.put, List.setIfInBounds_toArray, List.set_cons_zero, List.set_cons_succ]
                  have hb5 : Below w.heap.size w w5 := HM.out.bel.drew.trans (gw5.below (fun k hk => Nat.le_trans HW.out (OwnM.lt HO.out k hk).1) HM.out.bel.size)
                  have o5' : OwnM w5 nb 57 v5 (yV seed i ++ [.complex .f64 (flZ (smallZ seed ((i : Int) + 2))) (flZ (smallZ seed (6 * (i : Int))))]) := o5
                  have ov5 := own_valM o5'
                  refine wpAnyP_ready (rs := [18]) (by kernel_rfl) (by simp) ?_
                  refine consPs _ rfl rfl (hopL rfl (wpList_store_at (by rfl) 28 _ _ (by rfl) w w.heap.size (w.heap.size + 1 + 1 + 1) 13 v5 _ #[.int .i64 kd, .int .i64 g0, .int .i64 g1, .int .i64 g2, .int .i64 g3, .int .i64 g4, .int .i64 g5, .int .i64 g6, .int .i64 0, .float .f64 AV, v1, v2, v3, v5] 30 (by kernel_rfl) (by kernel_rfl) hL5 hb5 (by omega) 1 Try.szCs (by rw [ov5.2]; rfl) (Nat.le_of_ble_eq_true rfl) (by intro u hu; rw [ov5.2] at hu; simp at hu; subst hu; exact ov5.1) (by rw [ov5.2]; rfl) fun w9 e9 b9 s9 k9 => ?_)) AllReadyP.nil
                  refine ⟨trivial, ?_⟩
                  try simp only [Act.put, List.setIfInBounds_toArray, List.set_cons_zero, List.set_cons_succ]
                  refine wpAnyP_done (by kernel_rfl) ?_ _
                  refine NoPanic.normal ?_
                  try simp only [Act.put, List.setIfInBounds_toArray, List.set_cons_zero, List.set_cons_succ]
                  have HS9 : Hid _ := stepM (nb := nb) HM.out HO.out (by decide) HW.out gw5 o5 e9 b9 s9 k9 (Nat.le_refl _)
                  clear SS SA S5 o5' o5 gw5 hk5 hX5 hL5 hb5 ov5 e9 b9 s9 k9
                  have HN9 : Hid (w.heap.size ≤ nb ∧ nb ≤ w9.heap.size) := ⟨HW.out, Nat.le_trans HN.out.2 HS9.out.2.2.1⟩
                  have HK9 : Hid (KpM w9 w.heap.size nb 26 v1 (wV seed q0) ∧ KpM w9 w.heap.size nb 26 v2 (bV seed q1) ∧ KpM w9 w.heap.size nb 57 v3 (zV seed q2) ∧ True) := ⟨HS9.out.2.2.2 _ _ _ (by decide) HK.out.1, HS9.out.2.2.2 _ _ _ (by decide) HK.out.2.1, HS9.out.2.2.2 _ _ _ (by decide) HK.out.2.2.1, trivial⟩
                  have HM9 : Hid _ := HS9.out.1
                  have HO9 : Hid (OwnM w9 nb 57 v5 (yV seed (i + 1))) := by unfold Hid; rw [yV_snoc]; exact HS9.out.2.1
                  clear HS9 HM HO HK HN HLE HBS
                  go_wp2_with fail
                  go_roundg g
                  case measure => omega
                  case rel => exact ⟨i + 1, v5, by have := HIG.out; go_num, by have := HIG.out; omega, HM9, HO9, HK9, HN9⟩
                · have hd : decide ((i : Int) < (q3 : Int)) = false := decide_eq_false (by omega)
                  have hd' : decide (i < q3) = false := decide_eq_false (by omega)
                  obtain rfl : q3 = i := by omega
                  obtain ⟨v4, rfl⟩ : ∃ x, x = v := ⟨_, rfl⟩
                  obtain ⟨nb', hnb'⟩ : ∃ x, wr.heap.size = x := ⟨_, rfl⟩
                  have HM0 : Hid _ := HM.out
                  have HNB : Hid (w.heap.size ≤ nb' ∧ nb' ≤ wr.heap.size) := ⟨hnb' ▸ Nat.le_trans HN.out.1 HN.out.2, Nat.le_of_eq hnb'.symm⟩
                  have HL0 : Hid (∀ (T : TypeId) (u : Value) (ts : List Value), KpM wr w.heap.size nb T u ts → KpM wr w.heap.size nb' T u ts) := fun T u ts h => ⟨h.1, fun k hk => Nat.lt_of_lt_of_le (h.2 k hk) (hnb' ▸ HN.out.2)⟩
                  have HK0 : Hid (KpM wr w.heap.size nb' 26 v1 (wV seed q0) ∧ KpM wr w.heap.size nb' 26 v2 (bV seed q1) ∧ KpM wr w.heap.size nb' 57 v3 (zV seed q2) ∧ KpM wr w.heap.size nb' 57 v4 (yV seed q3)) := ⟨HL0.out _ _ _ HK.out.1, HL0.out _ _ _ HK.out.2.1, HL0.out _ _ _ HK.out.2.2.1, ⟨own_mono HO.out HN.out.1, fun k hk => hnb' ▸ (OwnM.lt HO.out k hk).2⟩⟩
                  clear hnb' HL0 HK HO HM HN hlt hi
                  obtain ⟨nb, rfl⟩ : ∃ x, x = nb' := ⟨_, rfl⟩
                  go_wp2_with (first
                    | (refine wpList_load_row (by rfl) 30 _ (by rfl) (w.heap.size + 1 + 1 + 1) _ (by rfl) HM0.out.l _ Try.underlying30 rfl 14 Try.infoLy (by rfl) ?_)
                    | (refine wpList_store_row (by rfl) 30 _ _ (by rfl) w w.heap.size (w.heap.size + 1 + 1) _ _ (by rfl) (by rfl) HM0.out.r HM0.out.bel (by omega) 14 Try.infoLy (by rfl) (by rfl) (one14i _ _ _ _ _ _ _ _ _ _ _ _ _ _ (own_valM HK0.out.1.1).1 (own_valM HK0.out.2.1.1).1 (own_valM HK0.out.2.2.1.1).1 (own_valM HK0.out.2.2.2.1).1) ?_; intro W9 e9 hb9 hs9 ho9))
                  refine bodyPost_ret (res_ct _ 4 5 30 (by kernel_rfl) _ _ (w.heap.size + 1 + 1) _ _ (by rfl) (by rfl) _ Try.underlying30 rfl 14 Try.infoLy rfl e9) rfl ?_
                  have hk9 : ∀ (T : TypeId) (u : Value) (ts : List Value), T ≠ 30 → KpM wr w.heap.size nb T u ts → OwnM W9 w.heap.size T u ts := fun T u ts hT hu => OwnM.keep hu.1 fun k hk => ho9 k fun e => own_neM hu.1 HM0.out.r hT (e ▸ hk)
                  exact ⟨.inr ⟨q0, q1, q2, q3, v1, v2, v3, v4, HQL.out.1, HQL.out.2.1, HQL.out.2.2.1, rfl, hk9 _ _ _ (by decide) HK0.out.1, hk9 _ _ _ (by decide) HK0.out.2.1, hk9 _ _ _ (by decide) HK0.out.2.2.1, hk9 _ _ _ (by decide) HK0.out.2.2.2⟩, hb9⟩
end Go.Proofs.Ytokglpemefkmjaa
