import Derived.Test.YtokglpemefkmjaaRWp
import Derived.Test.YtokglpemefkmjaaRWf
namespace Go.Proofs.Ytokglpemefkmjaa
open Go.RowKit
set_option linter.unusedVariables false
set_option linter.unusedSimpArgs false
theorem ofL_oneA (u : Int) (k0 g0 g1 g2 g3 g4 g5 g6 g7 : Int) : (#[.int .i64 k0, .int .i64 g0, .int .i64 g1, .int .i64 g2, .int .i64 g3, .int .i64 g4, .int .i64 g5, .int .i64 g6, .int .i64 g7, .int .u64 u, .slice none 0 0, .slice none 0 0, .slice none 0 0, .slice none 0 0] : Array Value).all (·.oneCell') = true := by
  simp only [Array.all_eq_true_iff_forall_mem]
  intro v hv
  simp only [List.mem_toArray, List.mem_cons, List.not_mem_nil, or_false] at hv
  rcases hv with rfl | rfl | rfl | rfl | rfl | rfl | rfl | rfl | rfl | rfl | rfl | rfl | rfl | rfl <;> rfl
set_option maxRecDepth 100000 in
set_option maxHeartbeats 4000000 in
theorem ofLayer_A (A : Nat) (hA : A < 18446744073709551616) (k0 g0 g1 g2 g3 g4 g5 g6 g7 : Int) (w : World) :
    Calls Try.prog 17 #[.agg #[.int .i64 k0, .int .i64 g0, .int .i64 g1, .int .i64 g2, .int .i64 g3, .int .i64 g4, .int .i64 g5, .int .i64 g6, .int .i64 g7, .float .f64 A, .slice none 0 0, .slice none 0 0, .slice none 0 0, .slice none 0 0]] w fun e w' => e = .returned (.agg #[.int .i64 k0, .int .i64 g0, .int .i64 g1, .int .i64 g2, .int .i64 g3, .int .i64 g4, .int .i64 g5, .int .i64 g6, .int .i64 g7, .int .u64 (A : Int), .slice none 0 0, .slice none 0 0, .slice none 0 0, .slice none 0 0]) ∧ Below w.heap.size w w' := by
  have X0 : Below w.heap.size w ((w.alloc (.cells #[.int .i64 k0, .int .i64 g0, .int .i64 g1, .int .i64 g2, .int .i64 g3, .int .i64 g4, .int .i64 g5, .int .i64 g6, .int .i64 g7, .float .f64 A, .slice none 0 0, .slice none 0 0, .slice none 0 0, .slice none 0 0] 30)).alloc (.cells #[.int .i64 0, .int .i64 0, .int .i64 0, .int .i64 0, .int .i64 0, .int .i64 0, .int .i64 0, .int .i64 0, .int .i64 0, .int .u64 0, .slice none 0 0, .slice none 0 0, .slice none 0 0, .slice none 0 0] 55)) := ((Below.refl _ w).alloc (Nat.le_refl _) _).alloc (by simp only [alloc_size]; omega) _
  have Y0 : ((w.alloc (.cells #[.int .i64 k0, .int .i64 g0, .int .i64 g1, .int .i64 g2, .int .i64 g3, .int .i64 g4, .int .i64 g5, .int .i64 g6, .int .i64 g7, .float .f64 A, .slice none 0 0, .slice none 0 0, .slice none 0 0, .slice none 0 0] 30)).alloc (.cells #[.int .i64 0, .int .i64 0, .int .i64 0, .int .i64 0, .int .i64 0, .int .i64 0, .int .i64 0, .int .i64 0, .int .i64 0, .int .u64 0, .slice none 0 0, .slice none 0 0, .slice none 0 0, .slice none 0 0] 55)).heap[w.heap.size]? = _ := alloc_kept (heap_alloc_new w _) _
  have Y1 : ((w.alloc (.cells #[.int .i64 k0, .int .i64 g0, .int .i64 g1, .int .i64 g2, .int .i64 g3, .int .i64 g4, .int .i64 g5, .int .i64 g6, .int .i64 g7, .float .f64 A, .slice none 0 0, .slice none 0 0, .slice none 0 0, .slice none 0 0] 30)).alloc (.cells #[.int .i64 0, .int .i64 0, .int .i64 0, .int .i64 0, .int .i64 0, .int .i64 0, .int .i64 0, .int .i64 0, .int .i64 0, .int .u64 0, .slice none 0 0, .slice none 0 0, .slice none 0 0, .slice none 0 0] 55)).heap[w.heap.size + 1]? = _ := heap_at _ _ (w.heap.size + 1) (by simp only [alloc_size])
  go_enter Try.func17, Try.ntmps17
  go_upto_region 1 with fail
  obtain ⟨X, hX⟩ : ∃ X, ((w.alloc (.cells #[.int .i64 k0, .int .i64 g0, .int .i64 g1, .int .i64 g2, .int .i64 g3, .int .i64 g4, .int .i64 g5, .int .i64 g6, .int .i64 g7, .float .f64 A, .slice none 0 0, .slice none 0 0, .slice none 0 0, .slice none 0 0] 30)).alloc (.cells #[.int .i64 0, .int .i64 0, .int .i64 0, .int .i64 0, .int .i64 0, .int .i64 0, .int .i64 0, .int .i64 0, .int .i64 0, .int .u64 0, .slice none 0 0, .slice none 0 0, .slice none 0 0, .slice none 0 0] 55)) = X := ⟨_, rfl⟩
  rw [hX] at X0 Y0 Y1 ⊢
  clear hX
  have HX : Hid (Below w.heap.size w X ∧ X.heap[w.heap.size]? = _ ∧ X.heap[w.heap.size + 1]? = _ ∧ w.heap.size < X.heap.size ∧ w.heap.size + 1 < X.heap.size) := ⟨X0, Y0, Y1, blk_lt Y0, blk_lt Y1⟩
  clear X0 Y0 Y1
  go_cut [3] (fun v wx => ∃ D, v = .pointer (some ⟨D, 0, none⟩) ∧ Hid (wx.heap[D]? = some (.cells #[.int .i64 k0, .int .i64 g0, .int .i64 g1, .int .i64 g2, .int .i64 g3, .int .i64 g4, .int .i64 g5, .int .i64 g6, .int .i64 g7, .int .u64 (A : Int), .slice none 0 0, .slice none 0 0, .slice none 0 0, .slice none 0 0] 55)) ∧ Hid (Below w.heap.size w wx) ∧ Hid (wx.heap[w.heap.size]? = some (.cells #[.int .i64 k0, .int .i64 g0, .int .i64 g1, .int .i64 g2, .int .i64 g3, .int .i64 g4, .int .i64 g5, .int .i64 g6, .int .i64 g7, .float .f64 A, .slice none 0 0, .slice none 0 0, .slice none 0 0, .slice none 0 0] 30) ∧ wx.heap[w.heap.size + 1]? = some (.cells #[.int .i64 0, .int .i64 0, .int .i64 0, .int .i64 0, .int .i64 0, .int .i64 0, .int .i64 0, .int .i64 0, .int .i64 0, .int .u64 0, .slice none 0 0, .slice none 0 0, .slice none 0 0, .slice none 0 0] 55)) ∧ w.heap.size + 1 < D)
  case first =>
    have bX : Below X.heap.size X X.drew := (Below.refl _ _).drew
    refine wp_region_noPanic ?_
    refine wp_region_held_drew (S := (fun W' => Below X.heap.size X W')) (by kernel_rfl) bX (fun _ => ?_)
    refine takeH 10 (i := 0) (v := ?_) rfl rfl (by kernel_rfl) (by kernel_rfl) (by kernel_rfl) (fun _ _ _ h => h) (Or.inl ⟨by kernel_rfl, ?_⟩) bX ?_
    rotate_left
    · intro w' hSw; obtain ⟨c0, c1, c2, c3, c4, c5, c6, c7, c8, c9, c10, c11, c12, c13⟩ := cells14 ((hSw.block _ HX.out.2.2.2.1).trans HX.out.2.1); go_simp; try with_reducible rfl
    try simp only [Act.put, List.setIfInBounds_toArray, List.set_cons_zero, List.set_cons_succ]
    refine takeH 11 (i := 1) (v := ?_) rfl rfl (by kernel_rfl) (by kernel_rfl) (by kernel_rfl) (fun _ _ _ h => h) (Or.inl ⟨by kernel_rfl, ?_⟩) bX ?_
    rotate_left
    · intro w' hSw; obtain ⟨c0, c1, c2, c3, c4, c5, c6, c7, c8, c9, c10, c11, c12, c13⟩ := cells14 ((hSw.block _ HX.out.2.2.2.1).trans HX.out.2.1); go_simp; try with_reducible rfl
    try simp only [Act.put, List.setIfInBounds_toArray, List.set_cons_zero, List.set_cons_succ]
    refine takeH 12 (i := 2) (v := ?_) rfl rfl (by kernel_rfl) (by kernel_rfl) (by kernel_rfl) (fun _ _ _ h => h) (Or.inl ⟨by kernel_rfl, ?_⟩) bX ?_
    rotate_left
    · intro w' hSw; obtain ⟨c0, c1, c2, c3, c4, c5, c6, c7, c8, c9, c10, c11, c12, c13⟩ := cells14 ((hSw.block _ HX.out.2.2.2.1).trans HX.out.2.1); go_simp; try with_reducible rfl
    try simp only [Act.put, List.setIfInBounds_toArray, List.set_cons_zero, List.set_cons_succ]
    refine takeH 13 (i := 3) (v := ?_) rfl rfl (by kernel_rfl) (by kernel_rfl) (by kernel_rfl) (fun _ _ _ h => h) (Or.inl ⟨by kernel_rfl, ?_⟩) bX ?_
    rotate_left
    · intro w' hSw; obtain ⟨c0, c1, c2, c3, c4, c5, c6, c7, c8, c9, c10, c11, c12, c13⟩ := cells14 ((hSw.block _ HX.out.2.2.2.1).trans HX.out.2.1); go_simp; try with_reducible rfl
    try simp only [Act.put, List.setIfInBounds_toArray, List.set_cons_zero, List.set_cons_succ]
    refine takeH 14 (i := 4) (v := ?_) rfl rfl (by kernel_rfl) (by kernel_rfl) (by kernel_rfl) (fun _ _ _ h => h) (Or.inl ⟨by kernel_rfl, ?_⟩) bX ?_
    rotate_left
    · intro w' hSw; obtain ⟨c0, c1, c2, c3, c4, c5, c6, c7, c8, c9, c10, c11, c12, c13⟩ := cells14 ((hSw.block _ HX.out.2.2.2.1).trans HX.out.2.1); go_simp; try with_reducible rfl
    try simp only [Act.put, List.setIfInBounds_toArray, List.set_cons_zero, List.set_cons_succ]
    refine takeH 15 (i := 5) (v := ?_) rfl rfl (by kernel_rfl) (by kernel_rfl) (by kernel_rfl) (fun _ _ _ h => h) (Or.inl ⟨by kernel_rfl, ?_⟩) bX ?_
    rotate_left
    · intro w' hSw; obtain ⟨c0, c1, c2, c3, c4, c5, c6, c7, c8, c9, c10, c11, c12, c13⟩ := cells14 ((hSw.block _ HX.out.2.2.2.1).trans HX.out.2.1); go_simp; try with_reducible rfl
    try simp only [Act.put, List.setIfInBounds_toArray, List.set_cons_zero, List.set_cons_succ]
    refine takeH 16 (i := 6) (v := ?_) rfl rfl (by kernel_rfl) (by kernel_rfl) (by kernel_rfl) (fun _ _ _ h => h) (Or.inl ⟨by kernel_rfl, ?_⟩) bX ?_
    rotate_left
    · intro w' hSw; obtain ⟨c0, c1, c2, c3, c4, c5, c6, c7, c8, c9, c10, c11, c12, c13⟩ := cells14 ((hSw.block _ HX.out.2.2.2.1).trans HX.out.2.1); go_simp; try with_reducible rfl
    try simp only [Act.put, List.setIfInBounds_toArray, List.set_cons_zero, List.set_cons_succ]
    refine takeH 17 (i := 7) (v := ?_) rfl rfl (by kernel_rfl) (by kernel_rfl) (by kernel_rfl) (fun _ _ _ h => h) (Or.inl ⟨by kernel_rfl, ?_⟩) bX ?_
    rotate_left
    · intro w' hSw; obtain ⟨c0, c1, c2, c3, c4, c5, c6, c7, c8, c9, c10, c11, c12, c13⟩ := cells14 ((hSw.block _ HX.out.2.2.2.1).trans HX.out.2.1); go_simp; try with_reducible rfl
    try simp only [Act.put, List.setIfInBounds_toArray, List.set_cons_zero, List.set_cons_succ]
    refine takeH 18 (i := 8) (v := ?_) rfl rfl (by kernel_rfl) (by kernel_rfl) (by kernel_rfl) (fun _ _ _ h => h) (Or.inl ⟨by kernel_rfl, ?_⟩) bX ?_
    rotate_left
    · intro w' hSw; obtain ⟨c0, c1, c2, c3, c4, c5, c6, c7, c8, c9, c10, c11, c12, c13⟩ := cells14 ((hSw.block _ HX.out.2.2.2.1).trans HX.out.2.1); go_simp; try with_reducible rfl
    try simp only [Act.put, List.setIfInBounds_toArray, List.set_cons_zero, List.set_cons_succ]
    refine takeH 19 (i := 9) (v := ?_) rfl rfl (by kernel_rfl) (by kernel_rfl) (by kernel_rfl) (fun _ _ _ h => h) (Or.inl ⟨by kernel_rfl, ?_⟩) bX ?_
    rotate_left
    · intro w' hSw; obtain ⟨c0, c1, c2, c3, c4, c5, c6, c7, c8, c9, c10, c11, c12, c13⟩ := cells14 ((hSw.block _ HX.out.2.2.2.1).trans HX.out.2.1); go_simp; try with_reducible rfl
    try simp only [Act.put, List.setIfInBounds_toArray, List.set_cons_zero, List.set_cons_succ]
    refine takeH 20 (i := 10) (v := ?_) rfl rfl (by kernel_rfl) (by kernel_rfl) (by kernel_rfl) (fun _ _ _ h => h) (Or.inl ⟨by kernel_rfl, ?_⟩) bX ?_
    rotate_left
    · intro w' hSw; obtain ⟨c0, c1, c2, c3, c4, c5, c6, c7, c8, c9, c10, c11, c12, c13⟩ := cells14 ((hSw.block _ HX.out.2.2.2.1).trans HX.out.2.1); go_simp; try with_reducible rfl
    try simp only [Act.put, List.setIfInBounds_toArray, List.set_cons_zero, List.set_cons_succ]
    refine takeH 21 (i := 11) (v := ?_) rfl rfl (by kernel_rfl) (by kernel_rfl) (by kernel_rfl) (fun _ _ _ h => h) (Or.inl ⟨by kernel_rfl, ?_⟩) bX ?_
    rotate_left
    · intro w' hSw; obtain ⟨c0, c1, c2, c3, c4, c5, c6, c7, c8, c9, c10, c11, c12, c13⟩ := cells14 ((hSw.block _ HX.out.2.2.2.1).trans HX.out.2.1); go_simp; try with_reducible rfl
    try simp only [Act.put, List.setIfInBounds_toArray, List.set_cons_zero, List.set_cons_succ]
    refine takeH 22 (i := 12) (v := ?_) rfl rfl (by kernel_rfl) (by kernel_rfl) (by kernel_rfl) (fun _ _ _ h => h) (Or.inl ⟨by kernel_rfl, ?_⟩) bX ?_
    rotate_left
    · intro w' hSw; obtain ⟨c0, c1, c2, c3, c4, c5, c6, c7, c8, c9, c10, c11, c12, c13⟩ := cells14 ((hSw.block _ HX.out.2.2.2.1).trans HX.out.2.1); go_simp; try with_reducible rfl
    try simp only [Act.put, List.setIfInBounds_toArray, List.set_cons_zero, List.set_cons_succ]
    refine takeH 23 (i := 13) (v := ?_) rfl rfl (by kernel_rfl) (by kernel_rfl) (by kernel_rfl) (fun _ _ _ h => h) (Or.inl ⟨by kernel_rfl, ?_⟩) bX ?_
    rotate_left
    · intro w' hSw; obtain ⟨c0, c1, c2, c3, c4, c5, c6, c7, c8, c9, c10, c11, c12, c13⟩ := cells14 ((hSw.block _ HX.out.2.2.2.1).trans HX.out.2.1); go_simp; try with_reducible rfl
    try simp only [Act.put, List.setIfInBounds_toArray, List.set_cons_zero, List.set_cons_succ]
    refine takeH 24 (i := 14) (v := ?_) rfl rfl (by kernel_rfl) (by kernel_rfl) (by kernel_rfl) (fun _ _ _ h => h) (Or.inl ⟨by kernel_rfl, ?_⟩) bX ?_
    rotate_left
    · intro w' hSw; obtain ⟨c0, c1, c2, c3, c4, c5, c6, c7, c8, c9, c10, c11, c12, c13⟩ := cells14 ((hSw.block _ HX.out.2.2.2.1).trans HX.out.2.1); go_simp; try with_reducible rfl
    try simp only [Act.put, List.setIfInBounds_toArray, List.set_cons_zero, List.set_cons_succ]
    refine takeH 25 (i := 15) (v := ?_) rfl rfl (by kernel_rfl) (by kernel_rfl) (by kernel_rfl) (fun _ _ _ h => h) (Or.inl ⟨by kernel_rfl, ?_⟩) bX ?_
    rotate_left
    · intro w' hSw; obtain ⟨c0, c1, c2, c3, c4, c5, c6, c7, c8, c9, c10, c11, c12, c13⟩ := cells14 ((hSw.block _ HX.out.2.2.2.1).trans HX.out.2.1); go_simp; try with_reducible rfl
    try simp only [Act.put, List.setIfInBounds_toArray, List.set_cons_zero, List.set_cons_succ]
    refine takeH 26 (i := 16) (v := ?_) rfl rfl (by kernel_rfl) (by kernel_rfl) (by kernel_rfl) (fun _ _ _ h => h) (Or.inl ⟨by kernel_rfl, ?_⟩) bX ?_
    rotate_left
    · intro w' hSw; obtain ⟨c0, c1, c2, c3, c4, c5, c6, c7, c8, c9, c10, c11, c12, c13⟩ := cells14 ((hSw.block _ HX.out.2.2.2.1).trans HX.out.2.1); go_simp; try with_reducible rfl
    try simp only [Act.put, List.setIfInBounds_toArray, List.set_cons_zero, List.set_cons_succ]
    refine takeH 27 (i := 17) (v := ?_) rfl rfl (by kernel_rfl) (by kernel_rfl) (by kernel_rfl) (fun _ _ _ h => h) (Or.inl ⟨by kernel_rfl, ?_⟩) bX ?_
    rotate_left
    · intro w' hSw; obtain ⟨c0, c1, c2, c3, c4, c5, c6, c7, c8, c9, c10, c11, c12, c13⟩ := cells14 ((hSw.block _ HX.out.2.2.2.1).trans HX.out.2.1); go_simp; try with_reducible rfl
    try simp only [Act.put, List.setIfInBounds_toArray, List.set_cons_zero, List.set_cons_succ]
    refine takeH 28 (i := 18) (v := ?_) rfl rfl (by kernel_rfl) (by kernel_rfl) (by kernel_rfl) (fun _ _ _ h => h) (Or.inl ⟨by kernel_rfl, ?_⟩) bX ?_
    rotate_left
    · intro w' hSw; obtain ⟨c0, c1, c2, c3, c4, c5, c6, c7, c8, c9, c10, c11, c12, c13⟩ := cells14 ((hSw.block _ HX.out.2.2.2.1).trans HX.out.2.1); go_simp; try with_reducible rfl
    try simp only [Act.put, List.setIfInBounds_toArray, List.set_cons_zero, List.set_cons_succ]
    refine takeH 29 (i := 19) (v := ?_) rfl rfl (by kernel_rfl) (by kernel_rfl) (by kernel_rfl) (fun _ _ _ h => h) (Or.inl ⟨by kernel_rfl, ?_⟩) bX ?_
    rotate_left
    · intro w' hSw; obtain ⟨c0, c1, c2, c3, c4, c5, c6, c7, c8, c9, c10, c11, c12, c13⟩ := cells14 ((hSw.block _ HX.out.2.2.2.1).trans HX.out.2.1); go_simp; try with_reducible rfl
    try simp only [Act.put, List.setIfInBounds_toArray, List.set_cons_zero, List.set_cons_succ]
    refine takeH 31 (i := 21) (v := ?_) rfl rfl (by kernel_rfl) (by kernel_rfl) (by kernel_rfl) (fun _ _ _ h => h) (Or.inl ⟨by kernel_rfl, ?_⟩) bX ?_
    rotate_left
    · intro w' hSw; obtain ⟨c0, c1, c2, c3, c4, c5, c6, c7, c8, c9, c10, c11, c12, c13⟩ := cells14 ((hSw.block _ HX.out.2.2.2.1).trans HX.out.2.1); go_simp; try with_reducible rfl
    try simp only [Act.put, List.setIfInBounds_toArray, List.set_cons_zero, List.set_cons_succ]
    refine takeH 32 (i := 22) (v := ?_) rfl rfl (by kernel_rfl) (by kernel_rfl) (by kernel_rfl) (fun _ _ _ h => h) (Or.inl ⟨by kernel_rfl, ?_⟩) bX ?_
    rotate_left
    · intro w' hSw; obtain ⟨c0, c1, c2, c3, c4, c5, c6, c7, c8, c9, c10, c11, c12, c13⟩ := cells14 ((hSw.block _ HX.out.2.2.2.1).trans HX.out.2.1); go_simp; try with_reducible rfl
    try simp only [Act.put, List.setIfInBounds_toArray, List.set_cons_zero, List.set_cons_succ]
    refine takeH 34 (i := 24) (v := ?_) rfl rfl (by kernel_rfl) (by kernel_rfl) (by kernel_rfl) (fun _ _ _ h => h) (Or.inl ⟨by kernel_rfl, ?_⟩) bX ?_
    rotate_left
    · intro w' hSw; obtain ⟨c0, c1, c2, c3, c4, c5, c6, c7, c8, c9, c10, c11, c12, c13⟩ := cells14 ((hSw.block _ HX.out.2.2.2.1).trans HX.out.2.1); go_simp; try with_reducible rfl
    try simp only [Act.put, List.setIfInBounds_toArray, List.set_cons_zero, List.set_cons_succ]
    refine takeH 35 (i := 25) (v := ?_) rfl rfl (by kernel_rfl) (by kernel_rfl) (by kernel_rfl) (fun _ _ _ h => h) (Or.inl ⟨by kernel_rfl, ?_⟩) bX ?_
    rotate_left
    · intro w' hSw; obtain ⟨c0, c1, c2, c3, c4, c5, c6, c7, c8, c9, c10, c11, c12, c13⟩ := cells14 ((hSw.block _ HX.out.2.2.2.1).trans HX.out.2.1); go_simp; try with_reducible rfl
    try simp only [Act.put, List.setIfInBounds_toArray, List.set_cons_zero, List.set_cons_succ]
    refine wpAnyH_ready (rs := [20, 28]) (by kernel_rfl) (by simp) ?_
    refine consH _ rfl ?_ (consH _ rfl ?_ AllReadyH.nil)
    · refine hopCd 30 rfl (by kernel_rfl) rfl (by kernel_rfl) (Calls.mono (bits_any A _) ?_)
      rintro e m20 ⟨rfl, hw20⟩
      subst hw20
      refine ⟨_, rfl, bX, ?_⟩
      try simp only [Act.put, List.setIfInBounds_toArray, List.set_cons_zero, List.set_cons_succ]
      refine wpAnyH_ready (rs := [23, 28]) (by kernel_rfl) (by simp) ?_
      refine consH _ rfl ?_ (consH _ rfl ?_ AllReadyH.nil)
      · refine hopCd 33 rfl (by kernel_rfl) rfl (by kernel_rfl) (Calls.mono (bitsNil _) ?_)
        rintro e m23 ⟨rfl, hw23⟩
        subst hw23
        refine ⟨_, rfl, bX, ?_⟩
        try simp only [Act.put, List.setIfInBounds_toArray, List.set_cons_zero, List.set_cons_succ]
        refine wpAnyH_ready (rs := [26, 28]) (by kernel_rfl) (by simp) ?_
        refine consH _ rfl ?_ (consH _ rfl ?_ AllReadyH.nil)
        · refine hopCd 36 rfl (by kernel_rfl) rfl (by kernel_rfl) (Calls.mono (bitsNil _) ?_)
          rintro e m26 ⟨rfl, hw26⟩
          subst hw26
          refine ⟨_, rfl, bX, ?_⟩
          try simp only [Act.put, List.setIfInBounds_toArray, List.set_cons_zero, List.set_cons_succ]
          refine takeH 37 (i := 27) (v := ?_) rfl rfl (by kernel_rfl) (by kernel_rfl) (by kernel_rfl) (fun _ _ _ h => h) (Or.inl ⟨by kernel_rfl, ?_⟩) bX ?_
          rotate_left
          · intro w' hSw; (try dsimp only at hSw); go_simp; try with_reducible rfl
          try simp only [Act.put, List.setIfInBounds_toArray, List.set_cons_zero, List.set_cons_succ]
          refine wpAnyH_ready (rs := [28]) (by kernel_rfl) (by simp) ?_
          refine consH _ rfl ?_ AllReadyH.nil
          · refine hopA 3 rfl rfl rfl 55 rfl #[.int .i64 0, .int .i64 0, .int .i64 0, .int .i64 0, .int .i64 0, .int .i64 0, .int .i64 0, .int .i64 0, .int .i64 0, .int .u64 0, .slice none 0 0, .slice none 0 0, .slice none 0 0, .slice none 0 0] ofL_alloc fun D W' hD hDw bD => ?_
            have bW' : Below X.heap.size X W' := bX.trans (bD.mono bX.size)
            have hDX : X.heap.size ≤ D := Nat.le_trans bX.size hDw
            refine ⟨bW', ?_⟩
            try simp only [Act.put, List.setIfInBounds_toArray, List.set_cons_zero, List.set_cons_succ]
            refine wpAnyH_ready (rs := [29]) (by kernel_rfl) (by simp) ?_
            refine consH _ rfl (hopL rfl (wpList_store_row (by rfl) 55 _ _ (by rfl) X X.heap.size D #[.int .i64 k0, .int .i64 g0, .int .i64 g1, .int .i64 g2, .int .i64 g3, .int .i64 g4, .int .i64 g5, .int .i64 g6, .int .i64 g7, .int .u64 (A : Int), .slice none 0 0, .slice none 0 0, .slice none 0 0, .slice none 0 0] _ (by kernel_rfl) (by kernel_rfl) hD bW' hDX 14 Try.infoRLy (by rfl) (by rfl) (ofL_oneA ..) fun W9 e9 b9 hs9 ho9 => ?_)) AllReadyH.nil
            refine (And.intro b9 ?_ : _ ∧ _)
            try simp only [Act.put, List.setIfInBounds_toArray, List.set_cons_zero, List.set_cons_succ]
            refine wpAnyH_done (by kernel_rfl) ?_ _
            refine NoPanic.normal ?_
            try simp only [Act.put, List.setIfInBounds_toArray, List.set_cons_zero, List.set_cons_succ]
            go_wp2_with fail
            go_meet
            exact ⟨D, rfl, e9, HX.out.1.trans (b9.mono HX.out.1.size), ⟨(b9.block _ HX.out.2.2.2.1).trans HX.out.2.1, (b9.block _ HX.out.2.2.2.2).trans HX.out.2.2.1⟩, Nat.lt_of_lt_of_le HX.out.2.2.2.2 hDX⟩
        · refine hopA 3 rfl rfl rfl 55 rfl #[.int .i64 0, .int .i64 0, .int .i64 0, .int .i64 0, .int .i64 0, .int .i64 0, .int .i64 0, .int .i64 0, .int .i64 0, .int .u64 0, .slice none 0 0, .slice none 0 0, .slice none 0 0, .slice none 0 0] ofL_alloc fun D W' hD hDw bD => ?_
          have bW' : Below X.heap.size X W' := bX.trans (bD.mono bX.size)
          have hDX : X.heap.size ≤ D := Nat.le_trans bX.size hDw
          refine ⟨bW', ?_⟩
          try simp only [Act.put, List.setIfInBounds_toArray, List.set_cons_zero, List.set_cons_succ]
          refine wpAnyH_ready (rs := [26]) (by kernel_rfl) (by simp) ?_
          refine consH _ rfl ?_ AllReadyH.nil
          · refine hopCd 36 rfl (by kernel_rfl) rfl (by kernel_rfl) (Calls.mono (bitsNil _) ?_)
            rintro e m26 ⟨rfl, hw26⟩
            subst hw26
            refine ⟨_, rfl, bW', ?_⟩
            try simp only [Act.put, List.setIfInBounds_toArray, List.set_cons_zero, List.set_cons_succ]
            refine takeH 37 (i := 27) (v := ?_) rfl rfl (by kernel_rfl) (by kernel_rfl) (by kernel_rfl) (fun _ _ _ h => h) (Or.inl ⟨by kernel_rfl, ?_⟩) bW' ?_
            rotate_left
            · intro w' hSw; (try dsimp only at hSw); go_simp; try with_reducible rfl
            try simp only [Act.put, List.setIfInBounds_toArray, List.set_cons_zero, List.set_cons_succ]
            refine wpAnyH_ready (rs := [29]) (by kernel_rfl) (by simp) ?_
            refine consH _ rfl (hopL rfl (wpList_store_row (by rfl) 55 _ _ (by rfl) X X.heap.size D #[.int .i64 k0, .int .i64 g0, .int .i64 g1, .int .i64 g2, .int .i64 g3, .int .i64 g4, .int .i64 g5, .int .i64 g6, .int .i64 g7, .int .u64 (A : Int), .slice none 0 0, .slice none 0 0, .slice none 0 0, .slice none 0 0] _ (by kernel_rfl) (by kernel_rfl) hD bW' hDX 14 Try.infoRLy (by rfl) (by rfl) (ofL_oneA ..) fun W9 e9 b9 hs9 ho9 => ?_)) AllReadyH.nil
            refine (And.intro b9 ?_ : _ ∧ _)
            try simp only [Act.put, List.setIfInBounds_toArray, List.set_cons_zero, List.set_cons_succ]
            refine wpAnyH_done (by kernel_rfl) ?_ _
            refine NoPanic.normal ?_
            try simp only [Act.put, List.setIfInBounds_toArray, List.set_cons_zero, List.set_cons_succ]
            go_wp2_with fail
            go_meet
            exact ⟨D, rfl, e9, HX.out.1.trans (b9.mono HX.out.1.size), ⟨(b9.block _ HX.out.2.2.2.1).trans HX.out.2.1, (b9.block _ HX.out.2.2.2.2).trans HX.out.2.2.1⟩, Nat.lt_of_lt_of_le HX.out.2.2.2.2 hDX⟩
      · refine hopA 3 rfl rfl rfl 55 rfl #[.int .i64 0, .int .i64 0, .int .i64 0, .int .i64 0, .int .i64 0, .int .i64 0, .int .i64 0, .int .i64 0, .int .i64 0, .int .u64 0, .slice none 0 0, .slice none 0 0, .slice none 0 0, .slice none 0 0] ofL_alloc fun D W' hD hDw bD => ?_
        have bW' : Below X.heap.size X W' := bX.trans (bD.mono bX.size)
        have hDX : X.heap.size ≤ D := Nat.le_trans bX.size hDw
        refine ⟨bW', ?_⟩
        try simp only [Act.put, List.setIfInBounds_toArray, List.set_cons_zero, List.set_cons_succ]
        refine wpAnyH_ready (rs := [23]) (by kernel_rfl) (by simp) ?_
        refine consH _ rfl ?_ AllReadyH.nil
        · refine hopCd 33 rfl (by kernel_rfl) rfl (by kernel_rfl) (Calls.mono (bitsNil _) ?_)
          rintro e m23 ⟨rfl, hw23⟩
          subst hw23
          refine ⟨_, rfl, bW', ?_⟩
          try simp only [Act.put, List.setIfInBounds_toArray, List.set_cons_zero, List.set_cons_succ]
          refine wpAnyH_ready (rs := [26]) (by kernel_rfl) (by simp) ?_
          refine consH _ rfl ?_ AllReadyH.nil
          · refine hopCd 36 rfl (by kernel_rfl) rfl (by kernel_rfl) (Calls.mono (bitsNil _) ?_)
            rintro e m26 ⟨rfl, hw26⟩
            subst hw26
            refine ⟨_, rfl, bW', ?_⟩
            try simp only [Act.put, List.setIfInBounds_toArray, List.set_cons_zero, List.set_cons_succ]
            refine takeH 37 (i := 27) (v := ?_) rfl rfl (by kernel_rfl) (by kernel_rfl) (by kernel_rfl) (fun _ _ _ h => h) (Or.inl ⟨by kernel_rfl, ?_⟩) bW' ?_
            rotate_left
            · intro w' hSw; (try dsimp only at hSw); go_simp; try with_reducible rfl
            try simp only [Act.put, List.setIfInBounds_toArray, List.set_cons_zero, List.set_cons_succ]
            refine wpAnyH_ready (rs := [29]) (by kernel_rfl) (by simp) ?_
            refine consH _ rfl (hopL rfl (wpList_store_row (by rfl) 55 _ _ (by rfl) X X.heap.size D #[.int .i64 k0, .int .i64 g0, .int .i64 g1, .int .i64 g2, .int .i64 g3, .int .i64 g4, .int .i64 g5, .int .i64 g6, .int .i64 g7, .int .u64 (A : Int), .slice none 0 0, .slice none 0 0, .slice none 0 0, .slice none 0 0] _ (by kernel_rfl) (by kernel_rfl) hD bW' hDX 14 Try.infoRLy (by rfl) (by rfl) (ofL_oneA ..) fun W9 e9 b9 hs9 ho9 => ?_)) AllReadyH.nil
            refine (And.intro b9 ?_ : _ ∧ _)
            try simp only [Act.put, List.setIfInBounds_toArray, List.set_cons_zero, List.set_cons_succ]
            refine wpAnyH_done (by kernel_rfl) ?_ _
            refine NoPanic.normal ?_
            try simp only [Act.put, List.setIfInBounds_toArray, List.set_cons_zero, List.set_cons_succ]
            go_wp2_with fail
            go_meet
            exact ⟨D, rfl, e9, HX.out.1.trans (b9.mono HX.out.1.size), ⟨(b9.block _ HX.out.2.2.2.1).trans HX.out.2.1, (b9.block _ HX.out.2.2.2.2).trans HX.out.2.2.1⟩, Nat.lt_of_lt_of_le HX.out.2.2.2.2 hDX⟩
    · refine hopA 3 rfl rfl rfl 55 rfl #[.int .i64 0, .int .i64 0, .int .i64 0, .int .i64 0, .int .i64 0, .int .i64 0, .int .i64 0, .int .i64 0, .int .i64 0, .int .u64 0, .slice none 0 0, .slice none 0 0, .slice none 0 0, .slice none 0 0] ofL_alloc fun D W' hD hDw bD => ?_
      have bW' : Below X.heap.size X W' := bX.trans (bD.mono bX.size)
      have hDX : X.heap.size ≤ D := Nat.le_trans bX.size hDw
      refine ⟨bW', ?_⟩
      try simp only [Act.put, List.setIfInBounds_toArray, List.set_cons_zero, List.set_cons_succ]
      refine wpAnyH_ready (rs := [20]) (by kernel_rfl) (by simp) ?_
      refine consH _ rfl ?_ AllReadyH.nil
      · refine hopCd 30 rfl (by kernel_rfl) rfl (by kernel_rfl) (Calls.mono (bits_any A _) ?_)
        rintro e m20 ⟨rfl, hw20⟩
        subst hw20
        refine ⟨_, rfl, bW', ?_⟩
        try simp only [Act.put, List.setIfInBounds_toArray, List.set_cons_zero, List.set_cons_succ]
        refine wpAnyH_ready (rs := [23]) (by kernel_rfl) (by simp) ?_
        refine consH _ rfl ?_ AllReadyH.nil
        · refine hopCd 33 rfl (by kernel_rfl) rfl (by kernel_rfl) (Calls.mono (bitsNil _) ?_)
          rintro e m23 ⟨rfl, hw23⟩
          subst hw23
          refine ⟨_, rfl, bW', ?_⟩
          try simp only [Act.put, List.setIfInBounds_toArray, List.set_cons_zero, List.set_cons_succ]
          refine wpAnyH_ready (rs := [26]) (by kernel_rfl) (by simp) ?_
          refine consH _ rfl ?_ AllReadyH.nil
          · refine hopCd 36 rfl (by kernel_rfl) rfl (by kernel_rfl) (Calls.mono (bitsNil _) ?_)
            rintro e m26 ⟨rfl, hw26⟩
            subst hw26
            refine ⟨_, rfl, bW', ?_⟩
            try simp only [Act.put, List.setIfInBounds_toArray, List.set_cons_zero, List.set_cons_succ]
            refine takeH 37 (i := 27) (v := ?_) rfl rfl (by kernel_rfl) (by kernel_rfl) (by kernel_rfl) (fun _ _ _ h => h) (Or.inl ⟨by kernel_rfl, ?_⟩) bW' ?_
            rotate_left
            · intro w' hSw; (try dsimp only at hSw); go_simp; try with_reducible rfl
            try simp only [Act.put, List.setIfInBounds_toArray, List.set_cons_zero, List.set_cons_succ]
            refine wpAnyH_ready (rs := [29]) (by kernel_rfl) (by simp) ?_
            refine consH _ rfl (hopL rfl (wpList_store_row (by rfl) 55 _ _ (by rfl) X X.heap.size D #[.int .i64 k0, .int .i64 g0, .int .i64 g1, .int .i64 g2, .int .i64 g3, .int .i64 g4, .int .i64 g5, .int .i64 g6, .int .i64 g7, .int .u64 (A : Int), .slice none 0 0, .slice none 0 0, .slice none 0 0, .slice none 0 0] _ (by kernel_rfl) (by kernel_rfl) hD bW' hDX 14 Try.infoRLy (by rfl) (by rfl) (ofL_oneA ..) fun W9 e9 b9 hs9 ho9 => ?_)) AllReadyH.nil
            refine (And.intro b9 ?_ : _ ∧ _)
            try simp only [Act.put, List.setIfInBounds_toArray, List.set_cons_zero, List.set_cons_succ]
            refine wpAnyH_done (by kernel_rfl) ?_ _
            refine NoPanic.normal ?_
            try simp only [Act.put, List.setIfInBounds_toArray, List.set_cons_zero, List.set_cons_succ]
            go_wp2_with fail
            go_meet
            exact ⟨D, rfl, e9, HX.out.1.trans (b9.mono HX.out.1.size), ⟨(b9.block _ HX.out.2.2.2.1).trans HX.out.2.1, (b9.block _ HX.out.2.2.2.2).trans HX.out.2.2.1⟩, Nat.lt_of_lt_of_le HX.out.2.2.2.2 hDX⟩
  case rest =>
  obtain ⟨D, rfl, ED, EB, EK, hDl⟩ := hcut
  go_upto_region 2 with fail
  have z12 := cellAt EK.out.1 12 (.slice none 0 0) rfl
  have z13 := cellAt EK.out.1 13 (.slice none 0 0) rfl
  go_wp2_with fail
  go_loopg [4] 0 (fun g u wx => u = .int .i64 0 ∧ Hid (wx = wc))
  case atStart => exact ⟨rfl, rfl⟩
  case round =>
    obtain ⟨rfl, hw⟩ := hrel
    have hw' := hw.out
    subst hw'
    go_wp2_with fail
    go_loopg [7] 0 (fun g u wx => u = .int .i64 0 ∧ Hid (wx = wr))
    case atStart => exact ⟨rfl, rfl⟩
    case round =>
      obtain ⟨rfl, hw2⟩ := hrel
      have hw2' := hw2.out
      subst hw2'
      go_wp2_with (first
        | (refine wpList_load_row (by rfl) 55 _ (by rfl) D _ (by rfl) ED.out _ Try.underlying55 rfl 14 Try.infoRLy (by rfl) ?_)
        | (refine wpList_store_row (by rfl) 55 _ _ (by rfl) w w.heap.size (w.heap.size + 1) _ _ (by rfl) (by rfl) EK.out.2 EB.out (by omega) 14 Try.infoRLy (by rfl) (by rfl) (ofL_oneA ..) ?_; intro W9 e9 hb9 hs9 ho9))
      refine bodyPost_ret (res_one _ 2 55 (by kernel_rfl) _ _ (w.heap.size + 1) _ (by rfl) _ Try.underlying55 rfl 14 Try.infoRLy rfl e9) rfl ?_
      exact ⟨rfl, hb9⟩
theorem Try.szCs : (Try.prog.info? 28).map (·.size) = some 1 := by kernel_rfl
theorem Try.infoFm : (Try.prog.info? 26).map (fun i => (i.zero, i.size, i.bytes)) = some (some (.float .f64 0), 1, 8) := by kernel_rfl
theorem Try.infoCm : (Try.prog.info? 57).map (fun i => (i.zero, i.size, i.bytes)) = some (some (.complex .f64 0 0), 1, 16) := by kernel_rfl
/-- A list of its own. -/
def OwnM (w : World) (base : Nat) (E : TypeId) (v : Value) (xs : List Value) : Prop := w.ownsRow base E 1 v xs.length xs
/-- .. which lies below nb. -/
def KpM (w : World) (base nb : Nat) (E : TypeId) (v : Value) (xs : List Value) : Prop := OwnM w base E v xs ∧ ∀ k, v.ownBlock = some k → k < nb
def wV (seed : Int) (p : Nat) : List Value := (List.range p).map fun (i : Nat) => .float .f64 (flZ (smallZ seed (3 * (i : Int))))
def bV (seed : Int) (p : Nat) : List Value := (List.range p).map fun (i : Nat) => .float .f64 (flZ (smallZ seed (5 * (i : Int) + 1)))
def zV (seed : Int) (p : Nat) : List Value := (List.range p).map fun (i : Nat) => .complex .f64 (flZ (smallZ seed (2 * (i : Int)))) (flZ (smallZ seed (9 * (i : Int) + 4)))
def yV (seed : Int) (p : Nat) : List Value := (List.range p).map fun (i : Nat) => .complex .f64 (flZ (smallZ seed ((i : Int) + 2))) (flZ (smallZ seed (6 * (i : Int))))
theorem wV_snoc (seed : Int) (p : Nat) : wV seed (p + 1) = wV seed p ++ [.float .f64 (flZ (smallZ seed (3 * (p : Int))))] := by unfold wV; rw [List.range_succ, List.map_append]; rfl
theorem wV_len (seed : Int) (p : Nat) : (wV seed p).length = p := by unfold wV; simp
theorem bV_snoc (seed : Int) (p : Nat) : bV seed (p + 1) = bV seed p ++ [.float .f64 (flZ (smallZ seed (5 * (p : Int) + 1)))] := by unfold bV; rw [List.range_succ, List.map_append]; rfl
theorem bV_len (seed : Int) (p : Nat) : (bV seed p).length = p := by unfold bV; simp
theorem zV_snoc (seed : Int) (p : Nat) : zV seed (p + 1) = zV seed p ++ [.complex .f64 (flZ (smallZ seed (2 * (p : Int)))) (flZ (smallZ seed (9 * (p : Int) + 4)))] := by unfold zV; rw [List.range_succ, List.map_append]; rfl
theorem zV_len (seed : Int) (p : Nat) : (zV seed p).length = p := by unfold zV; simp
theorem yV_snoc (seed : Int) (p : Nat) : yV seed (p + 1) = yV seed p ++ [.complex .f64 (flZ (smallZ seed ((p : Int) + 2))) (flZ (smallZ seed (6 * (p : Int))))] := by unfold yV; rw [List.range_succ, List.map_append]; rfl
theorem yV_len (seed : Int) (p : Nat) : (yV seed p).length = p := by unfold yV; simp
theorem own_valM {w : World} {E : TypeId} {base : Nat} {v : Value} {xs : List Value} (h : OwnM w base E v xs) : v.oneCell' = true ∧ v.cells = #[v] := by
  rcases h.2 with ⟨rfl, _⟩ | ⟨g, cap, cur, rfl, _⟩ <;> exact ⟨rfl, rfl⟩
theorem own_neM {w : World} {base k : Nat} {E T : TypeId} {v : Value} {xs : List Value} {cur : Array Value} (h : OwnM w base E v xs) (hB : w.heap[k]? = some (.cells cur T)) (hne : E ≠ T) : v.ownBlock ≠ some k := own_ne h hB hne
theorem OwnM.lt {w : World} {base : Nat} {E : TypeId} {v : Value} {xs : List Value} (h : OwnM w base E v xs) : ∀ k, v.ownBlock = some k → base ≤ k ∧ k < w.heap.size := World.ownsRow.lt h
theorem OwnM.keep {w w' : World} {base : Nat} {E : TypeId} {v : Value} {xs : List Value} (h : OwnM w base E v xs) (hk : ∀ k, v.ownBlock = some k → w'.heap[k]? = w.heap[k]?) : OwnM w' base E v xs := owns_keep h hk
/-- A list one longer, and put into the layer. -/
theorem stepM {w wr w5 w9 : World} {xs lay lay' ks : Array Value} {D base nb : Nat} {E : TypeId} {v v' : Value} {us us' : List Value} (h : MD w wr xs lay ks D) (ho : OwnM wr base E v us) (hE : E ≠ 23 ∧ E ≠ 30 ∧ E ≠ 48) (hbs : w.heap.size ≤ base)
    (g : Grw wr.drew w5 v.ownBlock v'.ownBlock) (o5 : w5.ownsRow base E 1 v' us'.length us') (e9 : w9.heap[w.heap.size + 1 + 1 + 1]? = some (.cells lay' 30)) (b9 : Below w.heap.size w w9) (s9 : w9.heap.size = w5.heap.size) (k9 : ∀ k, k ≠ w.heap.size + 1 + 1 + 1 → w9.heap[k]? = w5.heap[k]?) (hnb : nb ≤ base) :
    MD w w9 xs lay' ks D ∧ OwnM w9 base E v' us' ∧ wr.heap.size ≤ w9.heap.size ∧ ∀ (T : TypeId) (u : Value) (ts : List Value), T ≠ 30 → KpM wr w.heap.size nb T u ts → KpM w9 w.heap.size nb T u ts := by
  have hk : ∀ k, k < wr.heap.size → v.ownBlock ≠ some k → w5.heap[k]? = wr.heap[k]? := fun k hk hv => g.by'.block k hk fun e => hv e.symm
  have q : ∀ (k : Nat) (cur : Array Value) (T : TypeId), wr.heap[k]? = some (.cells cur T) → E ≠ T → k ≠ w.heap.size + 1 + 1 + 1 → w9.heap[k]? = some (.cells cur T) := fun k cur T hc hT hL => ((k9 k hL).trans (hk k (blk_lt hc) (own_neM ho hc hT))).trans hc
  have hL5 : w5.heap[w.heap.size + 1 + 1 + 1]? = some (.cells lay 30) := (hk _ (blk_lt h.l) (own_neM ho h.l hE.2.1)).trans h.l
  have hd := h.d
  have hg : wr.heap.size ≤ w5.heap.size := g.by'.size
  refine ⟨⟨b9, q _ _ _ h.x hE.1 (by omega), q _ _ _ h.r hE.2.1 (by omega), e9, q _ _ _ h.k hE.2.2 (by omega), h.d⟩, owns_keep o5 fun k hk => k9 k fun e => own_ne o5 hL5 hE.2.1 (e ▸ hk), by omega, fun T u ts hT hu => ⟨OwnM.keep hu.1 fun k hk' => ?_, hu.2⟩⟩
  have h1 := hu.2 k hk'
  have h2 := (OwnM.lt hu.1 k hk').2
  refine (k9 k fun e => own_neM hu.1 h.l hT (e ▸ hk')).trans (hk k h2 fun e => ?_)
  have := (OwnM.lt ho k e).1
  omega
/-- What made tells. -/
def MdP (LK : Int → Int → Int → Int → Prop) (kd g0 g1 g2 g3 g4 g5 g6 seed : Int) (AV : Nat) (base : Nat) (w' : World) (e : Ending) : Prop :=
  (e = .returned (.tuple #[.agg #[.int .i64 kd, .int .i64 g0, .int .i64 g1, .int .i64 g2, .int .i64 g3, .int .i64 g4, .int .i64 g5, .int .i64 g6, .int .i64 0, .float .f64 AV, .slice none 0 0, .slice none 0 0, .slice none 0 0, .slice none 0 0], .bool false])) ∨
  ∃ (q0 q1 q2 q3 : Nat) (v1 v2 v3 v4 : Value), LK q0 q1 q2 q3 ∧ q0 ≤ 70000 ∧ q2 ≤ 70000 ∧ e = .returned (.tuple #[.agg #[.int .i64 kd, .int .i64 g0, .int .i64 g1, .int .i64 g2, .int .i64 g3, .int .i64 g4, .int .i64 g5, .int .i64 g6, .int .i64 0, .float .f64 AV, v1, v2, v3, v4], .bool true]) ∧ OwnM w' base 26 v1 (wV seed q0) ∧ OwnM w' base 26 v2 (bV seed q1) ∧ OwnM w' base 57 v3 (zV seed q2) ∧ OwnM w' base 57 v4 (yV seed q3)
theorem flZ0 : flZ 0 = 0 := by decide +kernel
theorem flZ_conv (v : Int) (w : World) : (convert 3 26 (.int .i64 v)).run Try.prog w = .ok (.float .f64 (flZ v)) w := by kernel_rfl
end Go.Proofs.Ytokglpemefkmjaa
