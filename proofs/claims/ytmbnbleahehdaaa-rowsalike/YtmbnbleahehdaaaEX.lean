import Derived.Test.YtmbnbleahehdaaaEW
import Derived.Test.YtmbnbleahehdaaaMVA
import Derived.Test.YtmbnbleahehdaaaTA
namespace Go.Proofs.Ytmbnbleahehdaaa
open Go.RowKit
set_option linter.unusedVariables false
set_option linter.unusedSimpArgs false

theorem Try.infoRLy : (Try.prog.info? 56).map (·.size) = some 14 := by kernel_rfl
set_option maxRecDepth 100000 in
theorem bitsNil (w : World) : Calls Try.prog 28 #[.slice none 0 0] w fun e w' => e = .returned (.slice none 0 0) ∧ w' = w := by
  go_enter Try.func28, Try.ntmps28
  go_wp2_with fail
  go_loopg [3, 4] 0 (fun g v u wx => v = .slice none 0 0 ∧ u = .int .i64 0 ∧ Hid (wx = w))
  case atStart => exact ⟨rfl, rfl, rfl⟩
  case round =>
    obtain ⟨rfl, rfl, hw⟩ := hrel
    go_wp2
    go_ret
    exact ⟨rfl, hw.out⟩
theorem ofL_alloc (w : World) : (Instr.alloc 56 true (.tuple #[])).run Try.prog w = .ok (.pointer (some ⟨w.heap.size, 0, none⟩)) (w.alloc (.cells #[.int .i64 0, .int .i64 0, .int .i64 0, .int .i64 0, .int .i64 0, .int .i64 0, .int .i64 0, .int .i64 0, .int .i64 0, .int .u64 0, .slice none 0 0, .slice none 0 0, .slice none 0 0, .slice none 0 0] 56)) := by kernel_rfl
theorem ofL_one (k0 g0 g1 g2 g3 g4 g5 g6 g7 : Int) : (#[.int .i64 k0, .int .i64 g0, .int .i64 g1, .int .i64 g2, .int .i64 g3, .int .i64 g4, .int .i64 g5, .int .i64 g6, .int .i64 g7, .int .u64 0, .slice none 0 0, .slice none 0 0, .slice none 0 0, .slice none 0 0] : Array Value).all (·.oneCell') = true := by
  simp only [Array.all_eq_true_iff_forall_mem]
  intro v hv
  simp only [List.mem_toArray, List.mem_cons, List.not_mem_nil, or_false] at hv
  rcases hv with rfl | rfl | rfl | rfl | rfl | rfl | rfl | rfl | rfl | rfl | rfl | rfl | rfl | rfl <;> rfl
theorem hopA {P : Program} {ops : Array Oper} {Q : Exit → Act → World → Prop} {i : Nat} {o : Oper} {K : Act → World → Prop} {a : Act} {w : World} (d : Nat) (ho : ops[i]? = some o) (hg : o.guard = none) (hd : o.dst = some d) (t : TypeId) (hop : o.op = .alloc t) (z : Array Value)
    (hz : ∀ w, (Instr.alloc t true (.tuple #[])).run P w = .ok (.pointer (some ⟨w.heap.size, 0, none⟩)) (w.alloc (.cells z t)))
    (h : ∀ D W', W'.heap[D]? = some (.cells z t) → w.heap.size ≤ D → Below w.heap.size w W' → K (a.put (some d) (.pointer (some ⟨D, 0, none⟩))) W') : wpOp P ops Q i K a w :=
  hopV d ho hg hd (ex_alloc _ t hop _ _ _ (hz w)) (h _ _ (heap_alloc_new w _) (Nat.le_refl _) ((Below.refl _ w).alloc (Nat.le_refl _) _))
set_option maxRecDepth 100000 in
set_option maxHeartbeats 4000000 in
theorem ofLayer_nil (k0 g0 g1 g2 g3 g4 g5 g6 g7 : Int) (w : World) :
    Calls Try.prog 15 #[.agg #[.int .i64 k0, .int .i64 g0, .int .i64 g1, .int .i64 g2, .int .i64 g3, .int .i64 g4, .int .i64 g5, .int .i64 g6, .int .i64 g7, .float .f64 0, .slice none 0 0, .slice none 0 0, .slice none 0 0, .slice none 0 0]] w fun e w' => e = .returned (.agg #[.int .i64 k0, .int .i64 g0, .int .i64 g1, .int .i64 g2, .int .i64 g3, .int .i64 g4, .int .i64 g5, .int .i64 g6, .int .i64 g7, .int .u64 0, .slice none 0 0, .slice none 0 0, .slice none 0 0, .slice none 0 0]) ∧ Below w.heap.size w w' := by
  have X0 : Below w.heap.size w ((w.alloc (.cells #[.int .i64 k0, .int .i64 g0, .int .i64 g1, .int .i64 g2, .int .i64 g3, .int .i64 g4, .int .i64 g5, .int .i64 g6, .int .i64 g7, .float .f64 0, .slice none 0 0, .slice none 0 0, .slice none 0 0, .slice none 0 0] 30)).alloc (.cells #[.int .i64 0, .int .i64 0, .int .i64 0, .int .i64 0, .int .i64 0, .int .i64 0, .int .i64 0, .int .i64 0, .int .i64 0, .int .u64 0, .slice none 0 0, .slice none 0 0, .slice none 0 0, .slice none 0 0] 56)) := ((Below.refl _ w).alloc (Nat.le_refl _) _).alloc (by simp only [alloc_size]; omega) _
  have Y0 : ((w.alloc (.cells #[.int .i64 k0, .int .i64 g0, .int .i64 g1, .int .i64 g2, .int .i64 g3, .int .i64 g4, .int .i64 g5, .int .i64 g6, .int .i64 g7, .float .f64 0, .slice none 0 0, .slice none 0 0, .slice none 0 0, .slice none 0 0] 30)).alloc (.cells #[.int .i64 0, .int .i64 0, .int .i64 0, .int .i64 0, .int .i64 0, .int .i64 0, .int .i64 0, .int .i64 0, .int .i64 0, .int .u64 0, .slice none 0 0, .slice none 0 0, .slice none 0 0, .slice none 0 0] 56)).heap[w.heap.size]? = _ := alloc_kept (heap_alloc_new w _) _
  have Y1 : ((w.alloc (.cells #[.int .i64 k0, .int .i64 g0, .int .i64 g1, .int .i64 g2, .int .i64 g3, .int .i64 g4, .int .i64 g5, .int .i64 g6, .int .i64 g7, .float .f64 0, .slice none 0 0, .slice none 0 0, .slice none 0 0, .slice none 0 0] 30)).alloc (.cells #[.int .i64 0, .int .i64 0, .int .i64 0, .int .i64 0, .int .i64 0, .int .i64 0, .int .i64 0, .int .i64 0, .int .i64 0, .int .u64 0, .slice none 0 0, .slice none 0 0, .slice none 0 0, .slice none 0 0] 56)).heap[w.heap.size + 1]? = _ := heap_at _ _ (w.heap.size + 1) (by simp only [alloc_size])
  go_enter Try.func15, Try.ntmps15
  go_upto_region 1 with fail
  obtain ⟨X, hX⟩ : ∃ X, ((w.alloc (.cells #[.int .i64 k0, .int .i64 g0, .int .i64 g1, .int .i64 g2, .int .i64 g3, .int .i64 g4, .int .i64 g5, .int .i64 g6, .int .i64 g7, .float .f64 0, .slice none 0 0, .slice none 0 0, .slice none 0 0, .slice none 0 0] 30)).alloc (.cells #[.int .i64 0, .int .i64 0, .int .i64 0, .int .i64 0, .int .i64 0, .int .i64 0, .int .i64 0, .int .i64 0, .int .i64 0, .int .u64 0, .slice none 0 0, .slice none 0 0, .slice none 0 0, .slice none 0 0] 56)) = X := ⟨_, rfl⟩
  rw [hX] at X0 Y0 Y1 ⊢
  clear hX
  have HX : Hid (Below w.heap.size w X ∧ X.heap[w.heap.size]? = _ ∧ X.heap[w.heap.size + 1]? = _ ∧ w.heap.size < X.heap.size ∧ w.heap.size + 1 < X.heap.size) := ⟨X0, Y0, Y1, blk_lt Y0, blk_lt Y1⟩
  clear X0 Y0 Y1
  go_cut [3] (fun v wx => ∃ D, v = .pointer (some ⟨D, 0, none⟩) ∧ Hid (wx.heap[D]? = some (.cells #[.int .i64 k0, .int .i64 g0, .int .i64 g1, .int .i64 g2, .int .i64 g3, .int .i64 g4, .int .i64 g5, .int .i64 g6, .int .i64 g7, .int .u64 0, .slice none 0 0, .slice none 0 0, .slice none 0 0, .slice none 0 0] 56)) ∧ Hid (Below w.heap.size w wx) ∧ Hid (wx.heap[w.heap.size]? = some (.cells #[.int .i64 k0, .int .i64 g0, .int .i64 g1, .int .i64 g2, .int .i64 g3, .int .i64 g4, .int .i64 g5, .int .i64 g6, .int .i64 g7, .float .f64 0, .slice none 0 0, .slice none 0 0, .slice none 0 0, .slice none 0 0] 30) ∧ wx.heap[w.heap.size + 1]? = some (.cells #[.int .i64 0, .int .i64 0, .int .i64 0, .int .i64 0, .int .i64 0, .int .i64 0, .int .i64 0, .int .i64 0, .int .i64 0, .int .u64 0, .slice none 0 0, .slice none 0 0, .slice none 0 0, .slice none 0 0] 56)) ∧ w.heap.size + 1 < D)
  case first =>
    have bX : Below X.heap.size X X.drew := (Below.refl _ _).drew
    refine wp_region_noPanic ?_
    refine wp_region_held_drew (S := (fun W' => Below X.heap.size X W')) (by kernel_rfl) bX (fun _ => ?_)
    refine takeH 10 (i := 0) (v := ?_) rfl rfl (by kernel_rfl) (by kernel_rfl) (by kernel_rfl) (fun _ _ _ h => h) (Or.inl ⟨by kernel_rfl, ?_⟩) bX ?_
    rotate_left
    · intro w' hSw; obtain ⟨c0, c1, c2, c3, c4, c5, c6, c7, c8, c9, c10, c11, c12, c13⟩ := cells14 ((hSw.block _ HX.out.2.2.2.1).trans HX.out.2.1); go_simp; try with_reducible rfl
    try simp only [Act.put, List.setIfInBounds_toArray, List.set_cons_zero, List.set_cons_succ]
    refine takeH 11 (i := 1) (v := ?_) rfl rfl (by kernel_rfl) (by kernel_rfl) (by kernel_rfl) (fun _ _ _ h => h) (Or.inl ⟨by kernel_rfl, ?_⟩) bX ?_
    rotate_left
    · intro w' hSw; obtain ⟨c0, c1, c2, c3, c4, c5, c6, c7, c8, c9, c10, c11, c12, c13⟩ := cells14 ((hSw.block _ HX.out.2.2.2.1).trans HX.out.2.1); go_simp; try with_reducible rfl
    try simp only [Act.put, List.setIfInBounds_toArray, List.set_cons_zero, List.set_cons_succ]
    refine takeH 12 (i := 2) (v := ?_) rfl rfl (by kernel_rfl) (by kernel_rfl) (by kernel_rfl) (fun _ _ _ h => h) (Or.inl ⟨by kernel_rfl, ?_⟩) bX ?_
    rotate_left
    · intro w' hSw; obtain ⟨c0, c1, c2, c3, c4, c5, c6, c7, c8, c9, c10, c11, c12, c13⟩ := cells14 ((hSw.block _ HX.out.2.2.2.1).trans HX.out.2.1); go_simp; try with_reducible rfl
    try simp only [Act.put, List.setIfInBounds_toArray, List.set_cons_zero, List.set_cons_succ]
    refine takeH 13 (i := 3) (v := ?_) rfl rfl (by kernel_rfl) (by kernel_rfl) (by kernel_rfl) (fun _ _ _ h => h) (Or.inl ⟨by kernel_rfl, ?_⟩) bX ?_
    rotate_left
    · intro w' hSw; obtain ⟨c0, c1, c2, c3, c4, c5, c6, c7, c8, c9, c10, c11, c12, c13⟩ := cells14 ((hSw.block _ HX.out.2.2.2.1).trans HX.out.2.1); go_simp; try with_reducible rfl
    try simp only [Act.put, List.setIfInBounds_toArray, List.set_cons_zero, List.set_cons_succ]
    refine takeH 14 (i := 4) (v := ?_) rfl rfl (by kernel_rfl) (by kernel_rfl) (by kernel_rfl) (fun _ _ _ h => h) (Or.inl ⟨by kernel_rfl, ?_⟩) bX ?_
    rotate_left
    · intro w' hSw; obtain ⟨c0, c1, c2, c3, c4, c5, c6, c7, c8, c9, c10, c11, c12, c13⟩ := cells14 ((hSw.block _ HX.out.2.2.2.1).trans HX.out.2.1); go_simp; try with_reducible rfl
    try simp only [Act.put, List.setIfInBounds_toArray, List.set_cons_zero, List.set_cons_succ]
    refine takeH 15 (i := 5) (v := ?_) rfl rfl (by kernel_rfl) (by kernel_rfl) (by kernel_rfl) (fun _ _ _ h => h) (Or.inl ⟨by kernel_rfl, ?_⟩) bX ?_
    rotate_left
    · intro w' hSw; obtain ⟨c0, c1, c2, c3, c4, c5, c6, c7, c8, c9, c10, c11, c12, c13⟩ := cells14 ((hSw.block _ HX.out.2.2.2.1).trans HX.out.2.1); go_simp; try with_reducible rfl
    try simp only [Act.put, List.setIfInBounds_toArray, List.set_cons_zero, List.set_cons_succ]
    refine takeH 16 (i := 6) (v := ?_) rfl rfl (by kernel_rfl) (by kernel_rfl) (by kernel_rfl) (fun _ _ _ h => h) (Or.inl ⟨by kernel_rfl, ?_⟩) bX ?_
    rotate_left
    · intro w' hSw; obtain ⟨c0, c1, c2, c3, c4, c5, c6, c7, c8, c9, c10, c11, c12, c13⟩ := cells14 ((hSw.block _ HX.out.2.2.2.1).trans HX.out.2.1); go_simp; try with_reducible rfl
    try simp only [Act.put, List.setIfInBounds_toArray, List.set_cons_zero, List.set_cons_succ]
    refine takeH 17 (i := 7) (v := ?_) rfl rfl (by kernel_rfl) (by kernel_rfl) (by kernel_rfl) (fun _ _ _ h => h) (Or.inl ⟨by kernel_rfl, ?_⟩) bX ?_
    rotate_left
    · intro w' hSw; obtain ⟨c0, c1, c2, c3, c4, c5, c6, c7, c8, c9, c10, c11, c12, c13⟩ := cells14 ((hSw.block _ HX.out.2.2.2.1).trans HX.out.2.1); go_simp; try with_reducible rfl
    try simp only [Act.put, List.setIfInBounds_toArray, List.set_cons_zero, List.set_cons_succ]
    refine takeH 18 (i := 8) (v := ?_) rfl rfl (by kernel_rfl) (by kernel_rfl) (by kernel_rfl) (fun _ _ _ h => h) (Or.inl ⟨by kernel_rfl, ?_⟩) bX ?_
    rotate_left
    · intro w' hSw; obtain ⟨c0, c1, c2, c3, c4, c5, c6, c7, c8, c9, c10, c11, c12, c13⟩ := cells14 ((hSw.block _ HX.out.2.2.2.1).trans HX.out.2.1); go_simp; try with_reducible rfl
    try simp only [Act.put, List.setIfInBounds_toArray, List.set_cons_zero, List.set_cons_succ]
    refine takeH 19 (i := 9) (v := ?_) rfl rfl (by kernel_rfl) (by kernel_rfl) (by kernel_rfl) (fun _ _ _ h => h) (Or.inl ⟨by kernel_rfl, ?_⟩) bX ?_
    rotate_left
    · intro w' hSw; obtain ⟨c0, c1, c2, c3, c4, c5, c6, c7, c8, c9, c10, c11, c12, c13⟩ := cells14 ((hSw.block _ HX.out.2.2.2.1).trans HX.out.2.1); go_simp; try with_reducible rfl
    try simp only [Act.put, List.setIfInBounds_toArray, List.set_cons_zero, List.set_cons_succ]
    refine takeH 20 (i := 10) (v := ?_) rfl rfl (by kernel_rfl) (by kernel_rfl) (by kernel_rfl) (fun _ _ _ h => h) (Or.inl ⟨by kernel_rfl, ?_⟩) bX ?_
    rotate_left
    · intro w' hSw; obtain ⟨c0, c1, c2, c3, c4, c5, c6, c7, c8, c9, c10, c11, c12, c13⟩ := cells14 ((hSw.block _ HX.out.2.2.2.1).trans HX.out.2.1); go_simp; try with_reducible rfl
    try simp only [Act.put, List.setIfInBounds_toArray, List.set_cons_zero, List.set_cons_succ]
    refine takeH 21 (i := 11) (v := ?_) rfl rfl (by kernel_rfl) (by kernel_rfl) (by kernel_rfl) (fun _ _ _ h => h) (Or.inl ⟨by kernel_rfl, ?_⟩) bX ?_
    rotate_left
    · intro w' hSw; obtain ⟨c0, c1, c2, c3, c4, c5, c6, c7, c8, c9, c10, c11, c12, c13⟩ := cells14 ((hSw.block _ HX.out.2.2.2.1).trans HX.out.2.1); go_simp; try with_reducible rfl
    try simp only [Act.put, List.setIfInBounds_toArray, List.set_cons_zero, List.set_cons_succ]
    refine takeH 22 (i := 12) (v := ?_) rfl rfl (by kernel_rfl) (by kernel_rfl) (by kernel_rfl) (fun _ _ _ h => h) (Or.inl ⟨by kernel_rfl, ?_⟩) bX ?_
    rotate_left
    · intro w' hSw; obtain ⟨c0, c1, c2, c3, c4, c5, c6, c7, c8, c9, c10, c11, c12, c13⟩ := cells14 ((hSw.block _ HX.out.2.2.2.1).trans HX.out.2.1); go_simp; try with_reducible rfl
    try simp only [Act.put, List.setIfInBounds_toArray, List.set_cons_zero, List.set_cons_succ]
    refine takeH 23 (i := 13) (v := ?_) rfl rfl (by kernel_rfl) (by kernel_rfl) (by kernel_rfl) (fun _ _ _ h => h) (Or.inl ⟨by kernel_rfl, ?_⟩) bX ?_
    rotate_left
    · intro w' hSw; obtain ⟨c0, c1, c2, c3, c4, c5, c6, c7, c8, c9, c10, c11, c12, c13⟩ := cells14 ((hSw.block _ HX.out.2.2.2.1).trans HX.out.2.1); go_simp; try with_reducible rfl
    try simp only [Act.put, List.setIfInBounds_toArray, List.set_cons_zero, List.set_cons_succ]
    refine takeH 24 (i := 14) (v := ?_) rfl rfl (by kernel_rfl) (by kernel_rfl) (by kernel_rfl) (fun _ _ _ h => h) (Or.inl ⟨by kernel_rfl, ?_⟩) bX ?_
    rotate_left
    · intro w' hSw; obtain ⟨c0, c1, c2, c3, c4, c5, c6, c7, c8, c9, c10, c11, c12, c13⟩ := cells14 ((hSw.block _ HX.out.2.2.2.1).trans HX.out.2.1); go_simp; try with_reducible rfl
    try simp only [Act.put, List.setIfInBounds_toArray, List.set_cons_zero, List.set_cons_succ]
    refine takeH 25 (i := 15) (v := ?_) rfl rfl (by kernel_rfl) (by kernel_rfl) (by kernel_rfl) (fun _ _ _ h => h) (Or.inl ⟨by kernel_rfl, ?_⟩) bX ?_
    rotate_left
    · intro w' hSw; obtain ⟨c0, c1, c2, c3, c4, c5, c6, c7, c8, c9, c10, c11, c12, c13⟩ := cells14 ((hSw.block _ HX.out.2.2.2.1).trans HX.out.2.1); go_simp; try with_reducible rfl
    try simp only [Act.put, List.setIfInBounds_toArray, List.set_cons_zero, List.set_cons_succ]
    refine takeH 26 (i := 16) (v := ?_) rfl rfl (by kernel_rfl) (by kernel_rfl) (by kernel_rfl) (fun _ _ _ h => h) (Or.inl ⟨by kernel_rfl, ?_⟩) bX ?_
    rotate_left
    · intro w' hSw; obtain ⟨c0, c1, c2, c3, c4, c5, c6, c7, c8, c9, c10, c11, c12, c13⟩ := cells14 ((hSw.block _ HX.out.2.2.2.1).trans HX.out.2.1); go_simp; try with_reducible rfl
    try simp only [Act.put, List.setIfInBounds_toArray, List.set_cons_zero, List.set_cons_succ]
    refine takeH 27 (i := 17) (v := ?_) rfl rfl (by kernel_rfl) (by kernel_rfl) (by kernel_rfl) (fun _ _ _ h => h) (Or.inl ⟨by kernel_rfl, ?_⟩) bX ?_
    rotate_left
    · intro w' hSw; obtain ⟨c0, c1, c2, c3, c4, c5, c6, c7, c8, c9, c10, c11, c12, c13⟩ := cells14 ((hSw.block _ HX.out.2.2.2.1).trans HX.out.2.1); go_simp; try with_reducible rfl
    try simp only [Act.put, List.setIfInBounds_toArray, List.set_cons_zero, List.set_cons_succ]
    refine takeH 28 (i := 18) (v := ?_) rfl rfl (by kernel_rfl) (by kernel_rfl) (by kernel_rfl) (fun _ _ _ h => h) (Or.inl ⟨by kernel_rfl, ?_⟩) bX ?_
    rotate_left
    · intro w' hSw; obtain ⟨c0, c1, c2, c3, c4, c5, c6, c7, c8, c9, c10, c11, c12, c13⟩ := cells14 ((hSw.block _ HX.out.2.2.2.1).trans HX.out.2.1); go_simp; try with_reducible rfl
    try simp only [Act.put, List.setIfInBounds_toArray, List.set_cons_zero, List.set_cons_succ]
    refine takeH 29 (i := 19) (v := ?_) rfl rfl (by kernel_rfl) (by kernel_rfl) (by kernel_rfl) (fun _ _ _ h => h) (Or.inl ⟨by kernel_rfl, ?_⟩) bX ?_
    rotate_left
    · intro w' hSw; obtain ⟨c0, c1, c2, c3, c4, c5, c6, c7, c8, c9, c10, c11, c12, c13⟩ := cells14 ((hSw.block _ HX.out.2.2.2.1).trans HX.out.2.1); go_simp; try with_reducible rfl
    try simp only [Act.put, List.setIfInBounds_toArray, List.set_cons_zero, List.set_cons_succ]
    refine takeH 31 (i := 21) (v := ?_) rfl rfl (by kernel_rfl) (by kernel_rfl) (by kernel_rfl) (fun _ _ _ h => h) (Or.inl ⟨by kernel_rfl, ?_⟩) bX ?_
    rotate_left
    · intro w' hSw; obtain ⟨c0, c1, c2, c3, c4, c5, c6, c7, c8, c9, c10, c11, c12, c13⟩ := cells14 ((hSw.block _ HX.out.2.2.2.1).trans HX.out.2.1); go_simp; try with_reducible rfl
    try simp only [Act.put, List.setIfInBounds_toArray, List.set_cons_zero, List.set_cons_succ]
    refine takeH 32 (i := 22) (v := ?_) rfl rfl (by kernel_rfl) (by kernel_rfl) (by kernel_rfl) (fun _ _ _ h => h) (Or.inl ⟨by kernel_rfl, ?_⟩) bX ?_
    rotate_left
    · intro w' hSw; obtain ⟨c0, c1, c2, c3, c4, c5, c6, c7, c8, c9, c10, c11, c12, c13⟩ := cells14 ((hSw.block _ HX.out.2.2.2.1).trans HX.out.2.1); go_simp; try with_reducible rfl
    try simp only [Act.put, List.setIfInBounds_toArray, List.set_cons_zero, List.set_cons_succ]
    refine takeH 34 (i := 24) (v := ?_) rfl rfl (by kernel_rfl) (by kernel_rfl) (by kernel_rfl) (fun _ _ _ h => h) (Or.inl ⟨by kernel_rfl, ?_⟩) bX ?_
    rotate_left
    · intro w' hSw; obtain ⟨c0, c1, c2, c3, c4, c5, c6, c7, c8, c9, c10, c11, c12, c13⟩ := cells14 ((hSw.block _ HX.out.2.2.2.1).trans HX.out.2.1); go_simp; try with_reducible rfl
    try simp only [Act.put, List.setIfInBounds_toArray, List.set_cons_zero, List.set_cons_succ]
    refine takeH 35 (i := 25) (v := ?_) rfl rfl (by kernel_rfl) (by kernel_rfl) (by kernel_rfl) (fun _ _ _ h => h) (Or.inl ⟨by kernel_rfl, ?_⟩) bX ?_
    rotate_left
    · intro w' hSw; obtain ⟨c0, c1, c2, c3, c4, c5, c6, c7, c8, c9, c10, c11, c12, c13⟩ := cells14 ((hSw.block _ HX.out.2.2.2.1).trans HX.out.2.1); go_simp; try with_reducible rfl
    try simp only [Act.put, List.setIfInBounds_toArray, List.set_cons_zero, List.set_cons_succ]
    refine wpAnyH_ready (rs := [20, 28]) (by kernel_rfl) (by simp) ?_
    refine consH _ rfl ?_ (consH _ rfl ?_ AllReadyH.nil)
    · refine hopCd 30 rfl (by kernel_rfl) rfl (by kernel_rfl) (Calls.mono (bits_any 0 _) ?_)
      rintro e m20 ⟨rfl, hw20⟩
      subst hw20
      refine ⟨_, rfl, bX, ?_⟩
      try simp only [Act.put, List.setIfInBounds_toArray, List.set_cons_zero, List.set_cons_succ]
      refine wpAnyH_ready (rs := [23, 28]) (by kernel_rfl) (by simp) ?_
      refine consH _ rfl ?_ (consH _ rfl ?_ AllReadyH.nil)
      · refine hopCd 33 rfl (by kernel_rfl) rfl (by kernel_rfl) (Calls.mono (bitsNil _) ?_)
        rintro e m23 ⟨rfl, hw23⟩
        subst hw23
        refine ⟨_, rfl, bX, ?_⟩
        try simp only [Act.put, List.setIfInBounds_toArray, List.set_cons_zero, List.set_cons_succ]
        refine wpAnyH_ready (rs := [26, 28]) (by kernel_rfl) (by simp) ?_
        refine consH _ rfl ?_ (consH _ rfl ?_ AllReadyH.nil)
        · refine hopCd 36 rfl (by kernel_rfl) rfl (by kernel_rfl) (Calls.mono (bitsNil _) ?_)
          rintro e m26 ⟨rfl, hw26⟩
          subst hw26
          refine ⟨_, rfl, bX, ?_⟩
          try simp only [Act.put, List.setIfInBounds_toArray, List.set_cons_zero, List.set_cons_succ]
          refine takeH 37 (i := 27) (v := ?_) rfl rfl (by kernel_rfl) (by kernel_rfl) (by kernel_rfl) (fun _ _ _ h => h) (Or.inl ⟨by kernel_rfl, ?_⟩) bX ?_
          rotate_left
          · intro w' hSw; (try dsimp only at hSw); go_simp; try with_reducible rfl
          try simp only [Act.put, List.setIfInBounds_toArray, List.set_cons_zero, List.set_cons_succ]
          refine wpAnyH_ready (rs := [28]) (by kernel_rfl) (by simp) ?_
          refine consH _ rfl ?_ AllReadyH.nil
          · refine hopA 3 rfl rfl rfl 56 rfl #[.int .i64 0, .int .i64 0, .int .i64 0, .int .i64 0, .int .i64 0, .int .i64 0, .int .i64 0, .int .i64 0, .int .i64 0, .int .u64 0, .slice none 0 0, .slice none 0 0, .slice none 0 0, .slice none 0 0] ofL_alloc fun D W' hD hDw bD => ?_
            have bW' : Below X.heap.size X W' := bX.trans (bD.mono bX.size)
            have hDX : X.heap.size ≤ D := Nat.le_trans bX.size hDw
            refine ⟨bW', ?_⟩
            try simp only [Act.put, List.setIfInBounds_toArray, List.set_cons_zero, List.set_cons_succ]
            refine wpAnyH_ready (rs := [29]) (by kernel_rfl) (by simp) ?_
            refine consH _ rfl (hopL rfl (wpList_store_row (by rfl) 56 _ _ (by rfl) X X.heap.size D #[.int .i64 k0, .int .i64 g0, .int .i64 g1, .int .i64 g2, .int .i64 g3, .int .i64 g4, .int .i64 g5, .int .i64 g6, .int .i64 g7, .int .u64 0, .slice none 0 0, .slice none 0 0, .slice none 0 0, .slice none 0 0] _ (by kernel_rfl) (by kernel_rfl) hD bW' hDX 14 Try.infoRLy (by rfl) (by rfl) (ofL_one ..) fun W9 e9 b9 hs9 ho9 => ?_)) AllReadyH.nil
            refine (And.intro b9 ?_ : _ ∧ _)
            try simp only [Act.put, List.setIfInBounds_toArray, List.set_cons_zero, List.set_cons_succ]
            refine wpAnyH_done (by kernel_rfl) ?_ _
            refine NoPanic.normal ?_
            try simp only [Act.put, List.setIfInBounds_toArray, List.set_cons_zero, List.set_cons_succ]
            go_wp2_with fail
            go_meet
            exact ⟨D, rfl, e9, HX.out.1.trans (b9.mono HX.out.1.size), ⟨(b9.block _ HX.out.2.2.2.1).trans HX.out.2.1, (b9.block _ HX.out.2.2.2.2).trans HX.out.2.2.1⟩, Nat.lt_of_lt_of_le HX.out.2.2.2.2 hDX⟩
        · refine hopA 3 rfl rfl rfl 56 rfl #[.int .i64 0, .int .i64 0, .int .i64 0, .int .i64 0, .int .i64 0, .int .i64 0, .int .i64 0, .int .i64 0, .int .i64 0, .int .u64 0, .slice none 0 0, .slice none 0 0, .slice none 0 0, .slice none 0 0] ofL_alloc fun D W' hD hDw bD => ?_
          have bW' : Below X.heap.size X W' := bX.trans (bD.mono bX.size)
          have hDX : X.heap.size ≤ D := Nat.le_trans bX.size hDw
          refine ⟨bW', ?_⟩
          try simp only [Act.put, List.setIfInBounds_toArray, List.set_cons_zero, List.set_cons_succ]
          refine wpAnyH_ready (rs := [26]) (by kernel_rfl) (by simp) ?_
          refine consH _ rfl ?_ AllReadyH.nil
          · refine hopCd 36 rfl (by kernel_rfl) rfl (by kernel_rfl) (Calls.mono (bitsNil _) ?_)
            rintro e m26 ⟨rfl, hw26⟩
            subst hw26
            refine ⟨_, rfl, bW', ?_⟩
            try simp only [Act.put, List.setIfInBounds_toArray, List.set_cons_zero, List.set_cons_succ]
            refine takeH 37 (i := 27) (v := ?_) rfl rfl (by kernel_rfl) (by kernel_rfl) (by kernel_rfl) (fun _ _ _ h => h) (Or.inl ⟨by kernel_rfl, ?_⟩) bW' ?_
            rotate_left
            · intro w' hSw; (try dsimp only at hSw); go_simp; try with_reducible rfl
            try simp only [Act.put, List.setIfInBounds_toArray, List.set_cons_zero, List.set_cons_succ]
            refine wpAnyH_ready (rs := [29]) (by kernel_rfl) (by simp) ?_
            refine consH _ rfl (hopL rfl (wpList_store_row (by rfl) 56 _ _ (by rfl) X X.heap.size D #[.int .i64 k0, .int .i64 g0, .int .i64 g1, .int .i64 g2, .int .i64 g3, .int .i64 g4, .int .i64 g5, .int .i64 g6, .int .i64 g7, .int .u64 0, .slice none 0 0, .slice none 0 0, .slice none 0 0, .slice none 0 0] _ (by kernel_rfl) (by kernel_rfl) hD bW' hDX 14 Try.infoRLy (by rfl) (by rfl) (ofL_one ..) fun W9 e9 b9 hs9 ho9 => ?_)) AllReadyH.nil
            refine (And.intro b9 ?_ : _ ∧ _)
            try simp only [Act.put, List.setIfInBounds_toArray, List.set_cons_zero, List.set_cons_succ]
            refine wpAnyH_done (by kernel_rfl) ?_ _
            refine NoPanic.normal ?_
            try simp only [Act.put, List.setIfInBounds_toArray, List.set_cons_zero, List.set_cons_succ]
            go_wp2_with fail
            go_meet
            exact ⟨D, rfl, e9, HX.out.1.trans (b9.mono HX.out.1.size), ⟨(b9.block _ HX.out.2.2.2.1).trans HX.out.2.1, (b9.block _ HX.out.2.2.2.2).trans HX.out.2.2.1⟩, Nat.lt_of_lt_of_le HX.out.2.2.2.2 hDX⟩
      · refine hopA 3 rfl rfl rfl 56 rfl #[.int .i64 0, .int .i64 0, .int .i64 0, .int .i64 0, .int .i64 0, .int .i64 0, .int .i64 0, .int .i64 0, .int .i64 0, .int .u64 0, .slice none 0 0, .slice none 0 0, .slice none 0 0, .slice none 0 0] ofL_alloc fun D W' hD hDw bD => ?_
        have bW' : Below X.heap.size X W' := bX.trans (bD.mono bX.size)
        have hDX : X.heap.size ≤ D := Nat.le_trans bX.size hDw
        refine ⟨bW', ?_⟩
        try simp only [Act.put, List.setIfInBounds_toArray, List.set_cons_zero, List.set_cons_succ]
        refine wpAnyH_ready (rs := [23]) (by kernel_rfl) (by simp) ?_
        refine consH _ rfl ?_ AllReadyH.nil
        · refine hopCd 33 rfl (by kernel_rfl) rfl (by kernel_rfl) (Calls.mono (bitsNil _) ?_)
          rintro e m23 ⟨rfl, hw23⟩
          subst hw23
          refine ⟨_, rfl, bW', ?_⟩
          try simp only [Act.put, List.setIfInBounds_toArray, List.set_cons_zero, List.set_cons_succ]
          refine wpAnyH_ready (rs := [26]) (by kernel_rfl) (by simp) ?_
          refine consH _ rfl ?_ AllReadyH.nil
          · refine hopCd 36 rfl (by kernel_rfl) rfl (by kernel_rfl) (Calls.mono (bitsNil _) ?_)
            rintro e m26 ⟨rfl, hw26⟩
            subst hw26
            refine ⟨_, rfl, bW', ?_⟩
            try simp only [Act.put, List.setIfInBounds_toArray, List.set_cons_zero, List.set_cons_succ]
            refine takeH 37 (i := 27) (v := ?_) rfl rfl (by kernel_rfl) (by kernel_rfl) (by kernel_rfl) (fun _ _ _ h => h) (Or.inl ⟨by kernel_rfl, ?_⟩) bW' ?_
            rotate_left
            · intro w' hSw; (try dsimp only at hSw); go_simp; try with_reducible rfl
            try simp only [Act.put, List.setIfInBounds_toArray, List.set_cons_zero, List.set_cons_succ]
            refine wpAnyH_ready (rs := [29]) (by kernel_rfl) (by simp) ?_
            refine consH _ rfl (hopL rfl (wpList_store_row (by rfl) 56 _ _ (by rfl) X X.heap.size D #[.int .i64 k0, .int .i64 g0, .int .i64 g1, .int .i64 g2, .int .i64 g3, .int .i64 g4, .int .i64 g5, .int .i64 g6, .int .i64 g7, .int .u64 0, .slice none 0 0, .slice none 0 0, .slice none 0 0, .slice none 0 0] _ (by kernel_rfl) (by kernel_rfl) hD bW' hDX 14 Try.infoRLy (by rfl) (by rfl) (ofL_one ..) fun W9 e9 b9 hs9 ho9 => ?_)) AllReadyH.nil
            refine (And.intro b9 ?_ : _ ∧ _)
            try simp only [Act.put, List.setIfInBounds_toArray, List.set_cons_zero, List.set_cons_succ]
            refine wpAnyH_done (by kernel_rfl) ?_ _
            refine NoPanic.normal ?_
            try simp only [Act.put, List.setIfInBounds_toArray, List.set_cons_zero, List.set_cons_succ]
            go_wp2_with fail
            go_meet
            exact ⟨D, rfl, e9, HX.out.1.trans (b9.mono HX.out.1.size), ⟨(b9.block _ HX.out.2.2.2.1).trans HX.out.2.1, (b9.block _ HX.out.2.2.2.2).trans HX.out.2.2.1⟩, Nat.lt_of_lt_of_le HX.out.2.2.2.2 hDX⟩
    · refine hopA 3 rfl rfl rfl 56 rfl #[.int .i64 0, .int .i64 0, .int .i64 0, .int .i64 0, .int .i64 0, .int .i64 0, .int .i64 0, .int .i64 0, .int .i64 0, .int .u64 0, .slice none 0 0, .slice none 0 0, .slice none 0 0, .slice none 0 0] ofL_alloc fun D W' hD hDw bD => ?_
      have bW' : Below X.heap.size X W' := bX.trans (bD.mono bX.size)
      have hDX : X.heap.size ≤ D := Nat.le_trans bX.size hDw
      refine ⟨bW', ?_⟩
      try simp only [Act.put, List.setIfInBounds_toArray, List.set_cons_zero, List.set_cons_succ]
      refine wpAnyH_ready (rs := [20]) (by kernel_rfl) (by simp) ?_
      refine consH _ rfl ?_ AllReadyH.nil
      · refine hopCd 30 rfl (by kernel_rfl) rfl (by kernel_rfl) (Calls.mono (bits_any 0 _) ?_)
        rintro e m20 ⟨rfl, hw20⟩
        subst hw20
        refine ⟨_, rfl, bW', ?_⟩
        try simp only [Act.put, List.setIfInBounds_toArray, List.set_cons_zero, List.set_cons_succ]
        refine wpAnyH_ready (rs := [23]) (by kernel_rfl) (by simp) ?_
        refine consH _ rfl ?_ AllReadyH.nil
        · refine hopCd 33 rfl (by kernel_rfl) rfl (by kernel_rfl) (Calls.mono (bitsNil _) ?_)
          rintro e m23 ⟨rfl, hw23⟩
          subst hw23
          refine ⟨_, rfl, bW', ?_⟩
          try simp only [Act.put, List.setIfInBounds_toArray, List.set_cons_zero, List.set_cons_succ]
          refine wpAnyH_ready (rs := [26]) (by kernel_rfl) (by simp) ?_
          refine consH _ rfl ?_ AllReadyH.nil
          · refine hopCd 36 rfl (by kernel_rfl) rfl (by kernel_rfl) (Calls.mono (bitsNil _) ?_)
            rintro e m26 ⟨rfl, hw26⟩
            subst hw26
            refine ⟨_, rfl, bW', ?_⟩
            try simp only [Act.put, List.setIfInBounds_toArray, List.set_cons_zero, List.set_cons_succ]
            refine takeH 37 (i := 27) (v := ?_) rfl rfl (by kernel_rfl) (by kernel_rfl) (by kernel_rfl) (fun _ _ _ h => h) (Or.inl ⟨by kernel_rfl, ?_⟩) bW' ?_
            rotate_left
            · intro w' hSw; (try dsimp only at hSw); go_simp; try with_reducible rfl
            try simp only [Act.put, List.setIfInBounds_toArray, List.set_cons_zero, List.set_cons_succ]
            refine wpAnyH_ready (rs := [29]) (by kernel_rfl) (by simp) ?_
            refine consH _ rfl (hopL rfl (wpList_store_row (by rfl) 56 _ _ (by rfl) X X.heap.size D #[.int .i64 k0, .int .i64 g0, .int .i64 g1, .int .i64 g2, .int .i64 g3, .int .i64 g4, .int .i64 g5, .int .i64 g6, .int .i64 g7, .int .u64 0, .slice none 0 0, .slice none 0 0, .slice none 0 0, .slice none 0 0] _ (by kernel_rfl) (by kernel_rfl) hD bW' hDX 14 Try.infoRLy (by rfl) (by rfl) (ofL_one ..) fun W9 e9 b9 hs9 ho9 => ?_)) AllReadyH.nil
            refine (And.intro b9 ?_ : _ ∧ _)
            try simp only [Act.put, List.setIfInBounds_toArray, List.set_cons_zero, List.set_cons_succ]
            refine wpAnyH_done (by kernel_rfl) ?_ _
            refine NoPanic.normal ?_
            try simp only [Act.put, List.setIfInBounds_toArray, List.set_cons_zero, List.set_cons_succ]
            go_wp2_with fail
            go_meet
            exact ⟨D, rfl, e9, HX.out.1.trans (b9.mono HX.out.1.size), ⟨(b9.block _ HX.out.2.2.2.1).trans HX.out.2.1, (b9.block _ HX.out.2.2.2.2).trans HX.out.2.2.1⟩, Nat.lt_of_lt_of_le HX.out.2.2.2.2 hDX⟩
  case rest =>
  obtain ⟨D, rfl, ED, EB, EK, hDl⟩ := hcut
  go_upto_region 2 with fail
  have z12 := cellAt EK.out.1 12 (.slice none 0 0) rfl
  have z13 := cellAt EK.out.1 13 (.slice none 0 0) rfl
  go_wp2_with fail
  go_loopg [4] 0 (fun g u wx => u = .int .i64 0 ∧ Hid (wx = wc))
  case atStart => exact ⟨rfl, rfl⟩
  case round =>
    obtain ⟨rfl, hw⟩ := hrel
    have hw' := hw.out
    subst hw'
    go_wp2_with fail
    go_loopg [7] 0 (fun g u wx => u = .int .i64 0 ∧ Hid (wx = wr))
    case atStart => exact ⟨rfl, rfl⟩
    case round =>
      obtain ⟨rfl, hw2⟩ := hrel
      have hw2' := hw2.out
      subst hw2'
      go_wp2_with (first
        | (refine wpList_load_row (by rfl) 56 _ (by rfl) D _ (by rfl) ED.out _ Try.underlying56 rfl 14 Try.infoRLy (by rfl) ?_)
        | (refine wpList_store_row (by rfl) 56 _ _ (by rfl) w w.heap.size (w.heap.size + 1) _ _ (by rfl) (by rfl) EK.out.2 EB.out (by omega) 14 Try.infoRLy (by rfl) (by rfl) (ofL_one ..) ?_; intro W9 e9 hb9 hs9 ho9))
      refine bodyPost_ret (res_one _ 2 56 (by kernel_rfl) _ _ (w.heap.size + 1) _ (by rfl) _ Try.underlying56 rfl 14 Try.infoRLy rfl e9) rfl ?_
      exact ⟨rfl, hb9⟩
end Go.Proofs.Ytmbnbleahehdaaa
