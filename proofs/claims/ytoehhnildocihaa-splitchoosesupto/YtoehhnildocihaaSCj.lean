import Derived.Test.YtoehhnildocihaaSCi
namespace Go.Proofs.Ytoehhnildocihaa
open Go.RowKit Go.Shelf
set_option linter.unusedVariables false
set_option linter.unusedSimpArgs false
set_option maxRecDepth 100000 in
set_option maxHeartbeats 4000000 in
/-- OfProp: what Claims asks of its answer. -/
theorem ofPropG_any (co go lo : Option Addr) (cn cc gn gc ln lc : Nat) (gvg gvl : Nat → Option Addr × Nat × Nat) (cs : List Nat) (gs ls : List (List Nat)) (t K D L : Int) (w : World)
    (hc : RdF w co cn cc cs) (hg : RdGs w go gn gc gvg gs) (hl : RdGs w lo ln lc gvl ls) (hcn : cn ≤ 1050000) (hgn : gn ≤ 1050000) (hln : ln ≤ 1050000) (hgl : ∀ k, k < gn → (gvg k).2.1 ≤ 1050000) (hll : ∀ k, k < ln → (gvl k).2.1 ≤ 1050000) :
    Calls Try.prog 4 #[.agg #[.slice co cn cc, .slice go gn gc, .int .i64 t, .slice lo ln lc, .int .i64 K, .int .i64 D, .int .i64 L]] w fun e w' => (∃ (o1 o2 o3 : Option Addr) (l1 c1 c2 c3 : Nat) (gv3 : Nat → Option Addr × Nat × Nat), e = .returned (.agg #[.slice o1 l1 c1, .slice o2 gn c2, .int .i64 t, .slice o3 ln c3, .int .i64 K, .int .i64 D, .int .i64 L]) ∧ Hid (RdGu w' o2 gn c2 gv3 gs)) ∧ Below w.heap.size w w' := by
  have HC : Hid (∀ W', Below w.heap.size w W' → RdF W' co cn cc cs) := fun W' hb => hc.later hb
  have HG : Hid (∀ W', Below w.heap.size w W' → RdGs W' go gn gc gvg gs) := fun W' hb => hg.later hb
  have HL : Hid (∀ W', Below w.heap.size w W' → RdGs W' lo ln lc gvl ls) := fun W' hb => hl.later hb
  have HGL : Hid (∀ k, k < gn → (gvg k).2.1 ≤ 1050000) := hgl
  have HLL : Hid (∀ k, k < ln → (gvl k).2.1 ≤ 1050000) := hll
  have X0 : Below w.heap.size w ((w.alloc (.cells #[.slice co cn cc, .slice go gn gc, .int .i64 t, .slice lo ln lc, .int .i64 K, .int .i64 D, .int .i64 L] 28)).alloc (.cells #[.slice none 0 0, .slice none 0 0, .int .i64 0, .slice none 0 0, .int .i64 0, .int .i64 0, .int .i64 0] 34)) := ((Below.refl _ w).alloc (Nat.le_refl _) _).alloc (by simp only [alloc_size]; omega) _
  have Y0 : ((w.alloc (.cells #[.slice co cn cc, .slice go gn gc, .int .i64 t, .slice lo ln lc, .int .i64 K, .int .i64 D, .int .i64 L] 28)).alloc (.cells #[.slice none 0 0, .slice none 0 0, .int .i64 0, .slice none 0 0, .int .i64 0, .int .i64 0, .int .i64 0] 34)).heap[w.heap.size]? = some (.cells #[.slice co cn cc, .slice go gn gc, .int .i64 t, .slice lo ln lc, .int .i64 K, .int .i64 D, .int .i64 L] 28) := alloc_kept (heap_alloc_new w _) _
  have Y1 : ((w.alloc (.cells #[.slice co cn cc, .slice go gn gc, .int .i64 t, .slice lo ln lc, .int .i64 K, .int .i64 D, .int .i64 L] 28)).alloc (.cells #[.slice none 0 0, .slice none 0 0, .int .i64 0, .slice none 0 0, .int .i64 0, .int .i64 0, .int .i64 0] 34)).heap[w.heap.size + 1]? = some (.cells #[.slice none 0 0, .slice none 0 0, .int .i64 0, .slice none 0 0, .int .i64 0, .int .i64 0, .int .i64 0] 34) := heap_at _ _ (w.heap.size + 1) (by simp only [alloc_size])
  clear hc hg hl hgl hll
  go_enter Try.func4, Try.ntmps4
  go_upto_region 1 with fail
  obtain ⟨X, hX⟩ : ∃ X, ((w.alloc (.cells #[.slice co cn cc, .slice go gn gc, .int .i64 t, .slice lo ln lc, .int .i64 K, .int .i64 D, .int .i64 L] 28)).alloc (.cells #[.slice none 0 0, .slice none 0 0, .int .i64 0, .slice none 0 0, .int .i64 0, .int .i64 0, .int .i64 0] 34)) = X := ⟨_, rfl⟩
  rw [hX] at X0 Y0 Y1 ⊢
  have PX : Hid (Below w.heap.size w X ∧ X.heap[w.heap.size]? = some (.cells #[.slice co cn cc, .slice go gn gc, .int .i64 t, .slice lo ln lc, .int .i64 K, .int .i64 D, .int .i64 L] 28) ∧ X.heap[w.heap.size + 1]? = some (.cells #[.slice none 0 0, .slice none 0 0, .int .i64 0, .slice none 0 0, .int .i64 0, .int .i64 0, .int .i64 0] 34)) := ⟨X0, Y0, Y1⟩
  clear hX X0 Y0 Y1
  have SX : Below X.heap.size X X.drew := (Below.refl _ _).drew
  refine wp_region_noPanic ?_
  refine wp_region_P (S := (fun V => Below X.heap.size X V)) (s := 18) (by kernel_rfl) ?_
  refine takeP 3 (i := 0) (v := ?_) rfl rfl (by kernel_rfl) (by kernel_rfl) (by kernel_rfl) (by kernel_rfl) rfl (by kernel_rfl) (fun _ _ _ h => h) (Or.inl ⟨by kernel_rfl, ?_⟩) SX ?_
  rotate_left
  · intro w' hSw; have s0 := cellAtJ (kept hSw PX.out.2.1) 0 _ rfl; have s1 := cellAtJ (kept hSw PX.out.2.1) 1 _ rfl; have s2 := cellAtJ (kept hSw PX.out.2.1) 2 _ rfl; have s3 := cellAtJ (kept hSw PX.out.2.1) 3 _ rfl; have s4 := cellAtJ (kept hSw PX.out.2.1) 4 _ rfl; have s5 := cellAtJ (kept hSw PX.out.2.1) 5 _ rfl; have s6 := cellAtJ (kept hSw PX.out.2.1) 6 _ rfl; go_simp; try with_reducible rfl
  try simp only [Act.put, List.setIfInBounds_toArray, List.set_cons_zero, List.set_cons_succ]
  refine takeP 4 (i := 1) (v := ?_) rfl rfl (by kernel_rfl) (by kernel_rfl) (by kernel_rfl) (by kernel_rfl) rfl (by kernel_rfl) (fun _ _ _ h => h) (Or.inl ⟨by kernel_rfl, ?_⟩) SX ?_
  rotate_left
  · intro w' hSw; have s0 := cellAtJ (kept hSw PX.out.2.1) 0 _ rfl; have s1 := cellAtJ (kept hSw PX.out.2.1) 1 _ rfl; have s2 := cellAtJ (kept hSw PX.out.2.1) 2 _ rfl; have s3 := cellAtJ (kept hSw PX.out.2.1) 3 _ rfl; have s4 := cellAtJ (kept hSw PX.out.2.1) 4 _ rfl; have s5 := cellAtJ (kept hSw PX.out.2.1) 5 _ rfl; have s6 := cellAtJ (kept hSw PX.out.2.1) 6 _ rfl; go_simp; try with_reducible rfl
  try simp only [Act.put, List.setIfInBounds_toArray, List.set_cons_zero, List.set_cons_succ]
  refine takeP 6 (i := 3) (v := ?_) rfl rfl (by kernel_rfl) (by kernel_rfl) (by kernel_rfl) (by kernel_rfl) rfl (by kernel_rfl) (fun _ _ _ h => h) (Or.inl ⟨by kernel_rfl, ?_⟩) SX ?_
  rotate_left
  · intro w' hSw; have s0 := cellAtJ (kept hSw PX.out.2.1) 0 _ rfl; have s1 := cellAtJ (kept hSw PX.out.2.1) 1 _ rfl; have s2 := cellAtJ (kept hSw PX.out.2.1) 2 _ rfl; have s3 := cellAtJ (kept hSw PX.out.2.1) 3 _ rfl; have s4 := cellAtJ (kept hSw PX.out.2.1) 4 _ rfl; have s5 := cellAtJ (kept hSw PX.out.2.1) 5 _ rfl; have s6 := cellAtJ (kept hSw PX.out.2.1) 6 _ rfl; go_simp; try with_reducible rfl
  try simp only [Act.put, List.setIfInBounds_toArray, List.set_cons_zero, List.set_cons_succ]
  refine takeP 7 (i := 4) (v := ?_) rfl rfl (by kernel_rfl) (by kernel_rfl) (by kernel_rfl) (by kernel_rfl) rfl (by kernel_rfl) (fun _ _ _ h => h) (Or.inl ⟨by kernel_rfl, ?_⟩) SX ?_
  rotate_left
  · intro w' hSw; have s0 := cellAtJ (kept hSw PX.out.2.1) 0 _ rfl; have s1 := cellAtJ (kept hSw PX.out.2.1) 1 _ rfl; have s2 := cellAtJ (kept hSw PX.out.2.1) 2 _ rfl; have s3 := cellAtJ (kept hSw PX.out.2.1) 3 _ rfl; have s4 := cellAtJ (kept hSw PX.out.2.1) 4 _ rfl; have s5 := cellAtJ (kept hSw PX.out.2.1) 5 _ rfl; have s6 := cellAtJ (kept hSw PX.out.2.1) 6 _ rfl; go_simp; try with_reducible rfl
  try simp only [Act.put, List.setIfInBounds_toArray, List.set_cons_zero, List.set_cons_succ]
  refine takeP 9 (i := 6) (v := ?_) rfl rfl (by kernel_rfl) (by kernel_rfl) (by kernel_rfl) (by kernel_rfl) rfl (by kernel_rfl) (fun _ _ _ h => h) (Or.inl ⟨by kernel_rfl, ?_⟩) SX ?_
  rotate_left
  · intro w' hSw; have s0 := cellAtJ (kept hSw PX.out.2.1) 0 _ rfl; have s1 := cellAtJ (kept hSw PX.out.2.1) 1 _ rfl; have s2 := cellAtJ (kept hSw PX.out.2.1) 2 _ rfl; have s3 := cellAtJ (kept hSw PX.out.2.1) 3 _ rfl; have s4 := cellAtJ (kept hSw PX.out.2.1) 4 _ rfl; have s5 := cellAtJ (kept hSw PX.out.2.1) 5 _ rfl; have s6 := cellAtJ (kept hSw PX.out.2.1) 6 _ rfl; go_simp; try with_reducible rfl
  try simp only [Act.put, List.setIfInBounds_toArray, List.set_cons_zero, List.set_cons_succ]
  refine takeP 10 (i := 7) (v := ?_) rfl rfl (by kernel_rfl) (by kernel_rfl) (by kernel_rfl) (by kernel_rfl) rfl (by kernel_rfl) (fun _ _ _ h => h) (Or.inl ⟨by kernel_rfl, ?_⟩) SX ?_
  rotate_left
  · intro w' hSw; have s0 := cellAtJ (kept hSw PX.out.2.1) 0 _ rfl; have s1 := cellAtJ (kept hSw PX.out.2.1) 1 _ rfl; have s2 := cellAtJ (kept hSw PX.out.2.1) 2 _ rfl; have s3 := cellAtJ (kept hSw PX.out.2.1) 3 _ rfl; have s4 := cellAtJ (kept hSw PX.out.2.1) 4 _ rfl; have s5 := cellAtJ (kept hSw PX.out.2.1) 5 _ rfl; have s6 := cellAtJ (kept hSw PX.out.2.1) 6 _ rfl; go_simp; try with_reducible rfl
  try simp only [Act.put, List.setIfInBounds_toArray, List.set_cons_zero, List.set_cons_succ]
  refine takeP 11 (i := 8) (v := ?_) rfl rfl (by kernel_rfl) (by kernel_rfl) (by kernel_rfl) (by kernel_rfl) rfl (by kernel_rfl) (fun _ _ _ h => h) (Or.inl ⟨by kernel_rfl, ?_⟩) SX ?_
  rotate_left
  · intro w' hSw; have s0 := cellAtJ (kept hSw PX.out.2.1) 0 _ rfl; have s1 := cellAtJ (kept hSw PX.out.2.1) 1 _ rfl; have s2 := cellAtJ (kept hSw PX.out.2.1) 2 _ rfl; have s3 := cellAtJ (kept hSw PX.out.2.1) 3 _ rfl; have s4 := cellAtJ (kept hSw PX.out.2.1) 4 _ rfl; have s5 := cellAtJ (kept hSw PX.out.2.1) 5 _ rfl; have s6 := cellAtJ (kept hSw PX.out.2.1) 6 _ rfl; go_simp; try with_reducible rfl
  try simp only [Act.put, List.setIfInBounds_toArray, List.set_cons_zero, List.set_cons_succ]
  refine takeP 12 (i := 9) (v := ?_) rfl rfl (by kernel_rfl) (by kernel_rfl) (by kernel_rfl) (by kernel_rfl) rfl (by kernel_rfl) (fun _ _ _ h => h) (Or.inl ⟨by kernel_rfl, ?_⟩) SX ?_
  rotate_left
  · intro w' hSw; have s0 := cellAtJ (kept hSw PX.out.2.1) 0 _ rfl; have s1 := cellAtJ (kept hSw PX.out.2.1) 1 _ rfl; have s2 := cellAtJ (kept hSw PX.out.2.1) 2 _ rfl; have s3 := cellAtJ (kept hSw PX.out.2.1) 3 _ rfl; have s4 := cellAtJ (kept hSw PX.out.2.1) 4 _ rfl; have s5 := cellAtJ (kept hSw PX.out.2.1) 5 _ rfl; have s6 := cellAtJ (kept hSw PX.out.2.1) 6 _ rfl; go_simp; try with_reducible rfl
  try simp only [Act.put, List.setIfInBounds_toArray, List.set_cons_zero, List.set_cons_succ]
  refine takeP 14 (i := 11) (v := ?_) rfl rfl (by kernel_rfl) (by kernel_rfl) (by kernel_rfl) (by kernel_rfl) rfl (by kernel_rfl) (fun _ _ _ h => h) (Or.inl ⟨by kernel_rfl, ?_⟩) SX ?_
  rotate_left
  · intro w' hSw; have s0 := cellAtJ (kept hSw PX.out.2.1) 0 _ rfl; have s1 := cellAtJ (kept hSw PX.out.2.1) 1 _ rfl; have s2 := cellAtJ (kept hSw PX.out.2.1) 2 _ rfl; have s3 := cellAtJ (kept hSw PX.out.2.1) 3 _ rfl; have s4 := cellAtJ (kept hSw PX.out.2.1) 4 _ rfl; have s5 := cellAtJ (kept hSw PX.out.2.1) 5 _ rfl; have s6 := cellAtJ (kept hSw PX.out.2.1) 6 _ rfl; go_simp; try with_reducible rfl
  try simp only [Act.put, List.setIfInBounds_toArray, List.set_cons_zero, List.set_cons_succ]
  refine takeP 15 (i := 12) (v := ?_) rfl rfl (by kernel_rfl) (by kernel_rfl) (by kernel_rfl) (by kernel_rfl) rfl (by kernel_rfl) (fun _ _ _ h => h) (Or.inl ⟨by kernel_rfl, ?_⟩) SX ?_
  rotate_left
  · intro w' hSw; have s0 := cellAtJ (kept hSw PX.out.2.1) 0 _ rfl; have s1 := cellAtJ (kept hSw PX.out.2.1) 1 _ rfl; have s2 := cellAtJ (kept hSw PX.out.2.1) 2 _ rfl; have s3 := cellAtJ (kept hSw PX.out.2.1) 3 _ rfl; have s4 := cellAtJ (kept hSw PX.out.2.1) 4 _ rfl; have s5 := cellAtJ (kept hSw PX.out.2.1) 5 _ rfl; have s6 := cellAtJ (kept hSw PX.out.2.1) 6 _ rfl; go_simp; try with_reducible rfl
  try simp only [Act.put, List.setIfInBounds_toArray, List.set_cons_zero, List.set_cons_succ]
  refine takeP 16 (i := 13) (v := ?_) rfl rfl (by kernel_rfl) (by kernel_rfl) (by kernel_rfl) (by kernel_rfl) rfl (by kernel_rfl) (fun _ _ _ h => h) (Or.inl ⟨by kernel_rfl, ?_⟩) SX ?_
  rotate_left
  · intro w' hSw; have s0 := cellAtJ (kept hSw PX.out.2.1) 0 _ rfl; have s1 := cellAtJ (kept hSw PX.out.2.1) 1 _ rfl; have s2 := cellAtJ (kept hSw PX.out.2.1) 2 _ rfl; have s3 := cellAtJ (kept hSw PX.out.2.1) 3 _ rfl; have s4 := cellAtJ (kept hSw PX.out.2.1) 4 _ rfl; have s5 := cellAtJ (kept hSw PX.out.2.1) 5 _ rfl; have s6 := cellAtJ (kept hSw PX.out.2.1) 6 _ rfl; go_simp; try with_reducible rfl
  try simp only [Act.put, List.setIfInBounds_toArray, List.set_cons_zero, List.set_cons_succ]
  refine takeP 17 (i := 14) (v := ?_) rfl rfl (by kernel_rfl) (by kernel_rfl) (by kernel_rfl) (by kernel_rfl) rfl (by kernel_rfl) (fun _ _ _ h => h) (Or.inl ⟨by kernel_rfl, ?_⟩) SX ?_
  rotate_left
  · intro w' hSw; have s0 := cellAtJ (kept hSw PX.out.2.1) 0 _ rfl; have s1 := cellAtJ (kept hSw PX.out.2.1) 1 _ rfl; have s2 := cellAtJ (kept hSw PX.out.2.1) 2 _ rfl; have s3 := cellAtJ (kept hSw PX.out.2.1) 3 _ rfl; have s4 := cellAtJ (kept hSw PX.out.2.1) 4 _ rfl; have s5 := cellAtJ (kept hSw PX.out.2.1) 5 _ rfl; have s6 := cellAtJ (kept hSw PX.out.2.1) 6 _ rfl; go_simp; try with_reducible rfl
  try simp only [Act.put, List.setIfInBounds_toArray, List.set_cons_zero, List.set_cons_succ]
  refine takeP 18 (i := 15) (v := ?_) rfl rfl (by kernel_rfl) (by kernel_rfl) (by kernel_rfl) (by kernel_rfl) rfl (by kernel_rfl) (fun _ _ _ h => h) (Or.inl ⟨by kernel_rfl, ?_⟩) SX ?_
  rotate_left
  · intro w' hSw; have s0 := cellAtJ (kept hSw PX.out.2.1) 0 _ rfl; have s1 := cellAtJ (kept hSw PX.out.2.1) 1 _ rfl; have s2 := cellAtJ (kept hSw PX.out.2.1) 2 _ rfl; have s3 := cellAtJ (kept hSw PX.out.2.1) 3 _ rfl; have s4 := cellAtJ (kept hSw PX.out.2.1) 4 _ rfl; have s5 := cellAtJ (kept hSw PX.out.2.1) 5 _ rfl; have s6 := cellAtJ (kept hSw PX.out.2.1) 6 _ rfl; go_simp; try with_reducible rfl
  try simp only [Act.put, List.setIfInBounds_toArray, List.set_cons_zero, List.set_cons_succ]
  refine takeP 19 (i := 16) (v := ?_) rfl rfl (by kernel_rfl) (by kernel_rfl) (by kernel_rfl) (by kernel_rfl) rfl (by kernel_rfl) (fun _ _ _ h => h) (Or.inl ⟨by kernel_rfl, ?_⟩) SX ?_
  rotate_left
  · intro w' hSw; have s0 := cellAtJ (kept hSw PX.out.2.1) 0 _ rfl; have s1 := cellAtJ (kept hSw PX.out.2.1) 1 _ rfl; have s2 := cellAtJ (kept hSw PX.out.2.1) 2 _ rfl; have s3 := cellAtJ (kept hSw PX.out.2.1) 3 _ rfl; have s4 := cellAtJ (kept hSw PX.out.2.1) 4 _ rfl; have s5 := cellAtJ (kept hSw PX.out.2.1) 5 _ rfl; have s6 := cellAtJ (kept hSw PX.out.2.1) 6 _ rfl; go_simp; try with_reducible rfl
  try simp only [Act.put, List.setIfInBounds_toArray, List.set_cons_zero, List.set_cons_succ]
  refine wpAnyP_ready (rs := [2]) (by kernel_rfl) (by simp) ?_
  refine consP _ rfl (hopCd 5 rfl (by kernel_rfl) rfl (by kernel_rfl) (Calls.mono (bits6_any co cn cc cs _ (HC.out _ (to_call PX.out.1 SX)) hcn) ?_)) AllReadyP.nil
  rintro e V1 ⟨v1, rfl, ho1, b1⟩
  have SX : Below X.heap.size X V1 := to_call SX b1
  obtain ⟨o1, c1, rfl, -⟩ := rdU_own ho1
  clear ho1 b1
  obtain ⟨l1, hl1⟩ : ∃ l1, cs.length = l1 := ⟨_, rfl⟩
  rw [hl1]
  refine ⟨_, rfl, SX, ?_⟩
  try simp only [Act.put, List.setIfInBounds_toArray, List.set_cons_zero, List.set_cons_succ]
  refine wpAnyP_ready (rs := [5]) (by kernel_rfl) (by simp) ?_
  refine consP _ rfl (hopCd 8 rfl (by kernel_rfl) rfl (by kernel_rfl) (Calls.mono (bitsOf6_any go gn gc gvg gs _ (HG.out _ (to_call PX.out.1 SX)) hgn HGL.out) ?_)) AllReadyP.nil
  rintro e V2 ⟨⟨o2, c2, gl2, rfl, hq2⟩, b2⟩
  have SX : Below X.heap.size X V2 := to_call SX b2
  clear b2
  refine ⟨_, rfl, SX, ?_⟩
  try simp only [Act.put, List.setIfInBounds_toArray, List.set_cons_zero, List.set_cons_succ]
  refine wpAnyP_ready (rs := [10]) (by kernel_rfl) (by simp) ?_
  refine consP _ rfl (hopCd 13 rfl (by kernel_rfl) rfl (by kernel_rfl) (Calls.mono (bitsOf6_any lo ln lc gvl ls _ (HL.out _ (to_call PX.out.1 SX)) hln HLL.out) ?_)) AllReadyP.nil
  rintro e V3 ⟨⟨o3, c3, gl3, rfl, -⟩, b3⟩
  have SX : Below X.heap.size X V3 := to_call SX b3
  have hq3 : Hid (OfL V3 V1.heap.size [] [] [] gs (.slice none 0 0) (.slice none 0 0) (.slice none 0 0) (.slice o2 gn c2) gl2) := hq2.out.later b3
  clear b3 hq2
  refine ⟨_, rfl, SX, ?_⟩
  try simp only [Act.put, List.setIfInBounds_toArray, List.set_cons_zero, List.set_cons_succ]
  refine takeP 20 (i := 17) (v := ?_) rfl rfl (by kernel_rfl) (by kernel_rfl) (by kernel_rfl) (by kernel_rfl) rfl (by kernel_rfl) (fun _ _ _ h => h) (Or.inl ⟨by kernel_rfl, ?_⟩) SX ?_
  rotate_left
  · intro w' hSw; skip; go_simp; try with_reducible rfl
  try simp only [Act.put, List.setIfInBounds_toArray, List.set_cons_zero, List.set_cons_succ]
  refine wpAnyP_ready (rs := [18]) (by kernel_rfl) (by simp) ?_
  refine consPs _ rfl (by kernel_rfl) (hopL rfl (wpList_store_row (by rfl) 34 _ _ (by rfl) w w.heap.size (w.heap.size + 1) #[.slice o1 l1 c1, .slice o2 gn c2, .int .i64 t, .slice o3 ln c3, .int .i64 K, .int .i64 D, .int .i64 L] _ (by kernel_rfl) (by kernel_rfl) (kept SX PX.out.2.2) (to_call PX.out.1 SX) (Nat.le_succ _) 7 Try.infoRefPropM rfl rfl (one7M _ _ _ _ _ _ _ _ _ _ _ _ _) fun W9 e9 b9 s9 o9 => ?_)) AllReadyP.nil
  refine ⟨trivial, ?_⟩
  try simp only [Act.put, List.setIfInBounds_toArray, List.set_cons_zero, List.set_cons_succ]
  refine wpAnyP_done (by kernel_rfl) ?_ _
  refine NoPanic.normal ?_
  try simp only [Act.put, List.setIfInBounds_toArray, List.set_cons_zero, List.set_cons_succ]
  have HL9 : Hid (OfL W9 V1.heap.size [] [] [] gs (.slice none 0 0) (.slice none 0 0) (.slice none 0 0) (.slice o2 gn c2) gl2) := by
    refine hq3.out.keepP fun k cur ty ht hc => o9 k fun e => ht ?_
    have h9 := kept SX PX.out.2.2
    rw [e] at hc
    rw [h9] at hc
    injection hc with hc
    injection hc with _ hc
    exact hc.symm
  obtain ⟨gv3, hr9⟩ := HL9.out.guS
  have HR9 : Hid (RdGu W9 o2 gn c2 gv3 gs) := hr9
  have E9 : Hid (W9.heap[w.heap.size + 1]? = some (.cells #[.slice o1 l1 c1, .slice o2 gn c2, .int .i64 t, .slice o3 ln c3, .int .i64 K, .int .i64 D, .int .i64 L] 34)) := e9
  have B9 : Hid (Below w.heap.size w W9) := b9
  clear SX e9 b9 s9 o9 hq3 HL9 hr9 PX
  go_wp2_with fail
  refine bodyPost_ret (res_propM _ 2 (by kernel_rfl) _ _ (w.heap.size + 1) _ (by rfl) rfl E9.out) rfl ?_
  exact ⟨⟨o1, o2, o3, l1, c1, c2, c3, gv3, rfl, HR9⟩, B9.out⟩
theorem Try.infoPr : (Try.prog.info? 28).map (·.size) = some 7 := by kernel_rfl
/-- The symbol that is to be halved. -/
def chV (z : ZD) (us : List Nat) (gs : List (List Nat)) (ls bs : List Int) (gn m : Nat) : Int :=
  if regB ls bs gn = true then (if (if clB z us = true then bcV us z.gs z.rn z.ids m else -1) ≥ 0 then (if clB z us = true then bcV us z.gs z.rn z.ids m else -1) else blV gs (ls.zip bs) gn) else -1
set_option maxRecDepth 100000 in
set_option maxHeartbeats 4000000 in
theorem choose_any (z : ZD) (ao : Option Addr) (l c : Nat) (us : List Nat) (pco pgo plo : Option Addr) (pcn pcc gn pgc pln plc : Nat) (pt pK pD pL : Int) (gvg : Nat → Option Addr × Nat × Nat) (pgs : List (List Nat)) (la ba : Option Addr) (n c' m' d : Nat) (ls bs : List Int) (m : Nat) (w : World)
    (hz : ZR w z) (hdn : z.dn ≤ 1050000) (ha : RdF w ao l c us) (hg : RdGs w pgo gn pgc gvg pgs) (hgl : ∀ k, k < gn → (gvg k).2.1 ≤ 1050000) (hl : RdIs w la n c' ls) (hb9 : RdIs w ba m' d bs) (hm : clB z us = true → m ≤ z.dn ∧ ∀ j, j < z.dn → (z.ids[j]?.getD 0 < (gn : Int) ↔ j < m)) :
    Calls Try.prog 5 #[.agg #[.int .i64 z.N, .slice z.co z.cn z.cc, .slice z.io z.dn z.dc, .slice z.go z.gn z.gc, .slice z.ro z.rn z.rc, .bool z.bad], .slice ao l c, .agg #[.slice pco pcn pcc, .slice pgo gn pgc, .int .i64 pt, .slice plo pln plc, .int .i64 pK, .int .i64 pD, .int .i64 pL], .agg #[.slice la n c', .slice ba m' d]] w fun e w' => e = .returned (.int .i64 (chV z us pgs ls bs gn m)) ∧ Below w.heap.size w w' := by
  have HBC : Hid (∀ W, Below w.heap.size w W → Calls Try.prog 13 #[.agg #[.int .i64 z.N, .slice z.co z.cn z.cc, .slice z.io z.dn z.dc, .slice z.go z.gn z.gc, .slice z.ro z.rn z.rc, .bool z.bad], .slice ao l c, .int .i64 (gn : Int)] W fun e w' => e = .returned (.int .i64 (if clB z us = true then bcV us z.gs z.rn z.ids m else -1)) ∧ Below W.heap.size W w') := fun W hb => byClaim_any z ao l c us gn m W (hz.later hb) hdn (ha.later hb) hm
  have HPO : Hid (∀ W, Below w.heap.size w W → Calls Try.prog 12 #[.agg #[.slice la n c', .slice ba m' d], .int .i64 (gn : Int)] W fun e w' => (∃ v, e = .returned (.tuple #[v, .bool (regB ls bs gn)]) ∧ (regB ls bs gn = true → v = .slice (some ⟨W.heap.size + 1, 0, none⟩) n n ∧ w'.heap[W.heap.size + 1]? = some (.cells (ptC (ls.zip bs)) 69)) ∧ (regB ls bs gn = false → v = .slice none 0 0)) ∧ Below W.heap.size W w') := fun W hb => partsOf_any la ba n m' c' d ls bs gn W (hl.later hb) (hb9.later hb)
  have HG : Hid (∀ W', Below w.heap.size w W' → RdGs W' pgo gn pgc gvg pgs) := fun W' hb => hg.later hb
  have HGL : Hid (∀ k, k < gn → (pgs[k]?.getD []).length ≤ 1050000) := fun k hk => by rw [(hg.each k hk).length]; exact hgl k hk
  have HLN : Hid (ls.length = n ∧ bs.length = m') := ⟨hl.length, hb9.length⟩
  have hgm : gn ≤ 9223372036854775807 := Nat.le_trans hg.max maxLen_le
  obtain ⟨cl, hcl⟩ : ∃ cl : Int, (if clB z us = true then bcV us z.gs z.rn z.ids m else -1) = cl := ⟨_, rfl⟩
  obtain ⟨R, hR⟩ : ∃ R : Int, chV z us pgs ls bs gn m = R := ⟨_, rfl⟩
  have HRES : Hid (R = if regB ls bs gn = true then (if cl ≥ 0 then cl else blV pgs (ls.zip bs) gn) else -1) := by unfold Hid; rw [← hR, ← hcl]; rfl
  rw [hR]
  rw [hcl] at HBC
  clear hz ha hg hl hb9 hm hdn hgl hcl hR
  obtain ⟨N, co, cn, cc, io, dn, dc, go, zgn, gc, ro, rn, rc, bad, cs, ids, gv, gs, rs⟩ := z
  dsimp only at HBC ⊢
  have X0 : Below w.heap.size w (((w.alloc (.cells #[.int .i64 N, .slice co cn cc, .slice io dn dc, .slice go zgn gc, .slice ro rn rc, .bool bad] 26)).alloc (.cells #[.slice pco pcn pcc, .slice pgo gn pgc, .int .i64 pt, .slice plo pln plc, .int .i64 pK, .int .i64 pD, .int .i64 pL] 28)).alloc (.cells #[.slice la n c', .slice ba m' d] 30)) := below_al (below_al (below_al (Below.refl _ w) _) _) _
  have Y0 : (((w.alloc (.cells #[.int .i64 N, .slice co cn cc, .slice io dn dc, .slice go zgn gc, .slice ro rn rc, .bool bad] 26)).alloc (.cells #[.slice pco pcn pcc, .slice pgo gn pgc, .int .i64 pt, .slice plo pln plc, .int .i64 pK, .int .i64 pD, .int .i64 pL] 28)).alloc (.cells #[.slice la n c', .slice ba m' d] 30)).heap[w.heap.size]? = some (.cells #[.int .i64 N, .slice co cn cc, .slice io dn dc, .slice go zgn gc, .slice ro rn rc, .bool bad] 26) := alloc_kept (alloc_kept (heap_alloc_new w _) _) _
  have Y1 : (((w.alloc (.cells #[.int .i64 N, .slice co cn cc, .slice io dn dc, .slice go zgn gc, .slice ro rn rc, .bool bad] 26)).alloc (.cells #[.slice pco pcn pcc, .slice pgo gn pgc, .int .i64 pt, .slice plo pln plc, .int .i64 pK, .int .i64 pD, .int .i64 pL] 28)).alloc (.cells #[.slice la n c', .slice ba m' d] 30)).heap[w.heap.size + 1]? = some (.cells #[.slice pco pcn pcc, .slice pgo gn pgc, .int .i64 pt, .slice plo pln plc, .int .i64 pK, .int .i64 pD, .int .i64 pL] 28) := alloc_kept (alloc_at _ _ _ (by simp)) _
  have Y2 : (((w.alloc (.cells #[.int .i64 N, .slice co cn cc, .slice io dn dc, .slice go zgn gc, .slice ro rn rc, .bool bad] 26)).alloc (.cells #[.slice pco pcn pcc, .slice pgo gn pgc, .int .i64 pt, .slice plo pln plc, .int .i64 pK, .int .i64 pD, .int .i64 pL] 28)).alloc (.cells #[.slice la n c', .slice ba m' d] 30)).heap[w.heap.size + 1 + 1]? = some (.cells #[.slice la n c', .slice ba m' d] 30) := alloc_at _ _ _ (by simp)
  go_enter Try.func5, Try.ntmps5
  go_upto_region 1 with fail
  obtain ⟨X, hX⟩ : ∃ X, (((w.alloc (.cells #[.int .i64 N, .slice co cn cc, .slice io dn dc, .slice go zgn gc, .slice ro rn rc, .bool bad] 26)).alloc (.cells #[.slice pco pcn pcc, .slice pgo gn pgc, .int .i64 pt, .slice plo pln plc, .int .i64 pK, .int .i64 pD, .int .i64 pL] 28)).alloc (.cells #[.slice la n c', .slice ba m' d] 30)) = X := ⟨_, rfl⟩
  rw [hX] at X0 Y0 Y1 Y2 ⊢
  have P1 : Hid (Below w.heap.size w X ∧ X.heap[w.heap.size]? = some (.cells #[.int .i64 N, .slice co cn cc, .slice io dn dc, .slice go zgn gc, .slice ro rn rc, .bool bad] 26) ∧ X.heap[w.heap.size + 1]? = some (.cells #[.slice pco pcn pcc, .slice pgo gn pgc, .int .i64 pt, .slice plo pln plc, .int .i64 pK, .int .i64 pD, .int .i64 pL] 28) ∧ X.heap[w.heap.size + 1 + 1]? = some (.cells #[.slice la n c', .slice ba m' d] 30)) := ⟨X0, Y0, Y1, Y2⟩
  have k1 := cellAtJ Y1 1 _ rfl
  clear hX X0 Y0 Y1 Y2
  go_wp2_with (first | (refine wpList_load_row (by rfl) 30 _ (by rfl) (w.heap.size + 1 + 1) #[.slice la n c', .slice ba m' d] (by rfl) P1.out.2.2.2 _ Try.underlying30 rfl 2 Try.szRT (by rfl) ?_))
  refine Calls.mono (HPO.out _ P1.out.1) ?_
  rintro e w1 ⟨⟨v, rfl, hv1, hv2⟩, b1⟩
  have P2 : Hid (Below w.heap.size w w1 ∧ w1.heap[w.heap.size]? = some (.cells #[.int .i64 N, .slice co cn cc, .slice io dn dc, .slice go zgn gc, .slice ro rn rc, .bool bad] 26) ∧ w1.heap[w.heap.size + 1]? = some (.cells #[.slice pco pcn pcc, .slice pgo gn pgc, .int .i64 pt, .slice plo pln plc, .int .i64 pK, .int .i64 pD, .int .i64 pL] 28)) := ⟨to_call P1.out.1 b1, kept b1 P1.out.2.1, kept b1 P1.out.2.2.1⟩
  obtain ⟨rb, hrb⟩ : ∃ rb, regB ls bs gn = rb := ⟨_, rfl⟩
  have HRB : Hid (regB ls bs gn = rb) := hrb
  rw [hrb] at hv1 hv2 HRES ⊢
  clear hrb P1 k1 b1
  cases rb with
  | false =>
    obtain rfl := hv2 rfl
    have HQ : Hid (R = -1) := by unfold Hid; rw [HRES.out]; rfl
    go_wp2_with fail
    go_ret
    exact ⟨by rw [HQ.out]; rfl, P2.out.1⟩
  | true =>
    obtain ⟨rfl, hpb⟩ := hv1 rfl
    have hlen := regB_len HRB.out
    have hgnn : n = gn := by have := HLN.out; omega
    subst hgnn
    have hn256 : n ≤ 256 := by omega
    obtain ⟨PB, hPB⟩ : ∃ b, X.heap.size + 1 = b := ⟨_, rfl⟩
    rw [hPB] at hpb ⊢
    have HPB : Hid (w1.heap[PB]? = some (.cells (ptC (ls.zip bs)) 69)) := hpb
    rw [if_pos rfl] at HRES
    clear hv1 hv2 hpb hPB hlen
    go_wp2_with (first | (refine wpList_load_row (by rfl) 26 _ (by rfl) w.heap.size #[.int .i64 N, .slice co cn cc, .slice io dn dc, .slice go zgn gc, .slice ro rn rc, .bool bad] (by rfl) P2.out.2.1 _ Try.underlying26 rfl 6 Try.infoZ (by rfl) ?_))
    refine Calls.mono (HBC.out _ P2.out.1) ?_
    rintro e w2 ⟨rfl, b2⟩
    have P3 : Hid (Below w.heap.size w w2 ∧ w2.heap[w.heap.size + 1]? = some (.cells #[.slice pco pcn pcc, .slice pgo n pgc, .int .i64 pt, .slice plo pln plc, .int .i64 pK, .int .i64 pD, .int .i64 pL] 28) ∧ w2.heap[PB]? = some (.cells (ptC (ls.zip bs)) 69)) := ⟨to_call P2.out.1 b2, kept b2 P2.out.2.2, kept b2 HPB.out⟩
    clear P2 HPB b2 HBC
    by_cases h0 : cl ≥ 0
    · have f0 : decide (cl ≥ 0) = true := decide_eq_true h0
      have HQ : Hid (R = cl) := by unfold Hid; rw [HRES.out, if_pos h0]
      clear h0
      go_wp2_with fail
      go_ret
      exact ⟨by rw [HQ.out]; rfl, P3.out.1⟩
    · have f0 : decide (cl ≥ 0) = false := decide_eq_false h0
      have HQ : Hid (R = blV pgs (ls.zip bs) n) := by unfold Hid; rw [HRES.out, if_neg h0]
      have k1 := cellAtJ P3.out.2.1 1 _ rfl
      have HBL : Hid (Calls Try.prog 14 #[.slice pgo n pgc, .slice (some ⟨PB, 0, none⟩) n n] w2 fun e w' => e = .returned (.int .i64 (blV pgs (ls.zip bs) n)) ∧ Below w2.heap.size w2 w') := byLength_any pgo n pgc PB gvg pgs (ls.zip bs) w2 hn256 (zip_low HRB.out).1 (fun j hj => by
        have h9 := regB_level HRB.out j (by rw [HLN.out.1]; exact hj)
        have hm9 : bs.length = n := by have := regB_len HRB.out; omega
        rw [zip_at (n := n) HLN.out.1 hm9 hj]
        exact ⟨h9.1, h9.2.1⟩) (HG.out _ P3.out.1) HGL.out P3.out.2.2
      rw [← HQ.out] at HBL
      clear h0
      go_wp2_with fail
      refine Calls.mono HBL.out ?_
      rintro e w3 ⟨rfl, b3⟩
      go_wp2_with fail
      go_ret
      exact ⟨rfl, to_call P3.out.1 b3⟩
set_option maxRecDepth 100000 in
set_option maxHeartbeats 4000000 in
theorem refChoose_any (z : ZD) (ao : Option Addr) (l c : Nat) (us : List Nat) (pgo : Option Addr) (gn pgc : Nat) (gvg : Nat → Option Addr × Nat × Nat) (pgs : List (List Nat)) (la ba : Option Addr) (n c' m' d : Nat) (ls bs : List Int) (m E : Nat) (hE : E = 1074) (w : World)
    (hz : ZU w z) (hw : UW z) (hW : wholeB z = true → WhF z) (ha : RdUs w ao l c us) (hlt : ∀ u ∈ us, u < 18446744073709551616) (hl9 : l ≤ 1050000) (hg : RdGu w pgo gn pgc gvg pgs) (hgl : ∀ k, k < gn → (pgs[k]?.getD []).length ≤ 1050000 ∧ ∀ u ∈ pgs[k]?.getD [], u < 18446744073709551616) (hl : RdIs w la n c' ls) (hb9 : RdIs w ba m' d bs) (hm : clB z us = true → m ≤ z.dn ∧ ∀ j, j < z.dn → (z.ids[j]?.getD 0 < (gn : Int) ↔ j < m)) :
    Calls Try.prog 6 #[.agg (zRow z), .slice ao l c, .slice pgo gn pgc, .agg #[.slice la n c', .slice ba m' d]] w fun e w' => e = .returned (.int .i64 (chV z us pgs ls bs gn m)) ∧ Below w.heap.size w w' := by
  have HBM : Hid (∀ W, Below w.heap.size w W → Calls Try.prog 16 #[.agg (zRow z), .slice ao l c, .int .i64 (gn : Int)] W fun e w' => e = .returned (.int .i64 (if clB z us = true then bcV us z.gs z.rn z.ids m else -1)) ∧ Below W.heap.size W w') := fun W hb => byMargin_any z ao l c us gn m E hE W (hz.later hb) hw hW (ha.later hb) hlt hl9 hm
  have HCK : Hid (∀ W, Below w.heap.size w W → Calls Try.prog 15 #[.agg #[.slice la n c', .slice ba m' d], .int .i64 (gn : Int)] W fun e w' => e = .returned (.int .i64 (ckE ls bs gn)) ∧ Below W.heap.size W w') := fun W hb => refCheck_any la ba n m' c' d ls bs gn W (hl.later hb) (hb9.later hb)
  have HG : Hid (∀ W', Below w.heap.size w W' → RdGu W' pgo gn pgc gvg pgs) := fun W' hb => hg.later hb
  have HL : Hid (∀ W', Below w.heap.size w W' → RdIs W' la n c' ls) := fun W' hb => hl.later hb
  have HGL : Hid (∀ k, k < gn → (pgs[k]?.getD []).length ≤ 1050000 ∧ ∀ u ∈ pgs[k]?.getD [], u < 18446744073709551616) := hgl
  have HLN : Hid (ls.length = n ∧ bs.length = m') := ⟨hl.length, hb9.length⟩
  have hgm : gn ≤ 9223372036854775807 := Nat.le_trans hg.max maxLen_le
  have HE : Hid (E = 1074) := hE
  obtain ⟨cl, hcl⟩ : ∃ cl : Int, (if clB z us = true then bcV us z.gs z.rn z.ids m else -1) = cl := ⟨_, rfl⟩
  obtain ⟨R, hR⟩ : ∃ R : Int, chV z us pgs ls bs gn m = R := ⟨_, rfl⟩
  have HRES : Hid (R = if regB ls bs gn = true then (if cl ≥ 0 then cl else blV pgs (ls.zip bs) gn) else -1) := by unfold Hid; rw [← hR, ← hcl]; rfl
  rw [hR]
  rw [hcl] at HBM
  clear hz ha hg hl hb9 hm hgl hcl hR hw hW hlt hl9 hE
  obtain ⟨N, co, cn, cc, io, dn, dc, go, zgn, gc, ro, rn, rc, bad, cs, ids, gv, gs, rs⟩ := z
  unfold zRow at HBM ⊢
  dsimp only at HBM ⊢
  have X0 : Below w.heap.size w ((w.alloc (.cells #[.int .i64 N, .slice co cn cc, .slice io dn dc, .slice go zgn gc, .slice ro rn rc, .bool bad] 39)).alloc (.cells #[.slice la n c', .slice ba m' d] 30)) := below_al (below_al (Below.refl _ w) _) _
  have Y0 : ((w.alloc (.cells #[.int .i64 N, .slice co cn cc, .slice io dn dc, .slice go zgn gc, .slice ro rn rc, .bool bad] 39)).alloc (.cells #[.slice la n c', .slice ba m' d] 30)).heap[w.heap.size]? = some (.cells #[.int .i64 N, .slice co cn cc, .slice io dn dc, .slice go zgn gc, .slice ro rn rc, .bool bad] 39) := alloc_kept (heap_alloc_new w _) _
  have Y2 : ((w.alloc (.cells #[.int .i64 N, .slice co cn cc, .slice io dn dc, .slice go zgn gc, .slice ro rn rc, .bool bad] 39)).alloc (.cells #[.slice la n c', .slice ba m' d] 30)).heap[w.heap.size + 1]? = some (.cells #[.slice la n c', .slice ba m' d] 30) := alloc_at _ _ _ (by simp)
  go_enter Try.func6, Try.ntmps6
  go_upto_region 1 with fail
  obtain ⟨X, hX⟩ : ∃ X, ((w.alloc (.cells #[.int .i64 N, .slice co cn cc, .slice io dn dc, .slice go zgn gc, .slice ro rn rc, .bool bad] 39)).alloc (.cells #[.slice la n c', .slice ba m' d] 30)) = X := ⟨_, rfl⟩
  rw [hX] at X0 Y0 Y2 ⊢
  have P1 : Hid (Below w.heap.size w X ∧ X.heap[w.heap.size]? = some (.cells #[.int .i64 N, .slice co cn cc, .slice io dn dc, .slice go zgn gc, .slice ro rn rc, .bool bad] 39) ∧ X.heap[w.heap.size + 1]? = some (.cells #[.slice la n c', .slice ba m' d] 30)) := ⟨X0, Y0, Y2⟩
  clear hX X0 Y0 Y2
  go_wp2_with (first | (refine wpList_load_row (by rfl) 30 _ (by rfl) (w.heap.size + 1) #[.slice la n c', .slice ba m' d] (by rfl) P1.out.2.2 _ Try.underlying30 rfl 2 Try.szRT (by rfl) ?_))
  refine Calls.mono (HCK.out _ P1.out.1) ?_
  rintro e w1 ⟨rfl, b1⟩
  have P2 : Hid (Below w.heap.size w w1 ∧ w1.heap[w.heap.size]? = some (.cells #[.int .i64 N, .slice co cn cc, .slice io dn dc, .slice go zgn gc, .slice ro rn rc, .bool bad] 39) ∧ w1.heap[w.heap.size + 1]? = some (.cells #[.slice la n c', .slice ba m' d] 30)) := ⟨to_call P1.out.1 b1, kept b1 P1.out.2.1, kept b1 P1.out.2.2⟩
  obtain ⟨rb, hrb⟩ : ∃ rb, regB ls bs gn = rb := ⟨_, rfl⟩
  have HRB : Hid (regB ls bs gn = rb) := hrb
  rw [hrb] at HRES
  clear hrb P1 b1 HCK
  cases rb with
  | false =>
    rw [ckE_no HRB.out]
    have HQ : Hid (R = -1) := by unfold Hid; rw [HRES.out]; rfl
    go_wp2_with fail
    go_ret
    exact ⟨by rw [HQ.out]; rfl, P2.out.1⟩
  | true =>
    rw [ckE_ok HRB.out]
    have hlen := regB_len HRB.out
    have hgnn : n = gn := by have := HLN.out; omega
    subst hgnn
    have hmn : n = m' := by have := HLN.out; omega
    subst hmn
    have hn256 : n ≤ 256 := by omega
    rw [if_pos rfl] at HRES
    clear hlen
    go_wp2_with (first | (refine wpList_load_row (by rfl) 39 _ (by rfl) w.heap.size #[.int .i64 N, .slice co cn cc, .slice io dn dc, .slice go zgn gc, .slice ro rn rc, .bool bad] (by rfl) P2.out.2.1 _ Try.underlying39 rfl 6 Try.infoZu (by rfl) ?_))
    refine Calls.mono (HBM.out _ P2.out.1) ?_
    rintro e w2 ⟨rfl, b2⟩
    have P3 : Hid (Below w.heap.size w w2 ∧ w2.heap[w.heap.size + 1]? = some (.cells #[.slice la n c', .slice ba n d] 30)) := ⟨to_call P2.out.1 b2, kept b2 P2.out.2.2⟩
    clear P2 b2 HBM
    by_cases h0 : cl ≥ 0
    · have f0 : decide (cl < 0) = false := decide_eq_false (by omega)
      have HQ : Hid (R = cl) := by unfold Hid; rw [HRES.out, if_pos h0]
      clear h0
      go_wp2_with fail
      go_ret
      exact ⟨by rw [HQ.out]; rfl, P3.out.1⟩
    · have f0 : decide (cl < 0) = true := decide_eq_true (by omega)
      have HQ : Hid (R = blV pgs (ls.zip bs) n) := by unfold Hid; rw [HRES.out, if_neg h0]
      have HBL : Hid (Calls Try.prog 17 #[.slice pgo n pgc, .agg #[.slice la n c', .slice ba n d]] w2 fun e w' => e = .returned (.int .i64 (blV pgs (ls.zip bs) n)) ∧ Below w2.heap.size w2 w') := bySize_any pgo la ba n pgc c' d gvg pgs ls (ls.zip bs) E HE.out w2 hn256 (fun j hj => by
        have h9 := regB_level HRB.out j (by rw [HLN.out.1]; exact hj)
        rw [zip_at (n := n) HLN.out.1 HLN.out.2 hj]
        exact ⟨rfl, h9.1, h9.2.1⟩) (HG.out _ P3.out.1) HGL.out (HL.out _ P3.out.1)
      rw [← HQ.out] at HBL
      clear h0
      go_wp2_with (first | (refine wpList_load_row (by rfl) 30 _ (by rfl) (w.heap.size + 1) #[.slice la n c', .slice ba n d] (by rfl) P3.out.2 _ Try.underlying30 rfl 2 Try.szRT (by rfl) ?_))
      refine Calls.mono HBL.out ?_
      rintro e w3 ⟨rfl, b3⟩
      go_wp2_with fail
      go_ret
      exact ⟨rfl, to_call P3.out.1 b3⟩
end Go.Proofs.Ytoehhnildocihaa
