import Derived.Test.YtaloaholmhcflaaMLb5
namespace Go.Proofs.Ytaloaholmhcflaa
open Go.RowKit Go.Shelf
set_option linter.unusedVariables false
set_option linter.unusedSimpArgs false
theorem cells7L {W : World} {B : Nat} {v0 v1 v2 v3 v4 v5 v6 : Value} {t : TypeId} (h : W.heap[B]? = some (.cells #[v0, v1, v2, v3, v4, v5, v6] t)) : W.cell? ⟨B, 0, none⟩ = some v0 ∧ W.cell? ⟨B, 1, none⟩ = some v1 ∧ W.cell? ⟨B, 2, none⟩ = some v2 ∧ W.cell? ⟨B, 3, none⟩ = some v3 ∧ W.cell? ⟨B, 4, none⟩ = some v4 ∧ W.cell? ⟨B, 5, none⟩ = some v5 ∧ W.cell? ⟨B, 6, none⟩ = some v6 := ⟨cellAtJ h 0 _ rfl, cellAtJ h 1 _ rfl, cellAtJ h 2 _ rfl, cellAtJ h 3 _ rfl, cellAtJ h 4 _ rfl, cellAtJ h 5 _ rfl, cellAtJ h 6 _ rfl⟩
set_option maxRecDepth 100000 in
set_option maxHeartbeats 4000000 in
/-- OfProp: what Claims asks of its answer. -/
theorem ofPropA_any (co go lo : Option Addr) (cn cc gn gc ln lc : Nat) (gvg gvl : Nat → Option Addr × Nat × Nat) (cs : List Nat) (gs ls : List (List Nat)) (t K D L : Int) (w : World)
    (hc : RdF w co cn cc cs) (hg : RdGs w go gn gc gvg gs) (hl : RdGs w lo ln lc gvl ls) (hcn : cn ≤ 1050000) (hgn : gn ≤ 1050000) (hln : ln ≤ 1050000) (hgl : ∀ k, k < gn → (gvg k).2.1 ≤ 1050000) (hll : ∀ k, k < ln → (gvl k).2.1 ≤ 1050000) :
    Calls Try.prog 6 #[.agg #[.slice co cn cc, .slice go gn gc, .int .i64 t, .slice lo ln lc, .int .i64 K, .int .i64 D, .int .i64 L]] w fun e w' => (∃ (o1 o2 o3 : Option Addr) (c1 c2 c3 : Nat) (gv2 gv3 : Nat → Option Addr × Nat × Nat), e = .returned (.agg #[.slice o1 cn c1, .slice o2 gn c2, .int .i64 t, .slice o3 ln c3, .int .i64 K, .int .i64 D, .int .i64 L]) ∧ Hid (RdUs w' o1 cn c1 cs ∧ RdGu w' o2 gn c2 gv2 gs ∧ RdGu w' o3 ln c3 gv3 ls)) ∧ Below w.heap.size w w' := by
  have HC : Hid (∀ W', Below w.heap.size w W' → RdF W' co cn cc cs) := fun W' hb => hc.later hb
  have HG : Hid (∀ W', Below w.heap.size w W' → RdGs W' go gn gc gvg gs) := fun W' hb => hg.later hb
  have HL : Hid (∀ W', Below w.heap.size w W' → RdGs W' lo ln lc gvl ls) := fun W' hb => hl.later hb
  have HGL : Hid (∀ k, k < gn → (gvg k).2.1 ≤ 1050000) := hgl
  have HLL : Hid (∀ k, k < ln → (gvl k).2.1 ≤ 1050000) := hll
  have X0 : Below w.heap.size w ((w.alloc (.cells #[.slice co cn cc, .slice go gn gc, .int .i64 t, .slice lo ln lc, .int .i64 K, .int .i64 D, .int .i64 L] 28)).alloc (.cells #[.slice none 0 0, .slice none 0 0, .int .i64 0, .slice none 0 0, .int .i64 0, .int .i64 0, .int .i64 0] 36)) := ((Below.refl _ w).alloc (Nat.le_refl _) _).alloc (by simp only [alloc_size]; omega) _
  have Y0 : ((w.alloc (.cells #[.slice co cn cc, .slice go gn gc, .int .i64 t, .slice lo ln lc, .int .i64 K, .int .i64 D, .int .i64 L] 28)).alloc (.cells #[.slice none 0 0, .slice none 0 0, .int .i64 0, .slice none 0 0, .int .i64 0, .int .i64 0, .int .i64 0] 36)).heap[w.heap.size]? = some (.cells #[.slice co cn cc, .slice go gn gc, .int .i64 t, .slice lo ln lc, .int .i64 K, .int .i64 D, .int .i64 L] 28) := alloc_kept (heap_alloc_new w _) _
  have Y1 : ((w.alloc (.cells #[.slice co cn cc, .slice go gn gc, .int .i64 t, .slice lo ln lc, .int .i64 K, .int .i64 D, .int .i64 L] 28)).alloc (.cells #[.slice none 0 0, .slice none 0 0, .int .i64 0, .slice none 0 0, .int .i64 0, .int .i64 0, .int .i64 0] 36)).heap[w.heap.size + 1]? = some (.cells #[.slice none 0 0, .slice none 0 0, .int .i64 0, .slice none 0 0, .int .i64 0, .int .i64 0, .int .i64 0] 36) := heap_at _ _ (w.heap.size + 1) (by simp only [alloc_size])
  have HCN : Hid (cs.length = cn) := hc.length
  clear hc hg hl hgl hll
  go_enter Try.func6, Try.ntmps6
  go_upto_region 1 with fail
  obtain ⟨X, hX⟩ : ∃ X, ((w.alloc (.cells #[.slice co cn cc, .slice go gn gc, .int .i64 t, .slice lo ln lc, .int .i64 K, .int .i64 D, .int .i64 L] 28)).alloc (.cells #[.slice none 0 0, .slice none 0 0, .int .i64 0, .slice none 0 0, .int .i64 0, .int .i64 0, .int .i64 0] 36)) = X := ⟨_, rfl⟩
  rw [hX] at X0 Y0 Y1 ⊢
  have PX : Hid (Below w.heap.size w X ∧ X.heap[w.heap.size]? = some (.cells #[.slice co cn cc, .slice go gn gc, .int .i64 t, .slice lo ln lc, .int .i64 K, .int .i64 D, .int .i64 L] 28) ∧ X.heap[w.heap.size + 1]? = some (.cells #[.slice none 0 0, .slice none 0 0, .int .i64 0, .slice none 0 0, .int .i64 0, .int .i64 0, .int .i64 0] 36)) := ⟨X0, Y0, Y1⟩
  clear hX X0 Y0 Y1
  have SX : Below X.heap.size X X.drew := (Below.refl _ _).drew
  refine wp_region_noPanic ?_
  refine wp_region_P (S := (fun V => Below X.heap.size X V)) (s := 18) (by kernel_rfl) ?_
  refine takeP 3 (i := 0) (v := ?_) rfl rfl (by kernel_rfl) (by kernel_rfl) (by kernel_rfl) (by kernel_rfl) rfl (by kernel_rfl) (fun _ _ _ h => h) (Or.inl ⟨by kernel_rfl, ?_⟩) SX ?_
  rotate_left
  · intro w' hSw; have s0 := cellAtJ (kept hSw PX.out.2.1) 0 _ rfl; have s1 := cellAtJ (kept hSw PX.out.2.1) 1 _ rfl; have s2 := cellAtJ (kept hSw PX.out.2.1) 2 _ rfl; have s3 := cellAtJ (kept hSw PX.out.2.1) 3 _ rfl; have s4 := cellAtJ (kept hSw PX.out.2.1) 4 _ rfl; have s5 := cellAtJ (kept hSw PX.out.2.1) 5 _ rfl; have s6 := cellAtJ (kept hSw PX.out.2.1) 6 _ rfl; go_simp; try with_reducible rfl
  try simp only [Act.put, List.setIfInBounds_toArray, List.set_cons_zero, List.set_cons_succ]
  refine takeP 4 (i := 1) (v := ?_) rfl rfl (by kernel_rfl) (by kernel_rfl) (by kernel_rfl) (by kernel_rfl) rfl (by kernel_rfl) (fun _ _ _ h => h) (Or.inl ⟨by kernel_rfl, ?_⟩) SX ?_
  rotate_left
  · intro w' hSw; have s0 := cellAtJ (kept hSw PX.out.2.1) 0 _ rfl; have s1 := cellAtJ (kept hSw PX.out.2.1) 1 _ rfl; have s2 := cellAtJ (kept hSw PX.out.2.1) 2 _ rfl; have s3 := cellAtJ (kept hSw PX.out.2.1) 3 _ rfl; have s4 := cellAtJ (kept hSw PX.out.2.1) 4 _ rfl; have s5 := cellAtJ (kept hSw PX.out.2.1) 5 _ rfl; have s6 := cellAtJ (kept hSw PX.out.2.1) 6 _ rfl; go_simp; try with_reducible rfl
  try simp only [Act.put, List.setIfInBounds_toArray, List.set_cons_zero, List.set_cons_succ]
  refine takeP 6 (i := 3) (v := ?_) rfl rfl (by kernel_rfl) (by kernel_rfl) (by kernel_rfl) (by kernel_rfl) rfl (by kernel_rfl) (fun _ _ _ h => h) (Or.inl ⟨by kernel_rfl, ?_⟩) SX ?_
  rotate_left
  · intro w' hSw; have s0 := cellAtJ (kept hSw PX.out.2.1) 0 _ rfl; have s1 := cellAtJ (kept hSw PX.out.2.1) 1 _ rfl; have s2 := cellAtJ (kept hSw PX.out.2.1) 2 _ rfl; have s3 := cellAtJ (kept hSw PX.out.2.1) 3 _ rfl; have s4 := cellAtJ (kept hSw PX.out.2.1) 4 _ rfl; have s5 := cellAtJ (kept hSw PX.out.2.1) 5 _ rfl; have s6 := cellAtJ (kept hSw PX.out.2.1) 6 _ rfl; go_simp; try with_reducible rfl
  try simp only [Act.put, List.setIfInBounds_toArray, List.set_cons_zero, List.set_cons_succ]
  refine takeP 7 (i := 4) (v := ?_) rfl rfl (by kernel_rfl) (by kernel_rfl) (by kernel_rfl) (by kernel_rfl) rfl (by kernel_rfl) (fun _ _ _ h => h) (Or.inl ⟨by kernel_rfl, ?_⟩) SX ?_
  rotate_left
  · intro w' hSw; have s0 := cellAtJ (kept hSw PX.out.2.1) 0 _ rfl; have s1 := cellAtJ (kept hSw PX.out.2.1) 1 _ rfl; have s2 := cellAtJ (kept hSw PX.out.2.1) 2 _ rfl; have s3 := cellAtJ (kept hSw PX.out.2.1) 3 _ rfl; have s4 := cellAtJ (kept hSw PX.out.2.1) 4 _ rfl; have s5 := cellAtJ (kept hSw PX.out.2.1) 5 _ rfl; have s6 := cellAtJ (kept hSw PX.out.2.1) 6 _ rfl; go_simp; try with_reducible rfl
  try simp only [Act.put, List.setIfInBounds_toArray, List.set_cons_zero, List.set_cons_succ]
  refine takeP 9 (i := 6) (v := ?_) rfl rfl (by kernel_rfl) (by kernel_rfl) (by kernel_rfl) (by kernel_rfl) rfl (by kernel_rfl) (fun _ _ _ h => h) (Or.inl ⟨by kernel_rfl, ?_⟩) SX ?_
  rotate_left
  · intro w' hSw; have s0 := cellAtJ (kept hSw PX.out.2.1) 0 _ rfl; have s1 := cellAtJ (kept hSw PX.out.2.1) 1 _ rfl; have s2 := cellAtJ (kept hSw PX.out.2.1) 2 _ rfl; have s3 := cellAtJ (kept hSw PX.out.2.1) 3 _ rfl; have s4 := cellAtJ (kept hSw PX.out.2.1) 4 _ rfl; have s5 := cellAtJ (kept hSw PX.out.2.1) 5 _ rfl; have s6 := cellAtJ (kept hSw PX.out.2.1) 6 _ rfl; go_simp; try with_reducible rfl
  try simp only [Act.put, List.setIfInBounds_toArray, List.set_cons_zero, List.set_cons_succ]
  refine takeP 10 (i := 7) (v := ?_) rfl rfl (by kernel_rfl) (by kernel_rfl) (by kernel_rfl) (by kernel_rfl) rfl (by kernel_rfl) (fun _ _ _ h => h) (Or.inl ⟨by kernel_rfl, ?_⟩) SX ?_
  rotate_left
  · intro w' hSw; have s0 := cellAtJ (kept hSw PX.out.2.1) 0 _ rfl; have s1 := cellAtJ (kept hSw PX.out.2.1) 1 _ rfl; have s2 := cellAtJ (kept hSw PX.out.2.1) 2 _ rfl; have s3 := cellAtJ (kept hSw PX.out.2.1) 3 _ rfl; have s4 := cellAtJ (kept hSw PX.out.2.1) 4 _ rfl; have s5 := cellAtJ (kept hSw PX.out.2.1) 5 _ rfl; have s6 := cellAtJ (kept hSw PX.out.2.1) 6 _ rfl; go_simp; try with_reducible rfl
  try simp only [Act.put, List.setIfInBounds_toArray, List.set_cons_zero, List.set_cons_succ]
  refine takeP 11 (i := 8) (v := ?_) rfl rfl (by kernel_rfl) (by kernel_rfl) (by kernel_rfl) (by kernel_rfl) rfl (by kernel_rfl) (fun _ _ _ h => h) (Or.inl ⟨by kernel_rfl, ?_⟩) SX ?_
  rotate_left
  · intro w' hSw; have s0 := cellAtJ (kept hSw PX.out.2.1) 0 _ rfl; have s1 := cellAtJ (kept hSw PX.out.2.1) 1 _ rfl; have s2 := cellAtJ (kept hSw PX.out.2.1) 2 _ rfl; have s3 := cellAtJ (kept hSw PX.out.2.1) 3 _ rfl; have s4 := cellAtJ (kept hSw PX.out.2.1) 4 _ rfl; have s5 := cellAtJ (kept hSw PX.out.2.1) 5 _ rfl; have s6 := cellAtJ (kept hSw PX.out.2.1) 6 _ rfl; go_simp; try with_reducible rfl
  try simp only [Act.put, List.setIfInBounds_toArray, List.set_cons_zero, List.set_cons_succ]
  refine takeP 12 (i := 9) (v := ?_) rfl rfl (by kernel_rfl) (by kernel_rfl) (by kernel_rfl) (by kernel_rfl) rfl (by kernel_rfl) (fun _ _ _ h => h) (Or.inl ⟨by kernel_rfl, ?_⟩) SX ?_
  rotate_left
  · intro w' hSw; have s0 := cellAtJ (kept hSw PX.out.2.1) 0 _ rfl; have s1 := cellAtJ (kept hSw PX.out.2.1) 1 _ rfl; have s2 := cellAtJ (kept hSw PX.out.2.1) 2 _ rfl; have s3 := cellAtJ (kept hSw PX.out.2.1) 3 _ rfl; have s4 := cellAtJ (kept hSw PX.out.2.1) 4 _ rfl; have s5 := cellAtJ (kept hSw PX.out.2.1) 5 _ rfl; have s6 := cellAtJ (kept hSw PX.out.2.1) 6 _ rfl; go_simp; try with_reducible rfl
  try simp only [Act.put, List.setIfInBounds_toArray, List.set_cons_zero, List.set_cons_succ]
  refine takeP 14 (i := 11) (v := ?_) rfl rfl (by kernel_rfl) (by kernel_rfl) (by kernel_rfl) (by kernel_rfl) rfl (by kernel_rfl) (fun _ _ _ h => h) (Or.inl ⟨by kernel_rfl, ?_⟩) SX ?_
  rotate_left
  · intro w' hSw; have s0 := cellAtJ (kept hSw PX.out.2.1) 0 _ rfl; have s1 := cellAtJ (kept hSw PX.out.2.1) 1 _ rfl; have s2 := cellAtJ (kept hSw PX.out.2.1) 2 _ rfl; have s3 := cellAtJ (kept hSw PX.out.2.1) 3 _ rfl; have s4 := cellAtJ (kept hSw PX.out.2.1) 4 _ rfl; have s5 := cellAtJ (kept hSw PX.out.2.1) 5 _ rfl; have s6 := cellAtJ (kept hSw PX.out.2.1) 6 _ rfl; go_simp; try with_reducible rfl
  try simp only [Act.put, List.setIfInBounds_toArray, List.set_cons_zero, List.set_cons_succ]
  refine takeP 15 (i := 12) (v := ?_) rfl rfl (by kernel_rfl) (by kernel_rfl) (by kernel_rfl) (by kernel_rfl) rfl (by kernel_rfl) (fun _ _ _ h => h) (Or.inl ⟨by kernel_rfl, ?_⟩) SX ?_
  rotate_left
  · intro w' hSw; have s0 := cellAtJ (kept hSw PX.out.2.1) 0 _ rfl; have s1 := cellAtJ (kept hSw PX.out.2.1) 1 _ rfl; have s2 := cellAtJ (kept hSw PX.out.2.1) 2 _ rfl; have s3 := cellAtJ (kept hSw PX.out.2.1) 3 _ rfl; have s4 := cellAtJ (kept hSw PX.out.2.1) 4 _ rfl; have s5 := cellAtJ (kept hSw PX.out.2.1) 5 _ rfl; have s6 := cellAtJ (kept hSw PX.out.2.1) 6 _ rfl; go_simp; try with_reducible rfl
  try simp only [Act.put, List.setIfInBounds_toArray, List.set_cons_zero, List.set_cons_succ]
  refine takeP 16 (i := 13) (v := ?_) rfl rfl (by kernel_rfl) (by kernel_rfl) (by kernel_rfl) (by kernel_rfl) rfl (by kernel_rfl) (fun _ _ _ h => h) (Or.inl ⟨by kernel_rfl, ?_⟩) SX ?_
  rotate_left
  · intro w' hSw; have s0 := cellAtJ (kept hSw PX.out.2.1) 0 _ rfl; have s1 := cellAtJ (kept hSw PX.out.2.1) 1 _ rfl; have s2 := cellAtJ (kept hSw PX.out.2.1) 2 _ rfl; have s3 := cellAtJ (kept hSw PX.out.2.1) 3 _ rfl; have s4 := cellAtJ (kept hSw PX.out.2.1) 4 _ rfl; have s5 := cellAtJ (kept hSw PX.out.2.1) 5 _ rfl; have s6 := cellAtJ (kept hSw PX.out.2.1) 6 _ rfl; go_simp; try with_reducible rfl
  try simp only [Act.put, List.setIfInBounds_toArray, List.set_cons_zero, List.set_cons_succ]
  refine takeP 17 (i := 14) (v := ?_) rfl rfl (by kernel_rfl) (by kernel_rfl) (by kernel_rfl) (by kernel_rfl) rfl (by kernel_rfl) (fun _ _ _ h => h) (Or.inl ⟨by kernel_rfl, ?_⟩) SX ?_
  rotate_left
  · intro w' hSw; have s0 := cellAtJ (kept hSw PX.out.2.1) 0 _ rfl; have s1 := cellAtJ (kept hSw PX.out.2.1) 1 _ rfl; have s2 := cellAtJ (kept hSw PX.out.2.1) 2 _ rfl; have s3 := cellAtJ (kept hSw PX.out.2.1) 3 _ rfl; have s4 := cellAtJ (kept hSw PX.out.2.1) 4 _ rfl; have s5 := cellAtJ (kept hSw PX.out.2.1) 5 _ rfl; have s6 := cellAtJ (kept hSw PX.out.2.1) 6 _ rfl; go_simp; try with_reducible rfl
  try simp only [Act.put, List.setIfInBounds_toArray, List.set_cons_zero, List.set_cons_succ]
  refine takeP 18 (i := 15) (v := ?_) rfl rfl (by kernel_rfl) (by kernel_rfl) (by kernel_rfl) (by kernel_rfl) rfl (by kernel_rfl) (fun _ _ _ h => h) (Or.inl ⟨by kernel_rfl, ?_⟩) SX ?_
  rotate_left
  · intro w' hSw; have s0 := cellAtJ (kept hSw PX.out.2.1) 0 _ rfl; have s1 := cellAtJ (kept hSw PX.out.2.1) 1 _ rfl; have s2 := cellAtJ (kept hSw PX.out.2.1) 2 _ rfl; have s3 := cellAtJ (kept hSw PX.out.2.1) 3 _ rfl; have s4 := cellAtJ (kept hSw PX.out.2.1) 4 _ rfl; have s5 := cellAtJ (kept hSw PX.out.2.1) 5 _ rfl; have s6 := cellAtJ (kept hSw PX.out.2.1) 6 _ rfl; go_simp; try with_reducible rfl
  try simp only [Act.put, List.setIfInBounds_toArray, List.set_cons_zero, List.set_cons_succ]
  refine takeP 19 (i := 16) (v := ?_) rfl rfl (by kernel_rfl) (by kernel_rfl) (by kernel_rfl) (by kernel_rfl) rfl (by kernel_rfl) (fun _ _ _ h => h) (Or.inl ⟨by kernel_rfl, ?_⟩) SX ?_
  rotate_left
  · intro w' hSw; have s0 := cellAtJ (kept hSw PX.out.2.1) 0 _ rfl; have s1 := cellAtJ (kept hSw PX.out.2.1) 1 _ rfl; have s2 := cellAtJ (kept hSw PX.out.2.1) 2 _ rfl; have s3 := cellAtJ (kept hSw PX.out.2.1) 3 _ rfl; have s4 := cellAtJ (kept hSw PX.out.2.1) 4 _ rfl; have s5 := cellAtJ (kept hSw PX.out.2.1) 5 _ rfl; have s6 := cellAtJ (kept hSw PX.out.2.1) 6 _ rfl; go_simp; try with_reducible rfl
  try simp only [Act.put, List.setIfInBounds_toArray, List.set_cons_zero, List.set_cons_succ]
  refine wpAnyP_ready (rs := [2]) (by kernel_rfl) (by simp) ?_
  refine consP _ rfl (hopCd 5 rfl (by kernel_rfl) rfl (by kernel_rfl) (Calls.mono (bits6_any co cn cc cs _ (HC.out _ (to_call PX.out.1 SX)) hcn) ?_)) AllReadyP.nil
  rintro e V1 ⟨v1, rfl, ho1, b1⟩
  have SX : Below X.heap.size X V1 := to_call SX b1
  obtain ⟨o1, c1, rfl, -⟩ := rdU_own ho1
  rw [HCN.out] at ho1 ⊢
  clear b1
  refine ⟨_, rfl, SX, ?_⟩
  try simp only [Act.put, List.setIfInBounds_toArray, List.set_cons_zero, List.set_cons_succ]
  refine wpAnyP_ready (rs := [5]) (by kernel_rfl) (by simp) ?_
  refine consP _ rfl (hopCd 8 rfl (by kernel_rfl) rfl (by kernel_rfl) (Calls.mono (bitsOf6_any go gn gc gvg gs _ (HG.out _ (to_call PX.out.1 SX)) hgn HGL.out) ?_)) AllReadyP.nil
  rintro e V2 ⟨⟨o2, c2, gl2, rfl, hq2⟩, b2⟩
  have ho1 := owns_keepT ho1 fun k cur hc => b2.block k (blk_lt hc)
  have SX : Below X.heap.size X V2 := to_call SX b2
  clear b2
  refine ⟨_, rfl, SX, ?_⟩
  try simp only [Act.put, List.setIfInBounds_toArray, List.set_cons_zero, List.set_cons_succ]
  refine wpAnyP_ready (rs := [10]) (by kernel_rfl) (by simp) ?_
  refine consP _ rfl (hopCd 13 rfl (by kernel_rfl) rfl (by kernel_rfl) (Calls.mono (bitsOf6_any lo ln lc gvl ls _ (HL.out _ (to_call PX.out.1 SX)) hln HLL.out) ?_)) AllReadyP.nil
  rintro e V3 ⟨⟨o3, c3, gl3, rfl, hq3⟩, b3⟩
  have ho1 := owns_keepT ho1 fun k cur hc => b3.block k (blk_lt hc)
  have hq2 := hq2.out.later b3
  have SX : Below X.heap.size X V3 := to_call SX b3
  clear b3
  refine ⟨_, rfl, SX, ?_⟩
  try simp only [Act.put, List.setIfInBounds_toArray, List.set_cons_zero, List.set_cons_succ]
  refine takeP 20 (i := 17) (v := ?_) rfl rfl (by kernel_rfl) (by kernel_rfl) (by kernel_rfl) (by kernel_rfl) rfl (by kernel_rfl) (fun _ _ _ h => h) (Or.inl ⟨by kernel_rfl, ?_⟩) SX ?_
  rotate_left
  · intro w' hSw; skip; go_simp; try with_reducible rfl
  try simp only [Act.put, List.setIfInBounds_toArray, List.set_cons_zero, List.set_cons_succ]
  refine wpAnyP_ready (rs := [18]) (by kernel_rfl) (by simp) ?_
  refine consPs _ rfl (by kernel_rfl) (hopL rfl (wpList_store_row (by rfl) 36 _ _ (by rfl) w w.heap.size (w.heap.size + 1) #[.slice o1 cn c1, .slice o2 gn c2, .int .i64 t, .slice o3 ln c3, .int .i64 K, .int .i64 D, .int .i64 L] _ (by kernel_rfl) (by kernel_rfl) (kept SX PX.out.2.2) (to_call PX.out.1 SX) (Nat.le_succ _) 7 Try.infoRefPropM rfl rfl (one7M _ _ _ _ _ _ _ _ _ _ _ _ _) fun W9 e9 b9 s9 o9 => ?_)) AllReadyP.nil
  refine ⟨trivial, ?_⟩
  try simp only [Act.put, List.setIfInBounds_toArray, List.set_cons_zero, List.set_cons_succ]
  refine wpAnyP_done (by kernel_rfl) ?_ _
  refine NoPanic.normal ?_
  try simp only [Act.put, List.setIfInBounds_toArray, List.set_cons_zero, List.set_cons_succ]
  have hkt : ∀ (k : Nat) (cur : Array Value) (ty : TypeId), ty ≠ 36 → V3.heap[k]? = some (.cells cur ty) → W9.heap[k]? = V3.heap[k]? := fun k cur ty ht hc => o9 k fun e => ht (by
    have h9 := kept SX PX.out.2.2
    rw [e] at hc
    rw [h9] at hc
    injection hc with hc
    injection hc with _ hc
    exact hc.symm)
  have HL9 := hq3.out.keepP hkt
  have HG9 := hq2.keepP hkt
  have HC9 := owns_keepT ho1 fun k cur hc => hkt k cur _ (by decide) hc
  obtain ⟨gv3, hr9⟩ := HL9.guS
  obtain ⟨gv2, hr8⟩ := HG9.guS
  have hr7 : RdUs W9 o1 cn c1 cs := by
    have h9 := HC9
    rw [← HCN.out] at h9
    obtain ⟨ao, cap, e, h⟩ := rdU_of h9
    rw [HCN.out] at e h
    cases e
    exact h
  have HR9 : Hid (RdUs W9 o1 cn c1 cs ∧ RdGu W9 o2 gn c2 gv2 gs ∧ RdGu W9 o3 ln c3 gv3 ls) := ⟨hr7, hr8, hr9⟩
  have E9 : Hid (W9.heap[w.heap.size + 1]? = some (.cells #[.slice o1 cn c1, .slice o2 gn c2, .int .i64 t, .slice o3 ln c3, .int .i64 K, .int .i64 D, .int .i64 L] 36)) := e9
  have B9 : Hid (Below w.heap.size w W9) := b9
  clear SX e9 b9 s9 o9 hq3 hq2 ho1 hkt HL9 HG9 HC9 hr9 hr8 hr7 PX
  go_wp2_with fail
  refine bodyPost_ret (res_propM _ 2 (by kernel_rfl) _ _ (w.heap.size + 1) _ (by rfl) rfl E9.out) rfl ?_
  exact ⟨⟨o1, o2, o3, c1, c2, c3, gv2, gv3, rfl, HR9⟩, B9.out⟩
set_option maxRecDepth 100000 in
set_option maxHeartbeats 4000000 in
theorem samePropA_any (o1 o2 o3 p1 p2 p3 : Option Addr) (cn gn ln c1 c2 c3 d1 d2 d3 : Nat) (gv2 gv3 hv2 hv3 : Nat → Option Addr × Nat × Nat) (cs : List Nat) (gs ls : List (List Nat)) (t K D L : Int) (w : World)
    (h1 : RdUs w o1 cn c1 cs) (h2 : RdGu w o2 gn c2 gv2 gs) (h3 : RdGu w o3 ln c3 gv3 ls) (k1 : RdUs w p1 cn d1 cs) (k2 : RdGu w p2 gn d2 hv2 gs) (k3 : RdGu w p3 ln d3 hv3 ls) :
    Calls Try.prog 13 #[.agg #[.slice o1 cn c1, .slice o2 gn c2, .int .i64 t, .slice o3 ln c3, .int .i64 K, .int .i64 D, .int .i64 L], .agg #[.slice p1 cn d1, .slice p2 gn d2, .int .i64 t, .slice p3 ln d3, .int .i64 K, .int .i64 D, .int .i64 L]] w fun e w' => e = .returned (.bool true) ∧ Below w.heap.size w w' := by
  have HC1 : Hid (∀ W, Below w.heap.size w W → Calls Try.prog 23 #[.slice o1 cn c1, .slice p1 cn d1] W fun e w' => e = .returned (.bool true) ∧ Below W.heap.size W w') := fun W hb => sameSelf6 o1 p1 cn cn c1 d1 cs W (h1.later hb) (k1.later hb)
  have HC2 : Hid (∀ W, Below w.heap.size w W → Calls Try.prog 8 #[.slice o2 gn c2, .slice p2 gn d2] W fun e w' => e = .returned (.bool true) ∧ Below W.heap.size W w') := fun W hb => sameLists6_any o2 p2 gn c2 d2 gv2 hv2 gs W (h2.later hb) (k2.later hb)
  have HC3 : Hid (∀ W, Below w.heap.size w W → Calls Try.prog 8 #[.slice o3 ln c3, .slice p3 ln d3] W fun e w' => e = .returned (.bool true) ∧ Below W.heap.size W w') := fun W hb => sameLists6_any o3 p3 ln c3 d3 gv3 hv3 ls W (h3.later hb) (k3.later hb)
  clear h1 h2 h3 k1 k2 k3
  go_enter Try.func13, Try.ntmps13
  go_upto_region 1 with fail
  have k0 := alloc_kept (heap_alloc_new w (Obj.cells #[.slice o1 cn c1, .slice o2 gn c2, .int .i64 t, .slice o3 ln c3, .int .i64 K, .int .i64 D, .int .i64 L] 36)) (Obj.cells #[.slice p1 cn d1, .slice p2 gn d2, .int .i64 t, .slice p3 ln d3, .int .i64 K, .int .i64 D, .int .i64 L] 36)
  have k1 := heap_at (w.alloc (Obj.cells #[.slice o1 cn c1, .slice o2 gn c2, .int .i64 t, .slice o3 ln c3, .int .i64 K, .int .i64 D, .int .i64 L] 36)) (Obj.cells #[.slice p1 cn d1, .slice p2 gn d2, .int .i64 t, .slice p3 ln d3, .int .i64 K, .int .i64 D, .int .i64 L] 36) (w.heap.size + 1) (by simp only [alloc_size])
  have hb0 := ((Below.refl _ w).alloc (Nat.le_refl _) (Obj.cells #[.slice o1 cn c1, .slice o2 gn c2, .int .i64 t, .slice o3 ln c3, .int .i64 K, .int .i64 D, .int .i64 L] 36)).alloc (by simp only [alloc_size]; omega) (Obj.cells #[.slice p1 cn d1, .slice p2 gn d2, .int .i64 t, .slice p3 ln d3, .int .i64 K, .int .i64 D, .int .i64 L] 36)
  obtain ⟨W0, hW0⟩ : ∃ W0, (w.alloc (Obj.cells #[.slice o1 cn c1, .slice o2 gn c2, .int .i64 t, .slice o3 ln c3, .int .i64 K, .int .i64 D, .int .i64 L] 36)).alloc (Obj.cells #[.slice p1 cn d1, .slice p2 gn d2, .int .i64 t, .slice p3 ln d3, .int .i64 K, .int .i64 D, .int .i64 L] 36) = W0 := ⟨_, rfl⟩
  rw [hW0] at k0 k1 hb0 ⊢
  clear hW0
  have HB0 : Hid (Below w.heap.size w W0) := hb0
  have HK0 : Hid _ := (And.intro k0 k1)
  obtain ⟨a0, a1, a2, a3, a4, a5, a6⟩ := cells7L k0
  obtain ⟨b0, b1, b2, b3, b4, b5, b6⟩ := cells7L k1
  clear k0 k1 hb0
  go_wp2_with fail
  refine Calls.mono (HC1.out _ HB0.out) ?_
  rintro e W1 ⟨rfl, bb⟩
  have HB1 : Hid (Below w.heap.size w W1) := to_call HB0.out bb
  have HK1 : Hid _ := (And.intro (kept bb HK0.out.1) (kept bb HK0.out.2))
  clear bb HK0 HB0 HC1 a0 a1 a2 a3 a4 a5 a6 b0 b1 b2 b3 b4 b5 b6
  obtain ⟨a0, a1, a2, a3, a4, a5, a6⟩ := cells7L HK1.out.1
  obtain ⟨b0, b1, b2, b3, b4, b5, b6⟩ := cells7L HK1.out.2
  go_wp2_with fail
  refine Calls.mono (HC2.out _ HB1.out) ?_
  rintro e W2 ⟨rfl, bb⟩
  have HB2 : Hid (Below w.heap.size w W2) := to_call HB1.out bb
  have HK2 : Hid _ := (And.intro (kept bb HK1.out.1) (kept bb HK1.out.2))
  clear bb HK1 HB1 HC2 a0 a1 a2 a3 a4 a5 a6 b0 b1 b2 b3 b4 b5 b6
  obtain ⟨a0, a1, a2, a3, a4, a5, a6⟩ := cells7L HK2.out.1
  obtain ⟨b0, b1, b2, b3, b4, b5, b6⟩ := cells7L HK2.out.2
  go_wp2_with fail
  refine Calls.mono (HC3.out _ HB2.out) ?_
  rintro e W3 ⟨rfl, bb⟩
  have HB3 : Hid (Below w.heap.size w W3) := to_call HB2.out bb
  have HK3 : Hid _ := (And.intro (kept bb HK2.out.1) (kept bb HK2.out.2))
  clear bb HK2 HB2 HC3 a0 a1 a2 a3 a4 a5 a6 b0 b1 b2 b3 b4 b5 b6
  obtain ⟨a0, a1, a2, a3, a4, a5, a6⟩ := cells7L HK3.out.1
  obtain ⟨b0, b1, b2, b3, b4, b5, b6⟩ := cells7L HK3.out.2
  go_wp2
  go_ret
  exact ⟨rfl, HB3.out⟩
end Go.Proofs.Ytaloaholmhcflaa
