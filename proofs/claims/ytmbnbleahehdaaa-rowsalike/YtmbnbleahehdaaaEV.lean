import Derived.Test.YtmbnbleahehdaaaMKA
import Derived.Test.YtmbnbleahehdaaaGR
import Derived.Test.YtmbnbleahehdaaaKL
namespace Go.Proofs.Ytmbnbleahehdaaa
open Go.RowKit
set_option linter.unusedVariables false
set_option linter.unusedSimpArgs false

set_option maxRecDepth 100000 in
set_option maxHeartbeats 4000000 in
theorem refOutD (g0 g1 g2 g3 g4 g5 g6 g7 c h k n n' : Int) (a9 v1 v2 v3 v4 : Value) 
    (hF : ∀ w, Calls Try.prog 41 #[.agg #[.int .i64 1, .int .i64 g0, .int .i64 g1, .int .i64 g2, .int .i64 g3, .int .i64 g4, .int .i64 g5, .int .i64 g6, .int .i64 g7, a9, v1, v2, v3, v4]] w fun e w' => e = .returned (.int .i64 0) ∧ Below w.heap.size w w')
    (hS : ∀ w, Calls Try.prog 12 #[.agg #[.int .i64 c, .int .i64 h, .int .i64 k]] w fun e w' => e = .returned (.tuple #[.int .i64 n, .int .i64 0]) ∧ Below w.heap.size w w')
    (hT : ∀ w, Calls Try.prog 12 #[.agg #[.int .i64 g0, .int .i64 1, .int .i64 1]] w fun e w' => e = .returned (.tuple #[.int .i64 n', .int .i64 0]) ∧ Below w.heap.size w w') (w : World) :
    Calls Try.prog 30 #[.agg #[.int .i64 1, .int .i64 g0, .int .i64 g1, .int .i64 g2, .int .i64 g3, .int .i64 g4, .int .i64 g5, .int .i64 g6, .int .i64 g7, a9, v1, v2, v3, v4], .agg #[.int .i64 c, .int .i64 h, .int .i64 k]] w fun e w' => e = .returned (.tuple #[.agg #[.int .i64 g0, .int .i64 1, .int .i64 1], .int .i64 0]) ∧ Below w.heap.size w w' := by
  have HF : Hid _ := hF
  have HS : Hid _ := hS
  have HT : Hid _ := hT
  clear hF hS hT
  have X0 : Below w.heap.size w (((w.alloc (.cells #[.int .i64 1, .int .i64 g0, .int .i64 g1, .int .i64 g2, .int .i64 g3, .int .i64 g4, .int .i64 g5, .int .i64 g6, .int .i64 g7, a9, v1, v2, v3, v4] 56)).alloc (.cells #[.int .i64 c, .int .i64 h, .int .i64 k] 25)).alloc (.cells #[.int .i64 0, .int .i64 0, .int .i64 0] 25)) := (((Below.refl _ w).alloc (Nat.le_refl _) _).alloc (by simp only [alloc_size]; omega) _).alloc (by simp only [alloc_size]; omega) _
  go_enter Try.func30, Try.ntmps30
  go_wp2_with fail
  refine Calls.mono (HF.out _) ?_
  rintro e w1 ⟨rfl, hb⟩
  have B1 : Hid (Below w.heap.size w w1) := to_call X0 hb
  have k0 := kept hb (alloc_kept (alloc_kept (heap_alloc_new w _) _) _)
  have k1 := kept hb (alloc_kept (heap_at _ _ (w.heap.size + 1) (by simp only [alloc_size])) _)
  have k2 := kept hb (heap_at _ _ (w.heap.size + 1 + 1) (by simp only [alloc_size]))
  have HK : Hid (w1.heap[w.heap.size]? = _ ∧ w1.heap[w.heap.size + 1]? = _ ∧ w1.heap[w.heap.size + 1 + 1]? = _) := ⟨k0, k1, k2⟩
  obtain ⟨b0, b1, b2⟩ := cells3 k1
  clear hb X0 HF k0 k1 k2
  go_upto_region 5 with (first | (go_at_call 12; refine Calls.mono (HS.out _) ?_; rintro e w2 ⟨rfl, hb2⟩))
  have B2 : Hid (Below w.heap.size w w2) := to_call B1.out hb2
  have HK2 : Hid (w2.heap[w.heap.size]? = _ ∧ w2.heap[w.heap.size + 1]? = _ ∧ w2.heap[w.heap.size + 1 + 1]? = _) := ⟨kept hb2 HK.out.1, kept hb2 HK.out.2.1, kept hb2 HK.out.2.2⟩
  have hsz := blk_lt HK2.out.2.2
  clear b0 b1 b2 hb2 HK HS
  obtain ⟨b0, b1, b2⟩ := cells3 HK2.out.2.1
  obtain ⟨a0, a1, a2, a3, a4, a5, a6, a7, a8, -, -, -, -, -⟩ := cells14 HK2.out.1
  have hp2 : (w2.alloc (.cells #[.int .i64 0, .int .i64 0, .int .i64 0] 25)).heap[w.heap.size]? = _ ∧ (w2.alloc (.cells #[.int .i64 0, .int .i64 0, .int .i64 0] 25)).heap[w.heap.size + 1]? = _ ∧ (w2.alloc (.cells #[.int .i64 0, .int .i64 0, .int .i64 0] 25)).heap[w.heap.size + 1 + 1]? = _ := ⟨alloc_kept HK2.out.1 _, alloc_kept HK2.out.2.1 _, alloc_kept HK2.out.2.2 _⟩
  go_upto_region 8 with (first | (refine wpList_store_row (by rfl) 25 _ _ (by rfl) w w.heap.size w2.heap.size _ _ (by rfl) (by rfl) (heap_alloc_new w2 _) (B2.out.alloc B2.out.size _) (by omega) 3 Try.infoShape (by rfl) (by rfl) (by exact one3 ..) ?_; intro W3 e3 hb3 hs3 ho3))
  clear a0 a1 a2 a3 a4 a5 a6 a7 a8 b0 b1 b2
  have HK3 : Hid (W3.heap[w.heap.size]? = _ ∧ W3.heap[w.heap.size + 1]? = _ ∧ W3.heap[w.heap.size + 1 + 1]? = _) := ⟨(ho3 _ (by omega)).trans (hp2.1), (ho3 _ (by omega)).trans (hp2.2.1), (ho3 _ (by omega)).trans (hp2.2.2)⟩
  obtain ⟨b0, b1, b2⟩ := cells3 HK3.out.2.1
  obtain ⟨a0, a1, a2, a3, a4, a5, a6, a7, a8, -, -, -, -, -⟩ := cells14 HK3.out.1
  have hlt3 := blk_lt e3
  clear hp2
  go_upto_region 24 with (first | (refine wpList_store_row (by rfl) 25 _ _ (by rfl) w w.heap.size w2.heap.size _ _ (by rfl) (by rfl) e3 hb3 (by omega) 3 Try.infoShape (by rfl) (by rfl) (by exact one3 ..) ?_; intro W4 e4 hb4 hs4 ho4))
  clear a0 a1 a2 a3 a4 a5 a6 a7 a8 b0 b1 b2
  have HK4 : Hid (W4.heap[w.heap.size]? = _ ∧ W4.heap[w.heap.size + 1]? = _ ∧ W4.heap[w.heap.size + 1 + 1]? = _) := ⟨(ho4 _ (by omega)).trans (HK3.out.1), (ho4 _ (by omega)).trans (HK3.out.2.1), (ho4 _ (by omega)).trans (HK3.out.2.2)⟩
  obtain ⟨b0, b1, b2⟩ := cells3 HK4.out.2.1
  obtain ⟨a0, a1, a2, a3, a4, a5, a6, a7, a8, -, -, -, -, -⟩ := cells14 HK4.out.1
  clear ho3 ho4 hs3 hs4 hb3 e3 HK3 HK2
  have X3 := hb4
  obtain ⟨s0, s1, s2⟩ := cells3 e4
  go_wp2_with fail
  refine Calls.mono (HT.out _) ?_
  rintro e w3 ⟨rfl, hb3⟩
  have B3 : Hid (Below w.heap.size w w3) := to_call X3 hb3
  have K3 : Hid (w3.heap[w.heap.size + 1 + 1]? = _) := kept hb3 HK4.out.2.2
  have Z3 := kept hb3 e4
  clear s0 s1 s2 a0 a1 a2 a3 a4 a5 a6 a7 a8 b0 b1 b2 hb3 X3 HT
  obtain ⟨s0, s1, s2⟩ := cells3 Z3
  go_wp2_with (first | (refine wpList_store_row (by rfl) 25 _ _ (by rfl) w w.heap.size (w.heap.size + 1 + 1) _ _ (by rfl) (by rfl) K3.out B3.out (by omega) 3 Try.infoShape (by rfl) (by rfl) (by exact one3 ..) ?_; intro W9 e9 hb9 hs9 ho9))
  refine bodyPost_ret (res_shape _ 4 5 (by kernel_rfl) _ _ (w.heap.size + 1 + 1) _ _ (by rfl) (by rfl) rfl e9) rfl ?_
  exact ⟨rfl, hb9⟩
set_option maxRecDepth 100000 in
set_option maxHeartbeats 4000000 in
theorem refOutC (g0 g7 c n n' : Int) (a9 v1 v2 v3 v4 : Value) 
    (hF : ∀ w, Calls Try.prog 41 #[.agg #[.int .i64 2, .int .i64 g0, .int .i64 1, .int .i64 1, .int .i64 1, .int .i64 1, .int .i64 0, .int .i64 0, .int .i64 g7, a9, v1, v2, v3, v4]] w fun e w' => e = .returned (.int .i64 0) ∧ Below w.heap.size w w')
    (hS : ∀ w, Calls Try.prog 12 #[.agg #[.int .i64 c, .int .i64 1, .int .i64 1]] w fun e w' => e = .returned (.tuple #[.int .i64 n, .int .i64 0]) ∧ Below w.heap.size w w')
    (hT : ∀ w, Calls Try.prog 12 #[.agg #[.int .i64 g0, .int .i64 1, .int .i64 1]] w fun e w' => e = .returned (.tuple #[.int .i64 n', .int .i64 0]) ∧ Below w.heap.size w w') (w : World) :
    Calls Try.prog 30 #[.agg #[.int .i64 2, .int .i64 g0, .int .i64 1, .int .i64 1, .int .i64 1, .int .i64 1, .int .i64 0, .int .i64 0, .int .i64 g7, a9, v1, v2, v3, v4], .agg #[.int .i64 c, .int .i64 1, .int .i64 1]] w fun e w' => e = .returned (.tuple #[.agg #[.int .i64 g0, .int .i64 1, .int .i64 1], .int .i64 0]) ∧ Below w.heap.size w w' := by
  have HF : Hid _ := hF
  have HS : Hid _ := hS
  have HT : Hid _ := hT
  clear hF hS hT
  have X0 : Below w.heap.size w (((w.alloc (.cells #[.int .i64 2, .int .i64 g0, .int .i64 1, .int .i64 1, .int .i64 1, .int .i64 1, .int .i64 0, .int .i64 0, .int .i64 g7, a9, v1, v2, v3, v4] 56)).alloc (.cells #[.int .i64 c, .int .i64 1, .int .i64 1] 25)).alloc (.cells #[.int .i64 0, .int .i64 0, .int .i64 0] 25)) := (((Below.refl _ w).alloc (Nat.le_refl _) _).alloc (by simp only [alloc_size]; omega) _).alloc (by simp only [alloc_size]; omega) _
  go_enter Try.func30, Try.ntmps30
  go_wp2_with fail
  refine Calls.mono (HF.out _) ?_
  rintro e w1 ⟨rfl, hb⟩
  have B1 : Hid (Below w.heap.size w w1) := to_call X0 hb
  have k0 := kept hb (alloc_kept (alloc_kept (heap_alloc_new w _) _) _)
  have k1 := kept hb (alloc_kept (heap_at _ _ (w.heap.size + 1) (by simp only [alloc_size])) _)
  have k2 := kept hb (heap_at _ _ (w.heap.size + 1 + 1) (by simp only [alloc_size]))
  have HK : Hid (w1.heap[w.heap.size]? = _ ∧ w1.heap[w.heap.size + 1]? = _ ∧ w1.heap[w.heap.size + 1 + 1]? = _) := ⟨k0, k1, k2⟩
  obtain ⟨b0, b1, b2⟩ := cells3 k1
  clear hb X0 HF k0 k1 k2
  go_upto_region 5 with (first | (go_at_call 12; refine Calls.mono (HS.out _) ?_; rintro e w2 ⟨rfl, hb2⟩))
  have B2 : Hid (Below w.heap.size w w2) := to_call B1.out hb2
  have HK2 : Hid (w2.heap[w.heap.size]? = _ ∧ w2.heap[w.heap.size + 1]? = _ ∧ w2.heap[w.heap.size + 1 + 1]? = _) := ⟨kept hb2 HK.out.1, kept hb2 HK.out.2.1, kept hb2 HK.out.2.2⟩
  have hsz := blk_lt HK2.out.2.2
  clear b0 b1 b2 hb2 HK HS
  obtain ⟨b0, b1, b2⟩ := cells3 HK2.out.2.1
  obtain ⟨a0, a1, a2, a3, a4, a5, a6, a7, a8, -, -, -, -, -⟩ := cells14 HK2.out.1
  have hp2 : (w2.alloc (.cells #[.int .i64 0, .int .i64 0, .int .i64 0] 25)).heap[w.heap.size]? = _ ∧ (w2.alloc (.cells #[.int .i64 0, .int .i64 0, .int .i64 0] 25)).heap[w.heap.size + 1]? = _ ∧ (w2.alloc (.cells #[.int .i64 0, .int .i64 0, .int .i64 0] 25)).heap[w.heap.size + 1 + 1]? = _ := ⟨alloc_kept HK2.out.1 _, alloc_kept HK2.out.2.1 _, alloc_kept HK2.out.2.2 _⟩
  go_upto_region 8 with (first | (refine wpList_store_row (by rfl) 25 _ _ (by rfl) w w.heap.size w2.heap.size _ _ (by rfl) (by rfl) (heap_alloc_new w2 _) (B2.out.alloc B2.out.size _) (by omega) 3 Try.infoShape (by rfl) (by rfl) (by exact one3 ..) ?_; intro W3 e3 hb3 hs3 ho3))
  clear a0 a1 a2 a3 a4 a5 a6 a7 a8 b0 b1 b2
  have HK3 : Hid (W3.heap[w.heap.size]? = _ ∧ W3.heap[w.heap.size + 1]? = _ ∧ W3.heap[w.heap.size + 1 + 1]? = _) := ⟨(ho3 _ (by omega)).trans (hp2.1), (ho3 _ (by omega)).trans (hp2.2.1), (ho3 _ (by omega)).trans (hp2.2.2)⟩
  obtain ⟨b0, b1, b2⟩ := cells3 HK3.out.2.1
  obtain ⟨a0, a1, a2, a3, a4, a5, a6, a7, a8, -, -, -, -, -⟩ := cells14 HK3.out.1
  have hlt3 := blk_lt e3
  clear hp2
  go_upto_region 18 with fail
  go_quiet (fail)
  go_upto_region 21 with fail
  have hS : (fun w' => w'.cell? ⟨w.heap.size + 1, 0, none⟩ = some (.int .i64 c) ∧ w'.cell? ⟨w.heap.size, 4, none⟩ = some (.int .i64 1) ∧ w'.cell? ⟨w.heap.size, 5, none⟩ = some (.int .i64 1)) (W3.drewN nq).drew := ⟨b0, a4, a5⟩
  clear a0 a1 a2 a3 a4 a5 a6 a7 a8 b0 b1 b2
  refine wp_region_noPanic ?_
  refine wp_region_held_drew (S := (fun w' => w'.cell? ⟨w.heap.size + 1, 0, none⟩ = some (.int .i64 c) ∧ w'.cell? ⟨w.heap.size, 4, none⟩ = some (.int .i64 1) ∧ w'.cell? ⟨w.heap.size, 5, none⟩ = some (.int .i64 1))) (by kernel_rfl) hS (fun _ => ?_)
  refine takeH 73 (i := 0) (v := ?_) rfl rfl (by kernel_rfl) (by kernel_rfl) (by kernel_rfl) (fun _ _ _ h => h) (Or.inl ⟨by kernel_rfl, ?_⟩) (by assumption) ?_
  rotate_left
  · intro w' hSw; (try dsimp only at hSw); go_simp; try with_reducible rfl
  try simp only [Act.put, List.setIfInBounds_toArray, List.set_cons_zero, List.set_cons_succ]
  refine takeH 74 (i := 1) (v := ?_) rfl rfl (by kernel_rfl) (by kernel_rfl) (by kernel_rfl) (fun _ _ _ h => h) (Or.inl ⟨by kernel_rfl, ?_⟩) (by assumption) ?_
  rotate_left
  · intro w' hSw; (try dsimp only at hSw); go_simp; try with_reducible rfl
  try simp only [Act.put, List.setIfInBounds_toArray, List.set_cons_zero, List.set_cons_succ]
  refine takeH 75 (i := 2) (v := ?_) rfl rfl (by kernel_rfl) (by kernel_rfl) (by kernel_rfl) (fun _ _ _ h => h) (Or.inl ⟨by kernel_rfl, ?_⟩) (by assumption) ?_
  rotate_left
  · intro w' hSw; (try dsimp only at hSw); go_simp; try with_reducible rfl
  try simp only [Act.put, List.setIfInBounds_toArray, List.set_cons_zero, List.set_cons_succ]
  refine takeH 76 (i := 3) (v := ?_) rfl rfl (by kernel_rfl) (by kernel_rfl) (by kernel_rfl) (fun _ _ _ h => h) (Or.inl ⟨by kernel_rfl, ?_⟩) (by assumption) ?_
  rotate_left
  · intro w' hSw; (try dsimp only at hSw); go_simp; try with_reducible rfl
  try simp only [Act.put, List.setIfInBounds_toArray, List.set_cons_zero, List.set_cons_succ]
  refine takeH 77 (i := 4) (v := ?_) rfl rfl (by kernel_rfl) (by kernel_rfl) (by kernel_rfl) (fun _ _ _ h => h) (Or.inl ⟨by kernel_rfl, ?_⟩) (by assumption) ?_
  rotate_left
  · intro w' hSw; (try dsimp only at hSw); go_simp; try with_reducible rfl
  try simp only [Act.put, List.setIfInBounds_toArray, List.set_cons_zero, List.set_cons_succ]
  refine takeH 78 (i := 5) (v := ?_) rfl rfl (by kernel_rfl) (by kernel_rfl) (by kernel_rfl) (fun _ _ _ h => h) (Or.inl ⟨by kernel_rfl, ?_⟩) (by assumption) ?_
  rotate_left
  · intro w' hSw; (try dsimp only at hSw); go_simp; try with_reducible rfl
  try simp only [Act.put, List.setIfInBounds_toArray, List.set_cons_zero, List.set_cons_succ]
  refine takeH 79 (i := 6) (v := ?_) rfl rfl (by kernel_rfl) (by kernel_rfl) (by kernel_rfl) (fun _ _ _ h => h) (Or.inl ⟨by kernel_rfl, ?_⟩) (by assumption) ?_
  rotate_left
  · intro w' hSw; (try dsimp only at hSw); go_simp; try with_reducible rfl
  try simp only [Act.put, List.setIfInBounds_toArray, List.set_cons_zero, List.set_cons_succ]
  refine takeH 80 (i := 7) (v := ?_) rfl rfl (by kernel_rfl) (by kernel_rfl) (by kernel_rfl) (fun _ _ _ h => h) (Or.inl ⟨by kernel_rfl, ?_⟩) (by assumption) ?_
  rotate_left
  · intro w' hSw; (try dsimp only at hSw); go_simp; try with_reducible rfl
  try simp only [Act.put, List.setIfInBounds_toArray, List.set_cons_zero, List.set_cons_succ]
  refine takeH 81 (i := 8) (v := ?_) rfl rfl (by kernel_rfl) (by kernel_rfl) (by kernel_rfl) (fun _ _ _ h => h) (Or.inl ⟨by kernel_rfl, ?_⟩) (by assumption) ?_
  rotate_left
  · intro w' hSw; (try dsimp only at hSw); go_simp; try with_reducible rfl
  try simp only [Act.put, List.setIfInBounds_toArray, List.set_cons_zero, List.set_cons_succ]
  refine takeH 82 (i := 9) (v := ?_) rfl rfl (by kernel_rfl) (by kernel_rfl) (by kernel_rfl) (fun _ _ _ h => h) (Or.inl ⟨by kernel_rfl, ?_⟩) (by assumption) ?_
  rotate_left
  · intro w' hSw; (try dsimp only at hSw); go_simp; try with_reducible rfl
  try simp only [Act.put, List.setIfInBounds_toArray, List.set_cons_zero, List.set_cons_succ]
  refine takeH 83 (i := 10) (v := ?_) rfl rfl (by kernel_rfl) (by kernel_rfl) (by kernel_rfl) (fun _ _ _ h => h) (Or.inl ⟨by kernel_rfl, ?_⟩) (by assumption) ?_
  rotate_left
  · intro w' hSw; (try dsimp only at hSw); go_simp; try with_reducible rfl
  try simp only [Act.put, List.setIfInBounds_toArray, List.set_cons_zero, List.set_cons_succ]
  refine takeH 84 (i := 11) (v := ?_) rfl rfl (by kernel_rfl) (by kernel_rfl) (by kernel_rfl) (fun _ _ _ h => h) (Or.inl ⟨by kernel_rfl, ?_⟩) (by assumption) ?_
  rotate_left
  · intro w' hSw; (try dsimp only at hSw); go_simp; try with_reducible rfl
  try simp only [Act.put, List.setIfInBounds_toArray, List.set_cons_zero, List.set_cons_succ]
  refine takeH 85 (i := 12) (v := ?_) rfl rfl (by kernel_rfl) (by kernel_rfl) (by kernel_rfl) (fun _ _ _ h => h) (Or.inl ⟨by kernel_rfl, ?_⟩) (by assumption) ?_
  rotate_left
  · intro w' hSw; (try dsimp only at hSw); go_simp; try with_reducible rfl
  try simp only [Act.put, List.setIfInBounds_toArray, List.set_cons_zero, List.set_cons_succ]
  refine wpAnyH_ready (rs := [13]) (by kernel_rfl) (by simp) ?_
  refine consH _ rfl (hopL rfl (wpList_store_row (by rfl) 25 _ _ (by rfl) w w.heap.size w2.heap.size #[.int .i64 c, .int .i64 1, .int .i64 1] _ (by kernel_rfl) (by kernel_rfl) e3 (below_drewN hb3 _).drew (by omega) 3 Try.infoShape (by rfl) (by rfl) (by exact one3 ..) fun W4 e4 hb4 hs4 ho4 => ?_)) AllReadyH.nil
  have HK4 : Hid (W4.heap[w.heap.size]? = _ ∧ W4.heap[w.heap.size + 1]? = _ ∧ W4.heap[w.heap.size + 1 + 1]? = _) := ⟨(ho4 _ (by omega)).trans (HK3.out.1), (ho4 _ (by omega)).trans (HK3.out.2.1), (ho4 _ (by omega)).trans (HK3.out.2.2)⟩
  obtain ⟨b0, b1, b2⟩ := cells3 HK4.out.2.1
  obtain ⟨a0, a1, a2, a3, a4, a5, a6, a7, a8, -, -, -, -, -⟩ := cells14 HK4.out.1
  have hS4 : (fun w' => w'.cell? ⟨w.heap.size + 1, 0, none⟩ = some (.int .i64 c) ∧ w'.cell? ⟨w.heap.size, 4, none⟩ = some (.int .i64 1) ∧ w'.cell? ⟨w.heap.size, 5, none⟩ = some (.int .i64 1)) W4 := ⟨b0, a4, a5⟩
  refine (And.intro hS4 ?_ : _ ∧ _)
  try simp only [Act.put, List.setIfInBounds_toArray, List.set_cons_zero, List.set_cons_succ]
  refine wpAnyH_done (by kernel_rfl) ?_ _
  refine NoPanic.normal ?_
  try simp only [Act.put, List.setIfInBounds_toArray, List.set_cons_zero, List.set_cons_succ]
  clear hS hS4
  go_upto_region 23 with fail
  go_upto_region 24 with (first | (refine wpList_store_at (by rfl) 3 _ _ (by rfl) w w.heap.size w2.heap.size 0 (.int .i64 g0) _ #[.int .i64 g0, .int .i64 1, .int .i64 1] 25 (by rfl) (by rfl) e4 hb4 (by omega) 1 Try.infoInt (by rfl) (Nat.le_of_ble_eq_true rfl) (by exact one_int _) (by rfl) ?_; intro W5 e5 hb5 hs5 ho5))
  clear a0 a1 a2 a3 a4 a5 a6 a7 a8 b0 b1 b2
  have HK5 : Hid (W5.heap[w.heap.size]? = _ ∧ W5.heap[w.heap.size + 1]? = _ ∧ W5.heap[w.heap.size + 1 + 1]? = _) := ⟨(ho5 _ (by omega)).trans (HK4.out.1), (ho5 _ (by omega)).trans (HK4.out.2.1), (ho5 _ (by omega)).trans (HK4.out.2.2)⟩
  obtain ⟨b0, b1, b2⟩ := cells3 HK5.out.2.1
  obtain ⟨a0, a1, a2, a3, a4, a5, a6, a7, a8, -, -, -, -, -⟩ := cells14 HK5.out.1
  clear ho3 ho4 hs3 hs4 hb3 e3 HK3 HK2 e4 hb4 ho5 hs5 HK4
  have X3 := hb5
  obtain ⟨s0, s1, s2⟩ := cells3 e5
  go_wp2_with fail
  refine Calls.mono (HT.out _) ?_
  rintro e w3 ⟨rfl, hb3⟩
  have B3 : Hid (Below w.heap.size w w3) := to_call X3 hb3
  have K3 : Hid (w3.heap[w.heap.size + 1 + 1]? = _) := kept hb3 HK5.out.2.2
  have Z3 := kept hb3 e5
  clear s0 s1 s2 a0 a1 a2 a3 a4 a5 a6 a7 a8 b0 b1 b2 hb3 X3 HT
  obtain ⟨s0, s1, s2⟩ := cells3 Z3
  go_wp2_with (first | (refine wpList_store_row (by rfl) 25 _ _ (by rfl) w w.heap.size (w.heap.size + 1 + 1) _ _ (by rfl) (by rfl) K3.out B3.out (by omega) 3 Try.infoShape (by rfl) (by rfl) (by exact one3 ..) ?_; intro W9 e9 hb9 hs9 ho9))
  refine bodyPost_ret (res_shape _ 4 5 (by kernel_rfl) _ _ (w.heap.size + 1 + 1) _ _ (by rfl) (by rfl) rfl e9) rfl ?_
  exact ⟨rfl, hb9⟩
end Go.Proofs.Ytmbnbleahehdaaa
