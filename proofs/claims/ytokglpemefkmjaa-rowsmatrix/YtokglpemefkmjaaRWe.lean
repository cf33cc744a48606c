import Derived.Test.YtokglpemefkmjaaRWc
namespace Go.Proofs.Ytokglpemefkmjaa
open Go.RowKit
set_option linter.unusedVariables false
set_option linter.unusedSimpArgs false
theorem szN3 (w : World) : (Instr.build 25 #[]).run Try.prog w = .ok (.agg #[.int .i64 0, .int .i64 0, .int .i64 0]) w := by kernel_rfl
set_option maxRecDepth 100000 in
set_option maxHeartbeats 8000000 in
theorem outD_any (g0 g1 g2 g3 g4 g5 g6 g7 c h k n s n' s' : Int) (a9 v1 v2 v3 v4 : Value) (Q OK : Prop)  (hOK : Q → s = 0 → s' = 0 → OK)
    (hF : ∀ w, Calls Try.prog 43 #[.agg #[.int .i64 1, .int .i64 g0, .int .i64 g1, .int .i64 g2, .int .i64 g3, .int .i64 g4, .int .i64 g5, .int .i64 g6, .int .i64 g7, a9, v1, v2, v3, v4]] w fun e w' => ∃ f : Int, e = .returned (.int .i64 f) ∧ (f = 0 → Q) ∧ Below w.heap.size w w')
    (hS : ∀ w, Calls Try.prog 30 #[.agg #[.int .i64 c, .int .i64 h, .int .i64 k]] w fun e w' => e = .returned (.tuple #[.int .i64 n, .int .i64 s]) ∧ Below w.heap.size w w')
    (hT : ∀ w, Calls Try.prog 30 #[.agg #[.int .i64 g0, .int .i64 1, .int .i64 1]] w fun e w' => e = .returned (.tuple #[.int .i64 n', .int .i64 s']) ∧ Below w.heap.size w w') (w : World) :
    Calls Try.prog 29 #[.agg #[.int .i64 1, .int .i64 g0, .int .i64 g1, .int .i64 g2, .int .i64 g3, .int .i64 g4, .int .i64 g5, .int .i64 g6, .int .i64 g7, a9, v1, v2, v3, v4], .agg #[.int .i64 c, .int .i64 h, .int .i64 k]] w fun e w' => ∃ o1 o2 o3 f : Int, e = .returned (.tuple #[.agg #[.int .i64 o1, .int .i64 o2, .int .i64 o3], .int .i64 f]) ∧ (f = 0 → OK) ∧ Below w.heap.size w w' := by
  have HF : Hid _ := hF
  have HOK : Hid (Q → s = 0 → s' = 0 → OK) := hOK
  have HS : Hid _ := hS
  have HT : Hid _ := hT
  clear hF hS hT hOK
  have X0 : Below w.heap.size w (((w.alloc (.cells #[.int .i64 1, .int .i64 g0, .int .i64 g1, .int .i64 g2, .int .i64 g3, .int .i64 g4, .int .i64 g5, .int .i64 g6, .int .i64 g7, a9, v1, v2, v3, v4] 55)).alloc (.cells #[.int .i64 c, .int .i64 h, .int .i64 k] 25)).alloc (.cells #[.int .i64 0, .int .i64 0, .int .i64 0] 25)) := (((Below.refl _ w).alloc (Nat.le_refl _) _).alloc (by simp only [alloc_size]; omega) _).alloc (by simp only [alloc_size]; omega) _
  go_enter Try.func29, Try.ntmps29
  go_wp2_with fail
  refine Calls.mono (HF.out _) ?_
  rintro e w1 ⟨f, rfl, hfq, hb⟩
  have HQ : Hid (f = 0 → Q) := hfq
  have B1 : Hid (Below w.heap.size w w1) := to_call X0 hb
  have k0 := kept hb (alloc_kept (alloc_kept (heap_alloc_new w _) _) _)
  have k1 := kept hb (alloc_kept (heap_at _ _ (w.heap.size + 1) (by simp only [alloc_size])) _)
  have k2 := kept hb (heap_at _ _ (w.heap.size + 1 + 1) (by simp only [alloc_size]))
  have HK : Hid (w1.heap[w.heap.size]? = _ ∧ w1.heap[w.heap.size + 1]? = _ ∧ w1.heap[w.heap.size + 1 + 1]? = _) := ⟨k0, k1, k2⟩
  have hsz1 := blk_lt k2
  clear hb X0 HF k0 k1 k2 hfq
  by_cases hf : f = 0
  rotate_left
  · have HNF : Hid (¬ f = 0) := hf
    go_wp2_with (first | (refine wpList_store_row (by rfl) 25 _ _ (by rfl) w w.heap.size (w.heap.size + 1 + 1) _ _ (by rfl) (by rfl) HK.out.2.2 B1.out (by omega) 3 Try.infoShape (by rfl) (by rfl) (by exact one3 ..) ?_; intro W9 e9 hb9 hs9 ho9))
    refine bodyPost_ret (res_shape _ 4 5 (by kernel_rfl) _ _ (w.heap.size + 1 + 1) _ _ (by rfl) (by rfl) rfl e9) rfl ?_
    exact ⟨_, _, _, f, rfl, fun h9 => absurd h9 HNF.out, hb9⟩
  subst hf
  have HQ0 : Hid Q := HQ.out rfl
  clear HQ
  obtain ⟨b0, b1, b2⟩ := cells3 HK.out.2.1
  go_upto_region 5 with (first | (go_at_call 30; refine Calls.mono (HS.out _) ?_; rintro e w2 ⟨rfl, hb2⟩))
  have B2 : Hid (Below w.heap.size w w2) := to_call B1.out hb2
  have HK2 : Hid (w2.heap[w.heap.size]? = _ ∧ w2.heap[w.heap.size + 1]? = _ ∧ w2.heap[w.heap.size + 1 + 1]? = _) := ⟨kept hb2 HK.out.1, kept hb2 HK.out.2.1, kept hb2 HK.out.2.2⟩
  have hsz := blk_lt HK2.out.2.2
  clear b0 b1 b2 hb2 HK HS
  by_cases hs : s = 0
  rotate_left
  · have HNS : Hid (¬ s = 0) := hs
    go_wp2_with (first | (refine wpList_store_row (by rfl) 25 _ _ (by rfl) w w.heap.size (w.heap.size + 1 + 1) _ _ (by rfl) (by rfl) HK2.out.2.2 B2.out (by omega) 3 Try.infoShape (by rfl) (by rfl) (by exact one3 ..) ?_; intro W9 e9 hb9 hs9 ho9))
    refine bodyPost_ret (res_shape _ 4 5 (by kernel_rfl) _ _ (w.heap.size + 1 + 1) _ _ (by rfl) (by rfl) rfl e9) rfl ?_
    exact ⟨_, _, _, s, rfl, fun h9 => absurd h9 HNS.out, hb9⟩
  subst hs
  have HO2 : Hid _ := HOK.out HQ0.out rfl
  clear HOK
  obtain ⟨b0, b1, b2⟩ := cells3 HK2.out.2.1
  obtain ⟨a0, a1, a2, a3, a4, a5, a6, a7, a8, -, -, -, -, -⟩ := cells14 HK2.out.1
  have hp2 : (w2.alloc (.cells #[.int .i64 0, .int .i64 0, .int .i64 0] 25)).heap[w.heap.size]? = _ ∧ (w2.alloc (.cells #[.int .i64 0, .int .i64 0, .int .i64 0] 25)).heap[w.heap.size + 1]? = _ ∧ (w2.alloc (.cells #[.int .i64 0, .int .i64 0, .int .i64 0] 25)).heap[w.heap.size + 1 + 1]? = _ := ⟨alloc_kept HK2.out.1 _, alloc_kept HK2.out.2.1 _, alloc_kept HK2.out.2.2 _⟩
  go_upto_region 8 with (first | (refine wpList_store_row (by rfl) 25 _ _ (by rfl) w w.heap.size w2.heap.size _ _ (by rfl) (by rfl) (heap_alloc_new w2 _) (B2.out.alloc B2.out.size _) (by omega) 3 Try.infoShape (by rfl) (by rfl) (by exact one3 ..) ?_; intro W3 e3 hb3 hs3 ho3))
  clear a0 a1 a2 a3 a4 a5 a6 a7 a8 b0 b1 b2
  have HK3 : Hid (W3.heap[w.heap.size]? = _ ∧ W3.heap[w.heap.size + 1]? = _ ∧ W3.heap[w.heap.size + 1 + 1]? = _) := ⟨(ho3 _ (by omega)).trans (hp2.1), (ho3 _ (by omega)).trans (hp2.2.1), (ho3 _ (by omega)).trans (hp2.2.2)⟩
  obtain ⟨b0, b1, b2⟩ := cells3 HK3.out.2.1
  obtain ⟨a0, a1, a2, a3, a4, a5, a6, a7, a8, -, -, -, -, -⟩ := cells14 HK3.out.1
  have hlt3 := blk_lt e3
  clear hp2
  go_upto_region 24 with (first | (refine wpList_store_row (by rfl) 25 _ _ (by rfl) w w.heap.size w2.heap.size _ _ (by rfl) (by rfl) e3 hb3 (by omega) 3 Try.infoShape (by rfl) (by rfl) (by exact one3 ..) ?_; intro W4 e4 hb4 hs4 ho4))
  clear a0 a1 a2 a3 a4 a5 a6 a7 a8 b0 b1 b2
  have HK4 : Hid (W4.heap[w.heap.size]? = _ ∧ W4.heap[w.heap.size + 1]? = _ ∧ W4.heap[w.heap.size + 1 + 1]? = _) := ⟨(ho4 _ (by omega)).trans (HK3.out.1), (ho4 _ (by omega)).trans (HK3.out.2.1), (ho4 _ (by omega)).trans (HK3.out.2.2)⟩
  obtain ⟨b0, b1, b2⟩ := cells3 HK4.out.2.1
  obtain ⟨a0, a1, a2, a3, a4, a5, a6, a7, a8, -, -, -, -, -⟩ := cells14 HK4.out.1
  clear ho3 ho4 hs3 hs4 hb3 e3 HK3 HK2
  have X3 := hb4
  obtain ⟨s0, s1, s2⟩ := cells3 e4
  go_upto_region 25 with (first | (go_at_call 30; refine Calls.mono (HT.out _) ?_; rintro e w3 ⟨rfl, hb3⟩))
  have B3 : Hid (Below w.heap.size w w3) := to_call X3 hb3
  have K3 : Hid (w3.heap[w.heap.size + 1 + 1]? = _) := kept hb3 HK4.out.2.2
  have Z3 := kept hb3 e4
  clear s0 s1 s2 a0 a1 a2 a3 a4 a5 a6 a7 a8 b0 b1 b2 hb3 X3 HT
  by_cases hs' : s' = 0
  rotate_left
  · have HNT : Hid (¬ s' = 0) := hs'
    go_wp2_with (first | (refine wpList_store_row (by rfl) 25 _ _ (by rfl) w w.heap.size (w.heap.size + 1 + 1) _ _ (by rfl) (by rfl) K3.out B3.out (by omega) 3 Try.infoShape (by rfl) (by rfl) (by exact one3 ..) ?_; intro W9 e9 hb9 hs9 ho9))
    refine bodyPost_ret (res_shape _ 4 5 (by kernel_rfl) _ _ (w.heap.size + 1 + 1) _ _ (by rfl) (by rfl) rfl e9) rfl ?_
    exact ⟨_, _, _, s', rfl, fun h9 => absurd h9 HNT.out, hb9⟩
  subst hs'
  have HO9 : Hid OK := HO2.out rfl
  obtain ⟨s0, s1, s2⟩ := cells3 Z3
  go_wp2_with (first | (refine wpList_store_row (by rfl) 25 _ _ (by rfl) w w.heap.size (w.heap.size + 1 + 1) _ _ (by rfl) (by rfl) K3.out B3.out (by omega) 3 Try.infoShape (by rfl) (by rfl) (by exact one3 ..) ?_; intro W9 e9 hb9 hs9 ho9))
  refine bodyPost_ret (res_shape _ 4 5 (by kernel_rfl) _ _ (w.heap.size + 1 + 1) _ _ (by rfl) (by rfl) rfl e9) rfl ?_
  exact ⟨_, _, _, 0, rfl, fun _ => HO9.out, hb9⟩
set_option maxRecDepth 100000 in
set_option maxHeartbeats 8000000 in
theorem outT_any (g0 g1 g2 g3 g4 g5 g6 g7 c h k n s n' s' q : Int) (a9 v1 v2 v3 v4 : Value) (Q OK : Prop) (hq : IntKind.i64.wrap (2 * g0) = q) (m : Int) (hm : n.tmod 2 = m) (hOK : Q → s = 0 → ¬ m = 1 → s' = 0 → OK)
    (hF : ∀ w, Calls Try.prog 43 #[.agg #[.int .i64 6, .int .i64 g0, .int .i64 g1, .int .i64 g2, .int .i64 g3, .int .i64 g4, .int .i64 g5, .int .i64 g6, .int .i64 g7, a9, v1, v2, v3, v4]] w fun e w' => ∃ f : Int, e = .returned (.int .i64 f) ∧ (f = 0 → Q) ∧ Below w.heap.size w w')
    (hS : ∀ w, Calls Try.prog 30 #[.agg #[.int .i64 c, .int .i64 h, .int .i64 k]] w fun e w' => e = .returned (.tuple #[.int .i64 n, .int .i64 s]) ∧ Below w.heap.size w w')
    (hT : ∀ w, Calls Try.prog 30 #[.agg #[.int .i64 q, .int .i64 1, .int .i64 1]] w fun e w' => e = .returned (.tuple #[.int .i64 n', .int .i64 s']) ∧ Below w.heap.size w w') (w : World) :
    Calls Try.prog 29 #[.agg #[.int .i64 6, .int .i64 g0, .int .i64 g1, .int .i64 g2, .int .i64 g3, .int .i64 g4, .int .i64 g5, .int .i64 g6, .int .i64 g7, a9, v1, v2, v3, v4], .agg #[.int .i64 c, .int .i64 h, .int .i64 k]] w fun e w' => ∃ o1 o2 o3 f : Int, e = .returned (.tuple #[.agg #[.int .i64 o1, .int .i64 o2, .int .i64 o3], .int .i64 f]) ∧ (f = 0 → OK) ∧ Below w.heap.size w w' := by
  have HF : Hid _ := hF
  have HOK : Hid (Q → s = 0 → ¬ m = 1 → s' = 0 → OK) := hOK
  have HS : Hid _ := hS
  have HT : Hid _ := hT
  clear hF hS hT hOK
  have X0 : Below w.heap.size w (((w.alloc (.cells #[.int .i64 6, .int .i64 g0, .int .i64 g1, .int .i64 g2, .int .i64 g3, .int .i64 g4, .int .i64 g5, .int .i64 g6, .int .i64 g7, a9, v1, v2, v3, v4] 55)).alloc (.cells #[.int .i64 c, .int .i64 h, .int .i64 k] 25)).alloc (.cells #[.int .i64 0, .int .i64 0, .int .i64 0] 25)) := (((Below.refl _ w).alloc (Nat.le_refl _) _).alloc (by simp only [alloc_size]; omega) _).alloc (by simp only [alloc_size]; omega) _
  go_enter Try.func29, Try.ntmps29
  go_wp2_with fail
  refine Calls.mono (HF.out _) ?_
  rintro e w1 ⟨f, rfl, hfq, hb⟩
  have HQ : Hid (f = 0 → Q) := hfq
  have B1 : Hid (Below w.heap.size w w1) := to_call X0 hb
  have k0 := kept hb (alloc_kept (alloc_kept (heap_alloc_new w _) _) _)
  have k1 := kept hb (alloc_kept (heap_at _ _ (w.heap.size + 1) (by simp only [alloc_size])) _)
  have k2 := kept hb (heap_at _ _ (w.heap.size + 1 + 1) (by simp only [alloc_size]))
  have HK : Hid (w1.heap[w.heap.size]? = _ ∧ w1.heap[w.heap.size + 1]? = _ ∧ w1.heap[w.heap.size + 1 + 1]? = _) := ⟨k0, k1, k2⟩
  have hsz1 := blk_lt k2
  clear hb X0 HF k0 k1 k2 hfq
  by_cases hf : f = 0
  rotate_left
  · have HNF : Hid (¬ f = 0) := hf
    go_wp2_with (first | (refine wpList_store_row (by rfl) 25 _ _ (by rfl) w w.heap.size (w.heap.size + 1 + 1) _ _ (by rfl) (by rfl) HK.out.2.2 B1.out (by omega) 3 Try.infoShape (by rfl) (by rfl) (by exact one3 ..) ?_; intro W9 e9 hb9 hs9 ho9))
    refine bodyPost_ret (res_shape _ 4 5 (by kernel_rfl) _ _ (w.heap.size + 1 + 1) _ _ (by rfl) (by rfl) rfl e9) rfl ?_
    exact ⟨_, _, _, f, rfl, fun h9 => absurd h9 HNF.out, hb9⟩
  subst hf
  have HQ0 : Hid Q := HQ.out rfl
  clear HQ
  obtain ⟨b0, b1, b2⟩ := cells3 HK.out.2.1
  go_upto_region 5 with (first | (go_at_call 30; refine Calls.mono (HS.out _) ?_; rintro e w2 ⟨rfl, hb2⟩))
  have B2 : Hid (Below w.heap.size w w2) := to_call B1.out hb2
  have HK2 : Hid (w2.heap[w.heap.size]? = _ ∧ w2.heap[w.heap.size + 1]? = _ ∧ w2.heap[w.heap.size + 1 + 1]? = _) := ⟨kept hb2 HK.out.1, kept hb2 HK.out.2.1, kept hb2 HK.out.2.2⟩
  have hsz := blk_lt HK2.out.2.2
  clear b0 b1 b2 hb2 HK HS
  by_cases hs : s = 0
  rotate_left
  · have HNS : Hid (¬ s = 0) := hs
    go_wp2_with (first | (refine wpList_store_row (by rfl) 25 _ _ (by rfl) w w.heap.size (w.heap.size + 1 + 1) _ _ (by rfl) (by rfl) HK2.out.2.2 B2.out (by omega) 3 Try.infoShape (by rfl) (by rfl) (by exact one3 ..) ?_; intro W9 e9 hb9 hs9 ho9))
    refine bodyPost_ret (res_shape _ 4 5 (by kernel_rfl) _ _ (w.heap.size + 1 + 1) _ _ (by rfl) (by rfl) rfl e9) rfl ?_
    exact ⟨_, _, _, s, rfl, fun h9 => absurd h9 HNS.out, hb9⟩
  subst hs
  have HO2 : Hid _ := HOK.out HQ0.out rfl
  clear HOK
  obtain ⟨b0, b1, b2⟩ := cells3 HK2.out.2.1
  obtain ⟨a0, a1, a2, a3, a4, a5, a6, a7, a8, -, -, -, -, -⟩ := cells14 HK2.out.1
  have hp2 : (w2.alloc (.cells #[.int .i64 0, .int .i64 0, .int .i64 0] 25)).heap[w.heap.size]? = _ ∧ (w2.alloc (.cells #[.int .i64 0, .int .i64 0, .int .i64 0] 25)).heap[w.heap.size + 1]? = _ ∧ (w2.alloc (.cells #[.int .i64 0, .int .i64 0, .int .i64 0] 25)).heap[w.heap.size + 1 + 1]? = _ := ⟨alloc_kept HK2.out.1 _, alloc_kept HK2.out.2.1 _, alloc_kept HK2.out.2.2 _⟩
  go_upto_region 8 with (first | (refine wpList_store_row (by rfl) 25 _ _ (by rfl) w w.heap.size w2.heap.size _ _ (by rfl) (by rfl) (heap_alloc_new w2 _) (B2.out.alloc B2.out.size _) (by omega) 3 Try.infoShape (by rfl) (by rfl) (by exact one3 ..) ?_; intro W3 e3 hb3 hs3 ho3))
  clear a0 a1 a2 a3 a4 a5 a6 a7 a8 b0 b1 b2
  have HK3 : Hid (W3.heap[w.heap.size]? = _ ∧ W3.heap[w.heap.size + 1]? = _ ∧ W3.heap[w.heap.size + 1 + 1]? = _) := ⟨(ho3 _ (by omega)).trans (hp2.1), (ho3 _ (by omega)).trans (hp2.2.1), (ho3 _ (by omega)).trans (hp2.2.2)⟩
  obtain ⟨b0, b1, b2⟩ := cells3 HK3.out.2.1
  obtain ⟨a0, a1, a2, a3, a4, a5, a6, a7, a8, -, -, -, -, -⟩ := cells14 HK3.out.1
  have hlt3 := blk_lt e3
  clear hp2
  have hK3lt := hsz
  by_cases hodd : m = 1
  · have HO : Hid (m = 1) := hodd
    have hd : decide (m = 1) = true := decide_eq_true hodd
    have hd' : (m == 1) = true := beq_iff_eq.2 hodd
    clear hodd
    go_wp2_with (first | (refine wpList_store_row (by rfl) 25 _ _ (by rfl) w w.heap.size (w.heap.size + 1 + 1) _ _ (by rfl) (by rfl) HK3.out.2.2 hb3 (by omega) 3 Try.infoShape (by rfl) (by rfl) (by exact one3 ..) ?_; intro W9 e9 hb9 hs9 ho9))
    refine bodyPost_ret (res_shape _ 4 5 (by kernel_rfl) _ _ (w.heap.size + 1 + 1) _ _ (by rfl) (by rfl) rfl e9) rfl ?_
    exact ⟨_, _, _, 60, rfl, fun h9 => absurd h9 (by decide), hb9⟩
  have HO3 : Hid (s' = 0 → OK) := HO2.out hodd
  clear HO2
  have hd : decide (m = 1) = false := decide_eq_false hodd
  have hd' : (m == 1) = false := beq_eq_false_iff_ne.2 hodd
  clear hodd
  go_upto_region 24 with (first | (refine wpList_store_row (by rfl) 25 _ _ (by rfl) w w.heap.size w2.heap.size _ _ (by rfl) (by rfl) e3 hb3 (by omega) 3 Try.infoShape (by rfl) (by rfl) (by exact one3 ..) ?_; intro W4 e4 hb4 hs4 ho4))
  clear a0 a1 a2 a3 a4 a5 a6 a7 a8 b0 b1 b2
  have HK4 : Hid (W4.heap[w.heap.size]? = _ ∧ W4.heap[w.heap.size + 1]? = _ ∧ W4.heap[w.heap.size + 1 + 1]? = _) := ⟨(ho4 _ (by omega)).trans (HK3.out.1), (ho4 _ (by omega)).trans (HK3.out.2.1), (ho4 _ (by omega)).trans (HK3.out.2.2)⟩
  obtain ⟨b0, b1, b2⟩ := cells3 HK4.out.2.1
  obtain ⟨a0, a1, a2, a3, a4, a5, a6, a7, a8, -, -, -, -, -⟩ := cells14 HK4.out.1
  clear ho3 ho4 hs3 hs4 hb3 e3 HK3 HK2
  have X3 := hb4
  obtain ⟨s0, s1, s2⟩ := cells3 e4
  go_upto_region 25 with (first | (go_at_call 30; refine Calls.mono (HT.out _) ?_; rintro e w3 ⟨rfl, hb3⟩))
  have B3 : Hid (Below w.heap.size w w3) := to_call X3 hb3
  have K3 : Hid (w3.heap[w.heap.size + 1 + 1]? = _) := kept hb3 HK4.out.2.2
  have Z3 := kept hb3 e4
  clear s0 s1 s2 a0 a1 a2 a3 a4 a5 a6 a7 a8 b0 b1 b2 hb3 X3 HT
  by_cases hs' : s' = 0
  rotate_left
  · have HNT : Hid (¬ s' = 0) := hs'
    go_wp2_with (first | (refine wpList_store_row (by rfl) 25 _ _ (by rfl) w w.heap.size (w.heap.size + 1 + 1) _ _ (by rfl) (by rfl) K3.out B3.out (by omega) 3 Try.infoShape (by rfl) (by rfl) (by exact one3 ..) ?_; intro W9 e9 hb9 hs9 ho9))
    refine bodyPost_ret (res_shape _ 4 5 (by kernel_rfl) _ _ (w.heap.size + 1 + 1) _ _ (by rfl) (by rfl) rfl e9) rfl ?_
    exact ⟨_, _, _, s', rfl, fun h9 => absurd h9 HNT.out, hb9⟩
  subst hs'
  have HO9 : Hid OK := HO3.out rfl
  obtain ⟨s0, s1, s2⟩ := cells3 Z3
  go_wp2_with (first | (refine wpList_store_row (by rfl) 25 _ _ (by rfl) w w.heap.size (w.heap.size + 1 + 1) _ _ (by rfl) (by rfl) K3.out B3.out (by omega) 3 Try.infoShape (by rfl) (by rfl) (by exact one3 ..) ?_; intro W9 e9 hb9 hs9 ho9))
  refine bodyPost_ret (res_shape _ 4 5 (by kernel_rfl) _ _ (w.heap.size + 1 + 1) _ _ (by rfl) (by rfl) rfl e9) rfl ?_
  exact ⟨_, _, _, 0, rfl, fun _ => HO9.out, hb9⟩
set_option maxRecDepth 100000 in
set_option maxHeartbeats 8000000 in
theorem outZ_any (kd g0 g1 g2 g3 g4 g5 g6 g7 c h k n s n' s' : Int) (a9 v1 v2 v3 v4 : Value) (Q OK : Prop) (n1 : ¬ kd = 1) (n2 : ¬ kd = 2) (n4 : ¬ kd = 4) (n6 : ¬ kd = 6) (n12 : ¬ kd = 12) (hOK : Q → s = 0 → s' = 0 → OK)
    (hF : ∀ w, Calls Try.prog 43 #[.agg #[.int .i64 kd, .int .i64 g0, .int .i64 g1, .int .i64 g2, .int .i64 g3, .int .i64 g4, .int .i64 g5, .int .i64 g6, .int .i64 g7, a9, v1, v2, v3, v4]] w fun e w' => ∃ f : Int, e = .returned (.int .i64 f) ∧ (f = 0 → Q) ∧ Below w.heap.size w w')
    (hS : ∀ w, Calls Try.prog 30 #[.agg #[.int .i64 c, .int .i64 h, .int .i64 k]] w fun e w' => e = .returned (.tuple #[.int .i64 n, .int .i64 s]) ∧ Below w.heap.size w w')
    (hT : ∀ w, Calls Try.prog 30 #[.agg #[.int .i64 c, .int .i64 h, .int .i64 k]] w fun e w' => e = .returned (.tuple #[.int .i64 n', .int .i64 s']) ∧ Below w.heap.size w w') (w : World) :
    Calls Try.prog 29 #[.agg #[.int .i64 kd, .int .i64 g0, .int .i64 g1, .int .i64 g2, .int .i64 g3, .int .i64 g4, .int .i64 g5, .int .i64 g6, .int .i64 g7, a9, v1, v2, v3, v4], .agg #[.int .i64 c, .int .i64 h, .int .i64 k]] w fun e w' => ∃ o1 o2 o3 f : Int, e = .returned (.tuple #[.agg #[.int .i64 o1, .int .i64 o2, .int .i64 o3], .int .i64 f]) ∧ (f = 0 → OK) ∧ Below w.heap.size w w' := by
  have HF : Hid _ := hF
  have HOK : Hid (Q → s = 0 → s' = 0 → OK) := hOK
  have HS : Hid _ := hS
  have HT : Hid _ := hT
  clear hF hS hT hOK
  have X0 : Below w.heap.size w (((w.alloc (.cells #[.int .i64 kd, .int .i64 g0, .int .i64 g1, .int .i64 g2, .int .i64 g3, .int .i64 g4, .int .i64 g5, .int .i64 g6, .int .i64 g7, a9, v1, v2, v3, v4] 55)).alloc (.cells #[.int .i64 c, .int .i64 h, .int .i64 k] 25)).alloc (.cells #[.int .i64 0, .int .i64 0, .int .i64 0] 25)) := (((Below.refl _ w).alloc (Nat.le_refl _) _).alloc (by simp only [alloc_size]; omega) _).alloc (by simp only [alloc_size]; omega) _
  go_enter Try.func29, Try.ntmps29
  go_wp2_with fail
  refine Calls.mono (HF.out _) ?_
  rintro e w1 ⟨f, rfl, hfq, hb⟩
  have HQ : Hid (f = 0 → Q) := hfq
  have B1 : Hid (Below w.heap.size w w1) := to_call X0 hb
  have k0 := kept hb (alloc_kept (alloc_kept (heap_alloc_new w _) _) _)
  have k1 := kept hb (alloc_kept (heap_at _ _ (w.heap.size + 1) (by simp only [alloc_size])) _)
  have k2 := kept hb (heap_at _ _ (w.heap.size + 1 + 1) (by simp only [alloc_size]))
  have HK : Hid (w1.heap[w.heap.size]? = _ ∧ w1.heap[w.heap.size + 1]? = _ ∧ w1.heap[w.heap.size + 1 + 1]? = _) := ⟨k0, k1, k2⟩
  have hsz1 := blk_lt k2
  clear hb X0 HF k0 k1 k2 hfq
  by_cases hf : f = 0
  rotate_left
  · have HNF : Hid (¬ f = 0) := hf
    go_wp2_with (first | (refine wpList_store_row (by rfl) 25 _ _ (by rfl) w w.heap.size (w.heap.size + 1 + 1) _ _ (by rfl) (by rfl) HK.out.2.2 B1.out (by omega) 3 Try.infoShape (by rfl) (by rfl) (by exact one3 ..) ?_; intro W9 e9 hb9 hs9 ho9))
    refine bodyPost_ret (res_shape _ 4 5 (by kernel_rfl) _ _ (w.heap.size + 1 + 1) _ _ (by rfl) (by rfl) rfl e9) rfl ?_
    exact ⟨_, _, _, f, rfl, fun h9 => absurd h9 HNF.out, hb9⟩
  subst hf
  have HQ0 : Hid Q := HQ.out rfl
  clear HQ
  obtain ⟨b0, b1, b2⟩ := cells3 HK.out.2.1
  go_upto_region 5 with (first | (go_at_call 30; refine Calls.mono (HS.out _) ?_; rintro e w2 ⟨rfl, hb2⟩))
  have B2 : Hid (Below w.heap.size w w2) := to_call B1.out hb2
  have HK2 : Hid (w2.heap[w.heap.size]? = _ ∧ w2.heap[w.heap.size + 1]? = _ ∧ w2.heap[w.heap.size + 1 + 1]? = _) := ⟨kept hb2 HK.out.1, kept hb2 HK.out.2.1, kept hb2 HK.out.2.2⟩
  have hsz := blk_lt HK2.out.2.2
  clear b0 b1 b2 hb2 HK HS
  by_cases hs : s = 0
  rotate_left
  · have HNS : Hid (¬ s = 0) := hs
    go_wp2_with (first | (refine wpList_store_row (by rfl) 25 _ _ (by rfl) w w.heap.size (w.heap.size + 1 + 1) _ _ (by rfl) (by rfl) HK2.out.2.2 B2.out (by omega) 3 Try.infoShape (by rfl) (by rfl) (by exact one3 ..) ?_; intro W9 e9 hb9 hs9 ho9))
    refine bodyPost_ret (res_shape _ 4 5 (by kernel_rfl) _ _ (w.heap.size + 1 + 1) _ _ (by rfl) (by rfl) rfl e9) rfl ?_
    exact ⟨_, _, _, s, rfl, fun h9 => absurd h9 HNS.out, hb9⟩
  subst hs
  have HO2 : Hid _ := HOK.out HQ0.out rfl
  clear HOK
  obtain ⟨b0, b1, b2⟩ := cells3 HK2.out.2.1
  obtain ⟨a0, a1, a2, a3, a4, a5, a6, a7, a8, -, -, -, -, -⟩ := cells14 HK2.out.1
  have hp2 : (w2.alloc (.cells #[.int .i64 0, .int .i64 0, .int .i64 0] 25)).heap[w.heap.size]? = _ ∧ (w2.alloc (.cells #[.int .i64 0, .int .i64 0, .int .i64 0] 25)).heap[w.heap.size + 1]? = _ ∧ (w2.alloc (.cells #[.int .i64 0, .int .i64 0, .int .i64 0] 25)).heap[w.heap.size + 1 + 1]? = _ := ⟨alloc_kept HK2.out.1 _, alloc_kept HK2.out.2.1 _, alloc_kept HK2.out.2.2 _⟩
  go_upto_region 8 with (first | (refine wpList_store_row (by rfl) 25 _ _ (by rfl) w w.heap.size w2.heap.size _ _ (by rfl) (by rfl) (heap_alloc_new w2 _) (B2.out.alloc B2.out.size _) (by omega) 3 Try.infoShape (by rfl) (by rfl) (by exact one3 ..) ?_; intro W3 e3 hb3 hs3 ho3))
  clear a0 a1 a2 a3 a4 a5 a6 a7 a8 b0 b1 b2
  have HK3 : Hid (W3.heap[w.heap.size]? = _ ∧ W3.heap[w.heap.size + 1]? = _ ∧ W3.heap[w.heap.size + 1 + 1]? = _) := ⟨(ho3 _ (by omega)).trans (hp2.1), (ho3 _ (by omega)).trans (hp2.2.1), (ho3 _ (by omega)).trans (hp2.2.2)⟩
  obtain ⟨b0, b1, b2⟩ := cells3 HK3.out.2.1
  obtain ⟨a0, a1, a2, a3, a4, a5, a6, a7, a8, -, -, -, -, -⟩ := cells14 HK3.out.1
  have hlt3 := blk_lt e3
  clear hp2
  have m1 : decide (kd = 1) = false := decide_eq_false n1
  have b1' : (kd == 1) = false := beq_eq_false_iff_ne.2 n1
  have m2 : decide (kd = 2) = false := decide_eq_false n2
  have b2' : (kd == 2) = false := beq_eq_false_iff_ne.2 n2
  have m4 : decide (kd = 4) = false := decide_eq_false n4
  have b4' : (kd == 4) = false := beq_eq_false_iff_ne.2 n4
  have m6 : decide (kd = 6) = false := decide_eq_false n6
  have b6' : (kd == 6) = false := beq_eq_false_iff_ne.2 n6
  have m12 : decide (kd = 12) = false := decide_eq_false n12
  have b12' : (kd == 12) = false := beq_eq_false_iff_ne.2 n12
  go_upto_region 24 with fail
  clear ho3 hs3 HK2
  have X3 := hb3
  obtain ⟨s0, s1, s2⟩ := cells3 e3
  go_upto_region 25 with (first | (go_at_call 30; refine Calls.mono (HT.out _) ?_; rintro e w3 ⟨rfl, hb3⟩))
  have B3 : Hid (Below w.heap.size w w3) := to_call X3 hb3
  have K3 : Hid (w3.heap[w.heap.size + 1 + 1]? = _) := kept hb3 HK3.out.2.2
  have Z3 := kept hb3 e3
  clear s0 s1 s2 a0 a1 a2 a3 a4 a5 a6 a7 a8 b0 b1 b2 hb3 X3 HT
  by_cases hs' : s' = 0
  rotate_left
  · have HNT : Hid (¬ s' = 0) := hs'
    go_wp2_with (first | (refine wpList_store_row (by rfl) 25 _ _ (by rfl) w w.heap.size (w.heap.size + 1 + 1) _ _ (by rfl) (by rfl) K3.out B3.out (by omega) 3 Try.infoShape (by rfl) (by rfl) (by exact one3 ..) ?_; intro W9 e9 hb9 hs9 ho9))
    refine bodyPost_ret (res_shape _ 4 5 (by kernel_rfl) _ _ (w.heap.size + 1 + 1) _ _ (by rfl) (by rfl) rfl e9) rfl ?_
    exact ⟨_, _, _, s', rfl, fun h9 => absurd h9 HNT.out, hb9⟩
  subst hs'
  have HO9 : Hid OK := HO2.out rfl
  obtain ⟨s0, s1, s2⟩ := cells3 Z3
  go_wp2_with (first | (refine wpList_store_row (by rfl) 25 _ _ (by rfl) w w.heap.size (w.heap.size + 1 + 1) _ _ (by rfl) (by rfl) K3.out B3.out (by omega) 3 Try.infoShape (by rfl) (by rfl) (by exact one3 ..) ?_; intro W9 e9 hb9 hs9 ho9))
  refine bodyPost_ret (res_shape _ 4 5 (by kernel_rfl) _ _ (w.heap.size + 1 + 1) _ _ (by rfl) (by rfl) rfl e9) rfl ?_
  exact ⟨_, _, _, 0, rfl, fun _ => HO9.out, hb9⟩
set_option maxRecDepth 100000 in
set_option maxHeartbeats 8000000 in
theorem outW2_any (g0 g1 g2 g3 g4 g5 g6 g7 c h k n s n' s' u1 u2 u3 u4 r1 r2 e1 e2 d1 d2 : Int) (a9 v1 v2 v3 v4 : Value) (Q OK : Prop) (hqf : Q → s = 0 → IntKind.i64.wrap (2 * g5) = u1 ∧ IntKind.i64.wrap (h + u1) = u2 ∧ IntKind.i64.wrap (u2 - g1) = r1 ∧ IntKind.i64.wrap (2 * g6) = u3 ∧ IntKind.i64.wrap (k + u3) = u4 ∧ IntKind.i64.wrap (u4 - g2) = r2)
    (hdv : Q → s = 0 → 0 ≤ r1 ∧ 0 ≤ r2 → ¬ g3 = 0 ∧ ¬ g4 = 0 ∧ IntKind.i64.wrap (r1.tdiv g3) = e1 ∧ IntKind.i64.wrap (r2.tdiv g4) = e2 ∧ IntKind.i64.wrap (e1 + 1) = d1 ∧ IntKind.i64.wrap (e2 + 1) = d2) (hOK : Q → s = 0 → 0 ≤ r1 → 0 ≤ r2 → s' = 0 → OK)
    (hF : ∀ w, Calls Try.prog 43 #[.agg #[.int .i64 2, .int .i64 g0, .int .i64 g1, .int .i64 g2, .int .i64 g3, .int .i64 g4, .int .i64 g5, .int .i64 g6, .int .i64 g7, a9, v1, v2, v3, v4]] w fun e w' => ∃ f : Int, e = .returned (.int .i64 f) ∧ (f = 0 → Q) ∧ Below w.heap.size w w')
    (hS : ∀ w, Calls Try.prog 30 #[.agg #[.int .i64 c, .int .i64 h, .int .i64 k]] w fun e w' => e = .returned (.tuple #[.int .i64 n, .int .i64 s]) ∧ Below w.heap.size w w')
    (hT : ∀ w, Calls Try.prog 30 #[.agg #[.int .i64 g0, .int .i64 d1, .int .i64 d2]] w fun e w' => e = .returned (.tuple #[.int .i64 n', .int .i64 s']) ∧ Below w.heap.size w w') (w : World) :
    Calls Try.prog 29 #[.agg #[.int .i64 2, .int .i64 g0, .int .i64 g1, .int .i64 g2, .int .i64 g3, .int .i64 g4, .int .i64 g5, .int .i64 g6, .int .i64 g7, a9, v1, v2, v3, v4], .agg #[.int .i64 c, .int .i64 h, .int .i64 k]] w fun e w' => ∃ o1 o2 o3 f : Int, e = .returned (.tuple #[.agg #[.int .i64 o1, .int .i64 o2, .int .i64 o3], .int .i64 f]) ∧ (f = 0 → OK) ∧ Below w.heap.size w w' := by
  have HF : Hid _ := hF
  have HOK : Hid (Q → s = 0 → 0 ≤ r1 → 0 ≤ r2 → s' = 0 → OK) := hOK
  have HS : Hid _ := hS
  have HT : Hid _ := hT
  clear hF hS hT hOK
  have X0 : Below w.heap.size w (((w.alloc (.cells #[.int .i64 2, .int .i64 g0, .int .i64 g1, .int .i64 g2, .int .i64 g3, .int .i64 g4, .int .i64 g5, .int .i64 g6, .int .i64 g7, a9, v1, v2, v3, v4] 55)).alloc (.cells #[.int .i64 c, .int .i64 h, .int .i64 k] 25)).alloc (.cells #[.int .i64 0, .int .i64 0, .int .i64 0] 25)) := (((Below.refl _ w).alloc (Nat.le_refl _) _).alloc (by simp only [alloc_size]; omega) _).alloc (by simp only [alloc_size]; omega) _
  go_enter Try.func29, Try.ntmps29
  go_wp2_with fail
  refine Calls.mono (HF.out _) ?_
  rintro e w1 ⟨f, rfl, hfq, hb⟩
  have HQ : Hid (f = 0 → Q) := hfq
  have B1 : Hid (Below w.heap.size w w1) := to_call X0 hb
  have k0 := kept hb (alloc_kept (alloc_kept (heap_alloc_new w _) _) _)
  have k1 := kept hb (alloc_kept (heap_at _ _ (w.heap.size + 1) (by simp only [alloc_size])) _)
  have k2 := kept hb (heap_at _ _ (w.heap.size + 1 + 1) (by simp only [alloc_size]))
  have HK : Hid (w1.heap[w.heap.size]? = _ ∧ w1.heap[w.heap.size + 1]? = _ ∧ w1.heap[w.heap.size + 1 + 1]? = _) := ⟨k0, k1, k2⟩
  have hsz1 := blk_lt k2
  clear hb X0 HF k0 k1 k2 hfq
  by_cases hf : f = 0
  rotate_left
  · have HNF : Hid (¬ f = 0) := hf
    go_wp2_with (first | (refine wpList_store_row (by rfl) 25 _ _ (by rfl) w w.heap.size (w.heap.size + 1 + 1) _ _ (by rfl) (by rfl) HK.out.2.2 B1.out (by omega) 3 Try.infoShape (by rfl) (by rfl) (by exact one3 ..) ?_; intro W9 e9 hb9 hs9 ho9))
    refine bodyPost_ret (res_shape _ 4 5 (by kernel_rfl) _ _ (w.heap.size + 1 + 1) _ _ (by rfl) (by rfl) rfl e9) rfl ?_
    exact ⟨_, _, _, f, rfl, fun h9 => absurd h9 HNF.out, hb9⟩
  subst hf
  have HQ0 : Hid Q := HQ.out rfl
  clear HQ
  obtain ⟨b0, b1, b2⟩ := cells3 HK.out.2.1
  go_upto_region 5 with (first | (go_at_call 30; refine Calls.mono (HS.out _) ?_; rintro e w2 ⟨rfl, hb2⟩))
  have B2 : Hid (Below w.heap.size w w2) := to_call B1.out hb2
  have HK2 : Hid (w2.heap[w.heap.size]? = _ ∧ w2.heap[w.heap.size + 1]? = _ ∧ w2.heap[w.heap.size + 1 + 1]? = _) := ⟨kept hb2 HK.out.1, kept hb2 HK.out.2.1, kept hb2 HK.out.2.2⟩
  have hsz := blk_lt HK2.out.2.2
  clear b0 b1 b2 hb2 HK HS
  by_cases hs : s = 0
  rotate_left
  · have HNS : Hid (¬ s = 0) := hs
    go_wp2_with (first | (refine wpList_store_row (by rfl) 25 _ _ (by rfl) w w.heap.size (w.heap.size + 1 + 1) _ _ (by rfl) (by rfl) HK2.out.2.2 B2.out (by omega) 3 Try.infoShape (by rfl) (by rfl) (by exact one3 ..) ?_; intro W9 e9 hb9 hs9 ho9))
    refine bodyPost_ret (res_shape _ 4 5 (by kernel_rfl) _ _ (w.heap.size + 1 + 1) _ _ (by rfl) (by rfl) rfl e9) rfl ?_
    exact ⟨_, _, _, s, rfl, fun h9 => absurd h9 HNS.out, hb9⟩
  subst hs
  have HO2 : Hid _ := HOK.out HQ0.out rfl
  clear HOK
  obtain ⟨b0, b1, b2⟩ := cells3 HK2.out.2.1
  obtain ⟨a0, a1, a2, a3, a4, a5, a6, a7, a8, -, -, -, -, -⟩ := cells14 HK2.out.1
  have hp2 : (w2.alloc (.cells #[.int .i64 0, .int .i64 0, .int .i64 0] 25)).heap[w.heap.size]? = _ ∧ (w2.alloc (.cells #[.int .i64 0, .int .i64 0, .int .i64 0] 25)).heap[w.heap.size + 1]? = _ ∧ (w2.alloc (.cells #[.int .i64 0, .int .i64 0, .int .i64 0] 25)).heap[w.heap.size + 1 + 1]? = _ := ⟨alloc_kept HK2.out.1 _, alloc_kept HK2.out.2.1 _, alloc_kept HK2.out.2.2 _⟩
  go_upto_region 8 with (first | (refine wpList_store_row (by rfl) 25 _ _ (by rfl) w w.heap.size w2.heap.size _ _ (by rfl) (by rfl) (heap_alloc_new w2 _) (B2.out.alloc B2.out.size _) (by omega) 3 Try.infoShape (by rfl) (by rfl) (by exact one3 ..) ?_; intro W3 e3 hb3 hs3 ho3))
  clear a0 a1 a2 a3 a4 a5 a6 a7 a8 b0 b1 b2
  have HK3 : Hid (W3.heap[w.heap.size]? = _ ∧ W3.heap[w.heap.size + 1]? = _ ∧ W3.heap[w.heap.size + 1 + 1]? = _) := ⟨(ho3 _ (by omega)).trans (hp2.1), (ho3 _ (by omega)).trans (hp2.2.1), (ho3 _ (by omega)).trans (hp2.2.2)⟩
  obtain ⟨b0, b1, b2⟩ := cells3 HK3.out.2.1
  obtain ⟨a0, a1, a2, a3, a4, a5, a6, a7, a8, -, -, -, -, -⟩ := cells14 HK3.out.1
  have hlt3 := blk_lt e3
  clear hp2
  go_upto_region 18 with fail
  have hS1 : (fun w' => w'.cell? ⟨w.heap.size + 1, 1, none⟩ = some (.int .i64 h) ∧ w'.cell? ⟨w.heap.size + 1, 2, none⟩ = some (.int .i64 k) ∧ w'.cell? ⟨w.heap.size, 2, none⟩ = some (.int .i64 g1) ∧ w'.cell? ⟨w.heap.size, 3, none⟩ = some (.int .i64 g2) ∧ w'.cell? ⟨w.heap.size, 6, none⟩ = some (.int .i64 g5) ∧ w'.cell? ⟨w.heap.size, 7, none⟩ = some (.int .i64 g6)) W3.drew := ⟨b1, b2, a2, a3, a6, a7⟩
  have HQ7 := hqf HQ0.out rfl
  obtain ⟨wA, wB, wC, wD, wE, wF⟩ := HQ7
  refine wp_region_noPanic ?_
  refine wp_region_held_drew (S := (fun w' => w'.cell? ⟨w.heap.size + 1, 1, none⟩ = some (.int .i64 h) ∧ w'.cell? ⟨w.heap.size + 1, 2, none⟩ = some (.int .i64 k) ∧ w'.cell? ⟨w.heap.size, 2, none⟩ = some (.int .i64 g1) ∧ w'.cell? ⟨w.heap.size, 3, none⟩ = some (.int .i64 g2) ∧ w'.cell? ⟨w.heap.size, 6, none⟩ = some (.int .i64 g5) ∧ w'.cell? ⟨w.heap.size, 7, none⟩ = some (.int .i64 g6))) (by kernel_rfl) hS1 (fun _ => ?_)
  refine takeH 48 (i := 0) (v := ?_) rfl rfl (by kernel_rfl) (by kernel_rfl) (by kernel_rfl) (fun _ _ _ h => h) (Or.inl ⟨by kernel_rfl, ?_⟩) hS1 ?_
  rotate_left
  · intro w' hSw; (try dsimp only at hSw); go_simp; try with_reducible rfl
  try simp only [Act.put, List.setIfInBounds_toArray, List.set_cons_zero, List.set_cons_succ]
  refine takeH 49 (i := 1) (v := ?_) rfl rfl (by kernel_rfl) (by kernel_rfl) (by kernel_rfl) (fun _ _ _ h => h) (Or.inl ⟨by kernel_rfl, ?_⟩) hS1 ?_
  rotate_left
  · intro w' hSw; (try dsimp only at hSw); go_simp; try with_reducible rfl
  try simp only [Act.put, List.setIfInBounds_toArray, List.set_cons_zero, List.set_cons_succ]
  refine takeH 50 (i := 2) (v := ?_) rfl rfl (by kernel_rfl) (by kernel_rfl) (by kernel_rfl) (fun _ _ _ h => h) (Or.inl ⟨by kernel_rfl, ?_⟩) hS1 ?_
  rotate_left
  · intro w' hSw; (try dsimp only at hSw); go_simp; try with_reducible rfl
  try simp only [Act.put, List.setIfInBounds_toArray, List.set_cons_zero, List.set_cons_succ]
  refine takeH 51 (i := 3) (v := ?_) rfl rfl (by kernel_rfl) (by kernel_rfl) (by kernel_rfl) (fun _ _ _ h => h) (Or.inl ⟨by kernel_rfl, ?_⟩) hS1 ?_
  rotate_left
  · intro w' hSw; (try dsimp only at hSw); go_simp; try with_reducible rfl
  try simp only [Act.put, List.setIfInBounds_toArray, List.set_cons_zero, List.set_cons_succ]
  refine takeH 52 (i := 4) (v := ?_) rfl rfl (by kernel_rfl) (by kernel_rfl) (by kernel_rfl) (fun _ _ _ h => h) (Or.inl ⟨by kernel_rfl, ?_⟩) hS1 ?_
  rotate_left
  · intro w' hSw; (try dsimp only at hSw); go_simp; try with_reducible rfl
  try simp only [Act.put, List.setIfInBounds_toArray, List.set_cons_zero, List.set_cons_succ]
  refine takeH 53 (i := 5) (v := ?_) rfl rfl (by kernel_rfl) (by kernel_rfl) (by kernel_rfl) (fun _ _ _ h => h) (Or.inl ⟨by kernel_rfl, ?_⟩) hS1 ?_
  rotate_left
  · intro w' hSw; (try dsimp only at hSw); go_simp; try with_reducible rfl
  try simp only [Act.put, List.setIfInBounds_toArray, List.set_cons_zero, List.set_cons_succ]
  refine takeH 54 (i := 6) (v := ?_) rfl rfl (by kernel_rfl) (by kernel_rfl) (by kernel_rfl) (fun _ _ _ h => h) (Or.inl ⟨by kernel_rfl, ?_⟩) hS1 ?_
  rotate_left
  · intro w' hSw; (try dsimp only at hSw); go_simp; try with_reducible rfl
  try simp only [Act.put, List.setIfInBounds_toArray, List.set_cons_zero, List.set_cons_succ]
  refine takeH 55 (i := 7) (v := ?_) rfl rfl (by kernel_rfl) (by kernel_rfl) (by kernel_rfl) (fun _ _ _ h => h) (Or.inl ⟨by kernel_rfl, ?_⟩) hS1 ?_
  rotate_left
  · intro w' hSw; (try dsimp only at hSw); go_simp; try with_reducible rfl
  try simp only [Act.put, List.setIfInBounds_toArray, List.set_cons_zero, List.set_cons_succ]
  refine takeH 56 (i := 8) (v := ?_) rfl rfl (by kernel_rfl) (by kernel_rfl) (by kernel_rfl) (fun _ _ _ h => h) (Or.inl ⟨by kernel_rfl, ?_⟩) hS1 ?_
  rotate_left
  · intro w' hSw; (try dsimp only at hSw); go_simp; try with_reducible rfl
  try simp only [Act.put, List.setIfInBounds_toArray, List.set_cons_zero, List.set_cons_succ]
  refine takeH 57 (i := 9) (v := ?_) rfl rfl (by kernel_rfl) (by kernel_rfl) (by kernel_rfl) (fun _ _ _ h => h) (Or.inl ⟨by kernel_rfl, ?_⟩) hS1 ?_
  rotate_left
  · intro w' hSw; (try dsimp only at hSw); go_simp; try with_reducible rfl
  try simp only [Act.put, List.setIfInBounds_toArray, List.set_cons_zero, List.set_cons_succ]
  refine takeH 58 (i := 10) (v := ?_) rfl rfl (by kernel_rfl) (by kernel_rfl) (by kernel_rfl) (fun _ _ _ h => h) (Or.inl ⟨by kernel_rfl, ?_⟩) hS1 ?_
  rotate_left
  · intro w' hSw; (try dsimp only at hSw); go_simp; try with_reducible rfl
  try simp only [Act.put, List.setIfInBounds_toArray, List.set_cons_zero, List.set_cons_succ]
  refine takeH 59 (i := 11) (v := ?_) rfl rfl (by kernel_rfl) (by kernel_rfl) (by kernel_rfl) (fun _ _ _ h => h) (Or.inl ⟨by kernel_rfl, ?_⟩) hS1 ?_
  rotate_left
  · intro w' hSw; (try dsimp only at hSw); go_simp; try with_reducible rfl
  try simp only [Act.put, List.setIfInBounds_toArray, List.set_cons_zero, List.set_cons_succ]
  refine takeH 60 (i := 12) (v := ?_) rfl rfl (by kernel_rfl) (by kernel_rfl) (by kernel_rfl) (fun _ _ _ h => h) (Or.inl ⟨by kernel_rfl, ?_⟩) hS1 ?_
  rotate_left
  · intro w' hSw; (try dsimp only at hSw); go_simp; try with_reducible rfl
  try simp only [Act.put, List.setIfInBounds_toArray, List.set_cons_zero, List.set_cons_succ]
  refine takeH 61 (i := 13) (v := ?_) rfl rfl (by kernel_rfl) (by kernel_rfl) (by kernel_rfl) (fun _ _ _ h => h) (Or.inl ⟨by kernel_rfl, ?_⟩) hS1 ?_
  rotate_left
  · intro w' hSw; (try dsimp only at hSw); go_simp; try with_reducible rfl
  try simp only [Act.put, List.setIfInBounds_toArray, List.set_cons_zero, List.set_cons_succ]
  refine takeH 62 (i := 14) (v := ?_) rfl rfl (by kernel_rfl) (by kernel_rfl) (by kernel_rfl) (fun _ _ _ h => h) (Or.inl ⟨by kernel_rfl, ?_⟩) hS1 ?_
  rotate_left
  · intro w' hSw; (try dsimp only at hSw); go_simp; try with_reducible rfl
  try simp only [Act.put, List.setIfInBounds_toArray, List.set_cons_zero, List.set_cons_succ]
  refine takeH 63 (i := 15) (v := ?_) rfl rfl (by kernel_rfl) (by kernel_rfl) (by kernel_rfl) (fun _ _ _ h => h) (Or.inl ⟨by kernel_rfl, ?_⟩) hS1 ?_
  rotate_left
  · intro w' hSw; (try dsimp only at hSw); go_simp; try with_reducible rfl
  try simp only [Act.put, List.setIfInBounds_toArray, List.set_cons_zero, List.set_cons_succ]
  refine takeH 64 (i := 16) (v := ?_) rfl rfl (by kernel_rfl) (by kernel_rfl) (by kernel_rfl) (fun _ _ _ h => h) (Or.inl ⟨by kernel_rfl, ?_⟩) hS1 ?_
  rotate_left
  · intro w' hSw; (try dsimp only at hSw); go_simp; try with_reducible rfl
  try simp only [Act.put, List.setIfInBounds_toArray, List.set_cons_zero, List.set_cons_succ]
  refine takeH 65 (i := 17) (v := ?_) rfl rfl (by kernel_rfl) (by kernel_rfl) (by kernel_rfl) (fun _ _ _ h => h) (Or.inl ⟨by kernel_rfl, ?_⟩) hS1 ?_
  rotate_left
  · intro w' hSw; (try dsimp only at hSw); go_simp; try with_reducible rfl
  try simp only [Act.put, List.setIfInBounds_toArray, List.set_cons_zero, List.set_cons_succ]
  refine takeH 9 (i := 18) (v := ?_) rfl rfl (by kernel_rfl) (by kernel_rfl) (by kernel_rfl) (fun _ _ _ h => h) (Or.inl ⟨by kernel_rfl, ?_⟩) hS1 ?_
  rotate_left
  · intro w' hSw; (try dsimp only at hSw); go_simp; try with_reducible rfl
  try simp only [Act.put, List.setIfInBounds_toArray, List.set_cons_zero, List.set_cons_succ]
  refine takeH 10 (i := 19) (v := ?_) rfl rfl (by kernel_rfl) (by kernel_rfl) (by kernel_rfl) (fun _ _ _ h => h) (Or.inl ⟨by kernel_rfl, ?_⟩) hS1 ?_
  rotate_left
  · intro w' hSw; (try dsimp only at hSw); go_simp; try with_reducible rfl
  try simp only [Act.put, List.setIfInBounds_toArray, List.set_cons_zero, List.set_cons_succ]
  refine wpAnyH_done (by kernel_rfl) ?_ _
  refine NoPanic.normal ?_
  try simp only [Act.put, List.setIfInBounds_toArray, List.set_cons_zero, List.set_cons_succ]
  clear hS1 wA wB wC wD wE wF
  by_cases hr1 : r1 < 0
  · have hd1 : decide (r1 < 0) = true := decide_eq_true hr1
    have HR1 : Hid (r1 < 0) := hr1
    go_wp2_with (first | (refine wpList_store_row (by rfl) 25 _ _ (by rfl) w w.heap.size (w.heap.size + 1 + 1) _ _ (by rfl) (by rfl) HK3.out.2.2 hb3.drew (by omega) 3 Try.infoShape (by rfl) (by rfl) (by exact one3 ..) ?_; intro W9 e9 hb9 hs9 ho9))
    refine bodyPost_ret (res_shape _ 4 5 (by kernel_rfl) _ _ (w.heap.size + 1 + 1) _ _ (by rfl) (by rfl) rfl e9) rfl ?_
    exact ⟨_, _, _, 60, rfl, fun h9 => absurd h9 (by decide), hb9⟩
  have hd1 : decide (r1 < 0) = false := decide_eq_false hr1
  by_cases hr2 : r2 < 0
  · have hd2 : decide (r2 < 0) = true := decide_eq_true hr2
    have HR2 : Hid (r2 < 0) := hr2
    go_wp2_with (first | (refine wpList_store_row (by rfl) 25 _ _ (by rfl) w w.heap.size (w.heap.size + 1 + 1) _ _ (by rfl) (by rfl) HK3.out.2.2 hb3.drew (by omega) 3 Try.infoShape (by rfl) (by rfl) (by exact one3 ..) ?_; intro W9 e9 hb9 hs9 ho9))
    refine bodyPost_ret (res_shape _ 4 5 (by kernel_rfl) _ _ (w.heap.size + 1 + 1) _ _ (by rfl) (by rfl) rfl e9) rfl ?_
    exact ⟨_, _, _, 60, rfl, fun h9 => absurd h9 (by decide), hb9⟩
  have hd2 : decide (r2 < 0) = false := decide_eq_false hr2
  have HR : Hid (0 ≤ r1 ∧ 0 ≤ r2) := ⟨by omega, by omega⟩
  have HO3 : Hid (s' = 0 → OK) := HO2.out HR.out.1 HR.out.2
  have HDV := hdv HQ0.out rfl HR.out
  clear HO2
  go_upto_region 21 with fail
  clear hd1 hd2 hr1 hr2
  have hS2 : (fun w' => w'.cell? ⟨w.heap.size + 1, 0, none⟩ = some (.int .i64 c) ∧ w'.cell? ⟨w.heap.size, 4, none⟩ = some (.int .i64 g3) ∧ w'.cell? ⟨w.heap.size, 5, none⟩ = some (.int .i64 g4)) (W3.drew).drew := ⟨b0, a4, a5⟩
  obtain ⟨wA, wB, wC, wD, wE, wF⟩ := HDV
  clear a0 a1 a2 a3 a4 a5 a6 a7 a8 b0 b1 b2
  refine wp_region_noPanic ?_
  refine wp_region_held_drew (S := (fun w' => w'.cell? ⟨w.heap.size + 1, 0, none⟩ = some (.int .i64 c) ∧ w'.cell? ⟨w.heap.size, 4, none⟩ = some (.int .i64 g3) ∧ w'.cell? ⟨w.heap.size, 5, none⟩ = some (.int .i64 g4))) (by kernel_rfl) hS2 (fun _ => ?_)
  refine takeH 73 (i := 0) (v := ?_) rfl rfl (by kernel_rfl) (by kernel_rfl) (by kernel_rfl) (fun _ _ _ h => h) (Or.inl ⟨by kernel_rfl, ?_⟩) hS2 ?_
  rotate_left
  · intro w' hSw; (try dsimp only at hSw); go_simp; try with_reducible rfl
  try simp only [Act.put, List.setIfInBounds_toArray, List.set_cons_zero, List.set_cons_succ]
  refine takeH 74 (i := 1) (v := ?_) rfl rfl (by kernel_rfl) (by kernel_rfl) (by kernel_rfl) (fun _ _ _ h => h) (Or.inl ⟨by kernel_rfl, ?_⟩) hS2 ?_
  rotate_left
  · intro w' hSw; (try dsimp only at hSw); go_simp; try with_reducible rfl
  try simp only [Act.put, List.setIfInBounds_toArray, List.set_cons_zero, List.set_cons_succ]
  refine takeH 75 (i := 2) (v := ?_) rfl rfl (by kernel_rfl) (by kernel_rfl) (by kernel_rfl) (fun _ _ _ h => h) (Or.inl ⟨by kernel_rfl, ?_⟩) hS2 ?_
  rotate_left
  · intro w' hSw; (try dsimp only at hSw); go_simp; try with_reducible rfl
  try simp only [Act.put, List.setIfInBounds_toArray, List.set_cons_zero, List.set_cons_succ]
  refine takeH 76 (i := 3) (v := ?_) rfl rfl (by kernel_rfl) (by kernel_rfl) (by kernel_rfl) (fun _ _ _ h => h) (Or.inl ⟨by kernel_rfl, ?_⟩) hS2 ?_
  rotate_left
  · intro w' hSw; (try dsimp only at hSw); go_simp; try with_reducible rfl
  try simp only [Act.put, List.setIfInBounds_toArray, List.set_cons_zero, List.set_cons_succ]
  refine takeH 77 (i := 4) (v := ?_) rfl rfl (by kernel_rfl) (by kernel_rfl) (by kernel_rfl) (fun _ _ _ h => h) (Or.inl ⟨by kernel_rfl, ?_⟩) hS2 ?_
  rotate_left
  · intro w' hSw; (try dsimp only at hSw); go_simp; try with_reducible rfl
  try simp only [Act.put, List.setIfInBounds_toArray, List.set_cons_zero, List.set_cons_succ]
  refine takeH 78 (i := 5) (v := ?_) rfl rfl (by kernel_rfl) (by kernel_rfl) (by kernel_rfl) (fun _ _ _ h => h) (Or.inl ⟨by kernel_rfl, ?_⟩) hS2 ?_
  rotate_left
  · intro w' hSw; (try dsimp only at hSw); go_simp; try with_reducible rfl
  try simp only [Act.put, List.setIfInBounds_toArray, List.set_cons_zero, List.set_cons_succ]
  refine takeH 79 (i := 6) (v := ?_) rfl rfl (by kernel_rfl) (by kernel_rfl) (by kernel_rfl) (fun _ _ _ h => h) (Or.inl ⟨by kernel_rfl, ?_⟩) hS2 ?_
  rotate_left
  · intro w' hSw; (try dsimp only at hSw); go_simp; try with_reducible rfl
  try simp only [Act.put, List.setIfInBounds_toArray, List.set_cons_zero, List.set_cons_succ]
  refine takeH 80 (i := 7) (v := ?_) rfl rfl (by kernel_rfl) (by kernel_rfl) (by kernel_rfl) (fun _ _ _ h => h) (Or.inl ⟨by kernel_rfl, ?_⟩) hS2 ?_
  rotate_left
  · intro w' hSw; (try dsimp only at hSw); go_simp; try with_reducible rfl
  try simp only [Act.put, List.setIfInBounds_toArray, List.set_cons_zero, List.set_cons_succ]
  refine takeH 81 (i := 8) (v := ?_) rfl rfl (by kernel_rfl) (by kernel_rfl) (by kernel_rfl) (fun _ _ _ h => h) (Or.inl ⟨by kernel_rfl, ?_⟩) hS2 ?_
  rotate_left
  · intro w' hSw; (try dsimp only at hSw); go_simp; try with_reducible rfl
  try simp only [Act.put, List.setIfInBounds_toArray, List.set_cons_zero, List.set_cons_succ]
  refine takeH 82 (i := 9) (v := ?_) rfl rfl (by kernel_rfl) (by kernel_rfl) (by kernel_rfl) (fun _ _ _ h => h) (Or.inl ⟨by kernel_rfl, ?_⟩) hS2 ?_
  rotate_left
  · intro w' hSw; (try dsimp only at hSw); go_simp; try with_reducible rfl
  try simp only [Act.put, List.setIfInBounds_toArray, List.set_cons_zero, List.set_cons_succ]
  refine takeH 83 (i := 10) (v := ?_) rfl rfl (by kernel_rfl) (by kernel_rfl) (by kernel_rfl) (fun _ _ _ h => h) (Or.inl ⟨by kernel_rfl, ?_⟩) hS2 ?_
  rotate_left
  · intro w' hSw; (try dsimp only at hSw); go_simp; try with_reducible rfl
  try simp only [Act.put, List.setIfInBounds_toArray, List.set_cons_zero, List.set_cons_succ]
  refine takeH 84 (i := 11) (v := ?_) rfl rfl (by kernel_rfl) (by kernel_rfl) (by kernel_rfl) (fun _ _ _ h => h) (Or.inl ⟨by kernel_rfl, ?_⟩) hS2 ?_
  rotate_left
  · intro w' hSw; (try dsimp only at hSw); go_simp; try with_reducible rfl
  try simp only [Act.put, List.setIfInBounds_toArray, List.set_cons_zero, List.set_cons_succ]
  refine takeH 85 (i := 12) (v := ?_) rfl rfl (by kernel_rfl) (by kernel_rfl) (by kernel_rfl) (fun _ _ _ h => h) (Or.inl ⟨by kernel_rfl, ?_⟩) hS2 ?_
  rotate_left
  · intro w' hSw; (try dsimp only at hSw); go_simp; try with_reducible rfl
  try simp only [Act.put, List.setIfInBounds_toArray, List.set_cons_zero, List.set_cons_succ]
  refine wpAnyH_ready (rs := [13]) (by kernel_rfl) (by simp) ?_
  refine consH _ rfl (hopL rfl (wpList_store_row (by rfl) 25 _ _ (by rfl) w w.heap.size w2.heap.size #[.int .i64 c, .int .i64 d1, .int .i64 d2] _ (by kernel_rfl) (by kernel_rfl) e3 hb3.drew.drew (by omega) 3 Try.infoShape (by rfl) (by rfl) (by exact one3 ..) fun W4 e4 hb4 hs4 ho4 => ?_)) AllReadyH.nil
  have HK4 : Hid (W4.heap[w.heap.size]? = _ ∧ W4.heap[w.heap.size + 1]? = _ ∧ W4.heap[w.heap.size + 1 + 1]? = _) := ⟨(ho4 _ (by omega)).trans (HK3.out.1), (ho4 _ (by omega)).trans (HK3.out.2.1), (ho4 _ (by omega)).trans (HK3.out.2.2)⟩
  obtain ⟨b0, b1, b2⟩ := cells3 HK4.out.2.1
  obtain ⟨a0, a1, a2, a3, a4, a5, a6, a7, a8, -, -, -, -, -⟩ := cells14 HK4.out.1
  have hS4 : (fun w' => w'.cell? ⟨w.heap.size + 1, 0, none⟩ = some (.int .i64 c) ∧ w'.cell? ⟨w.heap.size, 4, none⟩ = some (.int .i64 g3) ∧ w'.cell? ⟨w.heap.size, 5, none⟩ = some (.int .i64 g4)) W4 := ⟨b0, a4, a5⟩
  refine (And.intro hS4 ?_ : _ ∧ _)
  try simp only [Act.put, List.setIfInBounds_toArray, List.set_cons_zero, List.set_cons_succ]
  refine wpAnyH_done (by kernel_rfl) ?_ _
  refine NoPanic.normal ?_
  try simp only [Act.put, List.setIfInBounds_toArray, List.set_cons_zero, List.set_cons_succ]
  clear hS2 hS4 wA wB wC wD wE wF
  go_upto_region 23 with fail
  go_upto_region 24 with (first | (refine wpList_store_at (by rfl) 3 _ _ (by rfl) w w.heap.size w2.heap.size 0 (.int .i64 g0) _ #[.int .i64 g0, .int .i64 d1, .int .i64 d2] 25 (by rfl) (by rfl) e4 hb4 (by omega) 1 Try.infoInt (by rfl) (Nat.le_of_ble_eq_true rfl) (by exact one_int _) (by rfl) ?_; intro W5 e5 hb5 hs5 ho5))
  clear a0 a1 a2 a3 a4 a5 a6 a7 a8 b0 b1 b2
  have HK5 : Hid (W5.heap[w.heap.size]? = _ ∧ W5.heap[w.heap.size + 1]? = _ ∧ W5.heap[w.heap.size + 1 + 1]? = _) := ⟨(ho5 _ (by omega)).trans (HK4.out.1), (ho5 _ (by omega)).trans (HK4.out.2.1), (ho5 _ (by omega)).trans (HK4.out.2.2)⟩
  obtain ⟨b0, b1, b2⟩ := cells3 HK5.out.2.1
  obtain ⟨a0, a1, a2, a3, a4, a5, a6, a7, a8, -, -, -, -, -⟩ := cells14 HK5.out.1
  clear ho3 ho4 hs3 hs4 hb3 e3 HK3 HK2 e4 hb4 ho5 hs5 HK4
  have X3 := hb5
  obtain ⟨s0, s1, s2⟩ := cells3 e5
  go_upto_region 25 with (first | (go_at_call 30; refine Calls.mono (HT.out _) ?_; rintro e w3 ⟨rfl, hb3⟩))
  have B3 : Hid (Below w.heap.size w w3) := to_call X3 hb3
  have K3 : Hid (w3.heap[w.heap.size + 1 + 1]? = _) := kept hb3 HK5.out.2.2
  have Z3 := kept hb3 e5
  clear s0 s1 s2 a0 a1 a2 a3 a4 a5 a6 a7 a8 b0 b1 b2 hb3 X3 HT
  by_cases hs' : s' = 0
  rotate_left
  · have HNT : Hid (¬ s' = 0) := hs'
    go_wp2_with (first | (refine wpList_store_row (by rfl) 25 _ _ (by rfl) w w.heap.size (w.heap.size + 1 + 1) _ _ (by rfl) (by rfl) K3.out B3.out (by omega) 3 Try.infoShape (by rfl) (by rfl) (by exact one3 ..) ?_; intro W9 e9 hb9 hs9 ho9))
    refine bodyPost_ret (res_shape _ 4 5 (by kernel_rfl) _ _ (w.heap.size + 1 + 1) _ _ (by rfl) (by rfl) rfl e9) rfl ?_
    exact ⟨_, _, _, s', rfl, fun h9 => absurd h9 HNT.out, hb9⟩
  subst hs'
  have HO9 : Hid OK := HO3.out rfl
  obtain ⟨s0, s1, s2⟩ := cells3 Z3
  go_wp2_with (first | (refine wpList_store_row (by rfl) 25 _ _ (by rfl) w w.heap.size (w.heap.size + 1 + 1) _ _ (by rfl) (by rfl) K3.out B3.out (by omega) 3 Try.infoShape (by rfl) (by rfl) (by exact one3 ..) ?_; intro W9 e9 hb9 hs9 ho9))
  refine bodyPost_ret (res_shape _ 4 5 (by kernel_rfl) _ _ (w.heap.size + 1 + 1) _ _ (by rfl) (by rfl) rfl e9) rfl ?_
  exact ⟨_, _, _, 0, rfl, fun _ => HO9.out, hb9⟩
set_option maxRecDepth 100000 in
set_option maxHeartbeats 8000000 in
theorem outW4_any (g0 g1 g2 g3 g4 g5 g6 g7 c h k n s n' s' u1 u2 u3 u4 r1 r2 e1 e2 d1 d2 : Int) (a9 v1 v2 v3 v4 : Value) (Q OK : Prop) (hqf : Q → s = 0 → IntKind.i64.wrap (2 * g5) = u1 ∧ IntKind.i64.wrap (h + u1) = u2 ∧ IntKind.i64.wrap (u2 - g1) = r1 ∧ IntKind.i64.wrap (2 * g6) = u3 ∧ IntKind.i64.wrap (k + u3) = u4 ∧ IntKind.i64.wrap (u4 - g2) = r2)
    (hdv : Q → s = 0 → 0 ≤ r1 ∧ 0 ≤ r2 → ¬ g3 = 0 ∧ ¬ g4 = 0 ∧ IntKind.i64.wrap (r1.tdiv g3) = e1 ∧ IntKind.i64.wrap (r2.tdiv g4) = e2 ∧ IntKind.i64.wrap (e1 + 1) = d1 ∧ IntKind.i64.wrap (e2 + 1) = d2) (hOK : Q → s = 0 → 0 ≤ r1 → 0 ≤ r2 → s' = 0 → OK)
    (hF : ∀ w, Calls Try.prog 43 #[.agg #[.int .i64 4, .int .i64 g0, .int .i64 g1, .int .i64 g2, .int .i64 g3, .int .i64 g4, .int .i64 g5, .int .i64 g6, .int .i64 g7, a9, v1, v2, v3, v4]] w fun e w' => ∃ f : Int, e = .returned (.int .i64 f) ∧ (f = 0 → Q) ∧ Below w.heap.size w w')
    (hS : ∀ w, Calls Try.prog 30 #[.agg #[.int .i64 c, .int .i64 h, .int .i64 k]] w fun e w' => e = .returned (.tuple #[.int .i64 n, .int .i64 s]) ∧ Below w.heap.size w w')
    (hT : ∀ w, Calls Try.prog 30 #[.agg #[.int .i64 c, .int .i64 d1, .int .i64 d2]] w fun e w' => e = .returned (.tuple #[.int .i64 n', .int .i64 s']) ∧ Below w.heap.size w w') (w : World) :
    Calls Try.prog 29 #[.agg #[.int .i64 4, .int .i64 g0, .int .i64 g1, .int .i64 g2, .int .i64 g3, .int .i64 g4, .int .i64 g5, .int .i64 g6, .int .i64 g7, a9, v1, v2, v3, v4], .agg #[.int .i64 c, .int .i64 h, .int .i64 k]] w fun e w' => ∃ o1 o2 o3 f : Int, e = .returned (.tuple #[.agg #[.int .i64 o1, .int .i64 o2, .int .i64 o3], .int .i64 f]) ∧ (f = 0 → OK) ∧ Below w.heap.size w w' := by
  have HF : Hid _ := hF
  have HOK : Hid (Q → s = 0 → 0 ≤ r1 → 0 ≤ r2 → s' = 0 → OK) := hOK
  have HS : Hid _ := hS
  have HT : Hid _ := hT
  clear hF hS hT hOK
  have X0 : Below w.heap.size w (((w.alloc (.cells #[.int .i64 4, .int .i64 g0, .int .i64 g1, .int .i64 g2, .int .i64 g3, .int .i64 g4, .int .i64 g5, .int .i64 g6, .int .i64 g7, a9, v1, v2, v3, v4] 55)).alloc (.cells #[.int .i64 c, .int .i64 h, .int .i64 k] 25)).alloc (.cells #[.int .i64 0, .int .i64 0, .int .i64 0] 25)) := (((Below.refl _ w).alloc (Nat.le_refl _) _).alloc (by simp only [alloc_size]; omega) _).alloc (by simp only [alloc_size]; omega) _
  go_enter Try.func29, Try.ntmps29
  go_wp2_with fail
  refine Calls.mono (HF.out _) ?_
  rintro e w1 ⟨f, rfl, hfq, hb⟩
  have HQ : Hid (f = 0 → Q) := hfq
  have B1 : Hid (Below w.heap.size w w1) := to_call X0 hb
  have k0 := kept hb (alloc_kept (alloc_kept (heap_alloc_new w _) _) _)
  have k1 := kept hb (alloc_kept (heap_at _ _ (w.heap.size + 1) (by simp only [alloc_size])) _)
  have k2 := kept hb (heap_at _ _ (w.heap.size + 1 + 1) (by simp only [alloc_size]))
  have HK : Hid (w1.heap[w.heap.size]? = _ ∧ w1.heap[w.heap.size + 1]? = _ ∧ w1.heap[w.heap.size + 1 + 1]? = _) := ⟨k0, k1, k2⟩
  have hsz1 := blk_lt k2
  clear hb X0 HF k0 k1 k2 hfq
  by_cases hf : f = 0
  rotate_left
  · have HNF : Hid (¬ f = 0) := hf
    go_wp2_with (first | (refine wpList_store_row (by rfl) 25 _ _ (by rfl) w w.heap.size (w.heap.size + 1 + 1) _ _ (by rfl) (by rfl) HK.out.2.2 B1.out (by omega) 3 Try.infoShape (by rfl) (by rfl) (by exact one3 ..) ?_; intro W9 e9 hb9 hs9 ho9))
    refine bodyPost_ret (res_shape _ 4 5 (by kernel_rfl) _ _ (w.heap.size + 1 + 1) _ _ (by rfl) (by rfl) rfl e9) rfl ?_
    exact ⟨_, _, _, f, rfl, fun h9 => absurd h9 HNF.out, hb9⟩
  subst hf
  have HQ0 : Hid Q := HQ.out rfl
  clear HQ
  obtain ⟨b0, b1, b2⟩ := cells3 HK.out.2.1
  go_upto_region 5 with (first | (go_at_call 30; refine Calls.mono (HS.out _) ?_; rintro e w2 ⟨rfl, hb2⟩))
  have B2 : Hid (Below w.heap.size w w2) := to_call B1.out hb2
  have HK2 : Hid (w2.heap[w.heap.size]? = _ ∧ w2.heap[w.heap.size + 1]? = _ ∧ w2.heap[w.heap.size + 1 + 1]? = _) := ⟨kept hb2 HK.out.1, kept hb2 HK.out.2.1, kept hb2 HK.out.2.2⟩
  have hsz := blk_lt HK2.out.2.2
  clear b0 b1 b2 hb2 HK HS
  by_cases hs : s = 0
  rotate_left
  · have HNS : Hid (¬ s = 0) := hs
    go_wp2_with (first | (refine wpList_store_row (by rfl) 25 _ _ (by rfl) w w.heap.size (w.heap.size + 1 + 1) _ _ (by rfl) (by rfl) HK2.out.2.2 B2.out (by omega) 3 Try.infoShape (by rfl) (by rfl) (by exact one3 ..) ?_; intro W9 e9 hb9 hs9 ho9))
    refine bodyPost_ret (res_shape _ 4 5 (by kernel_rfl) _ _ (w.heap.size + 1 + 1) _ _ (by rfl) (by rfl) rfl e9) rfl ?_
    exact ⟨_, _, _, s, rfl, fun h9 => absurd h9 HNS.out, hb9⟩
  subst hs
  have HO2 : Hid _ := HOK.out HQ0.out rfl
  clear HOK
  obtain ⟨b0, b1, b2⟩ := cells3 HK2.out.2.1
  obtain ⟨a0, a1, a2, a3, a4, a5, a6, a7, a8, -, -, -, -, -⟩ := cells14 HK2.out.1
  have hp2 : (w2.alloc (.cells #[.int .i64 0, .int .i64 0, .int .i64 0] 25)).heap[w.heap.size]? = _ ∧ (w2.alloc (.cells #[.int .i64 0, .int .i64 0, .int .i64 0] 25)).heap[w.heap.size + 1]? = _ ∧ (w2.alloc (.cells #[.int .i64 0, .int .i64 0, .int .i64 0] 25)).heap[w.heap.size + 1 + 1]? = _ := ⟨alloc_kept HK2.out.1 _, alloc_kept HK2.out.2.1 _, alloc_kept HK2.out.2.2 _⟩
  go_upto_region 8 with (first | (refine wpList_store_row (by rfl) 25 _ _ (by rfl) w w.heap.size w2.heap.size _ _ (by rfl) (by rfl) (heap_alloc_new w2 _) (B2.out.alloc B2.out.size _) (by omega) 3 Try.infoShape (by rfl) (by rfl) (by exact one3 ..) ?_; intro W3 e3 hb3 hs3 ho3))
  clear a0 a1 a2 a3 a4 a5 a6 a7 a8 b0 b1 b2
  have HK3 : Hid (W3.heap[w.heap.size]? = _ ∧ W3.heap[w.heap.size + 1]? = _ ∧ W3.heap[w.heap.size + 1 + 1]? = _) := ⟨(ho3 _ (by omega)).trans (hp2.1), (ho3 _ (by omega)).trans (hp2.2.1), (ho3 _ (by omega)).trans (hp2.2.2)⟩
  obtain ⟨b0, b1, b2⟩ := cells3 HK3.out.2.1
  obtain ⟨a0, a1, a2, a3, a4, a5, a6, a7, a8, -, -, -, -, -⟩ := cells14 HK3.out.1
  have hlt3 := blk_lt e3
  clear hp2
  go_upto_region 18 with fail
  have hS1 : (fun w' => w'.cell? ⟨w.heap.size + 1, 1, none⟩ = some (.int .i64 h) ∧ w'.cell? ⟨w.heap.size + 1, 2, none⟩ = some (.int .i64 k) ∧ w'.cell? ⟨w.heap.size, 2, none⟩ = some (.int .i64 g1) ∧ w'.cell? ⟨w.heap.size, 3, none⟩ = some (.int .i64 g2) ∧ w'.cell? ⟨w.heap.size, 6, none⟩ = some (.int .i64 g5) ∧ w'.cell? ⟨w.heap.size, 7, none⟩ = some (.int .i64 g6)) W3.drew := ⟨b1, b2, a2, a3, a6, a7⟩
  have HQ7 := hqf HQ0.out rfl
  obtain ⟨wA, wB, wC, wD, wE, wF⟩ := HQ7
  refine wp_region_noPanic ?_
  refine wp_region_held_drew (S := (fun w' => w'.cell? ⟨w.heap.size + 1, 1, none⟩ = some (.int .i64 h) ∧ w'.cell? ⟨w.heap.size + 1, 2, none⟩ = some (.int .i64 k) ∧ w'.cell? ⟨w.heap.size, 2, none⟩ = some (.int .i64 g1) ∧ w'.cell? ⟨w.heap.size, 3, none⟩ = some (.int .i64 g2) ∧ w'.cell? ⟨w.heap.size, 6, none⟩ = some (.int .i64 g5) ∧ w'.cell? ⟨w.heap.size, 7, none⟩ = some (.int .i64 g6))) (by kernel_rfl) hS1 (fun _ => ?_)
  refine takeH 48 (i := 0) (v := ?_) rfl rfl (by kernel_rfl) (by kernel_rfl) (by kernel_rfl) (fun _ _ _ h => h) (Or.inl ⟨by kernel_rfl, ?_⟩) hS1 ?_
  rotate_left
  · intro w' hSw; (try dsimp only at hSw); go_simp; try with_reducible rfl
  try simp only [Act.put, List.setIfInBounds_toArray, List.set_cons_zero, List.set_cons_succ]
  refine takeH 49 (i := 1) (v := ?_) rfl rfl (by kernel_rfl) (by kernel_rfl) (by kernel_rfl) (fun _ _ _ h => h) (Or.inl ⟨by kernel_rfl, ?_⟩) hS1 ?_
  rotate_left
  · intro w' hSw; (try dsimp only at hSw); go_simp; try with_reducible rfl
  try simp only [Act.put, List.setIfInBounds_toArray, List.set_cons_zero, List.set_cons_succ]
  refine takeH 50 (i := 2) (v := ?_) rfl rfl (by kernel_rfl) (by kernel_rfl) (by kernel_rfl) (fun _ _ _ h => h) (Or.inl ⟨by kernel_rfl, ?_⟩) hS1 ?_
  rotate_left
  · intro w' hSw; (try dsimp only at hSw); go_simp; try with_reducible rfl
  try simp only [Act.put, List.setIfInBounds_toArray, List.set_cons_zero, List.set_cons_succ]
  refine takeH 51 (i := 3) (v := ?_) rfl rfl (by kernel_rfl) (by kernel_rfl) (by kernel_rfl) (fun _ _ _ h => h) (Or.inl ⟨by kernel_rfl, ?_⟩) hS1 ?_
  rotate_left
  · intro w' hSw; (try dsimp only at hSw); go_simp; try with_reducible rfl
  try simp only [Act.put, List.setIfInBounds_toArray, List.set_cons_zero, List.set_cons_succ]
  refine takeH 52 (i := 4) (v := ?_) rfl rfl (by kernel_rfl) (by kernel_rfl) (by kernel_rfl) (fun _ _ _ h => h) (Or.inl ⟨by kernel_rfl, ?_⟩) hS1 ?_
  rotate_left
  · intro w' hSw; (try dsimp only at hSw); go_simp; try with_reducible rfl
  try simp only [Act.put, List.setIfInBounds_toArray, List.set_cons_zero, List.set_cons_succ]
  refine takeH 53 (i := 5) (v := ?_) rfl rfl (by kernel_rfl) (by kernel_rfl) (by kernel_rfl) (fun _ _ _ h => h) (Or.inl ⟨by kernel_rfl, ?_⟩) hS1 ?_
  rotate_left
  · intro w' hSw; (try dsimp only at hSw); go_simp; try with_reducible rfl
  try simp only [Act.put, List.setIfInBounds_toArray, List.set_cons_zero, List.set_cons_succ]
  refine takeH 54 (i := 6) (v := ?_) rfl rfl (by kernel_rfl) (by kernel_rfl) (by kernel_rfl) (fun _ _ _ h => h) (Or.inl ⟨by kernel_rfl, ?_⟩) hS1 ?_
  rotate_left
  · intro w' hSw; (try dsimp only at hSw); go_simp; try with_reducible rfl
  try simp only [Act.put, List.setIfInBounds_toArray, List.set_cons_zero, List.set_cons_succ]
  refine takeH 55 (i := 7) (v := ?_) rfl rfl (by kernel_rfl) (by kernel_rfl) (by kernel_rfl) (fun _ _ _ h => h) (Or.inl ⟨by kernel_rfl, ?_⟩) hS1 ?_
  rotate_left
  · intro w' hSw; (try dsimp only at hSw); go_simp; try with_reducible rfl
  try simp only [Act.put, List.setIfInBounds_toArray, List.set_cons_zero, List.set_cons_succ]
  refine takeH 56 (i := 8) (v := ?_) rfl rfl (by kernel_rfl) (by kernel_rfl) (by kernel_rfl) (fun _ _ _ h => h) (Or.inl ⟨by kernel_rfl, ?_⟩) hS1 ?_
  rotate_left
  · intro w' hSw; (try dsimp only at hSw); go_simp; try with_reducible rfl
  try simp only [Act.put, List.setIfInBounds_toArray, List.set_cons_zero, List.set_cons_succ]
  refine takeH 57 (i := 9) (v := ?_) rfl rfl (by kernel_rfl) (by kernel_rfl) (by kernel_rfl) (fun _ _ _ h => h) (Or.inl ⟨by kernel_rfl, ?_⟩) hS1 ?_
  rotate_left
  · intro w' hSw; (try dsimp only at hSw); go_simp; try with_reducible rfl
  try simp only [Act.put, List.setIfInBounds_toArray, List.set_cons_zero, List.set_cons_succ]
  refine takeH 58 (i := 10) (v := ?_) rfl rfl (by kernel_rfl) (by kernel_rfl) (by kernel_rfl) (fun _ _ _ h => h) (Or.inl ⟨by kernel_rfl, ?_⟩) hS1 ?_
  rotate_left
  · intro w' hSw; (try dsimp only at hSw); go_simp; try with_reducible rfl
  try simp only [Act.put, List.setIfInBounds_toArray, List.set_cons_zero, List.set_cons_succ]
  refine takeH 59 (i := 11) (v := ?_) rfl rfl (by kernel_rfl) (by kernel_rfl) (by kernel_rfl) (fun _ _ _ h => h) (Or.inl ⟨by kernel_rfl, ?_⟩) hS1 ?_
  rotate_left
  · intro w' hSw; (try dsimp only at hSw); go_simp; try with_reducible rfl
  try simp only [Act.put, List.setIfInBounds_toArray, List.set_cons_zero, List.set_cons_succ]
  refine takeH 60 (i := 12) (v := ?_) rfl rfl (by kernel_rfl) (by kernel_rfl) (by kernel_rfl) (fun _ _ _ h => h) (Or.inl ⟨by kernel_rfl, ?_⟩) hS1 ?_
  rotate_left
  · intro w' hSw; (try dsimp only at hSw); go_simp; try with_reducible rfl
  try simp only [Act.put, List.setIfInBounds_toArray, List.set_cons_zero, List.set_cons_succ]
  refine takeH 61 (i := 13) (v := ?_) rfl rfl (by kernel_rfl) (by kernel_rfl) (by kernel_rfl) (fun _ _ _ h => h) (Or.inl ⟨by kernel_rfl, ?_⟩) hS1 ?_
  rotate_left
  · intro w' hSw; (try dsimp only at hSw); go_simp; try with_reducible rfl
  try simp only [Act.put, List.setIfInBounds_toArray, List.set_cons_zero, List.set_cons_succ]
  refine takeH 62 (i := 14) (v := ?_) rfl rfl (by kernel_rfl) (by kernel_rfl) (by kernel_rfl) (fun _ _ _ h => h) (Or.inl ⟨by kernel_rfl, ?_⟩) hS1 ?_
  rotate_left
  · intro w' hSw; (try dsimp only at hSw); go_simp; try with_reducible rfl
  try simp only [Act.put, List.setIfInBounds_toArray, List.set_cons_zero, List.set_cons_succ]
  refine takeH 63 (i := 15) (v := ?_) rfl rfl (by kernel_rfl) (by kernel_rfl) (by kernel_rfl) (fun _ _ _ h => h) (Or.inl ⟨by kernel_rfl, ?_⟩) hS1 ?_
  rotate_left
  · intro w' hSw; (try dsimp only at hSw); go_simp; try with_reducible rfl
  try simp only [Act.put, List.setIfInBounds_toArray, List.set_cons_zero, List.set_cons_succ]
  refine takeH 64 (i := 16) (v := ?_) rfl rfl (by kernel_rfl) (by kernel_rfl) (by kernel_rfl) (fun _ _ _ h => h) (Or.inl ⟨by kernel_rfl, ?_⟩) hS1 ?_
  rotate_left
  · intro w' hSw; (try dsimp only at hSw); go_simp; try with_reducible rfl
  try simp only [Act.put, List.setIfInBounds_toArray, List.set_cons_zero, List.set_cons_succ]
  refine takeH 65 (i := 17) (v := ?_) rfl rfl (by kernel_rfl) (by kernel_rfl) (by kernel_rfl) (fun _ _ _ h => h) (Or.inl ⟨by kernel_rfl, ?_⟩) hS1 ?_
  rotate_left
  · intro w' hSw; (try dsimp only at hSw); go_simp; try with_reducible rfl
  try simp only [Act.put, List.setIfInBounds_toArray, List.set_cons_zero, List.set_cons_succ]
  refine takeH 9 (i := 18) (v := ?_) rfl rfl (by kernel_rfl) (by kernel_rfl) (by kernel_rfl) (fun _ _ _ h => h) (Or.inl ⟨by kernel_rfl, ?_⟩) hS1 ?_
  rotate_left
  · intro w' hSw; (try dsimp only at hSw); go_simp; try with_reducible rfl
  try simp only [Act.put, List.setIfInBounds_toArray, List.set_cons_zero, List.set_cons_succ]
  refine takeH 10 (i := 19) (v := ?_) rfl rfl (by kernel_rfl) (by kernel_rfl) (by kernel_rfl) (fun _ _ _ h => h) (Or.inl ⟨by kernel_rfl, ?_⟩) hS1 ?_
  rotate_left
  · intro w' hSw; (try dsimp only at hSw); go_simp; try with_reducible rfl
  try simp only [Act.put, List.setIfInBounds_toArray, List.set_cons_zero, List.set_cons_succ]
  refine wpAnyH_done (by kernel_rfl) ?_ _
  refine NoPanic.normal ?_
  try simp only [Act.put, List.setIfInBounds_toArray, List.set_cons_zero, List.set_cons_succ]
  clear hS1 wA wB wC wD wE wF
  by_cases hr1 : r1 < 0
  · have hd1 : decide (r1 < 0) = true := decide_eq_true hr1
    have HR1 : Hid (r1 < 0) := hr1
    go_wp2_with (first | (refine wpList_store_row (by rfl) 25 _ _ (by rfl) w w.heap.size (w.heap.size + 1 + 1) _ _ (by rfl) (by rfl) HK3.out.2.2 hb3.drew (by omega) 3 Try.infoShape (by rfl) (by rfl) (by exact one3 ..) ?_; intro W9 e9 hb9 hs9 ho9))
    refine bodyPost_ret (res_shape _ 4 5 (by kernel_rfl) _ _ (w.heap.size + 1 + 1) _ _ (by rfl) (by rfl) rfl e9) rfl ?_
    exact ⟨_, _, _, 60, rfl, fun h9 => absurd h9 (by decide), hb9⟩
  have hd1 : decide (r1 < 0) = false := decide_eq_false hr1
  by_cases hr2 : r2 < 0
  · have hd2 : decide (r2 < 0) = true := decide_eq_true hr2
    have HR2 : Hid (r2 < 0) := hr2
    go_wp2_with (first | (refine wpList_store_row (by rfl) 25 _ _ (by rfl) w w.heap.size (w.heap.size + 1 + 1) _ _ (by rfl) (by rfl) HK3.out.2.2 hb3.drew (by omega) 3 Try.infoShape (by rfl) (by rfl) (by exact one3 ..) ?_; intro W9 e9 hb9 hs9 ho9))
    refine bodyPost_ret (res_shape _ 4 5 (by kernel_rfl) _ _ (w.heap.size + 1 + 1) _ _ (by rfl) (by rfl) rfl e9) rfl ?_
    exact ⟨_, _, _, 60, rfl, fun h9 => absurd h9 (by decide), hb9⟩
  have hd2 : decide (r2 < 0) = false := decide_eq_false hr2
  have HR : Hid (0 ≤ r1 ∧ 0 ≤ r2) := ⟨by omega, by omega⟩
  have HO3 : Hid (s' = 0 → OK) := HO2.out HR.out.1 HR.out.2
  have HDV := hdv HQ0.out rfl HR.out
  clear HO2
  go_upto_region 21 with fail
  clear hd1 hd2 hr1 hr2
  have hS2 : (fun w' => w'.cell? ⟨w.heap.size + 1, 0, none⟩ = some (.int .i64 c) ∧ w'.cell? ⟨w.heap.size, 4, none⟩ = some (.int .i64 g3) ∧ w'.cell? ⟨w.heap.size, 5, none⟩ = some (.int .i64 g4)) (W3.drew).drew := ⟨b0, a4, a5⟩
  obtain ⟨wA, wB, wC, wD, wE, wF⟩ := HDV
  clear a0 a1 a2 a3 a4 a5 a6 a7 a8 b0 b1 b2
  refine wp_region_noPanic ?_
  refine wp_region_held_drew (S := (fun w' => w'.cell? ⟨w.heap.size + 1, 0, none⟩ = some (.int .i64 c) ∧ w'.cell? ⟨w.heap.size, 4, none⟩ = some (.int .i64 g3) ∧ w'.cell? ⟨w.heap.size, 5, none⟩ = some (.int .i64 g4))) (by kernel_rfl) hS2 (fun _ => ?_)
  refine takeH 73 (i := 0) (v := ?_) rfl rfl (by kernel_rfl) (by kernel_rfl) (by kernel_rfl) (fun _ _ _ h => h) (Or.inl ⟨by kernel_rfl, ?_⟩) hS2 ?_
  rotate_left
  · intro w' hSw; (try dsimp only at hSw); go_simp; try with_reducible rfl
  try simp only [Act.put, List.setIfInBounds_toArray, List.set_cons_zero, List.set_cons_succ]
  refine takeH 74 (i := 1) (v := ?_) rfl rfl (by kernel_rfl) (by kernel_rfl) (by kernel_rfl) (fun _ _ _ h => h) (Or.inl ⟨by kernel_rfl, ?_⟩) hS2 ?_
  rotate_left
  · intro w' hSw; (try dsimp only at hSw); go_simp; try with_reducible rfl
  try simp only [Act.put, List.setIfInBounds_toArray, List.set_cons_zero, List.set_cons_succ]
  refine takeH 75 (i := 2) (v := ?_) rfl rfl (by kernel_rfl) (by kernel_rfl) (by kernel_rfl) (fun _ _ _ h => h) (Or.inl ⟨by kernel_rfl, ?_⟩) hS2 ?_
  rotate_left
  · intro w' hSw; (try dsimp only at hSw); go_simp; try with_reducible rfl
  try simp only [Act.put, List.setIfInBounds_toArray, List.set_cons_zero, List.set_cons_succ]
  refine takeH 76 (i := 3) (v := ?_) rfl rfl (by kernel_rfl) (by kernel_rfl) (by kernel_rfl) (fun _ _ _ h => h) (Or.inl ⟨by kernel_rfl, ?_⟩) hS2 ?_
  rotate_left
  · intro w' hSw; (try dsimp only at hSw); go_simp; try with_reducible rfl
  try simp only [Act.put, List.setIfInBounds_toArray, List.set_cons_zero, List.set_cons_succ]
  refine takeH 77 (i := 4) (v := ?_) rfl rfl (by kernel_rfl) (by kernel_rfl) (by kernel_rfl) (fun _ _ _ h => h) (Or.inl ⟨by kernel_rfl, ?_⟩) hS2 ?_
  rotate_left
  · intro w' hSw; (try dsimp only at hSw); go_simp; try with_reducible rfl
  try simp only [Act.put, List.setIfInBounds_toArray, List.set_cons_zero, List.set_cons_succ]
  refine takeH 78 (i := 5) (v := ?_) rfl rfl (by kernel_rfl) (by kernel_rfl) (by kernel_rfl) (fun _ _ _ h => h) (Or.inl ⟨by kernel_rfl, ?_⟩) hS2 ?_
  rotate_left
  · intro w' hSw; (try dsimp only at hSw); go_simp; try with_reducible rfl
  try simp only [Act.put, List.setIfInBounds_toArray, List.set_cons_zero, List.set_cons_succ]
  refine takeH 79 (i := 6) (v := ?_) rfl rfl (by kernel_rfl) (by kernel_rfl) (by kernel_rfl) (fun _ _ _ h => h) (Or.inl ⟨by kernel_rfl, ?_⟩) hS2 ?_
  rotate_left
  · intro w' hSw; (try dsimp only at hSw); go_simp; try with_reducible rfl
  try simp only [Act.put, List.setIfInBounds_toArray, List.set_cons_zero, List.set_cons_succ]
  refine takeH 80 (i := 7) (v := ?_) rfl rfl (by kernel_rfl) (by kernel_rfl) (by kernel_rfl) (fun _ _ _ h => h) (Or.inl ⟨by kernel_rfl, ?_⟩) hS2 ?_
  rotate_left
  · intro w' hSw; (try dsimp only at hSw); go_simp; try with_reducible rfl
  try simp only [Act.put, List.setIfInBounds_toArray, List.set_cons_zero, List.set_cons_succ]
  refine takeH 81 (i := 8) (v := ?_) rfl rfl (by kernel_rfl) (by kernel_rfl) (by kernel_rfl) (fun _ _ _ h => h) (Or.inl ⟨by kernel_rfl, ?_⟩) hS2 ?_
  rotate_left
  · intro w' hSw; (try dsimp only at hSw); go_simp; try with_reducible rfl
  try simp only [Act.put, List.setIfInBounds_toArray, List.set_cons_zero, List.set_cons_succ]
  refine takeH 82 (i := 9) (v := ?_) rfl rfl (by kernel_rfl) (by kernel_rfl) (by kernel_rfl) (fun _ _ _ h => h) (Or.inl ⟨by kernel_rfl, ?_⟩) hS2 ?_
  rotate_left
  · intro w' hSw; (try dsimp only at hSw); go_simp; try with_reducible rfl
  try simp only [Act.put, List.setIfInBounds_toArray, List.set_cons_zero, List.set_cons_succ]
  refine takeH 83 (i := 10) (v := ?_) rfl rfl (by kernel_rfl) (by kernel_rfl) (by kernel_rfl) (fun _ _ _ h => h) (Or.inl ⟨by kernel_rfl, ?_⟩) hS2 ?_
  rotate_left
  · intro w' hSw; (try dsimp only at hSw); go_simp; try with_reducible rfl
  try simp only [Act.put, List.setIfInBounds_toArray, List.set_cons_zero, List.set_cons_succ]
  refine takeH 84 (i := 11) (v := ?_) rfl rfl (by kernel_rfl) (by kernel_rfl) (by kernel_rfl) (fun _ _ _ h => h) (Or.inl ⟨by kernel_rfl, ?_⟩) hS2 ?_
  rotate_left
  · intro w' hSw; (try dsimp only at hSw); go_simp; try with_reducible rfl
  try simp only [Act.put, List.setIfInBounds_toArray, List.set_cons_zero, List.set_cons_succ]
  refine takeH 85 (i := 12) (v := ?_) rfl rfl (by kernel_rfl) (by kernel_rfl) (by kernel_rfl) (fun _ _ _ h => h) (Or.inl ⟨by kernel_rfl, ?_⟩) hS2 ?_
  rotate_left
  · intro w' hSw; (try dsimp only at hSw); go_simp; try with_reducible rfl
  try simp only [Act.put, List.setIfInBounds_toArray, List.set_cons_zero, List.set_cons_succ]
  refine wpAnyH_ready (rs := [13]) (by kernel_rfl) (by simp) ?_
  refine consH _ rfl (hopL rfl (wpList_store_row (by rfl) 25 _ _ (by rfl) w w.heap.size w2.heap.size #[.int .i64 c, .int .i64 d1, .int .i64 d2] _ (by kernel_rfl) (by kernel_rfl) e3 hb3.drew.drew (by omega) 3 Try.infoShape (by rfl) (by rfl) (by exact one3 ..) fun W4 e4 hb4 hs4 ho4 => ?_)) AllReadyH.nil
  have HK4 : Hid (W4.heap[w.heap.size]? = _ ∧ W4.heap[w.heap.size + 1]? = _ ∧ W4.heap[w.heap.size + 1 + 1]? = _) := ⟨(ho4 _ (by omega)).trans (HK3.out.1), (ho4 _ (by omega)).trans (HK3.out.2.1), (ho4 _ (by omega)).trans (HK3.out.2.2)⟩
  obtain ⟨b0, b1, b2⟩ := cells3 HK4.out.2.1
  obtain ⟨a0, a1, a2, a3, a4, a5, a6, a7, a8, -, -, -, -, -⟩ := cells14 HK4.out.1
  have hS4 : (fun w' => w'.cell? ⟨w.heap.size + 1, 0, none⟩ = some (.int .i64 c) ∧ w'.cell? ⟨w.heap.size, 4, none⟩ = some (.int .i64 g3) ∧ w'.cell? ⟨w.heap.size, 5, none⟩ = some (.int .i64 g4)) W4 := ⟨b0, a4, a5⟩
  refine (And.intro hS4 ?_ : _ ∧ _)
  try simp only [Act.put, List.setIfInBounds_toArray, List.set_cons_zero, List.set_cons_succ]
  refine wpAnyH_done (by kernel_rfl) ?_ _
  refine NoPanic.normal ?_
  try simp only [Act.put, List.setIfInBounds_toArray, List.set_cons_zero, List.set_cons_succ]
  clear hS2 hS4 wA wB wC wD wE wF
  go_upto_region 24 with fail
  clear ho3 ho4 hs3 hs4 hb3 e3 HK3 HK2
  have X3 := hb4
  obtain ⟨s0, s1, s2⟩ := cells3 e4
  go_upto_region 25 with (first | (go_at_call 30; refine Calls.mono (HT.out _) ?_; rintro e w3 ⟨rfl, hb3⟩))
  have B3 : Hid (Below w.heap.size w w3) := to_call X3 hb3
  have K3 : Hid (w3.heap[w.heap.size + 1 + 1]? = _) := kept hb3 HK4.out.2.2
  have Z3 := kept hb3 e4
  clear s0 s1 s2 a0 a1 a2 a3 a4 a5 a6 a7 a8 b0 b1 b2 hb3 X3 HT
  by_cases hs' : s' = 0
  rotate_left
  · have HNT : Hid (¬ s' = 0) := hs'
    go_wp2_with (first | (refine wpList_store_row (by rfl) 25 _ _ (by rfl) w w.heap.size (w.heap.size + 1 + 1) _ _ (by rfl) (by rfl) K3.out B3.out (by omega) 3 Try.infoShape (by rfl) (by rfl) (by exact one3 ..) ?_; intro W9 e9 hb9 hs9 ho9))
    refine bodyPost_ret (res_shape _ 4 5 (by kernel_rfl) _ _ (w.heap.size + 1 + 1) _ _ (by rfl) (by rfl) rfl e9) rfl ?_
    exact ⟨_, _, _, s', rfl, fun h9 => absurd h9 HNT.out, hb9⟩
  subst hs'
  have HO9 : Hid OK := HO3.out rfl
  obtain ⟨s0, s1, s2⟩ := cells3 Z3
  go_wp2_with (first | (refine wpList_store_row (by rfl) 25 _ _ (by rfl) w w.heap.size (w.heap.size + 1 + 1) _ _ (by rfl) (by rfl) K3.out B3.out (by omega) 3 Try.infoShape (by rfl) (by rfl) (by exact one3 ..) ?_; intro W9 e9 hb9 hs9 ho9))
  refine bodyPost_ret (res_shape _ 4 5 (by kernel_rfl) _ _ (w.heap.size + 1 + 1) _ _ (by rfl) (by rfl) rfl e9) rfl ?_
  exact ⟨_, _, _, 0, rfl, fun _ => HO9.out, hb9⟩
set_option maxRecDepth 100000 in
set_option maxHeartbeats 8000000 in
theorem outW12_any (g0 g1 g2 g3 g4 g5 g6 g7 c h k n s n' s' u1 u2 u3 u4 r1 r2 e1 e2 d1 d2 : Int) (a9 v1 v2 v3 v4 : Value) (Q OK : Prop) (hqf : Q → s = 0 → IntKind.i64.wrap (2 * g5) = u1 ∧ IntKind.i64.wrap (h + u1) = u2 ∧ IntKind.i64.wrap (u2 - g1) = r1 ∧ IntKind.i64.wrap (2 * g6) = u3 ∧ IntKind.i64.wrap (k + u3) = u4 ∧ IntKind.i64.wrap (u4 - g2) = r2)
    (hdv : Q → s = 0 → 0 ≤ r1 ∧ 0 ≤ r2 → ¬ g3 = 0 ∧ ¬ g4 = 0 ∧ IntKind.i64.wrap (r1.tdiv g3) = e1 ∧ IntKind.i64.wrap (r2.tdiv g4) = e2 ∧ IntKind.i64.wrap (e1 + 1) = d1 ∧ IntKind.i64.wrap (e2 + 1) = d2) (hOK : Q → s = 0 → 0 ≤ r1 → 0 ≤ r2 → s' = 0 → OK)
    (hF : ∀ w, Calls Try.prog 43 #[.agg #[.int .i64 12, .int .i64 g0, .int .i64 g1, .int .i64 g2, .int .i64 g3, .int .i64 g4, .int .i64 g5, .int .i64 g6, .int .i64 g7, a9, v1, v2, v3, v4]] w fun e w' => ∃ f : Int, e = .returned (.int .i64 f) ∧ (f = 0 → Q) ∧ Below w.heap.size w w')
    (hS : ∀ w, Calls Try.prog 30 #[.agg #[.int .i64 c, .int .i64 h, .int .i64 k]] w fun e w' => e = .returned (.tuple #[.int .i64 n, .int .i64 s]) ∧ Below w.heap.size w w')
    (hT : ∀ w, Calls Try.prog 30 #[.agg #[.int .i64 c, .int .i64 d1, .int .i64 d2]] w fun e w' => e = .returned (.tuple #[.int .i64 n', .int .i64 s']) ∧ Below w.heap.size w w') (w : World) :
    Calls Try.prog 29 #[.agg #[.int .i64 12, .int .i64 g0, .int .i64 g1, .int .i64 g2, .int .i64 g3, .int .i64 g4, .int .i64 g5, .int .i64 g6, .int .i64 g7, a9, v1, v2, v3, v4], .agg #[.int .i64 c, .int .i64 h, .int .i64 k]] w fun e w' => ∃ o1 o2 o3 f : Int, e = .returned (.tuple #[.agg #[.int .i64 o1, .int .i64 o2, .int .i64 o3], .int .i64 f]) ∧ (f = 0 → OK) ∧ Below w.heap.size w w' := by
  have HF : Hid _ := hF
  have HOK : Hid (Q → s = 0 → 0 ≤ r1 → 0 ≤ r2 → s' = 0 → OK) := hOK
  have HS : Hid _ := hS
  have HT : Hid _ := hT
  clear hF hS hT hOK
  have X0 : Below w.heap.size w (((w.alloc (.cells #[.int .i64 12, .int .i64 g0, .int .i64 g1, .int .i64 g2, .int .i64 g3, .int .i64 g4, .int .i64 g5, .int .i64 g6, .int .i64 g7, a9, v1, v2, v3, v4] 55)).alloc (.cells #[.int .i64 c, .int .i64 h, .int .i64 k] 25)).alloc (.cells #[.int .i64 0, .int .i64 0, .int .i64 0] 25)) := (((Below.refl _ w).alloc (Nat.le_refl _) _).alloc (by simp only [alloc_size]; omega) _).alloc (by simp only [alloc_size]; omega) _
  go_enter Try.func29, Try.ntmps29
  go_wp2_with fail
  refine Calls.mono (HF.out _) ?_
  rintro e w1 ⟨f, rfl, hfq, hb⟩
  have HQ : Hid (f = 0 → Q) := hfq
  have B1 : Hid (Below w.heap.size w w1) := to_call X0 hb
  have k0 := kept hb (alloc_kept (alloc_kept (heap_alloc_new w _) _) _)
  have k1 := kept hb (alloc_kept (heap_at _ _ (w.heap.size + 1) (by simp only [alloc_size])) _)
  have k2 := kept hb (heap_at _ _ (w.heap.size + 1 + 1) (by simp only [alloc_size]))
  have HK : Hid (w1.heap[w.heap.size]? = _ ∧ w1.heap[w.heap.size + 1]? = _ ∧ w1.heap[w.heap.size + 1 + 1]? = _) := ⟨k0, k1, k2⟩
  have hsz1 := blk_lt k2
  clear hb X0 HF k0 k1 k2 hfq
  by_cases hf : f = 0
  rotate_left
  · have HNF : Hid (¬ f = 0) := hf
    go_wp2_with (first | (refine wpList_store_row (by rfl) 25 _ _ (by rfl) w w.heap.size (w.heap.size + 1 + 1) _ _ (by rfl) (by rfl) HK.out.2.2 B1.out (by omega) 3 Try.infoShape (by rfl) (by rfl) (by exact one3 ..) ?_; intro W9 e9 hb9 hs9 ho9))
    refine bodyPost_ret (res_shape _ 4 5 (by kernel_rfl) _ _ (w.heap.size + 1 + 1) _ _ (by rfl) (by rfl) rfl e9) rfl ?_
    exact ⟨_, _, _, f, rfl, fun h9 => absurd h9 HNF.out, hb9⟩
  subst hf
  have HQ0 : Hid Q := HQ.out rfl
  clear HQ
  obtain ⟨b0, b1, b2⟩ := cells3 HK.out.2.1
  go_upto_region 5 with (first | (go_at_call 30; refine Calls.mono (HS.out _) ?_; rintro e w2 ⟨rfl, hb2⟩))
  have B2 : Hid (Below w.heap.size w w2) := to_call B1.out hb2
  have HK2 : Hid (w2.heap[w.heap.size]? = _ ∧ w2.heap[w.heap.size + 1]? = _ ∧ w2.heap[w.heap.size + 1 + 1]? = _) := ⟨kept hb2 HK.out.1, kept hb2 HK.out.2.1, kept hb2 HK.out.2.2⟩
  have hsz := blk_lt HK2.out.2.2
  clear b0 b1 b2 hb2 HK HS
  by_cases hs : s = 0
  rotate_left
  · have HNS : Hid (¬ s = 0) := hs
    go_wp2_with (first | (refine wpList_store_row (by rfl) 25 _ _ (by rfl) w w.heap.size (w.heap.size + 1 + 1) _ _ (by rfl) (by rfl) HK2.out.2.2 B2.out (by omega) 3 Try.infoShape (by rfl) (by rfl) (by exact one3 ..) ?_; intro W9 e9 hb9 hs9 ho9))
    refine bodyPost_ret (res_shape _ 4 5 (by kernel_rfl) _ _ (w.heap.size + 1 + 1) _ _ (by rfl) (by rfl) rfl e9) rfl ?_
    exact ⟨_, _, _, s, rfl, fun h9 => absurd h9 HNS.out, hb9⟩
  subst hs
  have HO2 : Hid _ := HOK.out HQ0.out rfl
  clear HOK
  obtain ⟨b0, b1, b2⟩ := cells3 HK2.out.2.1
  obtain ⟨a0, a1, a2, a3, a4, a5, a6, a7, a8, -, -, -, -, -⟩ := cells14 HK2.out.1
  have hp2 : (w2.alloc (.cells #[.int .i64 0, .int .i64 0, .int .i64 0] 25)).heap[w.heap.size]? = _ ∧ (w2.alloc (.cells #[.int .i64 0, .int .i64 0, .int .i64 0] 25)).heap[w.heap.size + 1]? = _ ∧ (w2.alloc (.cells #[.int .i64 0, .int .i64 0, .int .i64 0] 25)).heap[w.heap.size + 1 + 1]? = _ := ⟨alloc_kept HK2.out.1 _, alloc_kept HK2.out.2.1 _, alloc_kept HK2.out.2.2 _⟩
  go_upto_region 8 with (first | (refine wpList_store_row (by rfl) 25 _ _ (by rfl) w w.heap.size w2.heap.size _ _ (by rfl) (by rfl) (heap_alloc_new w2 _) (B2.out.alloc B2.out.size _) (by omega) 3 Try.infoShape (by rfl) (by rfl) (by exact one3 ..) ?_; intro W3 e3 hb3 hs3 ho3))
  clear a0 a1 a2 a3 a4 a5 a6 a7 a8 b0 b1 b2
  have HK3 : Hid (W3.heap[w.heap.size]? = _ ∧ W3.heap[w.heap.size + 1]? = _ ∧ W3.heap[w.heap.size + 1 + 1]? = _) := ⟨(ho3 _ (by omega)).trans (hp2.1), (ho3 _ (by omega)).trans (hp2.2.1), (ho3 _ (by omega)).trans (hp2.2.2)⟩
  obtain ⟨b0, b1, b2⟩ := cells3 HK3.out.2.1
  obtain ⟨a0, a1, a2, a3, a4, a5, a6, a7, a8, -, -, -, -, -⟩ := cells14 HK3.out.1
  have hlt3 := blk_lt e3
  clear hp2
  go_upto_region 18 with fail
  have hS1 : (fun w' => w'.cell? ⟨w.heap.size + 1, 1, none⟩ = some (.int .i64 h) ∧ w'.cell? ⟨w.heap.size + 1, 2, none⟩ = some (.int .i64 k) ∧ w'.cell? ⟨w.heap.size, 2, none⟩ = some (.int .i64 g1) ∧ w'.cell? ⟨w.heap.size, 3, none⟩ = some (.int .i64 g2) ∧ w'.cell? ⟨w.heap.size, 6, none⟩ = some (.int .i64 g5) ∧ w'.cell? ⟨w.heap.size, 7, none⟩ = some (.int .i64 g6)) W3.drew := ⟨b1, b2, a2, a3, a6, a7⟩
  have HQ7 := hqf HQ0.out rfl
  obtain ⟨wA, wB, wC, wD, wE, wF⟩ := HQ7
  refine wp_region_noPanic ?_
  refine wp_region_held_drew (S := (fun w' => w'.cell? ⟨w.heap.size + 1, 1, none⟩ = some (.int .i64 h) ∧ w'.cell? ⟨w.heap.size + 1, 2, none⟩ = some (.int .i64 k) ∧ w'.cell? ⟨w.heap.size, 2, none⟩ = some (.int .i64 g1) ∧ w'.cell? ⟨w.heap.size, 3, none⟩ = some (.int .i64 g2) ∧ w'.cell? ⟨w.heap.size, 6, none⟩ = some (.int .i64 g5) ∧ w'.cell? ⟨w.heap.size, 7, none⟩ = some (.int .i64 g6))) (by kernel_rfl) hS1 (fun _ => ?_)
  refine takeH 48 (i := 0) (v := ?_) rfl rfl (by kernel_rfl) (by kernel_rfl) (by kernel_rfl) (fun _ _ _ h => h) (Or.inl ⟨by kernel_rfl, ?_⟩) hS1 ?_
  rotate_left
  · intro w' hSw; (try dsimp only at hSw); go_simp; try with_reducible rfl
  try simp only [Act.put, List.setIfInBounds_toArray, List.set_cons_zero, List.set_cons_succ]
  refine takeH 49 (i := 1) (v := ?_) rfl rfl (by kernel_rfl) (by kernel_rfl) (by kernel_rfl) (fun _ _ _ h => h) (Or.inl ⟨by kernel_rfl, ?_⟩) hS1 ?_
  rotate_left
  · intro w' hSw; (try dsimp only at hSw); go_simp; try with_reducible rfl
  try simp only [Act.put, List.setIfInBounds_toArray, List.set_cons_zero, List.set_cons_succ]
  refine takeH 50 (i := 2) (v := ?_) rfl rfl (by kernel_rfl) (by kernel_rfl) (by kernel_rfl) (fun _ _ _ h => h) (Or.inl ⟨by kernel_rfl, ?_⟩) hS1 ?_
  rotate_left
  · intro w' hSw; (try dsimp only at hSw); go_simp; try with_reducible rfl
  try simp only [Act.put, List.setIfInBounds_toArray, List.set_cons_zero, List.set_cons_succ]
  refine takeH 51 (i := 3) (v := ?_) rfl rfl (by kernel_rfl) (by kernel_rfl) (by kernel_rfl) (fun _ _ _ h => h) (Or.inl ⟨by kernel_rfl, ?_⟩) hS1 ?_
  rotate_left
  · intro w' hSw; (try dsimp only at hSw); go_simp; try with_reducible rfl
  try simp only [Act.put, List.setIfInBounds_toArray, List.set_cons_zero, List.set_cons_succ]
  refine takeH 52 (i := 4) (v := ?_) rfl rfl (by kernel_rfl) (by kernel_rfl) (by kernel_rfl) (fun _ _ _ h => h) (Or.inl ⟨by kernel_rfl, ?_⟩) hS1 ?_
  rotate_left
  · intro w' hSw; (try dsimp only at hSw); go_simp; try with_reducible rfl
  try simp only [Act.put, List.setIfInBounds_toArray, List.set_cons_zero, List.set_cons_succ]
  refine takeH 53 (i := 5) (v := ?_) rfl rfl (by kernel_rfl) (by kernel_rfl) (by kernel_rfl) (fun _ _ _ h => h) (Or.inl ⟨by kernel_rfl, ?_⟩) hS1 ?_
  rotate_left
  · intro w' hSw; (try dsimp only at hSw); go_simp; try with_reducible rfl
  try simp only [Act.put, List.setIfInBounds_toArray, List.set_cons_zero, List.set_cons_succ]
  refine takeH 54 (i := 6) (v := ?_) rfl rfl (by kernel_rfl) (by kernel_rfl) (by kernel_rfl) (fun _ _ _ h => h) (Or.inl ⟨by kernel_rfl, ?_⟩) hS1 ?_
  rotate_left
  · intro w' hSw; (try dsimp only at hSw); go_simp; try with_reducible rfl
  try simp only [Act.put, List.setIfInBounds_toArray, List.set_cons_zero, List.set_cons_succ]
  refine takeH 55 (i := 7) (v := ?_) rfl rfl (by kernel_rfl) (by kernel_rfl) (by kernel_rfl) (fun _ _ _ h => h) (Or.inl ⟨by kernel_rfl, ?_⟩) hS1 ?_
  rotate_left
  · intro w' hSw; (try dsimp only at hSw); go_simp; try with_reducible rfl
  try simp only [Act.put, List.setIfInBounds_toArray, List.set_cons_zero, List.set_cons_succ]
  refine takeH 56 (i := 8) (v := ?_) rfl rfl (by kernel_rfl) (by kernel_rfl) (by kernel_rfl) (fun _ _ _ h => h) (Or.inl ⟨by kernel_rfl, ?_⟩) hS1 ?_
  rotate_left
  · intro w' hSw; (try dsimp only at hSw); go_simp; try with_reducible rfl
  try simp only [Act.put, List.setIfInBounds_toArray, List.set_cons_zero, List.set_cons_succ]
  refine takeH 57 (i := 9) (v := ?_) rfl rfl (by kernel_rfl) (by kernel_rfl) (by kernel_rfl) (fun _ _ _ h => h) (Or.inl ⟨by kernel_rfl, ?_⟩) hS1 ?_
  rotate_left
  · intro w' hSw; (try dsimp only at hSw); go_simp; try with_reducible rfl
  try simp only [Act.put, List.setIfInBounds_toArray, List.set_cons_zero, List.set_cons_succ]
  refine takeH 58 (i := 10) (v := ?_) rfl rfl (by kernel_rfl) (by kernel_rfl) (by kernel_rfl) (fun _ _ _ h => h) (Or.inl ⟨by kernel_rfl, ?_⟩) hS1 ?_
  rotate_left
  · intro w' hSw; (try dsimp only at hSw); go_simp; try with_reducible rfl
  try simp only [Act.put, List.setIfInBounds_toArray, List.set_cons_zero, List.set_cons_succ]
  refine takeH 59 (i := 11) (v := ?_) rfl rfl (by kernel_rfl) (by kernel_rfl) (by kernel_rfl) (fun _ _ _ h => h) (Or.inl ⟨by kernel_rfl, ?_⟩) hS1 ?_
  rotate_left
  · intro w' hSw; (try dsimp only at hSw); go_simp; try with_reducible rfl
  try simp only [Act.put, List.setIfInBounds_toArray, List.set_cons_zero, List.set_cons_succ]
  refine takeH 60 (i := 12) (v := ?_) rfl rfl (by kernel_rfl) (by kernel_rfl) (by kernel_rfl) (fun _ _ _ h => h) (Or.inl ⟨by kernel_rfl, ?_⟩) hS1 ?_
  rotate_left
  · intro w' hSw; (try dsimp only at hSw); go_simp; try with_reducible rfl
  try simp only [Act.put, List.setIfInBounds_toArray, List.set_cons_zero, List.set_cons_succ]
  refine takeH 61 (i := 13) (v := ?_) rfl rfl (by kernel_rfl) (by kernel_rfl) (by kernel_rfl) (fun _ _ _ h => h) (Or.inl ⟨by kernel_rfl, ?_⟩) hS1 ?_
  rotate_left
  · intro w' hSw; (try dsimp only at hSw); go_simp; try with_reducible rfl
  try simp only [Act.put, List.setIfInBounds_toArray, List.set_cons_zero, List.set_cons_succ]
  refine takeH 62 (i := 14) (v := ?_) rfl rfl (by kernel_rfl) (by kernel_rfl) (by kernel_rfl) (fun _ _ _ h => h) (Or.inl ⟨by kernel_rfl, ?_⟩) hS1 ?_
  rotate_left
  · intro w' hSw; (try dsimp only at hSw); go_simp; try with_reducible rfl
  try simp only [Act.put, List.setIfInBounds_toArray, List.set_cons_zero, List.set_cons_succ]
  refine takeH 63 (i := 15) (v := ?_) rfl rfl (by kernel_rfl) (by kernel_rfl) (by kernel_rfl) (fun _ _ _ h => h) (Or.inl ⟨by kernel_rfl, ?_⟩) hS1 ?_
  rotate_left
  · intro w' hSw; (try dsimp only at hSw); go_simp; try with_reducible rfl
  try simp only [Act.put, List.setIfInBounds_toArray, List.set_cons_zero, List.set_cons_succ]
  refine takeH 64 (i := 16) (v := ?_) rfl rfl (by kernel_rfl) (by kernel_rfl) (by kernel_rfl) (fun _ _ _ h => h) (Or.inl ⟨by kernel_rfl, ?_⟩) hS1 ?_
  rotate_left
  · intro w' hSw; (try dsimp only at hSw); go_simp; try with_reducible rfl
  try simp only [Act.put, List.setIfInBounds_toArray, List.set_cons_zero, List.set_cons_succ]
  refine takeH 65 (i := 17) (v := ?_) rfl rfl (by kernel_rfl) (by kernel_rfl) (by kernel_rfl) (fun _ _ _ h => h) (Or.inl ⟨by kernel_rfl, ?_⟩) hS1 ?_
  rotate_left
  · intro w' hSw; (try dsimp only at hSw); go_simp; try with_reducible rfl
  try simp only [Act.put, List.setIfInBounds_toArray, List.set_cons_zero, List.set_cons_succ]
  refine takeH 9 (i := 18) (v := ?_) rfl rfl (by kernel_rfl) (by kernel_rfl) (by kernel_rfl) (fun _ _ _ h => h) (Or.inl ⟨by kernel_rfl, ?_⟩) hS1 ?_
  rotate_left
  · intro w' hSw; (try dsimp only at hSw); go_simp; try with_reducible rfl
  try simp only [Act.put, List.setIfInBounds_toArray, List.set_cons_zero, List.set_cons_succ]
  refine takeH 10 (i := 19) (v := ?_) rfl rfl (by kernel_rfl) (by kernel_rfl) (by kernel_rfl) (fun _ _ _ h => h) (Or.inl ⟨by kernel_rfl, ?_⟩) hS1 ?_
  rotate_left
  · intro w' hSw; (try dsimp only at hSw); go_simp; try with_reducible rfl
  try simp only [Act.put, List.setIfInBounds_toArray, List.set_cons_zero, List.set_cons_succ]
  refine wpAnyH_done (by kernel_rfl) ?_ _
  refine NoPanic.normal ?_
  try simp only [Act.put, List.setIfInBounds_toArray, List.set_cons_zero, List.set_cons_succ]
  clear hS1 wA wB wC wD wE wF
  by_cases hr1 : r1 < 0
  · have hd1 : decide (r1 < 0) = true := decide_eq_true hr1
    have HR1 : Hid (r1 < 0) := hr1
    go_wp2_with (first | (refine wpList_store_row (by rfl) 25 _ _ (by rfl) w w.heap.size (w.heap.size + 1 + 1) _ _ (by rfl) (by rfl) HK3.out.2.2 hb3.drew (by omega) 3 Try.infoShape (by rfl) (by rfl) (by exact one3 ..) ?_; intro W9 e9 hb9 hs9 ho9))
    refine bodyPost_ret (res_shape _ 4 5 (by kernel_rfl) _ _ (w.heap.size + 1 + 1) _ _ (by rfl) (by rfl) rfl e9) rfl ?_
    exact ⟨_, _, _, 60, rfl, fun h9 => absurd h9 (by decide), hb9⟩
  have hd1 : decide (r1 < 0) = false := decide_eq_false hr1
  by_cases hr2 : r2 < 0
  · have hd2 : decide (r2 < 0) = true := decide_eq_true hr2
    have HR2 : Hid (r2 < 0) := hr2
    go_wp2_with (first | (refine wpList_store_row (by rfl) 25 _ _ (by rfl) w w.heap.size (w.heap.size + 1 + 1) _ _ (by rfl) (by rfl) HK3.out.2.2 hb3.drew (by omega) 3 Try.infoShape (by rfl) (by rfl) (by exact one3 ..) ?_; intro W9 e9 hb9 hs9 ho9))
    refine bodyPost_ret (res_shape _ 4 5 (by kernel_rfl) _ _ (w.heap.size + 1 + 1) _ _ (by rfl) (by rfl) rfl e9) rfl ?_
    exact ⟨_, _, _, 60, rfl, fun h9 => absurd h9 (by decide), hb9⟩
  have hd2 : decide (r2 < 0) = false := decide_eq_false hr2
  have HR : Hid (0 ≤ r1 ∧ 0 ≤ r2) := ⟨by omega, by omega⟩
  have HO3 : Hid (s' = 0 → OK) := HO2.out HR.out.1 HR.out.2
  have HDV := hdv HQ0.out rfl HR.out
  clear HO2
  go_upto_region 21 with fail
  clear hd1 hd2 hr1 hr2
  have hS2 : (fun w' => w'.cell? ⟨w.heap.size + 1, 0, none⟩ = some (.int .i64 c) ∧ w'.cell? ⟨w.heap.size, 4, none⟩ = some (.int .i64 g3) ∧ w'.cell? ⟨w.heap.size, 5, none⟩ = some (.int .i64 g4)) (W3.drew).drew := ⟨b0, a4, a5⟩
  obtain ⟨wA, wB, wC, wD, wE, wF⟩ := HDV
  clear a0 a1 a2 a3 a4 a5 a6 a7 a8 b0 b1 b2
  refine wp_region_noPanic ?_
  refine wp_region_held_drew (S := (fun w' => w'.cell? ⟨w.heap.size + 1, 0, none⟩ = some (.int .i64 c) ∧ w'.cell? ⟨w.heap.size, 4, none⟩ = some (.int .i64 g3) ∧ w'.cell? ⟨w.heap.size, 5, none⟩ = some (.int .i64 g4))) (by kernel_rfl) hS2 (fun _ => ?_)
  refine takeH 73 (i := 0) (v := ?_) rfl rfl (by kernel_rfl) (by kernel_rfl) (by kernel_rfl) (fun _ _ _ h => h) (Or.inl ⟨by kernel_rfl, ?_⟩) hS2 ?_
  rotate_left
  · intro w' hSw; (try dsimp only at hSw); go_simp; try with_reducible rfl
  try simp only [Act.put, List.setIfInBounds_toArray, List.set_cons_zero, List.set_cons_succ]
  refine takeH 74 (i := 1) (v := ?_) rfl rfl (by kernel_rfl) (by kernel_rfl) (by kernel_rfl) (fun _ _ _ h => h) (Or.inl ⟨by kernel_rfl, ?_⟩) hS2 ?_
  rotate_left
  · intro w' hSw; (try dsimp only at hSw); go_simp; try with_reducible rfl
  try simp only [Act.put, List.setIfInBounds_toArray, List.set_cons_zero, List.set_cons_succ]
  refine takeH 75 (i := 2) (v := ?_) rfl rfl (by kernel_rfl) (by kernel_rfl) (by kernel_rfl) (fun _ _ _ h => h) (Or.inl ⟨by kernel_rfl, ?_⟩) hS2 ?_
  rotate_left
  · intro w' hSw; (try dsimp only at hSw); go_simp; try with_reducible rfl
  try simp only [Act.put, List.setIfInBounds_toArray, List.set_cons_zero, List.set_cons_succ]
  refine takeH 76 (i := 3) (v := ?_) rfl rfl (by kernel_rfl) (by kernel_rfl) (by kernel_rfl) (fun _ _ _ h => h) (Or.inl ⟨by kernel_rfl, ?_⟩) hS2 ?_
  rotate_left
  · intro w' hSw; (try dsimp only at hSw); go_simp; try with_reducible rfl
  try simp only [Act.put, List.setIfInBounds_toArray, List.set_cons_zero, List.set_cons_succ]
  refine takeH 77 (i := 4) (v := ?_) rfl rfl (by kernel_rfl) (by kernel_rfl) (by kernel_rfl) (fun _ _ _ h => h) (Or.inl ⟨by kernel_rfl, ?_⟩) hS2 ?_
  rotate_left
  · intro w' hSw; (try dsimp only at hSw); go_simp; try with_reducible rfl
  try simp only [Act.put, List.setIfInBounds_toArray, List.set_cons_zero, List.set_cons_succ]
  refine takeH 78 (i := 5) (v := ?_) rfl rfl (by kernel_rfl) (by kernel_rfl) (by kernel_rfl) (fun _ _ _ h => h) (Or.inl ⟨by kernel_rfl, ?_⟩) hS2 ?_
  rotate_left
  · intro w' hSw; (try dsimp only at hSw); go_simp; try with_reducible rfl
  try simp only [Act.put, List.setIfInBounds_toArray, List.set_cons_zero, List.set_cons_succ]
  refine takeH 79 (i := 6) (v := ?_) rfl rfl (by kernel_rfl) (by kernel_rfl) (by kernel_rfl) (fun _ _ _ h => h) (Or.inl ⟨by kernel_rfl, ?_⟩) hS2 ?_
  rotate_left
  · intro w' hSw; (try dsimp only at hSw); go_simp; try with_reducible rfl
  try simp only [Act.put, List.setIfInBounds_toArray, List.set_cons_zero, List.set_cons_succ]
  refine takeH 80 (i := 7) (v := ?_) rfl rfl (by kernel_rfl) (by kernel_rfl) (by kernel_rfl) (fun _ _ _ h => h) (Or.inl ⟨by kernel_rfl, ?_⟩) hS2 ?_
  rotate_left
  · intro w' hSw; (try dsimp only at hSw); go_simp; try with_reducible rfl
  try simp only [Act.put, List.setIfInBounds_toArray, List.set_cons_zero, List.set_cons_succ]
  refine takeH 81 (i := 8) (v := ?_) rfl rfl (by kernel_rfl) (by kernel_rfl) (by kernel_rfl) (fun _ _ _ h => h) (Or.inl ⟨by kernel_rfl, ?_⟩) hS2 ?_
  rotate_left
  · intro w' hSw; (try dsimp only at hSw); go_simp; try with_reducible rfl
  try simp only [Act.put, List.setIfInBounds_toArray, List.set_cons_zero, List.set_cons_succ]
  refine takeH 82 (i := 9) (v := ?_) rfl rfl (by kernel_rfl) (by kernel_rfl) (by kernel_rfl) (fun _ _ _ h => h) (Or.inl ⟨by kernel_rfl, ?_⟩) hS2 ?_
  rotate_left
  · intro w' hSw; (try dsimp only at hSw); go_simp; try with_reducible rfl
  try simp only [Act.put, List.setIfInBounds_toArray, List.set_cons_zero, List.set_cons_succ]
  refine takeH 83 (i := 10) (v := ?_) rfl rfl (by kernel_rfl) (by kernel_rfl) (by kernel_rfl) (fun _ _ _ h => h) (Or.inl ⟨by kernel_rfl, ?_⟩) hS2 ?_
  rotate_left
  · intro w' hSw; (try dsimp only at hSw); go_simp; try with_reducible rfl
  try simp only [Act.put, List.setIfInBounds_toArray, List.set_cons_zero, List.set_cons_succ]
  refine takeH 84 (i := 11) (v := ?_) rfl rfl (by kernel_rfl) (by kernel_rfl) (by kernel_rfl) (fun _ _ _ h => h) (Or.inl ⟨by kernel_rfl, ?_⟩) hS2 ?_
  rotate_left
  · intro w' hSw; (try dsimp only at hSw); go_simp; try with_reducible rfl
  try simp only [Act.put, List.setIfInBounds_toArray, List.set_cons_zero, List.set_cons_succ]
  refine takeH 85 (i := 12) (v := ?_) rfl rfl (by kernel_rfl) (by kernel_rfl) (by kernel_rfl) (fun _ _ _ h => h) (Or.inl ⟨by kernel_rfl, ?_⟩) hS2 ?_
  rotate_left
  · intro w' hSw; (try dsimp only at hSw); go_simp; try with_reducible rfl
  try simp only [Act.put, List.setIfInBounds_toArray, List.set_cons_zero, List.set_cons_succ]
  refine wpAnyH_ready (rs := [13]) (by kernel_rfl) (by simp) ?_
  refine consH _ rfl (hopL rfl (wpList_store_row (by rfl) 25 _ _ (by rfl) w w.heap.size w2.heap.size #[.int .i64 c, .int .i64 d1, .int .i64 d2] _ (by kernel_rfl) (by kernel_rfl) e3 hb3.drew.drew (by omega) 3 Try.infoShape (by rfl) (by rfl) (by exact one3 ..) fun W4 e4 hb4 hs4 ho4 => ?_)) AllReadyH.nil
  have HK4 : Hid (W4.heap[w.heap.size]? = _ ∧ W4.heap[w.heap.size + 1]? = _ ∧ W4.heap[w.heap.size + 1 + 1]? = _) := ⟨(ho4 _ (by omega)).trans (HK3.out.1), (ho4 _ (by omega)).trans (HK3.out.2.1), (ho4 _ (by omega)).trans (HK3.out.2.2)⟩
  obtain ⟨b0, b1, b2⟩ := cells3 HK4.out.2.1
  obtain ⟨a0, a1, a2, a3, a4, a5, a6, a7, a8, -, -, -, -, -⟩ := cells14 HK4.out.1
  have hS4 : (fun w' => w'.cell? ⟨w.heap.size + 1, 0, none⟩ = some (.int .i64 c) ∧ w'.cell? ⟨w.heap.size, 4, none⟩ = some (.int .i64 g3) ∧ w'.cell? ⟨w.heap.size, 5, none⟩ = some (.int .i64 g4)) W4 := ⟨b0, a4, a5⟩
  refine (And.intro hS4 ?_ : _ ∧ _)
  try simp only [Act.put, List.setIfInBounds_toArray, List.set_cons_zero, List.set_cons_succ]
  refine wpAnyH_done (by kernel_rfl) ?_ _
  refine NoPanic.normal ?_
  try simp only [Act.put, List.setIfInBounds_toArray, List.set_cons_zero, List.set_cons_succ]
  clear hS2 hS4 wA wB wC wD wE wF
  go_upto_region 24 with fail
  clear ho3 ho4 hs3 hs4 hb3 e3 HK3 HK2
  have X3 := hb4
  obtain ⟨s0, s1, s2⟩ := cells3 e4
  go_upto_region 25 with (first | (go_at_call 30; refine Calls.mono (HT.out _) ?_; rintro e w3 ⟨rfl, hb3⟩))
  have B3 : Hid (Below w.heap.size w w3) := to_call X3 hb3
  have K3 : Hid (w3.heap[w.heap.size + 1 + 1]? = _) := kept hb3 HK4.out.2.2
  have Z3 := kept hb3 e4
  clear s0 s1 s2 a0 a1 a2 a3 a4 a5 a6 a7 a8 b0 b1 b2 hb3 X3 HT
  by_cases hs' : s' = 0
  rotate_left
  · have HNT : Hid (¬ s' = 0) := hs'
    go_wp2_with (first | (refine wpList_store_row (by rfl) 25 _ _ (by rfl) w w.heap.size (w.heap.size + 1 + 1) _ _ (by rfl) (by rfl) K3.out B3.out (by omega) 3 Try.infoShape (by rfl) (by rfl) (by exact one3 ..) ?_; intro W9 e9 hb9 hs9 ho9))
    refine bodyPost_ret (res_shape _ 4 5 (by kernel_rfl) _ _ (w.heap.size + 1 + 1) _ _ (by rfl) (by rfl) rfl e9) rfl ?_
    exact ⟨_, _, _, s', rfl, fun h9 => absurd h9 HNT.out, hb9⟩
  subst hs'
  have HO9 : Hid OK := HO3.out rfl
  obtain ⟨s0, s1, s2⟩ := cells3 Z3
  go_wp2_with (first | (refine wpList_store_row (by rfl) 25 _ _ (by rfl) w w.heap.size (w.heap.size + 1 + 1) _ _ (by rfl) (by rfl) K3.out B3.out (by omega) 3 Try.infoShape (by rfl) (by rfl) (by exact one3 ..) ?_; intro W9 e9 hb9 hs9 ho9))
  refine bodyPost_ret (res_shape _ 4 5 (by kernel_rfl) _ _ (w.heap.size + 1 + 1) _ _ (by rfl) (by rfl) rfl e9) rfl ?_
  exact ⟨_, _, _, 0, rfl, fun _ => HO9.out, hb9⟩
end Go.Proofs.Ytokglpemefkmjaa
