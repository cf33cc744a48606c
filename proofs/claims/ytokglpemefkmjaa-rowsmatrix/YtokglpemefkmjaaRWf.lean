import Derived.Test.YtokglpemefkmjaaRWe
namespace Go.Proofs.Ytokglpemefkmjaa
open Go.RowKit
set_option linter.unusedVariables false
set_option linter.unusedSimpArgs false
theorem Try.info4 : (Try.prog.info? 48).map (·.size) = some 4 := by kernel_rfl
theorem one4 (a b c d : Int) : (#[.int .i64 a, .int .i64 b, .int .i64 c, .int .i64 d] : Array Value).all (·.oneCell') = true := by
  simp only [Array.all_eq_true_iff_forall_mem]
  intro v hv
  simp only [List.mem_toArray, List.mem_cons, List.not_mem_nil, or_false] at hv
  rcases hv with rfl | rfl | rfl | rfl <;> rfl
theorem res_ct (f : Func) (i j : Nat) (ty : TypeId) (hf : f.results = #[ResultVar.cell i ty, ResultVar.tmp j]) (tmps : Array Value) (W : World) (B : Nat) (c : Array Value) (v : Value) (hp : tmps[i]? = some (.pointer (some ⟨B, 0, none⟩))) (hv : tmps[j]? = some v)
    (u : TypeDesc) (hu : Try.prog.underlying ty = some u) (hd : u.isRow = true) (n : Nat) (hi : (Try.prog.info? ty).map (·.size) = some n)
    (hc : c.size = n) (h : W.heap[B]? = some (.cells c ty)) : (results f tmps).run Try.prog W = .ok (.tuple #[.agg c, v]) W := by
  have hr : W.rangeAt B 0 c.toList := by
    have := World.rangeAt_of_block h 0 c.size
    simpa using this
  have hl := run_loadVar_mid (P := Try.prog) W B 0 ty c.toList _ hr hu hd (by rw [hi]; simp [hc])
  have hl2 : (loadVar ty ⟨B, 0, none⟩).run Try.prog W = .ok (.agg c) W := by simpa using hl
  simp [results, hf, hp, hv, hl2, asAddr]
/-- What Lists tells: an error with no lengths, or the lengths. -/
def LsP (OK : Prop) (r0 r1 r2 r3 : Int) (e : Ending) : Prop := (∃ f : Int, ¬ f = 0 ∧ e = .returned (.tuple #[.agg #[.int .i64 0, .int .i64 0, .int .i64 0, .int .i64 0], .int .i64 f])) ∨ (OK ∧ e = .returned (.tuple #[.agg #[.int .i64 r0, .int .i64 r1, .int .i64 r2, .int .i64 r3], .int .i64 0]))
set_option maxRecDepth 100000 in
set_option maxHeartbeats 8000000 in
theorem listsD_any (g0 g1 g2 g3 g4 g5 g6 g7 c h k n s p : Int) (a9 v1 v2 v3 v4 : Value) (OK : Prop) (hp : IntKind.i64.wrap (g0 * n) = p)
    (hO : ∀ w, Calls Try.prog 29 #[.agg #[.int .i64 1, .int .i64 g0, .int .i64 g1, .int .i64 g2, .int .i64 g3, .int .i64 g4, .int .i64 g5, .int .i64 g6, .int .i64 g7, a9, v1, v2, v3, v4], .agg #[.int .i64 c, .int .i64 h, .int .i64 k]] w fun e w' => ∃ o1 o2 o3 f : Int, e = .returned (.tuple #[.agg #[.int .i64 o1, .int .i64 o2, .int .i64 o3], .int .i64 f]) ∧ (f = 0 → OK) ∧ Below w.heap.size w w')
    (hS : ∀ w, Calls Try.prog 30 #[.agg #[.int .i64 c, .int .i64 h, .int .i64 k]] w fun e w' => e = .returned (.tuple #[.int .i64 n, .int .i64 s]) ∧ Below w.heap.size w w') (w : World) :
    Calls Try.prog 16 #[.agg #[.int .i64 1, .int .i64 g0, .int .i64 g1, .int .i64 g2, .int .i64 g3, .int .i64 g4, .int .i64 g5, .int .i64 g6, .int .i64 g7, a9, v1, v2, v3, v4], .agg #[.int .i64 c, .int .i64 h, .int .i64 k]] w fun e w' => LsP OK (p) (g0) (0) (0) e ∧ Below w.heap.size w w' := by
  have HO : Hid _ := hO
  have HS : Hid _ := hS
  clear hO hS
  have X0 : Below w.heap.size w (((w.alloc (.cells #[.int .i64 1, .int .i64 g0, .int .i64 g1, .int .i64 g2, .int .i64 g3, .int .i64 g4, .int .i64 g5, .int .i64 g6, .int .i64 g7, a9, v1, v2, v3, v4] 55)).alloc (.cells #[.int .i64 c, .int .i64 h, .int .i64 k] 25)).alloc (.cells #[.int .i64 0, .int .i64 0, .int .i64 0, .int .i64 0] 48)) := (((Below.refl _ w).alloc (Nat.le_refl _) _).alloc (by simp only [alloc_size]; omega) _).alloc (by simp only [alloc_size]; omega) _
  go_enter Try.func16, Try.ntmps16
  go_wp2_with fail
  refine Calls.mono (HO.out _) ?_
  rintro e w1 ⟨o1, o2, o3, f, rfl, hok, hb⟩
  have HOK : Hid (f = 0 → OK) := hok
  have B1 : Hid (Below w.heap.size w w1) := to_call X0 hb
  have k0 := kept hb (alloc_kept (alloc_kept (heap_alloc_new w _) _) _)
  have k1 := kept hb (alloc_kept (heap_at _ _ (w.heap.size + 1) (by simp only [alloc_size])) _)
  have k2 := kept hb (heap_at _ _ (w.heap.size + 1 + 1) (by simp only [alloc_size]))
  have hsz := blk_lt k2
  have HK : Hid ((w1.alloc (.cells #[.int .i64 0, .int .i64 0, .int .i64 0] 25)).heap[w.heap.size]? = _ ∧ (w1.alloc (.cells #[.int .i64 0, .int .i64 0, .int .i64 0] 25)).heap[w.heap.size + 1]? = _ ∧ (w1.alloc (.cells #[.int .i64 0, .int .i64 0, .int .i64 0] 25)).heap[w.heap.size + 1 + 1]? = _) := ⟨alloc_kept k0 _, alloc_kept k1 _, alloc_kept k2 _⟩
  clear hb X0 HO k0 k1 k2 hok
  go_upto_region 2 with (first | (refine wpList_store_row (by rfl) 25 _ _ (by rfl) w w.heap.size w1.heap.size _ _ (by rfl) (by rfl) (heap_alloc_new w1 _) (B1.out.alloc B1.out.size _) (by omega) 3 Try.infoShape (by rfl) (by rfl) (by exact one3 ..) ?_; intro W3 e3 hb3 hs3 ho3))
  have HK3 : Hid (W3.heap[w.heap.size]? = _ ∧ W3.heap[w.heap.size + 1]? = _ ∧ W3.heap[w.heap.size + 1 + 1]? = _) := ⟨(ho3 _ (by omega)).trans HK.out.1, (ho3 _ (by omega)).trans HK.out.2.1, (ho3 _ (by omega)).trans HK.out.2.2⟩
  clear ho3 HK e3 hs3
  by_cases hf : f = 0
  rotate_left
  · have HNF : Hid (¬ f = 0) := hf
    go_wp2_with (first | (refine wpList_store_row (by rfl) 48 _ _ (by rfl) w w.heap.size (w.heap.size + 1 + 1) _ _ (by rfl) (by rfl) HK3.out.2.2 hb3 (by omega) 4 Try.info4 (by rfl) (by rfl) (by exact one4 ..) ?_; intro W9 e9 hb9 hs9 ho9))
    refine bodyPost_ret (res_ct _ 4 5 48 (by kernel_rfl) _ _ (w.heap.size + 1 + 1) _ _ (by rfl) (by rfl) _ Try.underlying48 rfl 4 Try.info4 rfl e9) rfl ?_
    exact ⟨.inl ⟨f, HNF.out, rfl⟩, hb9⟩
  subst hf
  have HO0 : Hid OK := HOK.out rfl
  clear HOK
  obtain ⟨b0, b1, b2⟩ := cells3 HK3.out.2.1
  go_upto_region 5 with (first | (go_at_call 30; refine Calls.mono (HS.out _) ?_; rintro e w2 ⟨rfl, hb2⟩))
  have B2 : Hid (Below w.heap.size w w2) := to_call hb3 hb2
  have HK2 : Hid (w2.heap[w.heap.size]? = _ ∧ w2.heap[w.heap.size + 1]? = _ ∧ w2.heap[w.heap.size + 1 + 1]? = _) := ⟨kept hb2 HK3.out.1, kept hb2 HK3.out.2.1, kept hb2 HK3.out.2.2⟩
  clear b0 b1 b2 hb2 HK3 HS hb3
  obtain ⟨b0, b1, b2⟩ := cells3 HK2.out.2.1
  obtain ⟨a0, a1, a2, a3, a4, a5, a6, a7, a8, -, -, -, -, -⟩ := cells14 HK2.out.1
  go_wp2_with (first | (refine wpList_store_row (by rfl) 48 _ _ (by rfl) w w.heap.size (w.heap.size + 1 + 1) _ _ (by rfl) (by rfl) HK2.out.2.2 B2.out (by omega) 4 Try.info4 (by rfl) (by rfl) (by exact one4 ..) ?_; intro W9 e9 hb9 hs9 ho9))
  refine bodyPost_ret (res_ct _ 4 5 48 (by kernel_rfl) _ _ (w.heap.size + 1 + 1) _ _ (by rfl) (by rfl) _ Try.underlying48 rfl 4 Try.info4 rfl e9) rfl ?_
  exact ⟨.inr ⟨HO0.out, rfl⟩, hb9⟩
set_option maxRecDepth 100000 in
set_option maxHeartbeats 8000000 in
theorem listsC_any (g0 g1 g2 g3 g4 g5 g6 g7 c h k n s p1 p2 p : Int) (a9 v1 v2 v3 v4 : Value) (OK : Prop) (hp1 : IntKind.i64.wrap (g0 * c) = p1) (hp2 : IntKind.i64.wrap (p1 * g1) = p2) (hp : IntKind.i64.wrap (p2 * g2) = p)
    (hO : ∀ w, Calls Try.prog 29 #[.agg #[.int .i64 2, .int .i64 g0, .int .i64 g1, .int .i64 g2, .int .i64 g3, .int .i64 g4, .int .i64 g5, .int .i64 g6, .int .i64 g7, a9, v1, v2, v3, v4], .agg #[.int .i64 c, .int .i64 h, .int .i64 k]] w fun e w' => ∃ o1 o2 o3 f : Int, e = .returned (.tuple #[.agg #[.int .i64 o1, .int .i64 o2, .int .i64 o3], .int .i64 f]) ∧ (f = 0 → OK) ∧ Below w.heap.size w w')
    (hS : ∀ w, Calls Try.prog 30 #[.agg #[.int .i64 c, .int .i64 h, .int .i64 k]] w fun e w' => e = .returned (.tuple #[.int .i64 n, .int .i64 s]) ∧ Below w.heap.size w w') (w : World) :
    Calls Try.prog 16 #[.agg #[.int .i64 2, .int .i64 g0, .int .i64 g1, .int .i64 g2, .int .i64 g3, .int .i64 g4, .int .i64 g5, .int .i64 g6, .int .i64 g7, a9, v1, v2, v3, v4], .agg #[.int .i64 c, .int .i64 h, .int .i64 k]] w fun e w' => LsP OK (p) (g0) (0) (0) e ∧ Below w.heap.size w w' := by
  have HO : Hid _ := hO
  have HS : Hid _ := hS
  clear hO hS
  have X0 : Below w.heap.size w (((w.alloc (.cells #[.int .i64 2, .int .i64 g0, .int .i64 g1, .int .i64 g2, .int .i64 g3, .int .i64 g4, .int .i64 g5, .int .i64 g6, .int .i64 g7, a9, v1, v2, v3, v4] 55)).alloc (.cells #[.int .i64 c, .int .i64 h, .int .i64 k] 25)).alloc (.cells #[.int .i64 0, .int .i64 0, .int .i64 0, .int .i64 0] 48)) := (((Below.refl _ w).alloc (Nat.le_refl _) _).alloc (by simp only [alloc_size]; omega) _).alloc (by simp only [alloc_size]; omega) _
  go_enter Try.func16, Try.ntmps16
  go_wp2_with fail
  refine Calls.mono (HO.out _) ?_
  rintro e w1 ⟨o1, o2, o3, f, rfl, hok, hb⟩
  have HOK : Hid (f = 0 → OK) := hok
  have B1 : Hid (Below w.heap.size w w1) := to_call X0 hb
  have k0 := kept hb (alloc_kept (alloc_kept (heap_alloc_new w _) _) _)
  have k1 := kept hb (alloc_kept (heap_at _ _ (w.heap.size + 1) (by simp only [alloc_size])) _)
  have k2 := kept hb (heap_at _ _ (w.heap.size + 1 + 1) (by simp only [alloc_size]))
  have hsz := blk_lt k2
  have HK : Hid ((w1.alloc (.cells #[.int .i64 0, .int .i64 0, .int .i64 0] 25)).heap[w.heap.size]? = _ ∧ (w1.alloc (.cells #[.int .i64 0, .int .i64 0, .int .i64 0] 25)).heap[w.heap.size + 1]? = _ ∧ (w1.alloc (.cells #[.int .i64 0, .int .i64 0, .int .i64 0] 25)).heap[w.heap.size + 1 + 1]? = _) := ⟨alloc_kept k0 _, alloc_kept k1 _, alloc_kept k2 _⟩
  clear hb X0 HO k0 k1 k2 hok
  go_upto_region 2 with (first | (refine wpList_store_row (by rfl) 25 _ _ (by rfl) w w.heap.size w1.heap.size _ _ (by rfl) (by rfl) (heap_alloc_new w1 _) (B1.out.alloc B1.out.size _) (by omega) 3 Try.infoShape (by rfl) (by rfl) (by exact one3 ..) ?_; intro W3 e3 hb3 hs3 ho3))
  have HK3 : Hid (W3.heap[w.heap.size]? = _ ∧ W3.heap[w.heap.size + 1]? = _ ∧ W3.heap[w.heap.size + 1 + 1]? = _) := ⟨(ho3 _ (by omega)).trans HK.out.1, (ho3 _ (by omega)).trans HK.out.2.1, (ho3 _ (by omega)).trans HK.out.2.2⟩
  clear ho3 HK e3 hs3
  by_cases hf : f = 0
  rotate_left
  · have HNF : Hid (¬ f = 0) := hf
    go_wp2_with (first | (refine wpList_store_row (by rfl) 48 _ _ (by rfl) w w.heap.size (w.heap.size + 1 + 1) _ _ (by rfl) (by rfl) HK3.out.2.2 hb3 (by omega) 4 Try.info4 (by rfl) (by rfl) (by exact one4 ..) ?_; intro W9 e9 hb9 hs9 ho9))
    refine bodyPost_ret (res_ct _ 4 5 48 (by kernel_rfl) _ _ (w.heap.size + 1 + 1) _ _ (by rfl) (by rfl) _ Try.underlying48 rfl 4 Try.info4 rfl e9) rfl ?_
    exact ⟨.inl ⟨f, HNF.out, rfl⟩, hb9⟩
  subst hf
  have HO0 : Hid OK := HOK.out rfl
  clear HOK
  obtain ⟨b0, b1, b2⟩ := cells3 HK3.out.2.1
  go_upto_region 5 with (first | (go_at_call 30; refine Calls.mono (HS.out _) ?_; rintro e w2 ⟨rfl, hb2⟩))
  have B2 : Hid (Below w.heap.size w w2) := to_call hb3 hb2
  have HK2 : Hid (w2.heap[w.heap.size]? = _ ∧ w2.heap[w.heap.size + 1]? = _ ∧ w2.heap[w.heap.size + 1 + 1]? = _) := ⟨kept hb2 HK3.out.1, kept hb2 HK3.out.2.1, kept hb2 HK3.out.2.2⟩
  clear b0 b1 b2 hb2 HK3 HS hb3
  obtain ⟨b0, b1, b2⟩ := cells3 HK2.out.2.1
  obtain ⟨a0, a1, a2, a3, a4, a5, a6, a7, a8, -, -, -, -, -⟩ := cells14 HK2.out.1
  go_wp2_with (first | (refine wpList_store_row (by rfl) 48 _ _ (by rfl) w w.heap.size (w.heap.size + 1 + 1) _ _ (by rfl) (by rfl) HK2.out.2.2 B2.out (by omega) 4 Try.info4 (by rfl) (by rfl) (by exact one4 ..) ?_; intro W9 e9 hb9 hs9 ho9))
  refine bodyPost_ret (res_ct _ 4 5 48 (by kernel_rfl) _ _ (w.heap.size + 1 + 1) _ _ (by rfl) (by rfl) _ Try.underlying48 rfl 4 Try.info4 rfl e9) rfl ?_
  exact ⟨.inr ⟨HO0.out, rfl⟩, hb9⟩
set_option maxRecDepth 100000 in
set_option maxHeartbeats 8000000 in
theorem listsS_any (g0 g1 g2 g3 g4 g5 g6 g7 c h k n s : Int) (a9 v1 v2 v3 v4 : Value) (OK : Prop) 
    (hO : ∀ w, Calls Try.prog 29 #[.agg #[.int .i64 3, .int .i64 g0, .int .i64 g1, .int .i64 g2, .int .i64 g3, .int .i64 g4, .int .i64 g5, .int .i64 g6, .int .i64 g7, a9, v1, v2, v3, v4], .agg #[.int .i64 c, .int .i64 h, .int .i64 k]] w fun e w' => ∃ o1 o2 o3 f : Int, e = .returned (.tuple #[.agg #[.int .i64 o1, .int .i64 o2, .int .i64 o3], .int .i64 f]) ∧ (f = 0 → OK) ∧ Below w.heap.size w w')
    (hS : ∀ w, Calls Try.prog 30 #[.agg #[.int .i64 c, .int .i64 h, .int .i64 k]] w fun e w' => e = .returned (.tuple #[.int .i64 n, .int .i64 s]) ∧ Below w.heap.size w w') (w : World) :
    Calls Try.prog 16 #[.agg #[.int .i64 3, .int .i64 g0, .int .i64 g1, .int .i64 g2, .int .i64 g3, .int .i64 g4, .int .i64 g5, .int .i64 g6, .int .i64 g7, a9, v1, v2, v3, v4], .agg #[.int .i64 c, .int .i64 h, .int .i64 k]] w fun e w' => LsP OK (c) (c) (0) (0) e ∧ Below w.heap.size w w' := by
  have HO : Hid _ := hO
  have HS : Hid _ := hS
  clear hO hS
  have X0 : Below w.heap.size w (((w.alloc (.cells #[.int .i64 3, .int .i64 g0, .int .i64 g1, .int .i64 g2, .int .i64 g3, .int .i64 g4, .int .i64 g5, .int .i64 g6, .int .i64 g7, a9, v1, v2, v3, v4] 55)).alloc (.cells #[.int .i64 c, .int .i64 h, .int .i64 k] 25)).alloc (.cells #[.int .i64 0, .int .i64 0, .int .i64 0, .int .i64 0] 48)) := (((Below.refl _ w).alloc (Nat.le_refl _) _).alloc (by simp only [alloc_size]; omega) _).alloc (by simp only [alloc_size]; omega) _
  go_enter Try.func16, Try.ntmps16
  go_wp2_with fail
  refine Calls.mono (HO.out _) ?_
  rintro e w1 ⟨o1, o2, o3, f, rfl, hok, hb⟩
  have HOK : Hid (f = 0 → OK) := hok
  have B1 : Hid (Below w.heap.size w w1) := to_call X0 hb
  have k0 := kept hb (alloc_kept (alloc_kept (heap_alloc_new w _) _) _)
  have k1 := kept hb (alloc_kept (heap_at _ _ (w.heap.size + 1) (by simp only [alloc_size])) _)
  have k2 := kept hb (heap_at _ _ (w.heap.size + 1 + 1) (by simp only [alloc_size]))
  have hsz := blk_lt k2
  have HK : Hid ((w1.alloc (.cells #[.int .i64 0, .int .i64 0, .int .i64 0] 25)).heap[w.heap.size]? = _ ∧ (w1.alloc (.cells #[.int .i64 0, .int .i64 0, .int .i64 0] 25)).heap[w.heap.size + 1]? = _ ∧ (w1.alloc (.cells #[.int .i64 0, .int .i64 0, .int .i64 0] 25)).heap[w.heap.size + 1 + 1]? = _) := ⟨alloc_kept k0 _, alloc_kept k1 _, alloc_kept k2 _⟩
  clear hb X0 HO k0 k1 k2 hok
  go_upto_region 2 with (first | (refine wpList_store_row (by rfl) 25 _ _ (by rfl) w w.heap.size w1.heap.size _ _ (by rfl) (by rfl) (heap_alloc_new w1 _) (B1.out.alloc B1.out.size _) (by omega) 3 Try.infoShape (by rfl) (by rfl) (by exact one3 ..) ?_; intro W3 e3 hb3 hs3 ho3))
  have HK3 : Hid (W3.heap[w.heap.size]? = _ ∧ W3.heap[w.heap.size + 1]? = _ ∧ W3.heap[w.heap.size + 1 + 1]? = _) := ⟨(ho3 _ (by omega)).trans HK.out.1, (ho3 _ (by omega)).trans HK.out.2.1, (ho3 _ (by omega)).trans HK.out.2.2⟩
  clear ho3 HK e3 hs3
  by_cases hf : f = 0
  rotate_left
  · have HNF : Hid (¬ f = 0) := hf
    go_wp2_with (first | (refine wpList_store_row (by rfl) 48 _ _ (by rfl) w w.heap.size (w.heap.size + 1 + 1) _ _ (by rfl) (by rfl) HK3.out.2.2 hb3 (by omega) 4 Try.info4 (by rfl) (by rfl) (by exact one4 ..) ?_; intro W9 e9 hb9 hs9 ho9))
    refine bodyPost_ret (res_ct _ 4 5 48 (by kernel_rfl) _ _ (w.heap.size + 1 + 1) _ _ (by rfl) (by rfl) _ Try.underlying48 rfl 4 Try.info4 rfl e9) rfl ?_
    exact ⟨.inl ⟨f, HNF.out, rfl⟩, hb9⟩
  subst hf
  have HO0 : Hid OK := HOK.out rfl
  clear HOK
  obtain ⟨b0, b1, b2⟩ := cells3 HK3.out.2.1
  go_upto_region 5 with (first | (go_at_call 30; refine Calls.mono (HS.out _) ?_; rintro e w2 ⟨rfl, hb2⟩))
  have B2 : Hid (Below w.heap.size w w2) := to_call hb3 hb2
  have HK2 : Hid (w2.heap[w.heap.size]? = _ ∧ w2.heap[w.heap.size + 1]? = _ ∧ w2.heap[w.heap.size + 1 + 1]? = _) := ⟨kept hb2 HK3.out.1, kept hb2 HK3.out.2.1, kept hb2 HK3.out.2.2⟩
  clear b0 b1 b2 hb2 HK3 HS hb3
  obtain ⟨b0, b1, b2⟩ := cells3 HK2.out.2.1
  obtain ⟨a0, a1, a2, a3, a4, a5, a6, a7, a8, -, -, -, -, -⟩ := cells14 HK2.out.1
  go_wp2_with (first | (refine wpList_store_row (by rfl) 48 _ _ (by rfl) w w.heap.size (w.heap.size + 1 + 1) _ _ (by rfl) (by rfl) HK2.out.2.2 B2.out (by omega) 4 Try.info4 (by rfl) (by rfl) (by exact one4 ..) ?_; intro W9 e9 hb9 hs9 ho9))
  refine bodyPost_ret (res_ct _ 4 5 48 (by kernel_rfl) _ _ (w.heap.size + 1 + 1) _ _ (by rfl) (by rfl) _ Try.underlying48 rfl 4 Try.info4 rfl e9) rfl ?_
  exact ⟨.inr ⟨HO0.out, rfl⟩, hb9⟩
set_option maxRecDepth 100000 in
set_option maxHeartbeats 8000000 in
theorem listsT_any (g0 g1 g2 g3 g4 g5 g6 g7 c h k n s p q : Int) (a9 v1 v2 v3 v4 : Value) (OK : Prop) (hp : IntKind.i64.wrap (g0 * n) = p) (hq : wrap64 (p.tdiv 2) = q) (hq' : IntKind.i64.wrap (p.tdiv 2) = q)
    (hO : ∀ w, Calls Try.prog 29 #[.agg #[.int .i64 6, .int .i64 g0, .int .i64 g1, .int .i64 g2, .int .i64 g3, .int .i64 g4, .int .i64 g5, .int .i64 g6, .int .i64 g7, a9, v1, v2, v3, v4], .agg #[.int .i64 c, .int .i64 h, .int .i64 k]] w fun e w' => ∃ o1 o2 o3 f : Int, e = .returned (.tuple #[.agg #[.int .i64 o1, .int .i64 o2, .int .i64 o3], .int .i64 f]) ∧ (f = 0 → OK) ∧ Below w.heap.size w w')
    (hS : ∀ w, Calls Try.prog 30 #[.agg #[.int .i64 c, .int .i64 h, .int .i64 k]] w fun e w' => e = .returned (.tuple #[.int .i64 n, .int .i64 s]) ∧ Below w.heap.size w w') (w : World) :
    Calls Try.prog 16 #[.agg #[.int .i64 6, .int .i64 g0, .int .i64 g1, .int .i64 g2, .int .i64 g3, .int .i64 g4, .int .i64 g5, .int .i64 g6, .int .i64 g7, a9, v1, v2, v3, v4], .agg #[.int .i64 c, .int .i64 h, .int .i64 k]] w fun e w' => LsP OK (0) (0) (q) (g0) e ∧ Below w.heap.size w w' := by
  have HO : Hid _ := hO
  have HS : Hid _ := hS
  clear hO hS
  have X0 : Below w.heap.size w (((w.alloc (.cells #[.int .i64 6, .int .i64 g0, .int .i64 g1, .int .i64 g2, .int .i64 g3, .int .i64 g4, .int .i64 g5, .int .i64 g6, .int .i64 g7, a9, v1, v2, v3, v4] 55)).alloc (.cells #[.int .i64 c, .int .i64 h, .int .i64 k] 25)).alloc (.cells #[.int .i64 0, .int .i64 0, .int .i64 0, .int .i64 0] 48)) := (((Below.refl _ w).alloc (Nat.le_refl _) _).alloc (by simp only [alloc_size]; omega) _).alloc (by simp only [alloc_size]; omega) _
  go_enter Try.func16, Try.ntmps16
  go_wp2_with fail
  refine Calls.mono (HO.out _) ?_
  rintro e w1 ⟨o1, o2, o3, f, rfl, hok, hb⟩
  have HOK : Hid (f = 0 → OK) := hok
  have B1 : Hid (Below w.heap.size w w1) := to_call X0 hb
  have k0 := kept hb (alloc_kept (alloc_kept (heap_alloc_new w _) _) _)
  have k1 := kept hb (alloc_kept (heap_at _ _ (w.heap.size + 1) (by simp only [alloc_size])) _)
  have k2 := kept hb (heap_at _ _ (w.heap.size + 1 + 1) (by simp only [alloc_size]))
  have hsz := blk_lt k2
  have HK : Hid ((w1.alloc (.cells #[.int .i64 0, .int .i64 0, .int .i64 0] 25)).heap[w.heap.size]? = _ ∧ (w1.alloc (.cells #[.int .i64 0, .int .i64 0, .int .i64 0] 25)).heap[w.heap.size + 1]? = _ ∧ (w1.alloc (.cells #[.int .i64 0, .int .i64 0, .int .i64 0] 25)).heap[w.heap.size + 1 + 1]? = _) := ⟨alloc_kept k0 _, alloc_kept k1 _, alloc_kept k2 _⟩
  clear hb X0 HO k0 k1 k2 hok
  go_upto_region 2 with (first | (refine wpList_store_row (by rfl) 25 _ _ (by rfl) w w.heap.size w1.heap.size _ _ (by rfl) (by rfl) (heap_alloc_new w1 _) (B1.out.alloc B1.out.size _) (by omega) 3 Try.infoShape (by rfl) (by rfl) (by exact one3 ..) ?_; intro W3 e3 hb3 hs3 ho3))
  have HK3 : Hid (W3.heap[w.heap.size]? = _ ∧ W3.heap[w.heap.size + 1]? = _ ∧ W3.heap[w.heap.size + 1 + 1]? = _) := ⟨(ho3 _ (by omega)).trans HK.out.1, (ho3 _ (by omega)).trans HK.out.2.1, (ho3 _ (by omega)).trans HK.out.2.2⟩
  clear ho3 HK e3 hs3
  by_cases hf : f = 0
  rotate_left
  · have HNF : Hid (¬ f = 0) := hf
    go_wp2_with (first | (refine wpList_store_row (by rfl) 48 _ _ (by rfl) w w.heap.size (w.heap.size + 1 + 1) _ _ (by rfl) (by rfl) HK3.out.2.2 hb3 (by omega) 4 Try.info4 (by rfl) (by rfl) (by exact one4 ..) ?_; intro W9 e9 hb9 hs9 ho9))
    refine bodyPost_ret (res_ct _ 4 5 48 (by kernel_rfl) _ _ (w.heap.size + 1 + 1) _ _ (by rfl) (by rfl) _ Try.underlying48 rfl 4 Try.info4 rfl e9) rfl ?_
    exact ⟨.inl ⟨f, HNF.out, rfl⟩, hb9⟩
  subst hf
  have HO0 : Hid OK := HOK.out rfl
  clear HOK
  obtain ⟨b0, b1, b2⟩ := cells3 HK3.out.2.1
  go_upto_region 5 with (first | (go_at_call 30; refine Calls.mono (HS.out _) ?_; rintro e w2 ⟨rfl, hb2⟩))
  have B2 : Hid (Below w.heap.size w w2) := to_call hb3 hb2
  have HK2 : Hid (w2.heap[w.heap.size]? = _ ∧ w2.heap[w.heap.size + 1]? = _ ∧ w2.heap[w.heap.size + 1 + 1]? = _) := ⟨kept hb2 HK3.out.1, kept hb2 HK3.out.2.1, kept hb2 HK3.out.2.2⟩
  clear b0 b1 b2 hb2 HK3 HS hb3
  obtain ⟨b0, b1, b2⟩ := cells3 HK2.out.2.1
  obtain ⟨a0, a1, a2, a3, a4, a5, a6, a7, a8, -, -, -, -, -⟩ := cells14 HK2.out.1
  go_wp2_with (first | (refine wpList_store_row (by rfl) 48 _ _ (by rfl) w w.heap.size (w.heap.size + 1 + 1) _ _ (by rfl) (by rfl) HK2.out.2.2 B2.out (by omega) 4 Try.info4 (by rfl) (by rfl) (by exact one4 ..) ?_; intro W9 e9 hb9 hs9 ho9))
  refine bodyPost_ret (res_ct _ 4 5 48 (by kernel_rfl) _ _ (w.heap.size + 1 + 1) _ _ (by rfl) (by rfl) _ Try.underlying48 rfl 4 Try.info4 rfl e9) rfl ?_
  exact ⟨.inr ⟨HO0.out, rfl⟩, hb9⟩
set_option maxRecDepth 100000 in
set_option maxHeartbeats 8000000 in
theorem listsO_any (kd g0 g1 g2 g3 g4 g5 g6 g7 c h k n s : Int) (a9 v1 v2 v3 v4 : Value) (OK : Prop) (n1 : ¬ kd = 1) (n2 : ¬ kd = 2) (n3 : ¬ kd = 3) (n6 : ¬ kd = 6)
    (hO : ∀ w, Calls Try.prog 29 #[.agg #[.int .i64 kd, .int .i64 g0, .int .i64 g1, .int .i64 g2, .int .i64 g3, .int .i64 g4, .int .i64 g5, .int .i64 g6, .int .i64 g7, a9, v1, v2, v3, v4], .agg #[.int .i64 c, .int .i64 h, .int .i64 k]] w fun e w' => ∃ o1 o2 o3 f : Int, e = .returned (.tuple #[.agg #[.int .i64 o1, .int .i64 o2, .int .i64 o3], .int .i64 f]) ∧ (f = 0 → OK) ∧ Below w.heap.size w w')
    (hS : ∀ w, Calls Try.prog 30 #[.agg #[.int .i64 c, .int .i64 h, .int .i64 k]] w fun e w' => e = .returned (.tuple #[.int .i64 n, .int .i64 s]) ∧ Below w.heap.size w w') (w : World) :
    Calls Try.prog 16 #[.agg #[.int .i64 kd, .int .i64 g0, .int .i64 g1, .int .i64 g2, .int .i64 g3, .int .i64 g4, .int .i64 g5, .int .i64 g6, .int .i64 g7, a9, v1, v2, v3, v4], .agg #[.int .i64 c, .int .i64 h, .int .i64 k]] w fun e w' => LsP OK (0) (0) (0) (0) e ∧ Below w.heap.size w w' := by
  have HO : Hid _ := hO
  have HS : Hid _ := hS
  clear hO hS
  have X0 : Below w.heap.size w (((w.alloc (.cells #[.int .i64 kd, .int .i64 g0, .int .i64 g1, .int .i64 g2, .int .i64 g3, .int .i64 g4, .int .i64 g5, .int .i64 g6, .int .i64 g7, a9, v1, v2, v3, v4] 55)).alloc (.cells #[.int .i64 c, .int .i64 h, .int .i64 k] 25)).alloc (.cells #[.int .i64 0, .int .i64 0, .int .i64 0, .int .i64 0] 48)) := (((Below.refl _ w).alloc (Nat.le_refl _) _).alloc (by simp only [alloc_size]; omega) _).alloc (by simp only [alloc_size]; omega) _
  have m1 : decide (kd = 1) = false := decide_eq_false n1
  have b1' : (kd == 1) = false := beq_eq_false_iff_ne.2 n1
  have m2 : decide (kd = 2) = false := decide_eq_false n2
  have b2' : (kd == 2) = false := beq_eq_false_iff_ne.2 n2
  have m3 : decide (kd = 3) = false := decide_eq_false n3
  have b3' : (kd == 3) = false := beq_eq_false_iff_ne.2 n3
  have m6 : decide (kd = 6) = false := decide_eq_false n6
  have b6' : (kd == 6) = false := beq_eq_false_iff_ne.2 n6
  go_enter Try.func16, Try.ntmps16
  go_wp2_with fail
  refine Calls.mono (HO.out _) ?_
  rintro e w1 ⟨o1, o2, o3, f, rfl, hok, hb⟩
  have HOK : Hid (f = 0 → OK) := hok
  have B1 : Hid (Below w.heap.size w w1) := to_call X0 hb
  have k0 := kept hb (alloc_kept (alloc_kept (heap_alloc_new w _) _) _)
  have k1 := kept hb (alloc_kept (heap_at _ _ (w.heap.size + 1) (by simp only [alloc_size])) _)
  have k2 := kept hb (heap_at _ _ (w.heap.size + 1 + 1) (by simp only [alloc_size]))
  have hsz := blk_lt k2
  have HK : Hid ((w1.alloc (.cells #[.int .i64 0, .int .i64 0, .int .i64 0] 25)).heap[w.heap.size]? = _ ∧ (w1.alloc (.cells #[.int .i64 0, .int .i64 0, .int .i64 0] 25)).heap[w.heap.size + 1]? = _ ∧ (w1.alloc (.cells #[.int .i64 0, .int .i64 0, .int .i64 0] 25)).heap[w.heap.size + 1 + 1]? = _) := ⟨alloc_kept k0 _, alloc_kept k1 _, alloc_kept k2 _⟩
  clear hb X0 HO k0 k1 k2 hok
  go_upto_region 2 with (first | (refine wpList_store_row (by rfl) 25 _ _ (by rfl) w w.heap.size w1.heap.size _ _ (by rfl) (by rfl) (heap_alloc_new w1 _) (B1.out.alloc B1.out.size _) (by omega) 3 Try.infoShape (by rfl) (by rfl) (by exact one3 ..) ?_; intro W3 e3 hb3 hs3 ho3))
  have HK3 : Hid (W3.heap[w.heap.size]? = _ ∧ W3.heap[w.heap.size + 1]? = _ ∧ W3.heap[w.heap.size + 1 + 1]? = _) := ⟨(ho3 _ (by omega)).trans HK.out.1, (ho3 _ (by omega)).trans HK.out.2.1, (ho3 _ (by omega)).trans HK.out.2.2⟩
  clear ho3 HK e3 hs3
  by_cases hf : f = 0
  rotate_left
  · have HNF : Hid (¬ f = 0) := hf
    go_wp2_with (first | (refine wpList_store_row (by rfl) 48 _ _ (by rfl) w w.heap.size (w.heap.size + 1 + 1) _ _ (by rfl) (by rfl) HK3.out.2.2 hb3 (by omega) 4 Try.info4 (by rfl) (by rfl) (by exact one4 ..) ?_; intro W9 e9 hb9 hs9 ho9))
    refine bodyPost_ret (res_ct _ 4 5 48 (by kernel_rfl) _ _ (w.heap.size + 1 + 1) _ _ (by rfl) (by rfl) _ Try.underlying48 rfl 4 Try.info4 rfl e9) rfl ?_
    exact ⟨.inl ⟨f, HNF.out, rfl⟩, hb9⟩
  subst hf
  have HO0 : Hid OK := HOK.out rfl
  clear HOK
  obtain ⟨b0, b1, b2⟩ := cells3 HK3.out.2.1
  go_upto_region 5 with (first | (go_at_call 30; refine Calls.mono (HS.out _) ?_; rintro e w2 ⟨rfl, hb2⟩))
  have B2 : Hid (Below w.heap.size w w2) := to_call hb3 hb2
  have HK2 : Hid (w2.heap[w.heap.size]? = _ ∧ w2.heap[w.heap.size + 1]? = _ ∧ w2.heap[w.heap.size + 1 + 1]? = _) := ⟨kept hb2 HK3.out.1, kept hb2 HK3.out.2.1, kept hb2 HK3.out.2.2⟩
  clear b0 b1 b2 hb2 HK3 HS hb3
  obtain ⟨b0, b1, b2⟩ := cells3 HK2.out.2.1
  obtain ⟨a0, a1, a2, a3, a4, a5, a6, a7, a8, -, -, -, -, -⟩ := cells14 HK2.out.1
  go_wp2_with (first | (refine wpList_store_row (by rfl) 48 _ _ (by rfl) w w.heap.size (w.heap.size + 1 + 1) _ _ (by rfl) (by rfl) HK2.out.2.2 B2.out (by omega) 4 Try.info4 (by rfl) (by rfl) (by exact one4 ..) ?_; intro W9 e9 hb9 hs9 ho9))
  refine bodyPost_ret (res_ct _ 4 5 48 (by kernel_rfl) _ _ (w.heap.size + 1 + 1) _ _ (by rfl) (by rfl) _ Try.underlying48 rfl 4 Try.info4 rfl e9) rfl ?_
  exact ⟨.inr ⟨HO0.out, rfl⟩, hb9⟩
end Go.Proofs.Ytokglpemefkmjaa
