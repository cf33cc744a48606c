import Derived.Test.YtokglpemefkmjaaRMj
namespace Go.Proofs.Ytokglpemefkmjaa
open Go.RowKit
set_option linter.unusedVariables false
set_option linter.unusedSimpArgs false
/-- What plain tells of a scale. -/
def plS (seed : Int) (vs : List Int) (m n : Nat) : List Int := (List.range n).map fun i => smallZ seed (3 * ((i / m : Nat) : Int)) * vs[i]?.getD 0 + smallZ seed (5 * ((i / m : Nat) : Int) + 1)
theorem plS_snoc (seed : Int) (vs : List Int) (m i : Nat) : plS seed vs m (i + 1) = plS seed vs m i ++ [smallZ seed (3 * ((i / m : Nat) : Int)) * vs[i]?.getD 0 + smallZ seed (5 * ((i / m : Nat) : Int) + 1)] := by unfold plS; rw [List.range_succ, List.map_append]; rfl
theorem plS_len (seed : Int) (vs : List Int) (m n : Nat) : (plS seed vs m n).length = n := by unfold plS; simp
set_option maxRecDepth 100000 in
set_option maxHeartbeats 8000000 in
theorem plainS_any (seed g0 g1 g2 g3 g4 g5 g6 : Int) (C H K m n : Nat) (hm : H * K = m) (hm1 : 1 ≤ m) (hn : C * m = n) (hn2 : n ≤ 256) (wo bo zo yo ao : Option Addr) (wc bc zc yc nz ny cap : Nat) (vs : List Int) (hv : ∀ j : Nat, -9 ≤ vs[j]?.getD 0 ∧ vs[j]?.getD 0 ≤ 9) (w : World)
    (hU : RdF w wo C wc (wL seed C)) (hV : RdF w bo C bc (bL seed C)) (hR : RdIn w ao n cap vs) :
    Calls Try.prog 9 #[.agg #[.int .i64 3, .int .i64 g0, .int .i64 g1, .int .i64 g2, .int .i64 g3, .int .i64 g4, .int .i64 g5, .int .i64 g6, .int .i64 0, .float .f64 0, .slice wo C wc, .slice bo C bc, .slice zo nz zc, .slice yo ny yc], .agg #[.int .i64 (C : Int), .int .i64 (H : Int), .int .i64 (K : Int)], .slice ao n cap] w fun e w' => ∃ v, e = .returned v ∧ OwnM w' w.heap.size 3 v (inV (plS seed vs m n)) ∧ Below w.heap.size w w' := by
  have HU : Hid _ := hU
  have HV : Hid _ := hV
  have HR : Hid _ := hR
  have HVS : Hid (∀ j : Nat, -9 ≤ vs[j]?.getD 0 ∧ vs[j]?.getD 0 ≤ 9) := hv
  clear hU hV hR hv
  have X0 : Hid (Below w.heap.size w ((w.alloc (.cells #[.int .i64 3, .int .i64 g0, .int .i64 g1, .int .i64 g2, .int .i64 g3, .int .i64 g4, .int .i64 g5, .int .i64 g6, .int .i64 0, .float .f64 0, .slice wo C wc, .slice bo C bc, .slice zo nz zc, .slice yo ny yc] 30)).alloc (.cells #[.int .i64 (C : Int), .int .i64 (H : Int), .int .i64 (K : Int)] 25))) := ((Below.refl _ w).alloc (Nat.le_refl _) _).alloc (by simp only [alloc_size]; omega) _
  have Y0 : Hid (((w.alloc (.cells #[.int .i64 3, .int .i64 g0, .int .i64 g1, .int .i64 g2, .int .i64 g3, .int .i64 g4, .int .i64 g5, .int .i64 g6, .int .i64 0, .float .f64 0, .slice wo C wc, .slice bo C bc, .slice zo nz zc, .slice yo ny yc] 30)).alloc (.cells #[.int .i64 (C : Int), .int .i64 (H : Int), .int .i64 (K : Int)] 25)).heap[w.heap.size]? = some (.cells #[.int .i64 3, .int .i64 g0, .int .i64 g1, .int .i64 g2, .int .i64 g3, .int .i64 g4, .int .i64 g5, .int .i64 g6, .int .i64 0, .float .f64 0, .slice wo C wc, .slice bo C bc, .slice zo nz zc, .slice yo ny yc] 30)) := alloc_kept (heap_alloc_new w _) _
  have Y1 : Hid (((w.alloc (.cells #[.int .i64 3, .int .i64 g0, .int .i64 g1, .int .i64 g2, .int .i64 g3, .int .i64 g4, .int .i64 g5, .int .i64 g6, .int .i64 0, .float .f64 0, .slice wo C wc, .slice bo C bc, .slice zo nz zc, .slice yo ny yc] 30)).alloc (.cells #[.int .i64 (C : Int), .int .i64 (H : Int), .int .i64 (K : Int)] 25)).heap[w.heap.size + 1]? = some (.cells #[.int .i64 (C : Int), .int .i64 (H : Int), .int .i64 (K : Int)] 25)) := heap_at _ _ (w.heap.size + 1) (by simp only [alloc_size])
  go_enter Try.func9, Try.ntmps9
  go_upto_region 3 with fail
  generalize (w.alloc (.cells #[.int .i64 3, .int .i64 g0, .int .i64 g1, .int .i64 g2, .int .i64 g3, .int .i64 g4, .int .i64 g5, .int .i64 g6, .int .i64 0, .float .f64 0, .slice wo C wc, .slice bo C bc, .slice zo nz zc, .slice yo ny yc] 30)).alloc (.cells #[.int .i64 (C : Int), .int .i64 (H : Int), .int .i64 (K : Int)] 25) = W at X0 Y0 Y1 ⊢
  have l0 := cellAt Y0.out 0 (.int .i64 3) rfl
  go_wp2_with fail
  clear l0
  go_loopg [8, 12] n (fun g lv v wx => ∃ i : Nat, v = .int .i64 i ∧ i + g = n ∧ Hid (OwnM wx W.heap.size 3 lv (inV (plS seed vs m i))) ∧ Hid (Below W.heap.size W wx))
  case atStart => exact ⟨0, rfl, by omega, World.ownsRow_nil _ _ _ 1, Below.refl _ _⟩
  case round =>
    obtain ⟨i, rfl, hi, HL, HB⟩ := hrel
    by_cases hlt : i < n
    · obtain ⟨g, rfl⟩ : ∃ g, gk = g + 1 := ⟨gk - 1, by omega⟩
      have HIG : Hid (i < n ∧ i + (g + 1) = n) := ⟨hlt, hi⟩
      have HLE : Hid ((inV (plS seed vs m i)).length + 1 ≤ 1000000) := by unfold Hid inV; rw [List.length_map, plS_len]; omega
      have hd : decide ((i : Int) < (n : Int)) = true := decide_eq_true (by omega)
      obtain ⟨q, hqe⟩ : ∃ q, i / m = q := ⟨_, rfl⟩
      have hq : q < C := by rw [← hqe]; exact (Nat.div_lt_iff_lt_mul hm1).2 (by rw [hn]; exact hlt)
      have hqi : q ≤ i := by rw [← hqe]; exact Nat.div_le_self _ _
      have hmn : m ≤ 256 := by have := Nat.le_mul_of_pos_left m (show 0 < C by omega); omega
      have hz1 := cellAt (kept HB.out Y1.out) 1 (.int .i64 (H : Int)) rfl
      have hz2 := cellAt (kept HB.out Y1.out) 2 (.int .i64 (K : Int)) rfl
      obtain ⟨mi, hmi⟩ : ∃ mi : Int, (m : Int) = mi := ⟨_, rfl⟩
      have p1 : IntKind.i64.wrap ((H : Int) * (K : Int)) = mi := by rw [← hmi, ← Int.natCast_mul, hm, IntKind.wrap_i64]; omega
      have hdv : (i : Int) / mi = (q : Int) := by rw [← hmi, ← hqe]; rfl
      have hdt : (i : Int).tdiv mi = (q : Int) := by rw [← hmi, ← hqe]; rfl
      have p2 : wrap64 ((i : Int) / mi) = (q : Int) := by rw [hdv]; unfold wrap64; omega
      have p2t : wrap64 ((i : Int).tdiv mi) = (q : Int) := by rw [hdt]; unfold wrap64; omega
      have hm0 : ¬ mi = 0 := by omega
      have hm0' : (mi == 0) = false := by simp [hm0]
      obtain ⟨z, hz⟩ : ∃ z, smallZ seed (3 * (q : Int)) = z := ⟨_, rfl⟩
      obtain ⟨b, hb⟩ : ∃ b, smallZ seed (5 * (q : Int) + 1) = b := ⟨_, rfl⟩
      obtain ⟨y, hy⟩ : ∃ y, vs[i]?.getD 0 = y := ⟨_, rfl⟩
      have hzb : -9 ≤ z ∧ z ≤ 9 := hz ▸ smallZ_bd _ _
      have hbb : -9 ≤ b ∧ b ≤ 9 := hb ▸ smallZ_bd _ _
      have hyb : -9 ≤ y ∧ y ≤ 9 := hy ▸ HVS.out i
      have hcz := back_conv hzb
      have hcb := back_conv hbb
      have hzy := mul_small hzb hyb
      obtain ⟨zy, hzye⟩ : ∃ zy, z * y = zy := ⟨_, rfl⟩
      rw [hzye] at hzy
      obtain ⟨s, hs⟩ : ∃ s, zy + b = s := ⟨_, rfl⟩
      have p3 : IntKind.i64.wrap (z * y) = zy := by rw [hzye, IntKind.wrap_i64]; omega
      have p4 : IntKind.i64.wrap (zy + b) = s := by rw [hs, IntKind.wrap_i64]; omega
      have HE : Hid (plS seed vs m (i + 1) = plS seed vs m i ++ [s]) := by unfold Hid; rw [plS_snoc, hqe, hz, hb, hy, hzye, hs]
      rcases (HU.out.later X0.out).cells with h0 | ⟨b1, off1, rfl, hc1⟩
      · exact absurd h0 (by omega)
      rcases (HV.out.later X0.out).cells with h0 | ⟨b2, off2, rfl, hc2⟩
      · exact absurd h0 (by omega)
      rcases (HR.out.later X0.out).cells with h0 | ⟨b3, off3, rfl, hc3⟩
      · exact absurd h0 (by omega)
      have t1' := hc1 q hq
      have t2' := hc2 q hq
      have t3' := hc3 i hlt
      rw [wL_at seed hq, hz] at t1'
      rw [bL_at seed hq, hb] at t2'
      rw [hy] at t3'
      have HF : Hid (∀ w', Below W.heap.size W w' → w'.cell? ⟨w.heap.size, 10, none⟩ = some (.slice (some ⟨b1, off1, none⟩) C wc) ∧ w'.cell? ⟨w.heap.size, 11, none⟩ = some (.slice (some ⟨b2, off2, none⟩) C bc) ∧ w'.cell? ⟨b1, off1 + q, none⟩ = some (.float .f64 (flZ z)) ∧ w'.cell? ⟨b2, off2 + q, none⟩ = some (.float .f64 (flZ b)) ∧ w'.cell? ⟨b3, off3 + i, none⟩ = some (.int .i64 y)) := fun w' hb => by
        have hY := kept hb Y0.out
        refine ⟨cellAt hY 10 _ rfl, cellAt hY 11 _ rfl, ?_, ?_, ?_⟩
        · rw [hb.cell (p := ⟨b1, off1 + q, none⟩) (World.block_lt_of_cell? _ _ t1')]; exact t1'
        · rw [hb.cell (p := ⟨b2, off2 + q, none⟩) (World.block_lt_of_cell? _ _ t2')]; exact t2'
        · rw [hb.cell (p := ⟨b3, off3 + i, none⟩) (World.block_lt_of_cell? _ _ t3')]; exact t3'
      have q0 : (0 : Int) ≤ (q : Int) := by omega
      have q1 : (q : Int) < (C : Int) := by omega
      have j0 : (0 : Int) ≤ (i : Int) := by omega
      have j1 : (i : Int) < (n : Int) := by omega
      have hw1 : IntKind.i64.wrap ((i : Int) + 1) = (i : Int) + 1 := by rw [IntKind.wrap_i64]; omega
      have hw2 : wrap64 ((i : Int) + 1) = (i : Int) + 1 := by unfold wrap64; omega
      have HBS : Hid (W.heap.size ≤ wr.heap.size) := HB.out.size
      clear hmi hdv hdt hs hzye hzy hzb hbb hyb hz hb hy t1' t2' t3' hc1 hc2 hc3 hqe hq hqi hmn hi hlt
      go_upto_region 19 with fail
      rw [p2]
      clear hz1 hz2 p1 p2 p2t hm0 hm0' hd
      have bX : Below W.heap.size W wr.drew := HB.out.drew
      refine wp_region_noPanic ?_
      refine wp_region_held_drew (S := (fun W' => Below W.heap.size W W')) (by kernel_rfl) bX (fun _ => ?_)
      refine takeH 75 (i := 0) (v := ?_) rfl rfl (by kernel_rfl) (by kernel_rfl) (by kernel_rfl) (fun _ _ _ h => h) (Or.inl ⟨by kernel_rfl, ?_⟩) bX ?_
      rotate_left
      · intro w' hSw; obtain ⟨c10, c11, t1, t2, t3⟩ := HF.out w' hSw; go_simp; try with_reducible rfl
      try simp only [Act.put, List.setIfInBounds_toArray, List.set_cons_zero, List.set_cons_succ]
      refine takeH 76 (i := 1) (v := ?_) rfl rfl (by kernel_rfl) (by kernel_rfl) (by kernel_rfl) (fun _ _ _ h => h) (Or.inl ⟨by kernel_rfl, ?_⟩) bX ?_
      rotate_left
      · intro w' hSw; obtain ⟨c10, c11, t1, t2, t3⟩ := HF.out w' hSw; go_simp; try with_reducible rfl
      try simp only [Act.put, List.setIfInBounds_toArray, List.set_cons_zero, List.set_cons_succ]
      refine takeH 77 (i := 2) (v := ?_) rfl rfl (by kernel_rfl) (by kernel_rfl) (by kernel_rfl) (fun _ _ _ h => h) (Or.inl ⟨by kernel_rfl, ?_⟩) bX ?_
      rotate_left
      · intro w' hSw; obtain ⟨c10, c11, t1, t2, t3⟩ := HF.out w' hSw; go_simp; try with_reducible rfl
      try simp only [Act.put, List.setIfInBounds_toArray, List.set_cons_zero, List.set_cons_succ]
      refine takeH 78 (i := 3) (v := ?_) rfl rfl (by kernel_rfl) (by kernel_rfl) (by kernel_rfl) (fun _ _ _ h => h) (Or.inl ⟨by kernel_rfl, ?_⟩) bX ?_
      rotate_left
      · intro w' hSw; obtain ⟨c10, c11, t1, t2, t3⟩ := HF.out w' hSw; go_simp; try with_reducible rfl
      try simp only [Act.put, List.setIfInBounds_toArray, List.set_cons_zero, List.set_cons_succ]
      refine takeH 79 (i := 4) (v := ?_) rfl rfl (by kernel_rfl) (by kernel_rfl) (by kernel_rfl) (fun _ _ _ h => h) (Or.inl ⟨by kernel_rfl, ?_⟩) bX ?_
      rotate_left
      · intro w' hSw; obtain ⟨c10, c11, t1, t2, t3⟩ := HF.out w' hSw; go_simp; try with_reducible rfl
      try simp only [Act.put, List.setIfInBounds_toArray, List.set_cons_zero, List.set_cons_succ]
      refine takeH 80 (i := 5) (v := ?_) rfl rfl (by kernel_rfl) (by kernel_rfl) (by kernel_rfl) (fun _ _ _ h => h) (Or.inl ⟨by kernel_rfl, ?_⟩) bX ?_
      rotate_left
      · intro w' hSw; obtain ⟨c10, c11, t1, t2, t3⟩ := HF.out w' hSw; go_simp; try with_reducible rfl
      try simp only [Act.put, List.setIfInBounds_toArray, List.set_cons_zero, List.set_cons_succ]
      refine takeH 81 (i := 6) (v := ?_) rfl rfl (by kernel_rfl) (by kernel_rfl) (by kernel_rfl) (fun _ _ _ h => h) (Or.inl ⟨by kernel_rfl, ?_⟩) bX ?_
      rotate_left
      · intro w' hSw; obtain ⟨c10, c11, t1, t2, t3⟩ := HF.out w' hSw; go_simp; try with_reducible rfl
      try simp only [Act.put, List.setIfInBounds_toArray, List.set_cons_zero, List.set_cons_succ]
      refine takeH 82 (i := 7) (v := ?_) rfl rfl (by kernel_rfl) (by kernel_rfl) (by kernel_rfl) (fun _ _ _ h => h) (Or.inl ⟨by kernel_rfl, ?_⟩) bX ?_
      rotate_left
      · intro w' hSw; obtain ⟨c10, c11, t1, t2, t3⟩ := HF.out w' hSw; go_simp; try with_reducible rfl
      try simp only [Act.put, List.setIfInBounds_toArray, List.set_cons_zero, List.set_cons_succ]
      refine takeH 83 (i := 8) (v := ?_) rfl rfl (by kernel_rfl) (by kernel_rfl) (by kernel_rfl) (fun _ _ _ h => h) (Or.inl ⟨by kernel_rfl, ?_⟩) bX ?_
      rotate_left
      · intro w' hSw; obtain ⟨c10, c11, t1, t2, t3⟩ := HF.out w' hSw; go_simp; try with_reducible rfl
      try simp only [Act.put, List.setIfInBounds_toArray, List.set_cons_zero, List.set_cons_succ]
      refine takeH 84 (i := 9) (v := ?_) rfl rfl (by kernel_rfl) (by kernel_rfl) (by kernel_rfl) (fun _ _ _ h => h) (Or.inl ⟨by kernel_rfl, ?_⟩) bX ?_
      rotate_left
      · intro w' hSw; obtain ⟨c10, c11, t1, t2, t3⟩ := HF.out w' hSw; go_simp; try with_reducible rfl
      try simp only [Act.put, List.setIfInBounds_toArray, List.set_cons_zero, List.set_cons_succ]
      refine takeH 85 (i := 10) (v := ?_) rfl rfl (by kernel_rfl) (by kernel_rfl) (by kernel_rfl) (fun _ _ _ h => h) (Or.inl ⟨by kernel_rfl, ?_⟩) bX ?_
      rotate_left
      · intro w' hSw; obtain ⟨c10, c11, t1, t2, t3⟩ := HF.out w' hSw; go_simp; try with_reducible rfl
      try simp only [Act.put, List.setIfInBounds_toArray, List.set_cons_zero, List.set_cons_succ]
      refine takeH 86 (i := 11) (v := ?_) rfl rfl (by kernel_rfl) (by kernel_rfl) (by kernel_rfl) (fun _ _ _ h => h) (Or.inl ⟨by kernel_rfl, ?_⟩) bX ?_
      rotate_left
      · intro w' hSw; obtain ⟨c10, c11, t1, t2, t3⟩ := HF.out w' hSw; go_simp; try with_reducible rfl
      try simp only [Act.put, List.setIfInBounds_toArray, List.set_cons_zero, List.set_cons_succ]
      refine takeH 87 (i := 12) (v := ?_) rfl rfl (by kernel_rfl) (by kernel_rfl) (by kernel_rfl) (fun _ _ _ h => h) (Or.inl ⟨by kernel_rfl, ?_⟩) bX ?_
      rotate_left
      · intro w' hSw; obtain ⟨c10, c11, t1, t2, t3⟩ := HF.out w' hSw; go_simp; try with_reducible rfl
      try simp only [Act.put, List.setIfInBounds_toArray, List.set_cons_zero, List.set_cons_succ]
      refine takeH 88 (i := 13) (v := ?_) rfl rfl (by kernel_rfl) (by kernel_rfl) (by kernel_rfl) (fun _ _ _ h => h) (Or.inl ⟨by kernel_rfl, ?_⟩) bX ?_
      rotate_left
      · intro w' hSw; obtain ⟨c10, c11, t1, t2, t3⟩ := HF.out w' hSw; go_simp; try with_reducible rfl
      try simp only [Act.put, List.setIfInBounds_toArray, List.set_cons_zero, List.set_cons_succ]
      refine takeH 89 (i := 14) (v := ?_) rfl rfl (by kernel_rfl) (by kernel_rfl) (by kernel_rfl) (fun _ _ _ h => h) (Or.inl ⟨by kernel_rfl, ?_⟩) bX ?_
      rotate_left
      · intro w' hSw; obtain ⟨c10, c11, t1, t2, t3⟩ := HF.out w' hSw; go_simp; try with_reducible rfl
      try simp only [Act.put, List.setIfInBounds_toArray, List.set_cons_zero, List.set_cons_succ]
      refine takeH 90 (i := 15) (v := ?_) rfl rfl (by kernel_rfl) (by kernel_rfl) (by kernel_rfl) (fun _ _ _ h => h) (Or.inl ⟨by kernel_rfl, ?_⟩) bX ?_
      rotate_left
      · intro w' hSw; obtain ⟨c10, c11, t1, t2, t3⟩ := HF.out w' hSw; go_simp; try with_reducible rfl
      try simp only [Act.put, List.setIfInBounds_toArray, List.set_cons_zero, List.set_cons_succ]
      refine takeH 91 (i := 16) (v := ?_) rfl rfl (by kernel_rfl) (by kernel_rfl) (by kernel_rfl) (fun _ _ _ h => h) (Or.inl ⟨by kernel_rfl, ?_⟩) bX ?_
      rotate_left
      · intro w' hSw; obtain ⟨c10, c11, t1, t2, t3⟩ := HF.out w' hSw; go_simp; try with_reducible rfl
      try simp only [Act.put, List.setIfInBounds_toArray, List.set_cons_zero, List.set_cons_succ]
      refine takeH 92 (i := 17) (v := ?_) rfl rfl (by kernel_rfl) (by kernel_rfl) (by kernel_rfl) (fun _ _ _ h => h) (Or.inl ⟨by kernel_rfl, ?_⟩) bX ?_
      rotate_left
      · intro w' hSw; obtain ⟨c10, c11, t1, t2, t3⟩ := HF.out w' hSw; go_simp; try with_reducible rfl
      try simp only [Act.put, List.setIfInBounds_toArray, List.set_cons_zero, List.set_cons_succ]
      refine takeH 93 (i := 18) (v := ?_) rfl rfl (by kernel_rfl) (by kernel_rfl) (by kernel_rfl) (fun _ _ _ h => h) (Or.inl ⟨by kernel_rfl, ?_⟩) bX ?_
      rotate_left
      · intro w' hSw; obtain ⟨c10, c11, t1, t2, t3⟩ := HF.out w' hSw; go_simp; try with_reducible rfl
      try simp only [Act.put, List.setIfInBounds_toArray, List.set_cons_zero, List.set_cons_succ]
      refine wpAnyH_ready (rs := [19]) (by kernel_rfl) (by simp) ?_
      refine consH _ rfl (hopV 94 (v := .slice (some ⟨wr.drew.heap.size, 0, none⟩) 1 1) (w' := (wr.drew.alloc (.cells #[.int .i64 s] 3))) rfl rfl rfl (by kernel_rfl) ?_) AllReadyH.nil
      have bA : Below W.heap.size W (wr.drew.alloc (.cells #[.int .i64 s] 3)) := bX.alloc HBS.out _
      refine ⟨bA, ?_⟩
      try simp only [Act.put, List.setIfInBounds_toArray, List.set_cons_zero, List.set_cons_succ]
      refine wpAnyH_ready (rs := [20]) (by kernel_rfl) (by simp) ?_
      refine consH _ rfl (hopL rfl (append_gr1 Try.underlying35 Try.infoIm rfl (by decide) wr.drew (by rfl) _ _ (by rfl) W.heap.size u8 (inV (plS seed vs m i)) (by kernel_rfl) (OwnM.keep HL.out fun _ _ => rfl) (.int .i64 s) (by kernel_rfl) rfl HLE.out HBS.out fun v5 w5 o5 gw5 => ?_)) AllReadyH.nil
      have HB5 : Below W.heap.size W w5 := bX.trans (gw5.below (fun k hk => (OwnM.lt HL.out k hk).1) HBS.out)
      refine (And.intro HB5 ?_ : _ ∧ _)
      try simp only [Act.put, List.setIfInBounds_toArray, List.set_cons_zero, List.set_cons_succ]
      refine takeH 8 (i := 21) (v := ?_) rfl rfl (by kernel_rfl) (by kernel_rfl) (by kernel_rfl) (fun _ _ _ h => h) (Or.inl ⟨by kernel_rfl, ?_⟩) HB5 ?_
      rotate_left
      · intro w' hSw; skip; go_simp; try with_reducible rfl
      try simp only [Act.put, List.setIfInBounds_toArray, List.set_cons_zero, List.set_cons_succ]
      refine wpAnyH_done (by kernel_rfl) ?_ _
      refine NoPanic.normal ?_
      try simp only [Act.put, List.setIfInBounds_toArray, List.set_cons_zero, List.set_cons_succ]
      have HL5 : Hid (OwnM w5 W.heap.size 3 v5 (inV (plS seed vs m (i + 1)))) := by
        unfold Hid
        rw [HE.out, inV, List.map_append]
        exact o5
      have HB6 : Hid (Below W.heap.size W w5) := HB5
      clear HB5 bX bA HL HB HLE HBS o5 gw5 hcz hcb p3 p4 q0 q1 j0 j1
      go_wp2_with fail
      go_roundg g
      case measure => omega
      case rel => exact ⟨i + 1, by go_num, by have := HIG.out; omega, HL5, HB6⟩
    · obtain rfl : n = i := by omega
      have hd : decide ((n : Int) < (n : Int)) = false := decide_eq_false (by omega)
      clear hlt hi
      go_wp2_with fail
      go_ret
      exact ⟨_, rfl, own_mono HL.out X0.out.size, to_call X0.out HB.out⟩
end Go.Proofs.Ytokglpemefkmjaa
