import Derived.Test.YtoehhnildocihaaSPe
namespace Go.Proofs.Ytoehhnildocihaa
open Go.RowKit
set_option linter.unusedVariables false
set_option linter.unusedSimpArgs false
/-- The first j of a list, behind them noughts. -/
def izL (xs : List Int) (j : Nat) : List Int := xs.take j ++ List.replicate (xs.length - j) 0
theorem izL_len (xs : List Int) (j : Nat) (h : j ≤ xs.length) : (izL xs j).length = xs.length := by unfold izL; simp; omega
theorem izL_zero (xs : List Int) : izL xs 0 = List.replicate xs.length 0 := by unfold izL; simp
theorem izL_all (xs : List Int) : izL xs xs.length = xs := by unfold izL; simp
theorem izL_set {xs : List Int} {j : Nat} {x : Int} (h0 : xs[j]? = some x) : (izL xs j).set j x = izL xs (j + 1) := by
  obtain ⟨h, rfl⟩ := List.getElem?_eq_some_iff.1 h0
  clear h0
  unfold izL
  rw [List.set_append_right _ _ (by simp; omega), List.length_take, Nat.min_eq_left (Nat.le_of_lt h), Nat.sub_self,
    show xs.length - j = (xs.length - (j + 1)) + 1 by omega, List.replicate_succ, List.set_cons_zero, List.take_succ_eq_append_getElem h, List.append_assoc]
  rfl
theorem one_rg (a b : Option Addr) (n m c d : Nat) : (#[.slice a n c, .slice b m d] : Array Value).all (·.oneCell') = true := by
  simp only [Array.all_eq_true_iff_forall_mem]
  intro v hv
  simp only [List.mem_toArray, List.mem_cons, List.not_mem_nil, or_false] at hv
  rcases hv with rfl | rfl <;> rfl
theorem below_al {w W : World} (h : Below w.heap.size w W) (c : Obj) : Below w.heap.size w (W.alloc c) := h.alloc h.size c
/-- A region in two blocks of its own. -/
structure RgO (W : World) (base B1 B2 : Nat) (ls bs : List Int) : Prop where
  b1 : base ≤ B1
  b2 : base ≤ B2
  ne : B1 ≠ B2
  l : W.heap[B1]? = some (.cells (inC ls) 3)
  a : W.heap[B2]? = some (.cells (inC bs) 3)
theorem RgO.later {W W' : World} {base B1 B2 : Nat} {ls bs : List Int} (h : RgO W base B1 B2 ls bs) (hb : Below W.heap.size W W') : RgO W' base B1 B2 ls bs := ⟨h.b1, h.b2, h.ne, kept hb h.l, kept hb h.a⟩
theorem RgO.mono {W : World} {base base' B1 B2 : Nat} {ls bs : List Int} (h : RgO W base B1 B2 ls bs) (hb : base' ≤ base) : RgO W base' B1 B2 ls bs := ⟨Nat.le_trans hb h.b1, Nat.le_trans hb h.b2, h.ne, h.l, h.a⟩
theorem RgO.rl {W : World} {base B1 B2 n : Nat} {ls bs : List Int} (h : RgO W base B1 B2 ls bs) (hn : ls.length = n) (hm : n ≤ 1000000) : RdIs W (some ⟨B1, 0, none⟩) n n ls := by
  subst hn; exact inC_rd h.l (Nat.le_trans hm (by decide))
theorem RgO.ra {W : World} {base B1 B2 n : Nat} {ls bs : List Int} (h : RgO W base B1 B2 ls bs) (hn : bs.length = n) (hm : n ≤ 1000000) : RdIs W (some ⟨B2, 0, none⟩) n n bs := by
  subst hn; exact inC_rd h.a (Nat.le_trans hm (by decide))
set_option maxRecDepth 100000 in
set_option maxHeartbeats 4000000 in
/-- The region that has these parts. -/
theorem regionOf_any (B n : Nat) (ps : List (Int × Int)) (w : World) (hn : n ≤ 256) (hl : ps.length = n) (hB : w.heap[B]? = some (.cells (ptC ps) 69)) :
    Calls Try.prog 41 #[.slice (some ⟨B, 0, none⟩) n n] w fun e w' => (∃ B1 B2, e = .returned (.agg #[.slice (some ⟨B1, 0, none⟩) n n, .slice (some ⟨B2, 0, none⟩) n n]) ∧ RgO w' w.heap.size B1 B2 (ps.map (·.1)) (ps.map (·.2))) ∧ Below w.heap.size w w' := by
  have hmk := makeIM n (by omega)
  have HBB : Hid (w.heap[B]? = some (.cells (ptC ps) 69)) := hB
  have HPL : Hid (ps.length = n) := hl
  have HML : Hid ((ps.map (·.1)).length = n ∧ (ps.map (·.2)).length = n) := ⟨by rw [List.length_map]; exact hl, by rw [List.length_map]; exact hl⟩
  clear hB hl
  go_enter Try.func41, Try.ntmps41
  go_upto_region 1 with fail
  rename_i Q' K hK
  have key : ∀ (B1 B2 B3 : Nat) (W : World), w.heap.size < B1 ∧ w.heap.size < B2 ∧ w.heap.size < B3 ∧ B1 ≠ B2 ∧ B1 ≠ B3 ∧ B2 ≠ B3 → (Below w.heap.size w W ∧ W.heap[B3]? = some (.cells #[.slice (some ⟨B1, 0, none⟩) n n, .slice (some ⟨B2, 0, none⟩) n n] 30) ∧ W.heap[B1]? = some (.cells (inC (izL (ps.map (·.1)) 0)) 3) ∧ W.heap[B2]? = some (.cells (inC (izL (ps.map (·.2)) 0)) 3) ∧ W.heap[w.heap.size]? = some (.cells #[.slice none 0 0, .slice none 0 0] 30)) → Exit.then K Q' Exit.normal { tmps := #[.slice (some ⟨B, 0, none⟩) n n, undef, .pointer (some ⟨w.heap.size, 0, none⟩), .pointer (some ⟨B3, 0, none⟩), undef, undef, .slice (some ⟨B, 0, none⟩) n n, .int .i64 (n : Int), .slice (some ⟨B1, 0, none⟩) n n, .slice (some ⟨B, 0, none⟩) n n, .int .i64 (n : Int), .slice (some ⟨B2, 0, none⟩) n n, .agg #[.slice (some ⟨B1, 0, none⟩) n n, .slice (some ⟨B2, 0, none⟩) n n], undef, undef, undef, undef, undef, undef, undef, undef, undef, undef, undef, undef, undef, undef, undef, undef, undef, undef, undef, undef, undef], defers := [] } W := by
    clear hmk
    intro B1 B2 B3 W hne P0
    obtain ⟨n1, n2, n3, n4, n5, n6⟩ := hne
    have P1 : Hid (Below w.heap.size w W ∧ W.heap[B3]? = some (.cells #[.slice (some ⟨B1, 0, none⟩) n n, .slice (some ⟨B2, 0, none⟩) n n] 30) ∧ W.heap[B1]? = some (.cells (inC (izL (ps.map (·.1)) 0)) 3) ∧ W.heap[B2]? = some (.cells (inC (izL (ps.map (·.2)) 0)) 3) ∧ W.heap[w.heap.size]? = some (.cells #[.slice none 0 0, .slice none 0 0] 30)) := P0
    clear P0
    go_wp2_with fail
    go_loopg [15] n (fun g iv wx => ∃ j : Nat, iv = .int .i64 j ∧ j + g = n ∧ Hid (Below w.heap.size w wx ∧ wx.heap[B3]? = some (.cells #[.slice (some ⟨B1, 0, none⟩) n n, .slice (some ⟨B2, 0, none⟩) n n] 30) ∧ wx.heap[B1]? = some (.cells (inC (izL (ps.map (·.1)) j)) 3) ∧ wx.heap[B2]? = some (.cells (inC (izL (ps.map (·.2)) j)) 3) ∧ wx.heap[w.heap.size]? = some (.cells #[.slice none 0 0, .slice none 0 0] 30)))
    case atStart => exact ⟨0, rfl, by omega, P1⟩
    case round =>
      clear P1
      obtain ⟨j, rfl, hj, P2⟩ := hrel
      by_cases hlt : j < n
      · have e1 : decide ((j : Int) < (n : Int)) = true := decide_eq_true (by omega)
        obtain ⟨q, rfl⟩ : ∃ q, gk = q + 1 := ⟨gk - 1, by omega⟩
        have HIG : Hid (j + (q + 1) = n) := hj
        have hlt' : (j : Int) < (n : Int) := by omega
        have hBl : B < w.heap.size := blk_lt HBB.out
        have hwB : wr.heap[B]? = some (.cells (ptC ps) 69) := (P2.out.1.block B hBl).trans HBB.out
        have hjl : j < ps.length := by rw [HPL.out]; exact hlt
        have hpj : ps[j]? = some ps[j] := List.getElem?_eq_getElem hjl
        obtain ⟨⟨x, y⟩, hxy⟩ : ∃ p, ps[j] = p := ⟨_, rfl⟩
        rw [hxy] at hpj
        have hz := ptC_at hpj
        have g0 := cellAtJ hwB _ _ hz.1
        have g1 := cellAtJ hwB _ _ hz.2
        have HS1 : Hid ((izL (ps.map (·.1)) j).set j x = izL (ps.map (·.1)) (j + 1)) := izL_set (by rw [List.getElem?_map, hpj]; rfl)
        have HS2 : Hid ((izL (ps.map (·.2)) j).set j y = izL (ps.map (·.2)) (j + 1)) := izL_set (by rw [List.getElem?_map, hpj]; rfl)
        clear hz hwB hpj hxy hj
        go_upto_region 5 with fail
        obtain ⟨B5, h5⟩ : ∃ B5, wr.heap.size = B5 := ⟨_, rfl⟩
        obtain ⟨W4, h4⟩ : ∃ W4, wr.alloc (.cells #[.int .i64 x, .int .i64 y] 69) = W4 := ⟨_, rfl⟩
        have A4 : Below wr.heap.size wr W4 := by rw [← h4]; exact (Below.refl _ wr).alloc (Nat.le_refl _) _
        have HB5 : Hid (W4.heap[B5]? = some (.cells #[.int .i64 x, .int .i64 y] 69)) := by unfold Hid; rw [← h4, ← h5]; exact heap_alloc_new wr _
        have P4 : Hid (Below w.heap.size w W4 ∧ W4.heap[B3]? = some (.cells #[.slice (some ⟨B1, 0, none⟩) n n, .slice (some ⟨B2, 0, none⟩) n n] 30) ∧ W4.heap[B1]? = some (.cells (inC (izL (ps.map (·.1)) j)) 3) ∧ W4.heap[B2]? = some (.cells (inC (izL (ps.map (·.2)) j)) 3) ∧ W4.heap[w.heap.size]? = some (.cells #[.slice none 0 0, .slice none 0 0] 30)) := ⟨to_call P2.out.1 A4, kept A4 P2.out.2.1, kept A4 P2.out.2.2.1, kept A4 P2.out.2.2.2.1, kept A4 P2.out.2.2.2.2⟩
        have m1 : B1 < B5 := by rw [← h5]; exact blk_lt P2.out.2.2.1
        have m2 : B2 < B5 := by rw [← h5]; exact blk_lt P2.out.2.2.2.1
        have m3 : B3 < B5 := by rw [← h5]; exact blk_lt P2.out.2.1
        have m4 : w.heap.size < B5 := by omega
        have SX4 : Hid ((fun V => V.cell? ⟨B3, 0, none⟩ = some (.slice (some ⟨B1, 0, none⟩) n n) ∧ V.cell? ⟨B3, 1, none⟩ = some (.slice (some ⟨B2, 0, none⟩) n n) ∧ V.cell? ⟨B5, 0, none⟩ = some (.int .i64 x) ∧ V.cell? ⟨B5, 1, none⟩ = some (.int .i64 y)) W4) := ⟨cellAtJ P4.out.2.1 0 _ rfl, cellAtJ P4.out.2.1 1 _ rfl, cellAtJ HB5.out 0 _ rfl, cellAtJ HB5.out 1 _ rfl⟩
        rw [h4, h5]
        clear h4 h5 A4 P2 g0 g1
        refine wp_region_noPanic ?_
        refine wp_region_P (S := (fun V => V.cell? ⟨B3, 0, none⟩ = some (.slice (some ⟨B1, 0, none⟩) n n) ∧ V.cell? ⟨B3, 1, none⟩ = some (.slice (some ⟨B2, 0, none⟩) n n) ∧ V.cell? ⟨B5, 0, none⟩ = some (.int .i64 x) ∧ V.cell? ⟨B5, 1, none⟩ = some (.int .i64 y))) (s := 13) (by kernel_rfl) ?_
        have SX : (fun V => V.cell? ⟨B3, 0, none⟩ = some (.slice (some ⟨B1, 0, none⟩) n n) ∧ V.cell? ⟨B3, 1, none⟩ = some (.slice (some ⟨B2, 0, none⟩) n n) ∧ V.cell? ⟨B5, 0, none⟩ = some (.int .i64 x) ∧ V.cell? ⟨B5, 1, none⟩ = some (.int .i64 y)) W4.drew := SX4.out
        have PB : Below w.heap.size w W4.drew := P4.out.1.drew
        refine takeP 20 (i := 0) (v := ?_) rfl rfl (by kernel_rfl) (by kernel_rfl) (by kernel_rfl) (by kernel_rfl) rfl (by kernel_rfl) (fun _ _ _ h => h) (Or.inl ⟨by kernel_rfl, ?_⟩) SX ?_
        rotate_left
        · intro w' hSw; obtain ⟨s0, s1, s2, s3⟩ := hSw; go_simp; try with_reducible rfl
        try simp only [Act.put, List.setIfInBounds_toArray, List.set_cons_zero, List.set_cons_succ]
        refine takeP 21 (i := 1) (v := ?_) rfl rfl (by kernel_rfl) (by kernel_rfl) (by kernel_rfl) (by kernel_rfl) rfl (by kernel_rfl) (fun _ _ _ h => h) (Or.inl ⟨by kernel_rfl, ?_⟩) SX ?_
        rotate_left
        · intro w' hSw; obtain ⟨s0, s1, s2, s3⟩ := hSw; go_simp; try with_reducible rfl
        try simp only [Act.put, List.setIfInBounds_toArray, List.set_cons_zero, List.set_cons_succ]
        refine takeP 22 (i := 2) (v := ?_) rfl rfl (by kernel_rfl) (by kernel_rfl) (by kernel_rfl) (by kernel_rfl) rfl (by kernel_rfl) (fun _ _ _ h => h) (Or.inl ⟨by kernel_rfl, ?_⟩) SX ?_
        rotate_left
        · intro w' hSw; obtain ⟨s0, s1, s2, s3⟩ := hSw; go_simp; try with_reducible rfl
        try simp only [Act.put, List.setIfInBounds_toArray, List.set_cons_zero, List.set_cons_succ]
        refine takeP 23 (i := 3) (v := ?_) rfl rfl (by kernel_rfl) (by kernel_rfl) (by kernel_rfl) (by kernel_rfl) rfl (by kernel_rfl) (fun _ _ _ h => h) (Or.inl ⟨by kernel_rfl, ?_⟩) SX ?_
        rotate_left
        · intro w' hSw; obtain ⟨s0, s1, s2, s3⟩ := hSw; go_simp; try with_reducible rfl
        try simp only [Act.put, List.setIfInBounds_toArray, List.set_cons_zero, List.set_cons_succ]
        refine takeP 24 (i := 4) (v := ?_) rfl rfl (by kernel_rfl) (by kernel_rfl) (by kernel_rfl) (by kernel_rfl) rfl (by kernel_rfl) (fun _ _ _ h => h) (Or.inl ⟨by kernel_rfl, ?_⟩) SX ?_
        rotate_left
        · intro w' hSw; obtain ⟨s0, s1, s2, s3⟩ := hSw; go_simp; try with_reducible rfl
        try simp only [Act.put, List.setIfInBounds_toArray, List.set_cons_zero, List.set_cons_succ]
        refine takeP 25 (i := 5) (v := ?_) rfl rfl (by kernel_rfl) (by kernel_rfl) (by kernel_rfl) (by kernel_rfl) rfl (by kernel_rfl) (fun _ _ _ h => h) (Or.inl ⟨by kernel_rfl, ?_⟩) SX ?_
        rotate_left
        · intro w' hSw; obtain ⟨s0, s1, s2, s3⟩ := hSw; go_simp; try with_reducible rfl
        try simp only [Act.put, List.setIfInBounds_toArray, List.set_cons_zero, List.set_cons_succ]
        refine takeP 26 (i := 6) (v := ?_) rfl rfl (by kernel_rfl) (by kernel_rfl) (by kernel_rfl) (by kernel_rfl) rfl (by kernel_rfl) (fun _ _ _ h => h) (Or.inl ⟨by kernel_rfl, ?_⟩) SX ?_
        rotate_left
        · intro w' hSw; obtain ⟨s0, s1, s2, s3⟩ := hSw; go_simp; try with_reducible rfl
        try simp only [Act.put, List.setIfInBounds_toArray, List.set_cons_zero, List.set_cons_succ]
        refine takeP 27 (i := 7) (v := ?_) rfl rfl (by kernel_rfl) (by kernel_rfl) (by kernel_rfl) (by kernel_rfl) rfl (by kernel_rfl) (fun _ _ _ h => h) (Or.inl ⟨by kernel_rfl, ?_⟩) SX ?_
        rotate_left
        · intro w' hSw; obtain ⟨s0, s1, s2, s3⟩ := hSw; go_simp; try with_reducible rfl
        try simp only [Act.put, List.setIfInBounds_toArray, List.set_cons_zero, List.set_cons_succ]
        refine takeP 28 (i := 8) (v := ?_) rfl rfl (by kernel_rfl) (by kernel_rfl) (by kernel_rfl) (by kernel_rfl) rfl (by kernel_rfl) (fun _ _ _ h => h) (Or.inl ⟨by kernel_rfl, ?_⟩) SX ?_
        rotate_left
        · intro w' hSw; obtain ⟨s0, s1, s2, s3⟩ := hSw; go_simp; try with_reducible rfl
        try simp only [Act.put, List.setIfInBounds_toArray, List.set_cons_zero, List.set_cons_succ]
        refine takeP 29 (i := 9) (v := ?_) rfl rfl (by kernel_rfl) (by kernel_rfl) (by kernel_rfl) (by kernel_rfl) rfl (by kernel_rfl) (fun _ _ _ h => h) (Or.inl ⟨by kernel_rfl, ?_⟩) SX ?_
        rotate_left
        · intro w' hSw; obtain ⟨s0, s1, s2, s3⟩ := hSw; go_simp; try with_reducible rfl
        try simp only [Act.put, List.setIfInBounds_toArray, List.set_cons_zero, List.set_cons_succ]
        refine takeP 30 (i := 10) (v := ?_) rfl rfl (by kernel_rfl) (by kernel_rfl) (by kernel_rfl) (by kernel_rfl) rfl (by kernel_rfl) (fun _ _ _ h => h) (Or.inl ⟨by kernel_rfl, ?_⟩) SX ?_
        rotate_left
        · intro w' hSw; obtain ⟨s0, s1, s2, s3⟩ := hSw; go_simp; try with_reducible rfl
        try simp only [Act.put, List.setIfInBounds_toArray, List.set_cons_zero, List.set_cons_succ]
        refine wpAnyP_ready (rs := [11]) (by kernel_rfl) (by simp) ?_
        refine consP _ rfl (hopL rfl (wpList_store_at (by rfl) 3 _ _ (by rfl) w w.heap.size B1 j (.int .i64 x) _ (inC (izL (ps.map (·.1)) (j + 1))) 3 (by kernel_rfl) (by kernel_rfl) P4.out.2.2.1 PB (by omega) 1 Try.szIM rfl (by rw [inC_size, izL_len _ _ (by rw [HML.out.1]; omega), HML.out.1]; omega) (one_inM _) (by rw [inC_set _ _ _ (by rw [izL_len _ _ (by rw [HML.out.1]; omega), HML.out.1]; omega)]; exact congrArg inC HS1.out) fun W9 e9 b9 s9 o9 => ?_)) AllReadyP.nil
        have SX : (fun V => V.cell? ⟨B3, 0, none⟩ = some (.slice (some ⟨B1, 0, none⟩) n n) ∧ V.cell? ⟨B3, 1, none⟩ = some (.slice (some ⟨B2, 0, none⟩) n n) ∧ V.cell? ⟨B5, 0, none⟩ = some (.int .i64 x) ∧ V.cell? ⟨B5, 1, none⟩ = some (.int .i64 y)) W9 := ⟨cellAtJ ((o9 B3 (by omega)).trans P4.out.2.1) 0 _ rfl, cellAtJ ((o9 B3 (by omega)).trans P4.out.2.1) 1 _ rfl, cellAtJ ((o9 B5 (by omega)).trans HB5.out) 0 _ rfl, cellAtJ ((o9 B5 (by omega)).trans HB5.out) 1 _ rfl⟩
        refine ⟨SX, ?_⟩
        try simp only [Act.put, List.setIfInBounds_toArray, List.set_cons_zero, List.set_cons_succ]
        refine takeP 31 (i := 12) (v := ?_) rfl rfl (by kernel_rfl) (by kernel_rfl) (by kernel_rfl) (by kernel_rfl) rfl (by kernel_rfl) (fun _ _ _ h => h) (Or.inl ⟨by kernel_rfl, ?_⟩) SX ?_
        rotate_left
        · intro w' hSw; obtain ⟨s0, s1, s2, s3⟩ := hSw; go_simp; try with_reducible rfl
        try simp only [Act.put, List.setIfInBounds_toArray, List.set_cons_zero, List.set_cons_succ]
        refine wpAnyP_ready (rs := [13]) (by kernel_rfl) (by simp) ?_
        refine consPs _ rfl (by kernel_rfl) (hopL rfl (wpList_store_at (by rfl) 3 _ _ (by rfl) w w.heap.size B2 j (.int .i64 y) _ (inC (izL (ps.map (·.2)) (j + 1))) 3 (by kernel_rfl) (by kernel_rfl) ((o9 B2 (by omega)).trans P4.out.2.2.2.1) b9 (by omega) 1 Try.szIM rfl (by rw [inC_size, izL_len _ _ (by rw [HML.out.2]; omega), HML.out.2]; omega) (one_inM _) (by rw [inC_set _ _ _ (by rw [izL_len _ _ (by rw [HML.out.2]; omega), HML.out.2]; omega)]; exact congrArg inC HS2.out) fun W8 e8 b8 s8 o8 => ?_)) AllReadyP.nil
        refine ⟨trivial, ?_⟩
        try simp only [Act.put, List.setIfInBounds_toArray, List.set_cons_zero, List.set_cons_succ]
        refine wpAnyP_done (by kernel_rfl) ?_ _
        refine NoPanic.normal ?_
        try simp only [Act.put, List.setIfInBounds_toArray, List.set_cons_zero, List.set_cons_succ]
        have P6 : Hid (Below w.heap.size w W8 ∧ W8.heap[B3]? = some (.cells #[.slice (some ⟨B1, 0, none⟩) n n, .slice (some ⟨B2, 0, none⟩) n n] 30) ∧ W8.heap[B1]? = some (.cells (inC (izL (ps.map (·.1)) (j + 1))) 3) ∧ W8.heap[B2]? = some (.cells (inC (izL (ps.map (·.2)) (j + 1))) 3) ∧ W8.heap[w.heap.size]? = some (.cells #[.slice none 0 0, .slice none 0 0] 30)) := ⟨b8, (o8 _ (by omega)).trans ((o9 _ (by omega)).trans P4.out.2.1), (o8 _ (by omega)).trans e9, e8, (o8 _ (by omega)).trans ((o9 _ (by omega)).trans P4.out.2.2.2.2)⟩
        clear P4 SX4 HB5 HS1 HS2 e8 b8 s8 o8 e9 b9 s9 o9 SX PB m1 m2 m3 m4
        go_wp2_with fail
        go_roundg q
        case measure => omega
        case rel => exact ⟨j + 1, by go_num, by have := HIG.out; omega, P6⟩
      · have e1 : decide ((j : Int) < (n : Int)) = false := decide_eq_false (by omega)
        have e2 : decide (j < n) = false := decide_eq_false hlt
        have ej : j = n := by omega
        subst ej
        clear hj
        go_wp2_with (first | (refine wpList_load_row (by rfl) 30 _ (by rfl) B3 #[.slice (some ⟨B1, 0, none⟩) j j, .slice (some ⟨B2, 0, none⟩) j j] (by rfl) P2.out.2.1 _ Try.underlying30 rfl 2 Try.szRT (by rfl) ?_) | (refine wpList_store_row (by rfl) 30 _ _ (by rfl) w w.heap.size w.heap.size #[.slice (some ⟨B1, 0, none⟩) j j, .slice (some ⟨B2, 0, none⟩) j j] _ (by rfl) (by rfl) P2.out.2.2.2.2 P2.out.1 (Nat.le_refl _) 2 Try.szRT rfl rfl (one_rg _ _ _ _ _ _) ?_; intro W7 e7 b7 s7 o7))
        refine bodyPost_ret (res_c _ _ _ 30 _ 2 2 (by kernel_rfl) w.heap.size _ rfl Try.underlying30 rfl Try.szRT rfl e7) rfl ?_
        refine ⟨⟨B1, B2, rfl, by omega, by omega, n4, (o7 _ (by omega)).trans ?_, (o7 _ (by omega)).trans ?_⟩, b7⟩
        · have := P2.out.2.2.1
          rw [← HML.out.1, izL_all] at this
          exact this
        · have := P2.out.2.2.2.1
          rw [← HML.out.2, izL_all] at this
          exact this
  have hz1 : izL (ps.map (·.1)) 0 = List.replicate n 0 := by rw [izL_zero, HML.out.1]
  have hz2 : izL (ps.map (·.2)) 0 = List.replicate n 0 := by rw [izL_zero, HML.out.2]
  rw [hz1, hz2] at key
  go_region
  all_goals
    refine key _ _ _ _ ⟨by omega, by omega, by omega, by omega, by omega, by omega⟩ ⟨?_, ?_, ?_, ?_, ?_⟩
    · exact (below_al (below_al (below_al (below_al (Below.refl _ w) _) _) _) _).drew
    all_goals (first | (refine alloc_at _ _ _ ?_; simp; done) | (refine alloc_kept (alloc_at _ _ _ ?_) _; simp; done) | (refine alloc_kept (alloc_kept (alloc_at _ _ _ ?_) _) _; simp; done) | (refine alloc_kept (alloc_kept (alloc_kept (alloc_at _ _ _ ?_) _) _) _; simp; done))
end Go.Proofs.Ytoehhnildocihaa
