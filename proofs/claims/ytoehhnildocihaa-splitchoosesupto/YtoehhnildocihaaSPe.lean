import Derived.Test.YtoehhnildocihaaSPd
namespace Go.Proofs.Ytoehhnildocihaa
open Go.RowKit
set_option linter.unusedVariables false
set_option linter.unusedSimpArgs false
set_option maxRecDepth 100000 in
set_option maxHeartbeats 4000000 in
/-- The parts of a region. -/
theorem partsOf_any (la ba : Option Addr) (n m c d : Nat) (ls bs : List Int) (k : Int) (w : World) (hl : RdIs w la n c ls) (ha : RdIs w ba m d bs) :
    Calls Try.prog 12 #[.agg #[.slice la n c, .slice ba m d], .int .i64 k] w fun e w' => (∃ v, e = .returned (.tuple #[v, .bool (regB ls bs k)]) ∧ (regB ls bs k = true → v = .slice (some ⟨w.heap.size + 1, 0, none⟩) n n ∧ w'.heap[w.heap.size + 1]? = some (.cells (ptC (ls.zip bs)) 69)) ∧ (regB ls bs k = false → v = .slice none 0 0)) ∧ Below w.heap.size w w' := by
  have HL : Hid (∀ W', Below w.heap.size w W' → RdIs W' la n c ls) := fun W' hb => hl.later hb
  have HA : Hid (∀ W', Below w.heap.size w W' → RdIs W' ba m d bs) := fun W' hb => ha.later hb
  have HN : Hid (ls.length = n ∧ bs.length = m) := ⟨hl.length, ha.length⟩
  have X0 : Below w.heap.size w (w.alloc (.cells #[.slice la n c, .slice ba m d] 30)) := (Below.refl _ w).alloc (Nat.le_refl _) _
  have Y0 : (w.alloc (.cells #[.slice la n c, .slice ba m d] 30)).heap[w.heap.size]? = _ := heap_alloc_new w _
  have S0 : (w.alloc (.cells #[.slice la n c, .slice ba m d] 30)).heap.size = w.heap.size + 1 := by simp
  clear hl ha
  by_cases h1 : k ≤ 256
  · have d1 : decide (k > 256) = false := decide_eq_false (by omega)
    by_cases h2 : (n : Int) = k
    · have d2 : ((n : Int) != k) = false := by simp [h2]
      by_cases h3 : (m : Int) = k
      · have d3 : ((m : Int) != k) = false := by simp [h3]
        obtain rfl : m = n := by omega
        obtain ⟨zs, hzs⟩ : ∃ zs, ls.zip bs = zs := ⟨_, rfl⟩
        have HZ : Hid (ls.zip bs = zs) := hzs
        have hzl : zs.length = m := by rw [← hzs, List.length_zip, HN.out.1, HN.out.2]; omega
        have HK : Hid (regB ls bs k = zs.all fun p => okP p.1 p.2) := by
          unfold Hid regB
          rw [hzs, decide_eq_true h1, HN.out.1, HN.out.2, decide_eq_true h2]
          rfl
        rw [hzs]
        clear hzs
        have hn : m ≤ 256 := by omega
        have hmk := makePT m (by omega)
        subst h2
        go_enter Try.func12, Try.ntmps12
        go_upto_region 1 with fail
        obtain ⟨X, hX⟩ : ∃ X, (w.alloc (.cells #[.slice la m c, .slice ba m d] 30)) = X := ⟨_, rfl⟩
        rw [hX] at X0 Y0 S0 ⊢
        have c0 := cellAtJ Y0 0 _ rfl
        have c1 := cellAtJ Y0 1 _ rfl
        clear hX
        go_upto_region 4 with fail
        obtain ⟨X1, hX1⟩ : ∃ X1, (X.alloc (.cells (ptC (List.replicate m (0, 0))) 69)) = X1 := ⟨_, rfl⟩
        have P1 : Hid (Below w.heap.size w X1 ∧ X1.heap[w.heap.size]? = some (.cells #[.slice la m c, .slice ba m d] 30) ∧ X1.heap[w.heap.size + 1]? = some (.cells (ptC (pzL zs 0)) 69) ∧ (zs.take 0).all (fun p => okP p.1 p.2) = true) := by
          rw [← hX1]
          refine ⟨X0.alloc X0.size _, alloc_kept Y0 _, ?_, rfl⟩
          rw [← S0, pzL_zero, hzl]
          exact heap_alloc_new X _
        rw [hX1]
        clear hX1 X0 Y0 S0 c0 c1 d1 d2 d3 hmk
        go_wp2_with fail
        go_loopg [28] m (fun g iv wx => ∃ j : Nat, iv = .int .i64 j ∧ j + g = m ∧ Hid (Below w.heap.size w wx ∧ wx.heap[w.heap.size]? = some (.cells #[.slice la m c, .slice ba m d] 30) ∧ wx.heap[w.heap.size + 1]? = some (.cells (ptC (pzL zs j)) 69) ∧ (zs.take j).all (fun p => okP p.1 p.2) = true))
        case atStart => exact ⟨0, rfl, by omega, P1⟩
        case round =>
          clear P1
          obtain ⟨j, rfl, hj, P2⟩ := hrel
          by_cases hlt : j < m
          · have e1 : decide ((j : Int) < (m : Int)) = true := decide_eq_true (by omega)
            obtain ⟨q, rfl⟩ : ∃ q, gk = q + 1 := ⟨gk - 1, by omega⟩
            have HIG : Hid (j + (q + 1) = m) := hj
            have hlt' : (j : Int) < (m : Int) := by omega
            have rl := HL.out _ P2.out.1
            have ra := HA.out _ P2.out.1
            rcases rl.cells with h0 | ⟨lb, lo, rfl, hcl⟩
            · omega
            rcases ra.cells with h0 | ⟨bb, bo, rfl, hca⟩
            · omega
            have gl := hcl j hlt
            have ga := hca j hlt
            obtain ⟨x, hx⟩ : ∃ x, ls[j]?.getD 0 = x := ⟨_, rfl⟩
            obtain ⟨y, hy⟩ : ∃ y, bs[j]?.getD 0 = y := ⟨_, rfl⟩
            rw [hx] at gl
            rw [hy] at ga
            have hjz : j < zs.length := by omega
            have HZJ : Hid (zs[j] = (x, y)) := by
              have e1 : j < ls.length := by rw [HN.out.1]; exact hlt
              have e2 : j < bs.length := by rw [HN.out.2]; exact hlt
              rw [List.getElem?_eq_getElem e1] at hx
              rw [List.getElem?_eq_getElem e2] at hy
              have : (ls.zip bs)[j]'(by rw [List.length_zip]; omega) = (x, y) := by rw [List.getElem_zip, ← hx, ← hy]; rfl
              unfold Hid
              rw [← this]
              congr 1
              exact HZ.out.symm
            have HST : Hid ((pzL zs j).set j (x, y) |> ptC |> (· = ptC (pzL zs (j + 1)))) := by
              show ptC _ = _
              rw [← HZJ.out, pzL_set _ _ hjz]
            have HAT : Hid ((pzL zs (j + 1))[j]? = some (x, y)) := by unfold Hid; rw [pzL_at _ _ hjz, HZJ.out]
            have HTA : Hid ((zs.take (j + 1)).all (fun p => okP p.1 p.2) = okP x y) := by
              unfold Hid
              rw [List.take_succ_eq_append_getElem hjz, List.all_append, P2.out.2.2.2, HZJ.out]
              simp
            have HF : Hid (okP x y = false → (zs.all fun p => okP p.1 p.2) = false) := by
              intro h
              rw [Bool.eq_false_iff]
              intro h2
              have := List.all_eq_true.1 h2 _ (List.getElem_mem hjz)
              rw [HZJ.out] at this
              rw [this] at h; cases h
            have C0 : Hid (wr.cell? ⟨w.heap.size, 0, none⟩ = _) := cellAtJ P2.out.2.1 0 _ rfl
            have C1 : Hid (wr.cell? ⟨w.heap.size, 1, none⟩ = _) := cellAtJ P2.out.2.1 1 _ rfl
            have CL : Hid (wr.cell? ⟨lb, lo + j, none⟩ = some (.int .i64 x)) := gl
            have CA : Hid (wr.cell? ⟨bb, bo + j, none⟩ = some (.int .i64 y)) := ga
            clear rl ra hcl hca gl ga hx hy hj HZJ
            go_upto_region 7 with fail
            have SX : Below wr.heap.size wr wr.drew := (Below.refl _ _).drew
            refine wp_region_noPanic ?_
            refine wp_region_P (S := (fun V => Below wr.heap.size wr V)) (s := 14) (by kernel_rfl) ?_
            refine takeP 31 (i := 0) (v := ?_) rfl rfl (by kernel_rfl) (by kernel_rfl) (by kernel_rfl) (by kernel_rfl) rfl (by kernel_rfl) (fun _ _ _ h => h) (Or.inl ⟨by kernel_rfl, ?_⟩) SX ?_
            rotate_left
            · intro w' hSw; have s0 := cell_later C0.out hSw; have s1 := cell_later C1.out hSw; have s2 := cell_later CL.out hSw; have s3 := cell_later CA.out hSw; go_simp; try with_reducible rfl
            try simp only [Act.put, List.setIfInBounds_toArray, List.set_cons_zero, List.set_cons_succ]
            refine takeP 32 (i := 1) (v := ?_) rfl rfl (by kernel_rfl) (by kernel_rfl) (by kernel_rfl) (by kernel_rfl) rfl (by kernel_rfl) (fun _ _ _ h => h) (Or.inl ⟨by kernel_rfl, ?_⟩) SX ?_
            rotate_left
            · intro w' hSw; have s0 := cell_later C0.out hSw; have s1 := cell_later C1.out hSw; have s2 := cell_later CL.out hSw; have s3 := cell_later CA.out hSw; go_simp; try with_reducible rfl
            try simp only [Act.put, List.setIfInBounds_toArray, List.set_cons_zero, List.set_cons_succ]
            refine takeP 33 (i := 2) (v := ?_) rfl rfl (by kernel_rfl) (by kernel_rfl) (by kernel_rfl) (by kernel_rfl) rfl (by kernel_rfl) (fun _ _ _ h => h) (Or.inl ⟨by kernel_rfl, ?_⟩) SX ?_
            rotate_left
            · intro w' hSw; have s0 := cell_later C0.out hSw; have s1 := cell_later C1.out hSw; have s2 := cell_later CL.out hSw; have s3 := cell_later CA.out hSw; go_simp; try with_reducible rfl
            try simp only [Act.put, List.setIfInBounds_toArray, List.set_cons_zero, List.set_cons_succ]
            refine takeP 34 (i := 3) (v := ?_) rfl rfl (by kernel_rfl) (by kernel_rfl) (by kernel_rfl) (by kernel_rfl) rfl (by kernel_rfl) (fun _ _ _ h => h) (Or.inl ⟨by kernel_rfl, ?_⟩) SX ?_
            rotate_left
            · intro w' hSw; have s0 := cell_later C0.out hSw; have s1 := cell_later C1.out hSw; have s2 := cell_later CL.out hSw; have s3 := cell_later CA.out hSw; go_simp; try with_reducible rfl
            try simp only [Act.put, List.setIfInBounds_toArray, List.set_cons_zero, List.set_cons_succ]
            refine takeP 35 (i := 4) (v := ?_) rfl rfl (by kernel_rfl) (by kernel_rfl) (by kernel_rfl) (by kernel_rfl) rfl (by kernel_rfl) (fun _ _ _ h => h) (Or.inl ⟨by kernel_rfl, ?_⟩) SX ?_
            rotate_left
            · intro w' hSw; have s0 := cell_later C0.out hSw; have s1 := cell_later C1.out hSw; have s2 := cell_later CL.out hSw; have s3 := cell_later CA.out hSw; go_simp; try with_reducible rfl
            try simp only [Act.put, List.setIfInBounds_toArray, List.set_cons_zero, List.set_cons_succ]
            refine takeP 36 (i := 5) (v := ?_) rfl rfl (by kernel_rfl) (by kernel_rfl) (by kernel_rfl) (by kernel_rfl) rfl (by kernel_rfl) (fun _ _ _ h => h) (Or.inl ⟨by kernel_rfl, ?_⟩) SX ?_
            rotate_left
            · intro w' hSw; have s0 := cell_later C0.out hSw; have s1 := cell_later C1.out hSw; have s2 := cell_later CL.out hSw; have s3 := cell_later CA.out hSw; go_simp; try with_reducible rfl
            try simp only [Act.put, List.setIfInBounds_toArray, List.set_cons_zero, List.set_cons_succ]
            refine takeP 37 (i := 6) (v := ?_) rfl rfl (by kernel_rfl) (by kernel_rfl) (by kernel_rfl) (by kernel_rfl) rfl (by kernel_rfl) (fun _ _ _ h => h) (Or.inl ⟨by kernel_rfl, ?_⟩) SX ?_
            rotate_left
            · intro w' hSw; have s0 := cell_later C0.out hSw; have s1 := cell_later C1.out hSw; have s2 := cell_later CL.out hSw; have s3 := cell_later CA.out hSw; go_simp; try with_reducible rfl
            try simp only [Act.put, List.setIfInBounds_toArray, List.set_cons_zero, List.set_cons_succ]
            refine takeP 38 (i := 7) (v := ?_) rfl rfl (by kernel_rfl) (by kernel_rfl) (by kernel_rfl) (by kernel_rfl) rfl (by kernel_rfl) (fun _ _ _ h => h) (Or.inl ⟨by kernel_rfl, ?_⟩) SX ?_
            rotate_left
            · intro w' hSw; have s0 := cell_later C0.out hSw; have s1 := cell_later C1.out hSw; have s2 := cell_later CL.out hSw; have s3 := cell_later CA.out hSw; go_simp; try with_reducible rfl
            try simp only [Act.put, List.setIfInBounds_toArray, List.set_cons_zero, List.set_cons_succ]
            refine takeP 39 (i := 8) (v := ?_) rfl rfl (by kernel_rfl) (by kernel_rfl) (by kernel_rfl) (by kernel_rfl) rfl (by kernel_rfl) (fun _ _ _ h => h) (Or.inl ⟨by kernel_rfl, ?_⟩) SX ?_
            rotate_left
            · intro w' hSw; have s0 := cell_later C0.out hSw; have s1 := cell_later C1.out hSw; have s2 := cell_later CL.out hSw; have s3 := cell_later CA.out hSw; go_simp; try with_reducible rfl
            try simp only [Act.put, List.setIfInBounds_toArray, List.set_cons_zero, List.set_cons_succ]
            refine takeP 40 (i := 9) (v := ?_) rfl rfl (by kernel_rfl) (by kernel_rfl) (by kernel_rfl) (by kernel_rfl) rfl (by kernel_rfl) (fun _ _ _ h => h) (Or.inl ⟨by kernel_rfl, ?_⟩) SX ?_
            rotate_left
            · intro w' hSw; have s0 := cell_later C0.out hSw; have s1 := cell_later C1.out hSw; have s2 := cell_later CL.out hSw; have s3 := cell_later CA.out hSw; go_simp; try with_reducible rfl
            try simp only [Act.put, List.setIfInBounds_toArray, List.set_cons_zero, List.set_cons_succ]
            refine takeP 41 (i := 10) (v := ?_) rfl rfl (by kernel_rfl) (by kernel_rfl) (by kernel_rfl) (by kernel_rfl) rfl (by kernel_rfl) (fun _ _ _ h => h) (Or.inl ⟨by kernel_rfl, ?_⟩) SX ?_
            rotate_left
            · intro w' hSw; have s0 := cell_later C0.out hSw; have s1 := cell_later C1.out hSw; have s2 := cell_later CL.out hSw; have s3 := cell_later CA.out hSw; go_simp; try with_reducible rfl
            try simp only [Act.put, List.setIfInBounds_toArray, List.set_cons_zero, List.set_cons_succ]
            refine takeP 42 (i := 11) (v := ?_) rfl rfl (by kernel_rfl) (by kernel_rfl) (by kernel_rfl) (by kernel_rfl) rfl (by kernel_rfl) (fun _ _ _ h => h) (Or.inl ⟨by kernel_rfl, ?_⟩) SX ?_
            rotate_left
            · intro w' hSw; have s0 := cell_later C0.out hSw; have s1 := cell_later C1.out hSw; have s2 := cell_later CL.out hSw; have s3 := cell_later CA.out hSw; go_simp; try with_reducible rfl
            try simp only [Act.put, List.setIfInBounds_toArray, List.set_cons_zero, List.set_cons_succ]
            refine takeP 43 (i := 12) (v := ?_) rfl rfl (by kernel_rfl) (by kernel_rfl) (by kernel_rfl) (by kernel_rfl) rfl (by kernel_rfl) (fun _ _ _ h => h) (Or.inl ⟨by kernel_rfl, ?_⟩) SX ?_
            rotate_left
            · intro w' hSw; have s0 := cell_later C0.out hSw; have s1 := cell_later C1.out hSw; have s2 := cell_later CL.out hSw; have s3 := cell_later CA.out hSw; go_simp; try with_reducible rfl
            try simp only [Act.put, List.setIfInBounds_toArray, List.set_cons_zero, List.set_cons_succ]
            refine takeP 44 (i := 13) (v := ?_) rfl rfl (by kernel_rfl) (by kernel_rfl) (by kernel_rfl) (by kernel_rfl) rfl (by kernel_rfl) (fun _ _ _ h => h) (Or.inl ⟨by kernel_rfl, ?_⟩) SX ?_
            rotate_left
            · intro w' hSw; have s0 := cell_later C0.out hSw; have s1 := cell_later C1.out hSw; have s2 := cell_later CL.out hSw; have s3 := cell_later CA.out hSw; go_simp; try with_reducible rfl
            try simp only [Act.put, List.setIfInBounds_toArray, List.set_cons_zero, List.set_cons_succ]
            refine wpAnyP_ready (rs := [14]) (by kernel_rfl) (by simp) ?_
            refine consPs _ rfl (by kernel_rfl) (hopL rfl (wpList_store_at (by rfl) 69 _ _ (by rfl) w w.heap.size (w.heap.size + 1) (j * 2) (.agg #[.int .i64 x, .int .i64 y]) _ (ptC (pzL zs (j + 1))) 69 (by kernel_rfl) (by kernel_rfl) (kept SX P2.out.2.2.1) (to_call P2.out.1 SX) (by omega) 2 Try.szPT rfl (by rw [ptC_size, pzL_len _ _ (by omega)]; omega) (one_pt _ _) (by rw [ptC_set _ _ _ _ (by rw [pzL_len _ _ (by omega)]; omega)]; exact HST.out) fun W9 e9 b9 s9 o9 => ?_)) AllReadyP.nil
            refine ⟨trivial, ?_⟩
            try simp only [Act.put, List.setIfInBounds_toArray, List.set_cons_zero, List.set_cons_succ]
            refine wpAnyP_done (by kernel_rfl) ?_ _
            refine NoPanic.normal ?_
            try simp only [Act.put, List.setIfInBounds_toArray, List.set_cons_zero, List.set_cons_succ]
            have Z := ptC_at HAT.out
            have g0 := cellAtJ e9 _ _ Z.1
            have g1 := cellAtJ e9 _ _ Z.2
            have P3 : Hid (Below w.heap.size w W9 ∧ W9.heap[w.heap.size]? = some (.cells #[.slice (some ⟨lb, lo, none⟩) m c, .slice (some ⟨bb, bo, none⟩) m d] 30) ∧ W9.heap[w.heap.size + 1]? = some (.cells (ptC (pzL zs (j + 1))) 69)) := ⟨b9, (o9 _ (by omega)).trans (kept SX P2.out.2.1), e9⟩
            clear P2 C0 C1 CL CA HST HAT Z e9 b9 s9 o9 SX
            cases hok : okP x y with
            | false =>
              have HK2 : Hid (regB ls bs m = false) := by unfold Hid; rw [HK.out]; exact HF.out hok
              have HE : Hid (∀ W, Calls Try.prog 26 #[.agg #[.int .i64 x, .int .i64 y]] W fun e w' => e = .returned (.bool false) ∧ Below W.heap.size W w') := fun W => hok ▸ exists_any x y W
              clear HTA HF hok HK
              go_wp2_with (first | (go_at_call 26; refine Calls.mono (HE.out _) ?_; rintro e' w5 ⟨rfl, b5⟩))
              refine bodyPost_ret (res_tt _ 4 5 (by kernel_rfl) _ _ _ _ rfl rfl) rfl ?_
              exact ⟨⟨_, by rw [HK2.out]; rfl, fun h => (by rw [HK2.out] at h; cases h), fun _ => rfl⟩, to_call P3.out.1 b5⟩
            | true =>
              have HE : Hid (∀ W, Calls Try.prog 26 #[.agg #[.int .i64 x, .int .i64 y]] W fun e w' => e = .returned (.bool true) ∧ Below W.heap.size W w') := fun W => hok ▸ exists_any x y W
              rw [hok] at HTA
              clear HF hok
              go_wp2_with (first | (go_at_call 26; refine Calls.mono (HE.out _) ?_; rintro e' w5 ⟨rfl, b5⟩))
              have P4 : Hid (Below w.heap.size w w5 ∧ w5.heap[w.heap.size]? = some (.cells #[.slice (some ⟨lb, lo, none⟩) m c, .slice (some ⟨bb, bo, none⟩) m d] 30) ∧ w5.heap[w.heap.size + 1]? = some (.cells (ptC (pzL zs (j + 1))) 69) ∧ (zs.take (j + 1)).all (fun p => okP p.1 p.2) = true) := ⟨to_call P3.out.1 b5, kept b5 P3.out.2.1, kept b5 P3.out.2.2, HTA.out⟩
              clear P3 b5 g0 g1
              go_roundg q
              case measure => omega
              case rel => exact ⟨j + 1, by go_num, by have := HIG.out; omega, P4⟩
          · have e1 : decide ((j : Int) < (m : Int)) = false := decide_eq_false (by omega)
            have e2 : decide (j < m) = false := decide_eq_false hlt
            have ej : j = zs.length := by omega
            have HK2 : Hid (regB ls bs m = true) := by unfold Hid; rw [HK.out]; have := P2.out.2.2.2; rw [ej, List.take_length] at this; exact this
            have P3 : Hid (wr.heap[w.heap.size + 1]? = some (.cells (ptC zs) 69)) := by have := P2.out.2.2.1; rw [ej, pzL_all] at this; exact this
            clear HK hj ej
            go_wp2_with fail
            refine bodyPost_ret (res_tt _ 4 5 (by kernel_rfl) _ _ _ _ rfl rfl) rfl ?_
            exact ⟨⟨_, by rw [HK2.out]; rfl, fun _ => ⟨rfl, P3.out⟩, fun h => (by rw [HK2.out] at h; cases h)⟩, P2.out.1⟩
      · have d3 : ((m : Int) != k) = true := by simpa using h3
        have HK : Hid (regB ls bs k = false) := by unfold Hid regB; rw [decide_eq_false (p := (bs.length : Int) = k) (by rw [HN.out.2]; exact h3)]; simp
        go_enter Try.func12, Try.ntmps12
        go_upto_region 1 with fail
        obtain ⟨X, hX⟩ : ∃ X, (w.alloc (.cells #[.slice la n c, .slice ba m d] 30)) = X := ⟨_, rfl⟩
        rw [hX] at X0 Y0 ⊢
        have c0 := cellAtJ Y0 0 _ rfl
        have c1 := cellAtJ Y0 1 _ rfl
        clear hX
        go_wp2_with fail
        refine bodyPost_ret (res_tt _ 4 5 (by kernel_rfl) _ _ _ _ rfl rfl) rfl ?_
        exact ⟨⟨_, by rw [HK.out]; rfl, fun h => (by rw [HK.out] at h; cases h), fun _ => rfl⟩, X0⟩

    · have d2 : ((n : Int) != k) = true := by simpa using h2
      have HK : Hid (regB ls bs k = false) := by unfold Hid regB; rw [decide_eq_false (p := (ls.length : Int) = k) (by rw [HN.out.1]; exact h2)]; simp
      go_enter Try.func12, Try.ntmps12
      go_upto_region 1 with fail
      obtain ⟨X, hX⟩ : ∃ X, (w.alloc (.cells #[.slice la n c, .slice ba m d] 30)) = X := ⟨_, rfl⟩
      rw [hX] at X0 Y0 ⊢
      have c0 := cellAtJ Y0 0 _ rfl
      have c1 := cellAtJ Y0 1 _ rfl
      clear hX
      go_wp2_with fail
      refine bodyPost_ret (res_tt _ 4 5 (by kernel_rfl) _ _ _ _ rfl rfl) rfl ?_
      exact ⟨⟨_, by rw [HK.out]; rfl, fun h => (by rw [HK.out] at h; cases h), fun _ => rfl⟩, X0⟩

  · have d1 : decide (k > 256) = true := decide_eq_true (by omega)
    have HK : Hid (regB ls bs k = false) := by unfold Hid regB; rw [decide_eq_false h1]; simp
    go_enter Try.func12, Try.ntmps12
    go_upto_region 1 with fail
    obtain ⟨X, hX⟩ : ∃ X, (w.alloc (.cells #[.slice la n c, .slice ba m d] 30)) = X := ⟨_, rfl⟩
    rw [hX] at X0 Y0 ⊢
    have c0 := cellAtJ Y0 0 _ rfl
    have c1 := cellAtJ Y0 1 _ rfl
    clear hX
    go_wp2_with fail
    refine bodyPost_ret (res_tt _ 4 5 (by kernel_rfl) _ _ _ _ rfl rfl) rfl ?_
    exact ⟨⟨_, by rw [HK.out]; rfl, fun h => (by rw [HK.out] at h; cases h), fun _ => rfl⟩, X0⟩

end Go.Proofs.Ytoehhnildocihaa
