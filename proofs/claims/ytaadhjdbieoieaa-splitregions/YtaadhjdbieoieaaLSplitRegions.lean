import Derived.Test.YtaadhjdbieoieaaSPZ
namespace Go.Proofs.Ytaadhjdbieoieaa
open Go.RowKit
set_option linter.unusedVariables false
set_option linter.unusedSimpArgs false
set_option maxRecDepth 100000 in
set_option maxHeartbeats 4000000 in
theorem splitRegions_walk (la : Option Addr) (n c : Nat) (ba : Option Addr) (m d : Nat) (ls bs : List Int) (k s : Int) (so : Option Addr) (sn sc : Nat) (ss : List Int) (DI : Int) (eo : Option Addr) (en ec : Nat) (es : List Int) (PI : Int) (w : World) (hl : RdIs w la n c ls) (ha : RdIs w ba m d bs) (hs : RdIs w so sn sc ss) (he : RdIs w eo en ec es) (heb : ∀ i ∈ es, -9223372036854775808 ≤ i ∧ i ≤ 9223372036854775807) :
    Calls Try.prog 4 #[.agg #[.slice la n c, .slice ba m d], .int .i64 k, .int .i64 s, .slice so sn sc, .int .i64 DI, .slice eo en ec, .int .i64 PI] w fun e w' => e = .returned (.bool true) ∧ Below w.heap.size w w' := by
  have HL : Hid (∀ W', Below w.heap.size w W' → RdIs W' la n c ls) := fun W' hb => hl.later hb
  have HA : Hid (∀ W', Below w.heap.size w W' → RdIs W' ba m d bs) := fun W' hb => ha.later hb
  have HS : Hid (∀ W', Below w.heap.size w W' → RdIs W' so sn sc ss) := fun W' hb => hs.later hb
  have HE : Hid (∀ W', Below w.heap.size w W' → RdIs W' eo en ec es) := fun W' hb => he.later hb
  have HEB : Hid (∀ i ∈ es, -9223372036854775808 ≤ i ∧ i ≤ 9223372036854775807) := heb
  clear hl ha hs he heb
  have X0 : Below w.heap.size w (w.alloc (.cells #[.slice la n c, .slice ba m d] 24)) := (Below.refl _ w).alloc (Nat.le_refl _) _
  have Y0 : (w.alloc (.cells #[.slice la n c, .slice ba m d] 24)).heap[w.heap.size]? = some (.cells #[.slice la n c, .slice ba m d] 24) := heap_alloc_new w _
  go_enter Try.func4, Try.ntmps4
  go_upto_region 1 with fail
  obtain ⟨X, hX⟩ : ∃ X, (w.alloc (.cells #[.slice la n c, .slice ba m d] 24)) = X := ⟨_, rfl⟩
  rw [hX] at X0 Y0 ⊢
  have P : Hid (Below w.heap.size w X ∧ X.heap[w.heap.size]? = some (.cells #[.slice la n c, .slice ba m d] 24)) := ⟨X0, Y0⟩
  clear hX X0 Y0
  go_wp2_with (first | (refine wpList_load_row (by rfl) 24 _ (by rfl) w.heap.size #[.slice la n c, .slice ba m d] (by rfl) P.out.2 _ Try.underlying24 rfl 2 Try.szRT (by rfl) ?_))
  refine Calls.mono (halveU la ba n m c d ls bs s _ (HL.out _ P.out.1) (HA.out _ P.out.1)) ?_
  rintro e' w1 ⟨⟨a1, a2, a3, a4, N, rfl, HX⟩, bb1⟩
  obtain ⟨er, her⟩ : ∃ er, HvE ls bs n s = er := ⟨_, rfl⟩
  have HER : Hid (HvE ls bs n s = er) := her
  rw [her]
  clear her
  go_upto_region 2 with fail
  have A1 : Below w1.heap.size w1 ((w1.alloc (.cells #[.slice a1 N N, .slice a2 N N] 24)).alloc (.cells #[.slice a3 N N, .slice a4 N N] 24)) := below_al (below_al (Below.refl _ w1) _) _
  have Z1 : ((w1.alloc (.cells #[.slice a1 N N, .slice a2 N N] 24)).alloc (.cells #[.slice a3 N N, .slice a4 N N] 24)).heap[w1.heap.size]? = some (.cells #[.slice a1 N N, .slice a2 N N] 24) := alloc_kept (heap_alloc_new w1 _) _
  have Z2 : ((w1.alloc (.cells #[.slice a1 N N, .slice a2 N N] 24)).alloc (.cells #[.slice a3 N N, .slice a4 N N] 24)).heap[w1.heap.size + 1]? = some (.cells #[.slice a3 N N, .slice a4 N N] 24) := alloc_at _ _ _ (by simp)
  obtain ⟨V1, hV1⟩ : ∃ V, ((w1.alloc (.cells #[.slice a1 N N, .slice a2 N N] 24)).alloc (.cells #[.slice a3 N N, .slice a4 N N] 24)) = V := ⟨_, rfl⟩
  obtain ⟨b15, hb15⟩ : ∃ b, w1.heap.size = b := ⟨_, rfl⟩
  obtain ⟨b16, hb16⟩ : ∃ b, b15 + 1 = b := ⟨_, rfl⟩
  rw [hV1] at A1 Z1 Z2 ⊢
  rw [hb15] at Z1 Z2 ⊢
  rw [hb16] at Z2 ⊢
  have Q : Hid ((Below w.heap.size w V1 ∧ V1.heap[w.heap.size]? = some (.cells #[.slice la n c, .slice ba m d] 24)) ∧ V1.heap[b15]? = some (.cells #[.slice a1 N N, .slice a2 N N] 24) ∧ V1.heap[b16]? = some (.cells #[.slice a3 N N, .slice a4 N N] 24) ∧ HvX V1 X.heap.size n ls bs s a1 a2 a3 a4 N) := ⟨⟨to_call (to_call P.out.1 bb1) A1, kept A1 (kept bb1 P.out.2)⟩, Z1, Z2, HX.later A1⟩
  have P := Q.out.1
  have P : Hid (Below w.heap.size w V1 ∧ V1.heap[w.heap.size]? = some (.cells #[.slice la n c, .slice ba m d] 24)) := P
  clear hV1 hb15 hb16 A1 Z1 Z2 bb1 HX
  go_wp2_with (first | (refine wpList_load_row (by rfl) 24 _ (by rfl) w.heap.size #[.slice la n c, .slice ba m d] (by rfl) P.out.2 _ Try.underlying24 rfl 2 Try.szRT (by rfl) ?_))
  refine Calls.mono (refHalve_any la ba n m c d ls bs s _ (HL.out _ P.out.1) (HA.out _ P.out.1)) ?_
  rintro e' w2 ⟨⟨e1, f1, e2, f2, e3, f3, e4, f4, M, rfl, HY, HY2⟩, bb2⟩
  rw [HER.out]
  have HYY : Hid ((er = 0 → M = n ∧ RdIs w2 e1 M f1 (ls.set s.toNat (ls[s.toNat]?.getD 0 + 1)) ∧ RdIs w2 e2 M f2 (bs.set s.toNat (2 * bs[s.toNat]?.getD 0)) ∧ RdIs w2 e3 M f3 (ls.set s.toNat (ls[s.toNat]?.getD 0 + 1)) ∧ RdIs w2 e4 M f4 (bs.set s.toNat (2 * bs[s.toNat]?.getD 0 + 1))) ∧ (er ≠ 0 → (e1, f1, e2, f2, e3, f3, e4, f4, M) = (none, 0, none, 0, none, 0, none, 0, 0))) := by unfold Hid; rw [← HER.out]; exact ⟨HY, HY2⟩
  clear HY HY2
  go_upto_region 3 with fail
  have A2 : Below w2.heap.size w2 ((w2.alloc (.cells #[.slice e1 M f1, .slice e2 M f2] 24)).alloc (.cells #[.slice e3 M f3, .slice e4 M f4] 24)) := below_al (below_al (Below.refl _ w2) _) _
  have Z1 : ((w2.alloc (.cells #[.slice e1 M f1, .slice e2 M f2] 24)).alloc (.cells #[.slice e3 M f3, .slice e4 M f4] 24)).heap[w2.heap.size]? = some (.cells #[.slice e1 M f1, .slice e2 M f2] 24) := alloc_kept (heap_alloc_new w2 _) _
  have Z2 : ((w2.alloc (.cells #[.slice e1 M f1, .slice e2 M f2] 24)).alloc (.cells #[.slice e3 M f3, .slice e4 M f4] 24)).heap[w2.heap.size + 1]? = some (.cells #[.slice e3 M f3, .slice e4 M f4] 24) := alloc_at _ _ _ (by simp)
  obtain ⟨W, hV2⟩ : ∃ V, ((w2.alloc (.cells #[.slice e1 M f1, .slice e2 M f2] 24)).alloc (.cells #[.slice e3 M f3, .slice e4 M f4] 24)) = V := ⟨_, rfl⟩
  obtain ⟨b18, hb18⟩ : ∃ b, w2.heap.size = b := ⟨_, rfl⟩
  obtain ⟨b19, hb19⟩ : ∃ b, b18 + 1 = b := ⟨_, rfl⟩
  rw [hV2] at A2 Z1 Z2 ⊢
  rw [hb18] at Z1 Z2 ⊢
  rw [hb19] at Z2 ⊢
  have HXX : Hid (∃ X1 X2 X3 X4, (RdIs W a1 N N X1 ∧ RdIs W a2 N N X2 ∧ RdIs W a3 N N X3 ∧ RdIs W a4 N N X4) ∧ RdIs W e1 M f1 X1 ∧ RdIs W e2 M f2 X2 ∧ RdIs W e3 M f3 X3 ∧ RdIs W e4 M f4 X4) := by
    have HX := (Q.out.2.2.2.later bb2).later A2
    by_cases h0 : er = 0
    · obtain ⟨hN, B1, B2, C1, C2, rfl, rfl, rfl, rfl, r1, r2, -⟩ := HX.ok (by rw [HER.out]; exact h0)
      obtain ⟨hM, y1, y2, y3, y4⟩ := HYY.out.1 h0
      obtain ⟨g1, -, -, -⟩ := HvE_zero (HER.out.trans h0)
      have gl := regB_len g1
      exact ⟨_, _, _, _, ⟨r1.rl (by rw [List.length_set]; omega) (by omega), r1.ra (by rw [List.length_set]; omega) (by omega), r2.rl (by rw [List.length_set]; omega) (by omega), r2.ra (by rw [List.length_set]; omega) (by omega)⟩, y1.later A2, y2.later A2, y3.later A2, y4.later A2⟩
    · obtain ⟨rfl, rfl, rfl, rfl, rfl⟩ := HX.bad (by rw [HER.out]; exact h0)
      have h9 := HYY.out.2 h0
      simp only [Prod.mk.injEq] at h9
      obtain ⟨rfl, rfl, rfl, rfl, rfl, rfl, rfl, rfl, rfl⟩ := h9
      exact ⟨[], [], [], [], ⟨⟨rfl, Nat.zero_le _, .inl rfl⟩, ⟨rfl, Nat.zero_le _, .inl rfl⟩, ⟨rfl, Nat.zero_le _, .inl rfl⟩, ⟨rfl, Nat.zero_le _, .inl rfl⟩⟩, ⟨rfl, Nat.zero_le _, .inl rfl⟩, ⟨rfl, Nat.zero_le _, .inl rfl⟩, ⟨rfl, Nat.zero_le _, .inl rfl⟩, ⟨rfl, Nat.zero_le _, .inl rfl⟩⟩
  obtain ⟨X1, X2, X3, X4, ⟨x1, x2, x3, x4⟩, y1, y2, y3, y4⟩ := HXX.out
  have HS1 : Hid (∀ V, Below W.heap.size W V → Calls Try.prog 11 #[.agg #[.slice a1 N N, .slice a2 N N], .agg #[.slice e1 M f1, .slice e2 M f2]] V fun e w' => e = .returned (.bool true) ∧ Below V.heap.size V w') := fun V hb => by
    have h := same_any a1 a2 e1 e2 N N N N M f1 M f2 X1 X2 X1 X2 V (x1.later hb) (x2.later hb) (y1.later hb) (y2.later hb)
    rw [decide_eq_true ⟨rfl, rfl⟩] at h
    exact h
  have HS2 : Hid (∀ V, Below W.heap.size W V → Calls Try.prog 11 #[.agg #[.slice a3 N N, .slice a4 N N], .agg #[.slice e3 M f3, .slice e4 M f4]] V fun e w' => e = .returned (.bool true) ∧ Below V.heap.size V w') := fun V hb => by
    have h := same_any a3 a4 e3 e4 N N N N M f3 M f4 X3 X4 X3 X4 V (x3.later hb) (x4.later hb) (y3.later hb) (y4.later hb)
    rw [decide_eq_true ⟨rfl, rfl⟩] at h
    exact h
  have P' : Hid (Below w.heap.size w W ∧ W.heap[w.heap.size]? = some (.cells #[.slice la n c, .slice ba m d] 24) ∧ W.heap[b15]? = some (.cells #[.slice a1 N N, .slice a2 N N] 24) ∧ W.heap[b16]? = some (.cells #[.slice a3 N N, .slice a4 N N] 24) ∧ W.heap[b18]? = some (.cells #[.slice e1 M f1, .slice e2 M f2] 24) ∧ W.heap[b19]? = some (.cells #[.slice e3 M f3, .slice e4 M f4] 24)) := ⟨to_call (to_call P.out.1 bb2) A2, kept A2 (kept bb2 P.out.2), kept A2 (kept bb2 Q.out.2.1), kept A2 (kept bb2 Q.out.2.2.1), Z1, Z2⟩
  have P := P'
  obtain ⟨ck, hck⟩ : ∃ ck, ckE ls bs k = ck := ⟨_, rfl⟩
  have HC1 : Hid (∀ V, Below W.heap.size W V → Calls Try.prog 15 #[.agg #[.slice la n c, .slice ba m d], .int .i64 k] V fun e w' => e = .returned (.int .i64 ck) ∧ Below V.heap.size V w') := fun V hb => hck ▸ check_any la ba n m c d ls bs k V (HL.out _ (to_call P.out.1 hb)) (HA.out _ (to_call P.out.1 hb))
  have HC2 : Hid (∀ V, Below W.heap.size W V → Calls Try.prog 16 #[.agg #[.slice la n c, .slice ba m d], .int .i64 k] V fun e w' => e = .returned (.int .i64 ck) ∧ Below V.heap.size V w') := fun V hb => hck ▸ refCheck_any la ba n m c d ls bs k V (HL.out _ (to_call P.out.1 hb)) (HA.out _ (to_call P.out.1 hb))
  have g1 : (er != er) = false := by simp
  have g2 : (ck != ck) = false := by simp
  clear P' Q HXX x1 x2 x3 x4 y1 y2 y3 y4 hV2 hb18 hb19 A2 Z1 Z2 bb2 HYY HER hck
  refine wp_region_noPanic ?_
  have SX : Below W.heap.size W W.drew := (Below.refl _ _).drew
  refine wp_region_held_drew (S := (fun V => Below W.heap.size W V)) (by kernel_rfl) SX (fun _ => ?_)
  refine takeH 43 (i := 0) (v := ?_) rfl rfl (by kernel_rfl) (by kernel_rfl) (by kernel_rfl) (fun _ _ _ h => h) (Or.inl ⟨by kernel_rfl, ?_⟩) SX ?_
  rotate_left
  · intro w' hSw; skip; go_simp; try with_reducible rfl
  try simp only [Act.put, List.setIfInBounds_toArray, List.set_cons_zero, List.set_cons_succ]
  refine takeH 44 (i := 1) (v := ?_) rfl rfl (by kernel_rfl) (by kernel_rfl) (by kernel_rfl) (fun _ _ _ h => h) (Or.inl ⟨by kernel_rfl, ?_⟩) SX ?_
  rotate_left
  · intro w' hSw; skip; go_simp; try with_reducible rfl
  try simp only [Act.put, List.setIfInBounds_toArray, List.set_cons_zero, List.set_cons_succ]
  refine takeH 45 (i := 2) (v := ?_) rfl rfl (by kernel_rfl) (by kernel_rfl) (by kernel_rfl) (fun _ _ _ h => h) (Or.inl ⟨by kernel_rfl, ?_⟩) SX ?_
  rotate_left
  · intro w' hSw; skip; go_simp; try with_reducible rfl
  try simp only [Act.put, List.setIfInBounds_toArray, List.set_cons_zero, List.set_cons_succ]
  refine takeH 46 (i := 3) (v := ?_) rfl rfl (by kernel_rfl) (by kernel_rfl) (by kernel_rfl) (fun _ _ _ h => h) (Or.inl ⟨by kernel_rfl, ?_⟩) SX ?_
  rotate_left
  · intro w' hSw; skip; go_simp; try with_reducible rfl
  try simp only [Act.put, List.setIfInBounds_toArray, List.set_cons_zero, List.set_cons_succ]
  refine takeH 47 (i := 4) (v := .agg #[.slice a1 N N, .slice a2 N N]) rfl rfl (by kernel_rfl) (by kernel_rfl) (by kernel_rfl) (fun _ _ _ h => h) (Or.inl ⟨by kernel_rfl, fun w' hSw => ex_loadRN _ 24 _ rfl b15 (by kernel_rfl) w' _ (kept hSw P.out.2.2.1) _ Try.underlying24 rfl 2 Try.szRT rfl⟩) SX ?_
  try simp only [Act.put, List.setIfInBounds_toArray, List.set_cons_zero, List.set_cons_succ]
  refine takeH 48 (i := 5) (v := .agg #[.slice e1 M f1, .slice e2 M f2]) rfl rfl (by kernel_rfl) (by kernel_rfl) (by kernel_rfl) (fun _ _ _ h => h) (Or.inl ⟨by kernel_rfl, fun w' hSw => ex_loadRN _ 24 _ rfl b18 (by kernel_rfl) w' _ (kept hSw P.out.2.2.2.2.1) _ Try.underlying24 rfl 2 Try.szRT rfl⟩) SX ?_
  try simp only [Act.put, List.setIfInBounds_toArray, List.set_cons_zero, List.set_cons_succ]
  refine wpAnyH_ready (rs := [6]) (by kernel_rfl) (by simp) ?_
  refine consH _ rfl (hopCd 49 rfl (by kernel_rfl) rfl (by kernel_rfl) (Calls.mono (HS1.out _ SX) ?_)) AllReadyH.nil
  rintro e V1 ⟨rfl, q1⟩
  have SX : Below W.heap.size W V1 := to_call SX q1
  refine ⟨_, rfl, SX, ?_⟩
  try simp only [Act.put, List.setIfInBounds_toArray, List.set_cons_zero, List.set_cons_succ]
  refine takeH 50 (i := 7) (v := ?_) rfl rfl (by kernel_rfl) (by kernel_rfl) (by kernel_rfl) (fun _ _ _ h => h) (Or.inl ⟨by kernel_rfl, ?_⟩) SX ?_
  rotate_left
  · intro w' hSw; skip; go_simp; try with_reducible rfl
  try simp only [Act.put, List.setIfInBounds_toArray, List.set_cons_zero, List.set_cons_succ]
  refine takeH 51 (i := 8) (v := ?_) rfl rfl (by kernel_rfl) (by kernel_rfl) (by kernel_rfl) (fun _ _ _ h => h) (Or.inl ⟨by kernel_rfl, ?_⟩) SX ?_
  rotate_left
  · intro w' hSw; skip; go_simp; try with_reducible rfl
  try simp only [Act.put, List.setIfInBounds_toArray, List.set_cons_zero, List.set_cons_succ]
  refine takeH 52 (i := 9) (v := ?_) rfl rfl (by kernel_rfl) (by kernel_rfl) (by kernel_rfl) (fun _ _ _ h => h) (Or.inl ⟨by kernel_rfl, ?_⟩) SX ?_
  rotate_left
  · intro w' hSw; skip; go_simp; try with_reducible rfl
  try simp only [Act.put, List.setIfInBounds_toArray, List.set_cons_zero, List.set_cons_succ]
  refine takeH 53 (i := 10) (v := .agg #[.slice a3 N N, .slice a4 N N]) rfl rfl (by kernel_rfl) (by kernel_rfl) (by kernel_rfl) (fun _ _ _ h => h) (Or.inl ⟨by kernel_rfl, fun w' hSw => ex_loadRN _ 24 _ rfl b16 (by kernel_rfl) w' _ (kept hSw P.out.2.2.2.1) _ Try.underlying24 rfl 2 Try.szRT rfl⟩) SX ?_
  try simp only [Act.put, List.setIfInBounds_toArray, List.set_cons_zero, List.set_cons_succ]
  refine takeH 54 (i := 11) (v := .agg #[.slice e3 M f3, .slice e4 M f4]) rfl rfl (by kernel_rfl) (by kernel_rfl) (by kernel_rfl) (fun _ _ _ h => h) (Or.inl ⟨by kernel_rfl, fun w' hSw => ex_loadRN _ 24 _ rfl b19 (by kernel_rfl) w' _ (kept hSw P.out.2.2.2.2.2) _ Try.underlying24 rfl 2 Try.szRT rfl⟩) SX ?_
  try simp only [Act.put, List.setIfInBounds_toArray, List.set_cons_zero, List.set_cons_succ]
  refine wpAnyH_ready (rs := [12]) (by kernel_rfl) (by simp) ?_
  refine consH _ rfl (hopCd 55 rfl (by kernel_rfl) rfl (by kernel_rfl) (Calls.mono (HS2.out _ SX) ?_)) AllReadyH.nil
  rintro e V2 ⟨rfl, q2⟩
  have SX : Below W.heap.size W V2 := to_call SX q2
  refine ⟨_, rfl, SX, ?_⟩
  try simp only [Act.put, List.setIfInBounds_toArray, List.set_cons_zero, List.set_cons_succ]
  refine takeH 56 (i := 13) (v := ?_) rfl rfl (by kernel_rfl) (by kernel_rfl) (by kernel_rfl) (fun _ _ _ h => h) (Or.inl ⟨by kernel_rfl, ?_⟩) SX ?_
  rotate_left
  · intro w' hSw; skip; go_simp; try with_reducible rfl
  try simp only [Act.put, List.setIfInBounds_toArray, List.set_cons_zero, List.set_cons_succ]
  refine takeH 57 (i := 14) (v := ?_) rfl rfl (by kernel_rfl) (by kernel_rfl) (by kernel_rfl) (fun _ _ _ h => h) (Or.inl ⟨by kernel_rfl, ?_⟩) SX ?_
  rotate_left
  · intro w' hSw; skip; go_simp; try with_reducible rfl
  try simp only [Act.put, List.setIfInBounds_toArray, List.set_cons_zero, List.set_cons_succ]
  refine takeH 58 (i := 15) (v := ?_) rfl rfl (by kernel_rfl) (by kernel_rfl) (by kernel_rfl) (fun _ _ _ h => h) (Or.inl ⟨by kernel_rfl, ?_⟩) SX ?_
  rotate_left
  · intro w' hSw; skip; go_simp; try with_reducible rfl
  try simp only [Act.put, List.setIfInBounds_toArray, List.set_cons_zero, List.set_cons_succ]
  refine takeH 59 (i := 16) (v := .agg #[.slice la n c, .slice ba m d]) rfl rfl (by kernel_rfl) (by kernel_rfl) (by kernel_rfl) (fun _ _ _ h => h) (Or.inl ⟨by kernel_rfl, fun w' hSw => ex_loadRN _ 24 _ rfl w.heap.size (by kernel_rfl) w' _ (kept hSw P.out.2.1) _ Try.underlying24 rfl 2 Try.szRT rfl⟩) SX ?_
  try simp only [Act.put, List.setIfInBounds_toArray, List.set_cons_zero, List.set_cons_succ]
  refine takeH 60 (i := 17) (v := ?_) rfl rfl (by kernel_rfl) (by kernel_rfl) (by kernel_rfl) (fun _ _ _ h => h) (Or.inl ⟨by kernel_rfl, ?_⟩) SX ?_
  rotate_left
  · intro w' hSw; skip; go_simp; try with_reducible rfl
  try simp only [Act.put, List.setIfInBounds_toArray, List.set_cons_zero, List.set_cons_succ]
  refine takeH 62 (i := 19) (v := .agg #[.slice la n c, .slice ba m d]) rfl rfl (by kernel_rfl) (by kernel_rfl) (by kernel_rfl) (fun _ _ _ h => h) (Or.inl ⟨by kernel_rfl, fun w' hSw => ex_loadRN _ 24 _ rfl w.heap.size (by kernel_rfl) w' _ (kept hSw P.out.2.1) _ Try.underlying24 rfl 2 Try.szRT rfl⟩) SX ?_
  try simp only [Act.put, List.setIfInBounds_toArray, List.set_cons_zero, List.set_cons_succ]
  refine takeH 63 (i := 20) (v := ?_) rfl rfl (by kernel_rfl) (by kernel_rfl) (by kernel_rfl) (fun _ _ _ h => h) (Or.inl ⟨by kernel_rfl, ?_⟩) SX ?_
  rotate_left
  · intro w' hSw; skip; go_simp; try with_reducible rfl
  try simp only [Act.put, List.setIfInBounds_toArray, List.set_cons_zero, List.set_cons_succ]
  refine wpAnyH_ready (rs := [18]) (by kernel_rfl) (by simp) ?_
  refine consH _ rfl (hopCd 61 rfl (by kernel_rfl) rfl (by kernel_rfl) (Calls.mono (HC1.out _ SX) ?_)) AllReadyH.nil
  rintro e V3 ⟨rfl, q3⟩
  have SX : Below W.heap.size W V3 := to_call SX q3
  refine ⟨_, rfl, SX, ?_⟩
  try simp only [Act.put, List.setIfInBounds_toArray, List.set_cons_zero, List.set_cons_succ]
  refine wpAnyH_ready (rs := [21]) (by kernel_rfl) (by simp) ?_
  refine consH _ rfl (hopCd 64 rfl (by kernel_rfl) rfl (by kernel_rfl) (Calls.mono (HC2.out _ SX) ?_)) AllReadyH.nil
  rintro e V4 ⟨rfl, q4⟩
  have SX : Below W.heap.size W V4 := to_call SX q4
  refine ⟨_, rfl, SX, ?_⟩
  try simp only [Act.put, List.setIfInBounds_toArray, List.set_cons_zero, List.set_cons_succ]
  refine takeH 65 (i := 22) (v := ?_) rfl rfl (by kernel_rfl) (by kernel_rfl) (by kernel_rfl) (fun _ _ _ h => h) (Or.inl ⟨by kernel_rfl, ?_⟩) SX ?_
  rotate_left
  · intro w' hSw; skip; go_simp; try with_reducible rfl
  try simp only [Act.put, List.setIfInBounds_toArray, List.set_cons_zero, List.set_cons_succ]
  refine takeH 66 (i := 23) (v := ?_) rfl rfl (by kernel_rfl) (by kernel_rfl) (by kernel_rfl) (fun _ _ _ h => h) (Or.inl ⟨by kernel_rfl, ?_⟩) SX ?_
  rotate_left
  · intro w' hSw; skip; go_simp; try with_reducible rfl
  try simp only [Act.put, List.setIfInBounds_toArray, List.set_cons_zero, List.set_cons_succ]
  refine wpAnyH_done (by kernel_rfl) ?_ _
  refine NoPanic.normal ?_
  try simp only [Act.put, List.setIfInBounds_toArray, List.set_cons_zero, List.set_cons_succ]
  go_upto_region 5 with fail
  have P' : Hid (Below w.heap.size w V4 ∧ V4.heap[w.heap.size]? = some (.cells #[.slice la n c, .slice ba m d] 24)) := ⟨to_call P.out.1 SX, kept SX P.out.2.1⟩
  have P := P'
  clear P' HS1 HS2 HC1 HC2 SX q1 q2 q3 q4 g1 g2
  obtain ⟨wv, hwv⟩ : ∃ x, WyV ls bs n = x := ⟨_, rfl⟩
  obtain ⟨we, hwe⟩ : ∃ x, WyE ls bs n = x := ⟨_, rfl⟩
  go_wp2_with (first | (refine wpList_load_row (by rfl) 24 _ (by rfl) w.heap.size #[.slice la n c, .slice ba m d] (by rfl) P.out.2 _ Try.underlying24 rfl 2 Try.szRT (by rfl) ?_))
  refine Calls.mono (hwv ▸ hwe ▸ way_any la ba n m c d ls bs _ (HL.out _ P.out.1) (HA.out _ P.out.1)) ?_
  rintro e' w5 ⟨rfl, bb5⟩
  have P' : Hid (Below w.heap.size w w5 ∧ w5.heap[w.heap.size]? = some (.cells #[.slice la n c, .slice ba m d] 24)) := ⟨to_call P.out.1 bb5, kept bb5 P.out.2⟩
  have P := P'
  clear P' bb5
  go_wp2_with (first | (refine wpList_load_row (by rfl) 24 _ (by rfl) w.heap.size #[.slice la n c, .slice ba m d] (by rfl) P.out.2 _ Try.underlying24 rfl 2 Try.szRT (by rfl) ?_))
  refine Calls.mono (hwv ▸ hwe ▸ refWay_any la ba n m c d ls bs _ (HL.out _ P.out.1) (HA.out _ P.out.1)) ?_
  rintro e' w6 ⟨rfl, bb6⟩
  have P' : Hid (Below w.heap.size w w6 ∧ w6.heap[w.heap.size]? = some (.cells #[.slice la n c, .slice ba m d] 24)) := ⟨to_call P.out.1 bb6, kept bb6 P.out.2⟩
  have P := P'
  clear P' bb6 hwv hwe
  go_wp2_with (first | (refine wpList_load_row (by rfl) 24 _ (by rfl) w.heap.size #[.slice la n c, .slice ba m d] (by rfl) P.out.2 _ Try.underlying24 rfl 2 Try.szRT (by rfl) ?_))
  refine Calls.mono (ends_any la ba so n m c d sn sc ls bs ss DI _ (HL.out _ P.out.1) (HA.out _ P.out.1) (HS.out _ P.out.1)) ?_
  rintro e' w7 ⟨⟨v7, rfl, h71, h72⟩, bb7⟩
  have P' : Hid (Below w.heap.size w w7 ∧ w7.heap[w.heap.size]? = some (.cells #[.slice la n c, .slice ba m d] 24)) := ⟨to_call P.out.1 bb7, kept bb7 P.out.2⟩
  have P := P'
  obtain ⟨ee, hee⟩ : ∃ x, EnE ls bs ss n sn DI = x := ⟨_, rfl⟩
  have HEE : Hid (EnE ls bs ss n sn DI = ee) := hee
  have H7 : Hid (∃ b7 N7, v7 = .slice b7 N7 N7 ∧ RdIs w7 b7 N7 N7 (if ee = 0 then enL (ls.zip bs) ss DI.toNat else [])) := by
    by_cases h0 : ee = 0
    · obtain ⟨B, rfl, -, hB⟩ := h71 (hee.trans h0)
      have hl := (zip_low (EnE_zero (hee.trans h0)).1).1
      have hn := regB_len (EnE_zero (hee.trans h0)).1
      refine ⟨_, n, rfl, ?_⟩
      rw [if_pos h0]
      have h := inC_rd hB (Nat.le_trans (m := 256) (by rw [enL_len, hl]; omega) (by decide))
      rw [enL_len, hl] at h
      exact h
    · obtain rfl := h72 (by rw [hee]; exact h0)
      exact ⟨none, 0, rfl, by rw [if_neg h0]; exact ⟨rfl, Nat.zero_le _, .inl rfl⟩⟩
  rw [hee]
  obtain ⟨b7, N7, rfl, R7⟩ := H7.out
  have R7 : Hid (RdIs w7 b7 N7 N7 (if ee = 0 then enL (ls.zip bs) ss DI.toNat else [])) := R7
  clear P' bb7 h71 h72 hee H7
  go_wp2_with (first | (refine wpList_load_row (by rfl) 24 _ (by rfl) w.heap.size #[.slice la n c, .slice ba m d] (by rfl) P.out.2 _ Try.underlying24 rfl 2 Try.szRT (by rfl) ?_))
  refine Calls.mono (refEnds_any la ba so n m c d sn sc ls bs ss DI _ (HL.out _ P.out.1) (HA.out _ P.out.1) (HS.out _ P.out.1)) ?_
  rintro e' w8 ⟨⟨v8, rfl, h81, h82⟩, bb8⟩
  have P' : Hid (Below w.heap.size w w8 ∧ w8.heap[w.heap.size]? = some (.cells #[.slice la n c, .slice ba m d] 24)) := ⟨to_call P.out.1 bb8, kept bb8 P.out.2⟩
  have P := P'
  have H8 : Hid (∃ b8 N8 c8, v8 = .slice b8 N8 c8 ∧ RdIs w8 b8 N8 c8 (if ee = 0 then enL (ls.zip bs) ss DI.toNat else [])) := by
    by_cases h0 : ee = 0
    · obtain ⟨ao, cc, rfl, h9⟩ := (h81 (HEE.out.trans h0)).rd
      exact ⟨ao, _, cc, rfl, by rw [if_pos h0]; exact h9⟩
    · obtain rfl := h82 (by rw [HEE.out]; exact h0)
      exact ⟨none, 0, 0, rfl, by rw [if_neg h0]; exact ⟨rfl, Nat.zero_le _, .inl rfl⟩⟩
  rw [HEE.out]
  obtain ⟨b8, N8, c8, rfl, R8⟩ := H8.out
  have HSI : Hid (Calls Try.prog 21 #[.slice b7 N7 N7, .slice b8 N8 c8] w8 fun e w' => e = .returned (.bool true) ∧ Below w8.heap.size w8 w') := by
    have h := sameIntsM_any b7 b8 N7 N8 N7 c8 _ _ w8 (R7.out.later bb8) R8
    rw [decide_eq_true rfl] at h
    exact h
  have g1 : (wv != wv) = false := by simp
  have g2 : (we != we) = false := by simp
  have g3 : (ee != ee) = false := by simp
  clear P' bb8 h81 h82 H8 R7 R8 HEE
  go_wp2_with fail
  refine Calls.mono HSI.out ?_
  rintro e' W ⟨rfl, bb9⟩
  have P' : Hid (Below w.heap.size w W ∧ W.heap[w.heap.size]? = some (.cells #[.slice la n c, .slice ba m d] 24)) := ⟨to_call P.out.1 bb9, kept bb9 P.out.2⟩
  have P := P'
  obtain ⟨wi, hwi⟩ : ∃ x, WiV ls bs es n en PI = x := ⟨_, rfl⟩
  have HW1 : Hid (∀ V, Below W.heap.size W V → Calls Try.prog 22 #[.agg #[.slice la n c, .slice ba m d], .slice eo en ec, .int .i64 PI] V fun e w' => e = .returned (.bool wi) ∧ Below V.heap.size V w') := fun V hb => hwi ▸ within_any la ba eo n m c d en ec ls bs es PI V (HL.out _ (to_call P.out.1 hb)) (HA.out _ (to_call P.out.1 hb)) (HE.out _ (to_call P.out.1 hb))
  have HW2 : Hid (∀ V, Below W.heap.size W V → Calls Try.prog 23 #[.agg #[.slice la n c, .slice ba m d], .slice eo en ec, .int .i64 PI] V fun e w' => e = .returned (.bool wi) ∧ Below V.heap.size V w') := fun V hb => hwi ▸ refWithin_any la ba eo n m c d en ec ls bs es PI V (HL.out _ (to_call P.out.1 hb)) (HA.out _ (to_call P.out.1 hb)) (HE.out _ (to_call P.out.1 hb)) HEB.out
  have g4 : (wi == wi) = true := by simp
  clear P' bb9 HSI g1 g2 g3 hwi
  go_upto_region 11 with fail
  refine wp_region_noPanic ?_
  have SX : Below W.heap.size W W.drew := (Below.refl _ _).drew
  refine wp_region_held_drew (S := (fun V => Below W.heap.size W V)) (by kernel_rfl) SX (fun _ => ?_)
  refine takeH 110 (i := 0) (v := .agg #[.slice la n c, .slice ba m d]) rfl rfl (by kernel_rfl) (by kernel_rfl) (by kernel_rfl) (fun _ _ _ h => h) (Or.inl ⟨by kernel_rfl, fun w' hSw => ex_loadRN _ 24 _ rfl w.heap.size (by kernel_rfl) w' _ (kept hSw P.out.2) _ Try.underlying24 rfl 2 Try.szRT rfl⟩) SX ?_
  try simp only [Act.put, List.setIfInBounds_toArray, List.set_cons_zero, List.set_cons_succ]
  refine takeH 111 (i := 1) (v := ?_) rfl rfl (by kernel_rfl) (by kernel_rfl) (by kernel_rfl) (fun _ _ _ h => h) (Or.inl ⟨by kernel_rfl, ?_⟩) SX ?_
  rotate_left
  · intro w' hSw; skip; go_simp; try with_reducible rfl
  try simp only [Act.put, List.setIfInBounds_toArray, List.set_cons_zero, List.set_cons_succ]
  refine takeH 112 (i := 2) (v := ?_) rfl rfl (by kernel_rfl) (by kernel_rfl) (by kernel_rfl) (fun _ _ _ h => h) (Or.inl ⟨by kernel_rfl, ?_⟩) SX ?_
  rotate_left
  · intro w' hSw; skip; go_simp; try with_reducible rfl
  try simp only [Act.put, List.setIfInBounds_toArray, List.set_cons_zero, List.set_cons_succ]
  refine takeH 114 (i := 4) (v := .agg #[.slice la n c, .slice ba m d]) rfl rfl (by kernel_rfl) (by kernel_rfl) (by kernel_rfl) (fun _ _ _ h => h) (Or.inl ⟨by kernel_rfl, fun w' hSw => ex_loadRN _ 24 _ rfl w.heap.size (by kernel_rfl) w' _ (kept hSw P.out.2) _ Try.underlying24 rfl 2 Try.szRT rfl⟩) SX ?_
  try simp only [Act.put, List.setIfInBounds_toArray, List.set_cons_zero, List.set_cons_succ]
  refine takeH 115 (i := 5) (v := ?_) rfl rfl (by kernel_rfl) (by kernel_rfl) (by kernel_rfl) (fun _ _ _ h => h) (Or.inl ⟨by kernel_rfl, ?_⟩) SX ?_
  rotate_left
  · intro w' hSw; skip; go_simp; try with_reducible rfl
  try simp only [Act.put, List.setIfInBounds_toArray, List.set_cons_zero, List.set_cons_succ]
  refine takeH 116 (i := 6) (v := ?_) rfl rfl (by kernel_rfl) (by kernel_rfl) (by kernel_rfl) (fun _ _ _ h => h) (Or.inl ⟨by kernel_rfl, ?_⟩) SX ?_
  rotate_left
  · intro w' hSw; skip; go_simp; try with_reducible rfl
  try simp only [Act.put, List.setIfInBounds_toArray, List.set_cons_zero, List.set_cons_succ]
  refine wpAnyH_ready (rs := [3]) (by kernel_rfl) (by simp) ?_
  refine consH _ rfl (hopCd 113 rfl (by kernel_rfl) rfl (by kernel_rfl) (Calls.mono (HW1.out _ SX) ?_)) AllReadyH.nil
  rintro e V1 ⟨rfl, q1⟩
  have SX : Below W.heap.size W V1 := to_call SX q1
  refine ⟨_, rfl, SX, ?_⟩
  try simp only [Act.put, List.setIfInBounds_toArray, List.set_cons_zero, List.set_cons_succ]
  refine wpAnyH_ready (rs := [7]) (by kernel_rfl) (by simp) ?_
  refine consH _ rfl (hopCd 117 rfl (by kernel_rfl) rfl (by kernel_rfl) (Calls.mono (HW2.out _ SX) ?_)) AllReadyH.nil
  rintro e V2 ⟨rfl, q2⟩
  have SX : Below W.heap.size W V2 := to_call SX q2
  refine ⟨_, rfl, SX, ?_⟩
  try simp only [Act.put, List.setIfInBounds_toArray, List.set_cons_zero, List.set_cons_succ]
  refine takeH 118 (i := 8) (v := ?_) rfl rfl (by kernel_rfl) (by kernel_rfl) (by kernel_rfl) (fun _ _ _ h => h) (Or.inl ⟨by kernel_rfl, ?_⟩) SX ?_
  rotate_left
  · intro w' hSw; skip; go_simp; try with_reducible rfl
  try simp only [Act.put, List.setIfInBounds_toArray, List.set_cons_zero, List.set_cons_succ]
  refine takeH 119 (i := 9) (v := ?_) rfl rfl (by kernel_rfl) (by kernel_rfl) (by kernel_rfl) (fun _ _ _ h => h) (Or.inl ⟨by kernel_rfl, ?_⟩) SX ?_
  rotate_left
  · intro w' hSw; skip; go_simp; try with_reducible rfl
  try simp only [Act.put, List.setIfInBounds_toArray, List.set_cons_zero, List.set_cons_succ]
  refine wpAnyH_ready (rs := [10]) (by kernel_rfl) (by simp) ?_
  refine consH _ rfl (hopCd 120 rfl (by kernel_rfl) rfl (by kernel_rfl) (Calls.mono (awake_any _) ?_)) AllReadyH.nil
  rintro e V3 ⟨rfl, q3⟩
  have SX : Below W.heap.size W V3 := to_call SX q3
  refine ⟨_, rfl, SX, ?_⟩
  try simp only [Act.put, List.setIfInBounds_toArray, List.set_cons_zero, List.set_cons_succ]
  refine takeH 121 (i := 11) (v := ?_) rfl rfl (by kernel_rfl) (by kernel_rfl) (by kernel_rfl) (fun _ _ _ h => h) (Or.inl ⟨by kernel_rfl, ?_⟩) SX ?_
  rotate_left
  · intro w' hSw; skip; go_simp; try with_reducible rfl
  try simp only [Act.put, List.setIfInBounds_toArray, List.set_cons_zero, List.set_cons_succ]
  refine takeH 14 (i := 12) (v := ?_) rfl rfl (by kernel_rfl) (by kernel_rfl) (by kernel_rfl) (fun _ _ _ h => h) (Or.inl ⟨by kernel_rfl, ?_⟩) SX ?_
  rotate_left
  · intro w' hSw; skip; go_simp; try with_reducible rfl
  try simp only [Act.put, List.setIfInBounds_toArray, List.set_cons_zero, List.set_cons_succ]
  refine wpAnyH_done (by kernel_rfl) ?_ _
  refine NoPanic.normal ?_
  try simp only [Act.put, List.setIfInBounds_toArray, List.set_cons_zero, List.set_cons_succ]
  go_wp2_with fail
  go_ret
  exact ⟨rfl, to_call P.out.1 SX⟩
end Go.Proofs.Ytaadhjdbieoieaa
