import Derived.Test.YtoehhnildocihaaSPg
namespace Go.Proofs.Ytoehhnildocihaa
open Go.RowKit
set_option linter.unusedVariables false
set_option linter.unusedSimpArgs false
/-- What Halve tells. -/
def HvE (ls bs : List Int) (n : Nat) (s : Int) : Int := if regB ls bs n = true then (if s < 0 ∨ (n : Int) ≤ s ∨ ls[s.toNat]?.getD 0 = 8 then 1 else 0) else 180
structure HvR (W : World) (base n : Nat) (ls bs : List Int) (s : Nat) (v1 v2 : Value) : Prop where
  has : ∃ B1 B2 C1 C2, v1 = .agg #[.slice (some ⟨B1, 0, none⟩) n n, .slice (some ⟨B2, 0, none⟩) n n] ∧ v2 = .agg #[.slice (some ⟨C1, 0, none⟩) n n, .slice (some ⟨C2, 0, none⟩) n n] ∧
    RgO W base B1 B2 (ls.set s (ls[s]?.getD 0 + 1)) (bs.set s (2 * bs[s]?.getD 0)) ∧ RgO W base C1 C2 (ls.set s (ls[s]?.getD 0 + 1)) (bs.set s (2 * bs[s]?.getD 0 + 1)) ∧ B1 < C1 ∧ B1 < C2 ∧ B2 < C1 ∧ B2 < C2
theorem zip_map1 : ∀ {ls bs : List Int}, ls.length = bs.length → (ls.zip bs).map (·.1) = ls
  | [], [], _ => rfl
  | x :: ls, y :: bs, h => by
    have := zip_map1 (ls := ls) (bs := bs) (by simpa using h)
    simp only [List.zip_cons_cons, List.map_cons, this]
theorem zip_map2 : ∀ {ls bs : List Int}, ls.length = bs.length → (ls.zip bs).map (·.2) = bs
  | [], [], _ => rfl
  | x :: ls, y :: bs, h => by
    have := zip_map2 (ls := ls) (bs := bs) (by simpa using h)
    simp only [List.zip_cons_cons, List.map_cons, this]
theorem regB_len {ls bs : List Int} {k : Int} (h : regB ls bs k = true) : k ≤ 256 ∧ (ls.length : Int) = k ∧ (bs.length : Int) = k := by
  unfold regB at h
  simp only [Bool.and_eq_true, decide_eq_true_eq] at h
  exact ⟨h.1.1.1, h.1.1.2, h.1.2⟩
theorem regB_at {ls bs : List Int} {k : Int} (h : regB ls bs k = true) (j : Nat) (hj : j < ls.length) : okP (ls[j]?.getD 0) (bs[j]?.getD 0) = true := by
  have hl := regB_len h
  unfold regB at h
  simp only [Bool.and_eq_true, decide_eq_true_eq, List.all_eq_true] at h
  have hb : j < bs.length := by omega
  have := h.2 ((ls.zip bs)[j]'(by rw [List.length_zip]; omega)) (List.getElem_mem _)
  rw [List.getElem_zip] at this
  rw [List.getElem?_eq_getElem hj, List.getElem?_eq_getElem hb]
  exact this
theorem ex_loadRN {P : Program} {ρ : Operand → Value} (o : Oper) (ty : TypeId) (p : Operand) (ho : o.op = .load ty p) (B : Nat) (hp : ρ p = .pointer (some ⟨B, 0, none⟩)) (w : World) (c : Array Value) (h : w.heap[B]? = some (.cells c ty)) (d : TypeDesc) (hu : P.underlying ty = some d) (hd : d.isRow = true) (n : Nat) (hi : (P.info? ty).map (·.size) = some n) (hn : c.size = n) : (execOp ρ o).run P w = .ok (.value (.agg c)) w := by
  have hr : w.rangeAt B 0 c.toList := by
    have := World.rangeAt_of_block h 0 c.size
    simpa using this
  have hl := run_loadVar_mid (P := P) w B 0 ty c.toList d hr hu hd (by rw [hi]; simp [hn])
  have hl2 : (loadVar ty ⟨B, 0, none⟩).run P w = .ok (.agg c) w := by simpa using hl
  unfold execOp
  simp only [ho, hp, Instr.loadAt, Instr.sureAddr, Sem.run_bind, Sem.run_pure, Result.andThen_ok, hl2]
set_option maxRecDepth 100000 in
set_option maxHeartbeats 4000000 in
/-- Halve. -/
theorem halve_any (la ba : Option Addr) (n m c d : Nat) (ls bs : List Int) (s : Int) (w : World) (hl : RdIs w la n c ls) (ha : RdIs w ba m d bs) :
    Calls Try.prog 20 #[.agg #[.slice la n c, .slice ba m d], .int .i64 s] w fun e w' => (∃ v1 v2, e = .returned (.tuple #[v1, v2, .int .i64 (HvE ls bs n s)]) ∧ (HvE ls bs n s = 0 → HvR w' w.heap.size n ls bs s.toNat v1 v2) ∧ (HvE ls bs n s ≠ 0 → v1 = .agg #[.slice none 0 0, .slice none 0 0] ∧ v2 = .agg #[.slice none 0 0, .slice none 0 0])) ∧ Below w.heap.size w w' := by
  have X0 : Below w.heap.size w (((w.alloc (.cells #[.slice la n c, .slice ba m d] 30)).alloc (.cells #[.slice none 0 0, .slice none 0 0] 30)).alloc (.cells #[.slice none 0 0, .slice none 0 0] 30)) := below_al (below_al (below_al (Below.refl _ w) _) _) _
  have Y0 : (((w.alloc (.cells #[.slice la n c, .slice ba m d] 30)).alloc (.cells #[.slice none 0 0, .slice none 0 0] 30)).alloc (.cells #[.slice none 0 0, .slice none 0 0] 30)).heap[w.heap.size]? = some (.cells #[.slice la n c, .slice ba m d] 30) := alloc_kept (alloc_kept (heap_alloc_new w _) _) _
  have Y1 : (((w.alloc (.cells #[.slice la n c, .slice ba m d] 30)).alloc (.cells #[.slice none 0 0, .slice none 0 0] 30)).alloc (.cells #[.slice none 0 0, .slice none 0 0] 30)).heap[w.heap.size + 1]? = some (.cells #[.slice none 0 0, .slice none 0 0] 30) := alloc_kept (alloc_at _ _ _ (by simp)) _
  have Y2 : (((w.alloc (.cells #[.slice la n c, .slice ba m d] 30)).alloc (.cells #[.slice none 0 0, .slice none 0 0] 30)).alloc (.cells #[.slice none 0 0, .slice none 0 0] 30)).heap[w.heap.size + 1 + 1]? = some (.cells #[.slice none 0 0, .slice none 0 0] 30) := alloc_at _ _ _ (by simp)
  obtain ⟨g, hg⟩ : ∃ g, regB ls bs n = g := ⟨_, rfl⟩
  have HG : Hid (regB ls bs n = g) := hg
  have HN : Hid (ls.length = n ∧ bs.length = m) := ⟨hl.length, ha.length⟩
  obtain ⟨zs, hzs⟩ : ∃ zs, ls.zip bs = zs := ⟨_, rfl⟩
  have HZ : Hid (ls.zip bs = zs) := hzs
  have HP : Hid (∀ W, Below w.heap.size w W → Calls Try.prog 12 #[.agg #[.slice la n c, .slice ba m d], .int .i64 n] W fun e w' => (∃ v, e = .returned (.tuple #[v, .bool g]) ∧ Hid ((g = true → v = .slice (some ⟨W.heap.size + 1, 0, none⟩) n n ∧ w'.heap[W.heap.size + 1]? = some (.cells (ptC zs) 69)) ∧ (g = false → v = .slice none 0 0))) ∧ Below W.heap.size W w') := by
    intro W hb
    rw [← hg, ← hzs]
    exact partsOf_any la ba n m c d ls bs n W (hl.later hb) (ha.later hb)
  clear hl ha hg hzs
  go_enter Try.func20, Try.ntmps20
  go_upto_region 1 with fail
  obtain ⟨X, hX⟩ : ∃ X, (((w.alloc (.cells #[.slice la n c, .slice ba m d] 30)).alloc (.cells #[.slice none 0 0, .slice none 0 0] 30)).alloc (.cells #[.slice none 0 0, .slice none 0 0] 30)) = X := ⟨_, rfl⟩
  rw [hX] at X0 Y0 Y1 Y2 ⊢
  have k0 := cellAtJ Y0 0 _ rfl
  clear hX
  go_upto_region 2 with (first | (refine wpList_load_row (by rfl) 30 _ (by rfl) w.heap.size #[.slice la n c, .slice ba m d] (by rfl) Y0 _ Try.underlying30 rfl 2 Try.szRT (by rfl) ?_) | (go_at_call 12; refine Calls.mono (HP.out _ X0) ?_; rintro e' w1 ⟨⟨v, rfl, HV⟩, bb1⟩))
  obtain ⟨hv1, hv2⟩ := HV.out
  obtain ⟨PB, hPB⟩ : ∃ PB, X.heap.size + 1 = PB := ⟨_, rfl⟩
  rw [hPB] at hv1
  have HPB : Hid (w.heap.size + 1 + 1 < PB) := by unfold Hid; have := blk_lt Y2; omega
  have Q1 : Hid (Below w.heap.size w w1 ∧ w1.heap[w.heap.size + 1]? = some (.cells #[.slice none 0 0, .slice none 0 0] 30) ∧ w1.heap[w.heap.size + 1 + 1]? = some (.cells #[.slice none 0 0, .slice none 0 0] 30)) := ⟨to_call X0 bb1, kept bb1 Y1, kept bb1 Y2⟩
  clear X0 Y0 Y1 Y2 hPB bb1 HP HV k0
  cases g with
  | false =>
    have HE : Hid (HvE ls bs n s = 180) := by unfold Hid HvE; rw [HG.out]; rfl
    obtain rfl := hv2 rfl
    clear hv1 hv2 HG
    go_wp2_with (first | (refine wpList_store_row (by rfl) 30 _ _ (by rfl) w w.heap.size (w.heap.size + 1) #[.slice none 0 0, .slice none 0 0] _ (by rfl) (by rfl) Q1.out.2.1 Q1.out.1 (by omega) 2 Try.szRT rfl rfl (one_rg _ _ _ _ _ _) ?_; intro W5 e5 b5 s5 o5) | (refine wpList_store_row (by rfl) 30 _ _ (by rfl) w w.heap.size (w.heap.size + 1 + 1) #[.slice none 0 0, .slice none 0 0] _ (by rfl) (by rfl) ((o5 (w.heap.size + 1 + 1) (by omega)).trans Q1.out.2.2) b5 (by omega) 2 Try.szRT rfl rfl (one_rg _ _ _ _ _ _) ?_; intro W6 e6 b6 s6 o6))
    refine bodyPost_ret (res_cct _ _ _ 30 _ 2 4 5 6 (by kernel_rfl) (w.heap.size + 1) (w.heap.size + 1 + 1) _ _ _ rfl rfl rfl Try.underlying30 rfl Try.szRT rfl rfl ((o6 _ (by omega)).trans e5) e6) rfl ?_
    exact ⟨⟨_, _, by rw [HE.out]; rfl, fun h => by rw [HE.out] at h; omega, fun _ => ⟨rfl, rfl⟩⟩, b6⟩
  | true =>
    obtain ⟨rfl, hvp⟩ := hv1 rfl
    clear hv1 hv2
    obtain ⟨hn', hln, hbn⟩ := regB_len HG.out
    have hn : n ≤ 256 := by omega
    have hmn : m = n := by have := HN.out.2; omega
    have hzl : zs.length = n := by rw [← HZ.out, List.length_zip, HN.out.1, HN.out.2]; omega
    clear hn' hln hbn
    have HVP : Hid (w1.heap[PB]? = some (.cells (ptC zs) 69)) := hvp
    clear hvp
    by_cases h1 : s < 0
    · have d1 : decide (s < 0) = true := decide_eq_true h1
      have HE : Hid (HvE ls bs n s = 1) := by unfold Hid HvE; rw [HG.out, if_pos rfl, if_pos (.inl h1)]
      go_wp2_with (first | (refine wpList_store_row (by rfl) 30 _ _ (by rfl) w w.heap.size (w.heap.size + 1) #[.slice none 0 0, .slice none 0 0] _ (by rfl) (by rfl) Q1.out.2.1 Q1.out.1 (by omega) 2 Try.szRT rfl rfl (one_rg _ _ _ _ _ _) ?_; intro W5 e5 b5 s5 o5) | (refine wpList_store_row (by rfl) 30 _ _ (by rfl) w w.heap.size (w.heap.size + 1 + 1) #[.slice none 0 0, .slice none 0 0] _ (by rfl) (by rfl) ((o5 (w.heap.size + 1 + 1) (by omega)).trans Q1.out.2.2) b5 (by omega) 2 Try.szRT rfl rfl (one_rg _ _ _ _ _ _) ?_; intro W6 e6 b6 s6 o6))
      refine bodyPost_ret (res_cct _ _ _ 30 _ 2 4 5 6 (by kernel_rfl) (w.heap.size + 1) (w.heap.size + 1 + 1) _ _ _ rfl rfl rfl Try.underlying30 rfl Try.szRT rfl rfl ((o6 _ (by omega)).trans e5) e6) rfl ?_
      exact ⟨⟨_, _, by rw [HE.out]; rfl, fun h => by rw [HE.out] at h; omega, fun _ => ⟨rfl, rfl⟩⟩, b6⟩
    · have d1 : decide (s < 0) = false := decide_eq_false h1
      by_cases h2 : (n : Int) ≤ s
      · have d2 : decide (s ≥ (n : Int)) = true := decide_eq_true h2
        have HE : Hid (HvE ls bs n s = 1) := by unfold Hid HvE; rw [HG.out, if_pos rfl, if_pos (.inr (.inl h2))]
        go_wp2_with (first | (refine wpList_store_row (by rfl) 30 _ _ (by rfl) w w.heap.size (w.heap.size + 1) #[.slice none 0 0, .slice none 0 0] _ (by rfl) (by rfl) Q1.out.2.1 Q1.out.1 (by omega) 2 Try.szRT rfl rfl (one_rg _ _ _ _ _ _) ?_; intro W5 e5 b5 s5 o5) | (refine wpList_store_row (by rfl) 30 _ _ (by rfl) w w.heap.size (w.heap.size + 1 + 1) #[.slice none 0 0, .slice none 0 0] _ (by rfl) (by rfl) ((o5 (w.heap.size + 1 + 1) (by omega)).trans Q1.out.2.2) b5 (by omega) 2 Try.szRT rfl rfl (one_rg _ _ _ _ _ _) ?_; intro W6 e6 b6 s6 o6))
        refine bodyPost_ret (res_cct _ _ _ 30 _ 2 4 5 6 (by kernel_rfl) (w.heap.size + 1) (w.heap.size + 1 + 1) _ _ _ rfl rfl rfl Try.underlying30 rfl Try.szRT rfl rfl ((o6 _ (by omega)).trans e5) e6) rfl ?_
        exact ⟨⟨_, _, by rw [HE.out]; rfl, fun h => by rw [HE.out] at h; omega, fun _ => ⟨rfl, rfl⟩⟩, b6⟩
      · obtain ⟨k, rfl⟩ : ∃ k : Nat, s = k := ⟨s.toNat, by omega⟩
        have hk : k < n := by omega
        have hk' : (k : Int) < (n : Int) := by omega
        have d2 : decide ((k : Int) ≥ (n : Int)) = false := decide_eq_false (by omega)
        have d3 : decide (n ≤ k) = false := decide_eq_false (by omega)
        obtain ⟨l, hl⟩ : ∃ l, ls[k]?.getD 0 = l := ⟨_, rfl⟩
        obtain ⟨a, ha⟩ : ∃ a, bs[k]?.getD 0 = a := ⟨_, rfl⟩
        have hok := regB_at HG.out k (by rw [HN.out.1]; exact hk)
        rw [hl, ha, okP_iff] at hok
        obtain ⟨o1, o2, o3, o4⟩ := hok
        have o5 : a ≤ 256 := by have := pow8 (n := l.toNat) (by omega); omega
        have hzk : zs[k]? = some (l, a) := by
          rw [← HZ.out, List.getElem?_eq_getElem (by rw [List.length_zip, HN.out.1, HN.out.2]; omega), List.getElem_zip]
          rw [List.getElem?_eq_getElem (by rw [HN.out.1]; exact hk)] at hl
          rw [List.getElem?_eq_getElem (by rw [HN.out.2]; omega)] at ha
          rw [← hl, ← ha]; rfl
        have HLA : Hid (ls[k]?.getD 0 = l ∧ bs[k]?.getD 0 = a) := ⟨hl, ha⟩
        have hz := ptC_at hzk
        have g0 := cellAtJ HVP.out _ _ hz.1
        have g1 := cellAtJ HVP.out _ _ hz.2
        clear o4 hz hzk hl ha h1 h2
        by_cases h8 : l = 8
        · have d8 : (l == 8) = true := by simpa using h8
          have HE : Hid (HvE ls bs n k = 1) := by unfold Hid HvE; rw [HG.out, if_pos rfl, if_pos (.inr (.inr (by rw [Int.toNat_natCast, HLA.out.1]; exact h8)))]
          clear h8
          go_wp2_with (first | (refine wpList_store_row (by rfl) 30 _ _ (by rfl) w w.heap.size (w.heap.size + 1) #[.slice none 0 0, .slice none 0 0] _ (by rfl) (by rfl) Q1.out.2.1 Q1.out.1 (by omega) 2 Try.szRT rfl rfl (one_rg _ _ _ _ _ _) ?_; intro W5 e5 b5 s5 o5) | (refine wpList_store_row (by rfl) 30 _ _ (by rfl) w w.heap.size (w.heap.size + 1 + 1) #[.slice none 0 0, .slice none 0 0] _ (by rfl) (by rfl) ((o5 (w.heap.size + 1 + 1) (by omega)).trans Q1.out.2.2) b5 (by omega) 2 Try.szRT rfl rfl (one_rg _ _ _ _ _ _) ?_; intro W6 e6 b6 s6 o6))
          refine bodyPost_ret (res_cct _ _ _ 30 _ 2 4 5 6 (by kernel_rfl) (w.heap.size + 1) (w.heap.size + 1 + 1) _ _ _ rfl rfl rfl Try.underlying30 rfl Try.szRT rfl rfl ((o6 _ (by omega)).trans e5) e6) rfl ?_
          exact ⟨⟨_, _, by rw [HE.out]; rfl, fun h => by rw [HE.out] at h; omega, fun _ => ⟨rfl, rfl⟩⟩, b6⟩
        · have d8 : (l == 8) = false := by simpa using h8
          have HE : Hid (HvE ls bs n k = 0) := by unfold Hid HvE; rw [HG.out, if_pos rfl, if_neg (by rw [Int.toNat_natCast, HLA.out.1]; omega)]
          clear h8
          go_upto_region 7 with (first | (go_at_call 42; refine Calls.mono (halves_any l a _ o1 o2 o3 o5) ?_; rintro e' w2 ⟨rfl, bb2⟩))
          have A3 : Below w2.heap.size w2 ((w2.alloc (.cells #[.int .i64 (l + 1), .int .i64 (2 * a)] 69)).alloc (.cells #[.int .i64 (l + 1), .int .i64 (2 * a + 1)] 69)) := below_al (below_al (Below.refl _ w2) _) _
          have Z9 : ((w2.alloc (.cells #[.int .i64 (l + 1), .int .i64 (2 * a)] 69)).alloc (.cells #[.int .i64 (l + 1), .int .i64 (2 * a + 1)] 69)).heap[w2.heap.size]? = some (.cells #[.int .i64 (l + 1), .int .i64 (2 * a)] 69) := alloc_kept (heap_alloc_new w2 _) _
          have Z10 : ((w2.alloc (.cells #[.int .i64 (l + 1), .int .i64 (2 * a)] 69)).alloc (.cells #[.int .i64 (l + 1), .int .i64 (2 * a + 1)] 69)).heap[w2.heap.size + 1]? = some (.cells #[.int .i64 (l + 1), .int .i64 (2 * a + 1)] 69) := alloc_at _ _ _ (by simp)
          obtain ⟨V3, hV3⟩ : ∃ V3, ((w2.alloc (.cells #[.int .i64 (l + 1), .int .i64 (2 * a)] 69)).alloc (.cells #[.int .i64 (l + 1), .int .i64 (2 * a + 1)] 69)) = V3 := ⟨_, rfl⟩
          rw [hV3] at A3 Z9 Z10 ⊢
          have P3 : Hid (Below w.heap.size w V3 ∧ V3.heap[w.heap.size + 1]? = some (.cells #[.slice none 0 0, .slice none 0 0] 30) ∧ V3.heap[w.heap.size + 1 + 1]? = some (.cells #[.slice none 0 0, .slice none 0 0] 30) ∧ V3.heap[PB]? = some (.cells (ptC zs) 69)) := ⟨to_call (to_call Q1.out.1 bb2) A3, kept A3 (kept bb2 Q1.out.2.1), kept A3 (kept bb2 Q1.out.2.2), kept A3 (kept bb2 HVP.out)⟩
          obtain ⟨b9, hb9⟩ : ∃ b9, w2.heap.size = b9 := ⟨_, rfl⟩
          have hlt9 : PB < b9 := by rw [← hb9]; exact blk_lt (kept bb2 HVP.out)
          rw [hb9] at Z9 Z10 ⊢
          have HZ10 : Hid (V3.heap[b9 + 1]? = some (.cells #[.int .i64 (l + 1), .int .i64 (2 * a + 1)] 69)) := Z10
          have c0 := cellAtJ Z9 0 _ rfl
          have c1 := cellAtJ Z9 1 _ rfl
          have hpb := HPB.out
          clear hV3 hb9 A3 bb2 Q1 HVP Z9 Z10 g0 g1
          go_upto_region 8 with (first | (refine wpList_store_at (by rfl) 69 _ _ (by rfl) w w.heap.size PB (k * 2) (.agg #[.int .i64 (l + 1), .int .i64 (2 * a)]) _ (ptC (zs.set k (l + 1, 2 * a))) 69 (by rfl) (by rfl) P3.out.2.2.2 P3.out.1 (by omega) 2 Try.szPT rfl (by rw [ptC_size]; (try rw [List.length_set]); rw [hzl]; omega) (one_pt _ _) (by rw [ptC_set _ _ _ _ (by (try rw [List.length_set]); rw [hzl]; exact hk)]; try rw [List.set_set]) ?_; intro V4 e4 b4 s4 o4))
          have P4 : Hid (Below w.heap.size w V4 ∧ V4.heap[w.heap.size + 1]? = some (.cells #[.slice none 0 0, .slice none 0 0] 30) ∧ V4.heap[w.heap.size + 1 + 1]? = some (.cells #[.slice none 0 0, .slice none 0 0] 30) ∧ V4.heap[PB]? = some (.cells (ptC (zs.set k (l + 1, 2 * a))) 69) ∧ V4.heap[b9 + 1]? = some (.cells #[.int .i64 (l + 1), .int .i64 (2 * a + 1)] 69)) := ⟨b4, (o4 _ (by omega)).trans P3.out.2.1, (o4 _ (by omega)).trans P3.out.2.2.1, e4, (o4 _ (by omega)).trans HZ10.out⟩
          clear c0 c1 P3 HZ10 e4 b4 s4 o4
          go_upto_region 9 with (first | (go_at_call 41; refine Calls.mono (regionOf_any PB n (zs.set k (l + 1, 2 * a)) _ hn (by rw [List.length_set]; exact hzl) P4.out.2.2.2.1) ?_; rintro e' w5 ⟨⟨B1, B2, rfl, hr1⟩, bb5⟩))
          have A6 : Below w5.heap.size w5 (w5.alloc (.cells #[.slice (some ⟨B1, 0, none⟩) n n, .slice (some ⟨B2, 0, none⟩) n n] 30)) := (Below.refl _ w5).alloc (Nat.le_refl _) _
          have Z11 : (w5.alloc (.cells #[.slice (some ⟨B1, 0, none⟩) n n, .slice (some ⟨B2, 0, none⟩) n n] 30)).heap[w5.heap.size]? = some (.cells #[.slice (some ⟨B1, 0, none⟩) n n, .slice (some ⟨B2, 0, none⟩) n n] 30) := heap_alloc_new w5 _
          obtain ⟨V6, hV6⟩ : ∃ V6, (w5.alloc (.cells #[.slice (some ⟨B1, 0, none⟩) n n, .slice (some ⟨B2, 0, none⟩) n n] 30)) = V6 := ⟨_, rfl⟩
          obtain ⟨b11, hb11⟩ : ∃ b11, w5.heap.size = b11 := ⟨_, rfl⟩
          rw [hV6] at A6 Z11 ⊢
          have hr6 := hr1.later A6
          have hB1 : B1 < b11 := by rw [← hb11]; exact blk_lt hr1.l
          have hB2 : B2 < b11 := by rw [← hb11]; exact blk_lt hr1.a
          have HV4 : Hid (PB < V4.heap.size) := blk_lt P4.out.2.2.2.1
          have P6 : Hid (Below w.heap.size w V6 ∧ V6.heap[w.heap.size + 1]? = some (.cells #[.slice none 0 0, .slice none 0 0] 30) ∧ V6.heap[w.heap.size + 1 + 1]? = some (.cells #[.slice none 0 0, .slice none 0 0] 30) ∧ V6.heap[PB]? = some (.cells (ptC (zs.set k (l + 1, 2 * a))) 69) ∧ V6.heap[b9 + 1]? = some (.cells #[.int .i64 (l + 1), .int .i64 (2 * a + 1)] 69)) := ⟨to_call (to_call P4.out.1 bb5) A6, kept A6 (kept bb5 P4.out.2.1), kept A6 (kept bb5 P4.out.2.2.1), kept A6 (kept bb5 P4.out.2.2.2.1), kept A6 (kept bb5 P4.out.2.2.2.2)⟩
          have hlb : PB < b11 := by rw [← hb11]; exact blk_lt (kept bb5 P4.out.2.2.2.1)
          rw [hb11] at Z11 ⊢
          have HR6 : Hid (RgO V6 V4.heap.size B1 B2 ((zs.set k (l + 1, 2 * a)).map (·.1)) ((zs.set k (l + 1, 2 * a)).map (·.2)) ∧ V6.heap[b11]? = some (.cells #[.slice (some ⟨B1, 0, none⟩) n n, .slice (some ⟨B2, 0, none⟩) n n] 30)) := ⟨hr6, Z11⟩
          have c0 := cellAtJ P6.out.2.2.2.2 0 _ rfl
          have c1 := cellAtJ P6.out.2.2.2.2 1 _ rfl
          clear hV6 hb11 A6 bb5 P4 hr1 hr6 Z11
          go_upto_region 10 with (first | (refine wpList_store_at (by rfl) 69 _ _ (by rfl) w w.heap.size PB (k * 2) (.agg #[.int .i64 (l + 1), .int .i64 (2 * a + 1)]) _ (ptC (zs.set k (l + 1, 2 * a + 1))) 69 (by rfl) (by rfl) P6.out.2.2.2.1 P6.out.1 (by omega) 2 Try.szPT rfl (by rw [ptC_size]; (try rw [List.length_set]); rw [hzl]; omega) (one_pt _ _) (by rw [ptC_set _ _ _ _ (by (try rw [List.length_set]); rw [hzl]; exact hk)]; try rw [List.set_set]) ?_; intro V8 e8 b8 s8 o8))
          have hq1 := HR6.out.1.b1
          have hq2 := HR6.out.1.b2
          have hq3 := HV4.out
          have P8 : Hid (Below w.heap.size w V8 ∧ V8.heap[w.heap.size + 1]? = some (.cells #[.slice none 0 0, .slice none 0 0] 30) ∧ V8.heap[w.heap.size + 1 + 1]? = some (.cells #[.slice none 0 0, .slice none 0 0] 30) ∧ V8.heap[PB]? = some (.cells (ptC (zs.set k (l + 1, 2 * a + 1))) 69) ∧ V8.heap[b11]? = some (.cells #[.slice (some ⟨B1, 0, none⟩) n n, .slice (some ⟨B2, 0, none⟩) n n] 30) ∧ RgO V8 (w.heap.size + 1 + 1 + 1) B1 B2 ((zs.set k (l + 1, 2 * a)).map (·.1)) ((zs.set k (l + 1, 2 * a)).map (·.2))) := ⟨b8, (o8 _ (by omega)).trans P6.out.2.1, (o8 _ (by omega)).trans P6.out.2.2.1, e8, (o8 _ (by omega)).trans HR6.out.2, by omega, by omega, HR6.out.1.ne, (o8 _ (by omega)).trans HR6.out.1.l, (o8 _ (by omega)).trans HR6.out.1.a⟩
          clear c0 c1 P6 HR6 e8 b8 s8 o8
          refine wp_region_noPanic ?_
          refine wp_region_P (S := (fun V => Below V8.heap.size V8 V)) (s := 3) (by kernel_rfl) ?_
          have SX : Below V8.heap.size V8 V8.drew := (Below.refl _ _).drew
          refine takeP 60 (i := 0) (v := .agg #[.slice (some ⟨B1, 0, none⟩) n n, .slice (some ⟨B2, 0, none⟩) n n]) rfl rfl (by kernel_rfl) (by kernel_rfl) (by kernel_rfl) (by kernel_rfl) rfl (by kernel_rfl) (fun _ _ _ h => h) (Or.inl ⟨by kernel_rfl, fun w' hSw => ex_loadRN _ 30 _ rfl b11 (by kernel_rfl) w' _ (kept hSw P8.out.2.2.2.2.1) _ Try.underlying30 rfl 2 Try.szRT rfl⟩) SX ?_
          try simp only [Act.put, List.setIfInBounds_toArray, List.set_cons_zero, List.set_cons_succ]
          refine takeP0 61 (i := 1) (v := ?_) rfl rfl (by kernel_rfl) (by kernel_rfl) (by kernel_rfl) rfl (fun _ _ _ h => h) (Or.inl ⟨by kernel_rfl, ?_⟩) (fun _ => SX) ?_
          rotate_left
          · intro w' hSw; go_simp; try with_reducible rfl
          try simp only [Act.put, List.setIfInBounds_toArray, List.set_cons_zero, List.set_cons_succ]
          refine wpAnyP_ready (rs := [2]) (by kernel_rfl) (by simp) ?_
          refine consP _ rfl (hopCd 62 rfl (by kernel_rfl) rfl (by kernel_rfl) (Calls.mono (regionOf_any PB n (zs.set k (l + 1, 2 * a + 1)) _ hn (by rw [List.length_set]; exact hzl) (kept SX P8.out.2.2.2.1)) ?_)) AllReadyP.nil
          rintro e V9 ⟨⟨C1, C2, rfl, hr2⟩, bb9⟩
          have SX : Below V8.heap.size V8 V9 := to_call SX bb9
          refine ⟨_, rfl, SX, ?_⟩
          try simp only [Act.put, List.setIfInBounds_toArray, List.set_cons_zero, List.set_cons_succ]
          refine wpAnyP_ready (rs := [3]) (by kernel_rfl) (by simp) ?_
          refine consPs _ rfl (by kernel_rfl) (hopL rfl (wpList_store_row (by rfl) 30 _ _ (by rfl) w w.heap.size (w.heap.size + 1) #[.slice (some ⟨B1, 0, none⟩) n n, .slice (some ⟨B2, 0, none⟩) n n] _ (by kernel_rfl) (by kernel_rfl) (kept SX P8.out.2.1) (to_call P8.out.1 SX) (by omega) 2 Try.szRT rfl rfl (one_rg _ _ _ _ _ _) fun W5 e5 b5 s5 o5 => ?_)) AllReadyP.nil
          refine ⟨trivial, ?_⟩
          try simp only [Act.put, List.setIfInBounds_toArray, List.set_cons_zero, List.set_cons_succ]
          refine wpAnyP_ready (rs := [4]) (by kernel_rfl) (by simp) ?_
          refine consPs _ rfl (by kernel_rfl) (hopL rfl (wpList_store_row (by rfl) 30 _ _ (by rfl) w w.heap.size (w.heap.size + 1 + 1) #[.slice (some ⟨C1, 0, none⟩) n n, .slice (some ⟨C2, 0, none⟩) n n] _ (by kernel_rfl) (by kernel_rfl) ((o5 _ (by omega)).trans (kept SX P8.out.2.2.1)) b5 (by omega) 2 Try.szRT rfl rfl (one_rg _ _ _ _ _ _) fun W6 e6 b6 s6 o6 => ?_)) AllReadyP.nil
          refine ⟨trivial, ?_⟩
          try simp only [Act.put, List.setIfInBounds_toArray, List.set_cons_zero, List.set_cons_succ]
          refine takeP0 6 (i := 5) (v := ?_) rfl rfl (by kernel_rfl) (by kernel_rfl) (by kernel_rfl) rfl (fun _ _ _ h => h) (Or.inl ⟨by kernel_rfl, ?_⟩) (fun h => Bool.noConfusion (h : true = false)) ?_
          rotate_left
          · intro w' hSw; go_simp; try with_reducible rfl
          try simp only [Act.put, List.setIfInBounds_toArray, List.set_cons_zero, List.set_cons_succ]
          refine wpAnyP_done (by kernel_rfl) ?_ _
          refine NoPanic.normal ?_
          try simp only [Act.put, List.setIfInBounds_toArray, List.set_cons_zero, List.set_cons_succ]
          have t1 := hr2.b1
          have t2 := hr2.b2
          have t3 : B1 < V8.drew.heap.size := blk_lt P8.out.2.2.2.2.2.l
          have t4 : B2 < V8.drew.heap.size := blk_lt P8.out.2.2.2.2.2.a
          have t5 := P8.out.2.2.2.2.2.b1
          have t6 := P8.out.2.2.2.2.2.b2
          have t7 : w.heap.size + 1 + 1 < V8.drew.heap.size := blk_lt P8.out.2.2.1
          have HR1 := P8.out.2.2.2.2.2.later SX
          have e1 : ∀ y, (zs.set k (l + 1, y)).map (·.1) = ls.set k (l + 1) := fun y => by rw [List.map_set, ← HZ.out, zip_map1 (by rw [HN.out.1, HN.out.2]; omega)]
          have e2 : ∀ y, (zs.set k (l + 1, y)).map (·.2) = bs.set k y := fun y => by rw [List.map_set, ← HZ.out, zip_map2 (by rw [HN.out.1, HN.out.2]; omega)]
          go_wp2_with fail
          refine bodyPost_ret (res_cct _ _ _ 30 _ 2 4 5 6 (by kernel_rfl) (w.heap.size + 1) (w.heap.size + 1 + 1) _ _ _ rfl rfl rfl Try.underlying30 rfl Try.szRT rfl rfl ((o6 _ (by omega)).trans e5) e6) rfl ?_
          refine ⟨⟨_, _, by rw [HE.out]; rfl, fun _ => ⟨⟨B1, B2, C1, C2, rfl, rfl, ?_, ?_, by omega, by omega, by omega, by omega⟩⟩, fun h => absurd HE.out h⟩, b6⟩
          · try rw [Int.toNat_natCast]
            rw [HLA.out.1, HLA.out.2, ← e1 (2 * a), ← e2 (2 * a)]
            exact ⟨by omega, by omega, HR1.ne, (o6 _ (by omega)).trans ((o5 _ (by omega)).trans HR1.l), (o6 _ (by omega)).trans ((o5 _ (by omega)).trans HR1.a)⟩
          · try rw [Int.toNat_natCast]
            rw [HLA.out.1, HLA.out.2, ← e1 (2 * a + 1), ← e2 (2 * a + 1)]
            exact ⟨by omega, by omega, hr2.ne, (o6 _ (by omega)).trans ((o5 _ (by omega)).trans hr2.l), (o6 _ (by omega)).trans ((o5 _ (by omega)).trans hr2.a)⟩
end Go.Proofs.Ytoehhnildocihaa
