import Derived.Test.YtaadhjdbieoieaaSPu
namespace Go.Proofs.Ytaadhjdbieoieaa
open Go.RowKit
set_option linter.unusedVariables false
set_option linter.unusedSimpArgs false
theorem wrI (n : Int) (h : -9223372036854775808 ≤ n ∧ n ≤ 9223372036854775807) : IntKind.i64.wrap n = n := by
  unfold IntKind.wrap
  simp [IntKind.signed, IntKind.bits]
  omega
set_option maxRecDepth 100000 in
set_option maxHeartbeats 4000000 in
theorem refHalve_any (la ba : Option Addr) (n m c d : Nat) (ls bs : List Int) (sI : Int) (w : World) (hl : RdIs w la n c ls) (ha : RdIs w ba m d bs) :
    Calls Try.prog 14 #[.agg #[.slice la n c, .slice ba m d], .int .i64 sI] w fun e w' => (∃ a1 c1 a2 c2 a3 c3 a4 c4 N, e = .returned (.tuple #[.agg #[.slice a1 N c1, .slice a2 N c2], .agg #[.slice a3 N c3, .slice a4 N c4], .int .i64 (HvE ls bs n sI)]) ∧ (HvE ls bs n sI = 0 → N = n ∧ RdIs w' a1 N c1 (ls.set sI.toNat (ls[sI.toNat]?.getD 0 + 1)) ∧ RdIs w' a2 N c2 (bs.set sI.toNat (2 * bs[sI.toNat]?.getD 0)) ∧ RdIs w' a3 N c3 (ls.set sI.toNat (ls[sI.toNat]?.getD 0 + 1)) ∧ RdIs w' a4 N c4 (bs.set sI.toNat (2 * bs[sI.toNat]?.getD 0 + 1))) ∧ (HvE ls bs n sI ≠ 0 → (a1, c1, a2, c2, a3, c3, a4, c4, N) = (none, 0, none, 0, none, 0, none, 0, 0))) ∧ Below w.heap.size w w' := by
  have HL : Hid (∀ W', Below w.heap.size w W' → RdIs W' la n c ls) := fun W' hb => hl.later hb
  have HA : Hid (∀ W', Below w.heap.size w W' → RdIs W' ba m d bs) := fun W' hb => ha.later hb
  have HN : Hid (ls.length = n ∧ bs.length = m) := ⟨hl.length, ha.length⟩
  obtain ⟨g, hg⟩ : ∃ g, regB ls bs n = g := ⟨_, rfl⟩
  have HG : Hid (regB ls bs n = g) := hg
  clear hl ha hg
  have X0 : Below w.heap.size w (((w.alloc (.cells #[.slice la n c, .slice ba m d] 24)).alloc (.cells #[.slice none 0 0, .slice none 0 0] 24)).alloc (.cells #[.slice none 0 0, .slice none 0 0] 24)) := below_al (below_al (below_al (Below.refl _ w) _) _) _
  have Y0 : (((w.alloc (.cells #[.slice la n c, .slice ba m d] 24)).alloc (.cells #[.slice none 0 0, .slice none 0 0] 24)).alloc (.cells #[.slice none 0 0, .slice none 0 0] 24)).heap[w.heap.size]? = some (.cells #[.slice la n c, .slice ba m d] 24) := alloc_kept (alloc_kept (heap_alloc_new w _) _) _
  have Y1 : (((w.alloc (.cells #[.slice la n c, .slice ba m d] 24)).alloc (.cells #[.slice none 0 0, .slice none 0 0] 24)).alloc (.cells #[.slice none 0 0, .slice none 0 0] 24)).heap[w.heap.size + 1]? = some (.cells #[.slice none 0 0, .slice none 0 0] 24) := alloc_kept (alloc_at _ _ _ (by simp)) _
  have Y2 : (((w.alloc (.cells #[.slice la n c, .slice ba m d] 24)).alloc (.cells #[.slice none 0 0, .slice none 0 0] 24)).alloc (.cells #[.slice none 0 0, .slice none 0 0] 24)).heap[w.heap.size + 1 + 1]? = some (.cells #[.slice none 0 0, .slice none 0 0] 24) := alloc_at _ _ _ (by simp)
  go_enter Try.func14, Try.ntmps14
  go_upto_region 1 with fail
  obtain ⟨X, hX⟩ : ∃ X, (((w.alloc (.cells #[.slice la n c, .slice ba m d] 24)).alloc (.cells #[.slice none 0 0, .slice none 0 0] 24)).alloc (.cells #[.slice none 0 0, .slice none 0 0] 24)) = X := ⟨_, rfl⟩
  rw [hX] at X0 Y0 Y1 Y2 ⊢
  have k0 := cellAtJ Y0 0 _ rfl
  clear hX
  go_wp2_with (first | (refine wpList_load_row (by rfl) 24 _ (by rfl) w.heap.size #[.slice la n c, .slice ba m d] (by rfl) Y0 _ Try.underlying24 rfl 2 Try.szRT (by rfl) ?_))
  refine Calls.mono (refCheck_any la ba n m c d ls bs n _ (HL.out _ X0) (HA.out _ X0)) ?_
  rintro e' w1 ⟨rfl, bb1⟩
  have Q1 : Hid (Below w.heap.size w w1 ∧ w1.heap[w.heap.size]? = some (.cells #[.slice la n c, .slice ba m d] 24) ∧ w1.heap[w.heap.size + 1]? = some (.cells #[.slice none 0 0, .slice none 0 0] 24) ∧ w1.heap[w.heap.size + 1 + 1]? = some (.cells #[.slice none 0 0, .slice none 0 0] 24)) := ⟨to_call X0 bb1, kept bb1 Y0, kept bb1 Y1, kept bb1 Y2⟩
  clear X0 Y0 Y1 Y2 k0 bb1
  cases g with
  | false =>
    have HE : Hid (HvE ls bs n sI = 180) := by unfold Hid HvE; rw [HG.out]; rfl
    rw [ckE_no HG.out]
    go_wp2_with (first | (refine wpList_store_row (by rfl) 24 _ _ (by rfl) w w.heap.size (w.heap.size + 1) #[.slice none 0 0, .slice none 0 0] _ (by rfl) (by rfl) Q1.out.2.2.1 Q1.out.1 (by omega) 2 Try.szRT rfl rfl (one_rg _ _ _ _ _ _) ?_; intro W5 e5 b5 s5 o5) | (refine wpList_store_row (by rfl) 24 _ _ (by rfl) w w.heap.size (w.heap.size + 1 + 1) #[.slice none 0 0, .slice none 0 0] _ (by rfl) (by rfl) ((o5 (w.heap.size + 1 + 1) (by omega)).trans Q1.out.2.2.2) b5 (by omega) 2 Try.szRT rfl rfl (one_rg _ _ _ _ _ _) ?_; intro W6 e6 b6 s6 o6))
    refine bodyPost_ret (res_cct _ _ _ 24 _ 2 4 5 6 (by kernel_rfl) (w.heap.size + 1) (w.heap.size + 1 + 1) _ _ _ rfl rfl rfl Try.underlying24 rfl Try.szRT rfl rfl ((o6 _ (by omega)).trans e5) e6) rfl ?_
    exact ⟨⟨none, 0, none, 0, none, 0, none, 0, 0, by rw [HE.out]; rfl, fun h => (by rw [HE.out] at h; omega), fun _ => rfl⟩, b6⟩
  | true =>
    rw [ckE_ok HG.out]
    have hlen := regB_len HG.out
    have hn : n ≤ 256 := by omega
    obtain rfl : m = n := by have := HN.out; omega
    have k0 := cellAtJ Q1.out.2.1 0 _ rfl
    clear hlen
    by_cases h1 : sI < 0
    · have d1 : decide (sI < 0) = true := decide_eq_true h1
      have HE : Hid (HvE ls bs m sI = 1) := by unfold Hid HvE; rw [HG.out, if_pos rfl, if_pos (.inl h1)]
      go_wp2_with (first | (refine wpList_store_row (by rfl) 24 _ _ (by rfl) w w.heap.size (w.heap.size + 1) #[.slice none 0 0, .slice none 0 0] _ (by rfl) (by rfl) Q1.out.2.2.1 Q1.out.1 (by omega) 2 Try.szRT rfl rfl (one_rg _ _ _ _ _ _) ?_; intro W5 e5 b5 s5 o5) | (refine wpList_store_row (by rfl) 24 _ _ (by rfl) w w.heap.size (w.heap.size + 1 + 1) #[.slice none 0 0, .slice none 0 0] _ (by rfl) (by rfl) ((o5 (w.heap.size + 1 + 1) (by omega)).trans Q1.out.2.2.2) b5 (by omega) 2 Try.szRT rfl rfl (one_rg _ _ _ _ _ _) ?_; intro W6 e6 b6 s6 o6))
      refine bodyPost_ret (res_cct _ _ _ 24 _ 2 4 5 6 (by kernel_rfl) (w.heap.size + 1) (w.heap.size + 1 + 1) _ _ _ rfl rfl rfl Try.underlying24 rfl Try.szRT rfl rfl ((o6 _ (by omega)).trans e5) e6) rfl ?_
      exact ⟨⟨none, 0, none, 0, none, 0, none, 0, 0, by rw [HE.out]; rfl, fun h => (by rw [HE.out] at h; omega), fun _ => rfl⟩, b6⟩
    have d1 : decide (sI < 0) = false := decide_eq_false h1
    by_cases h2 : (m : Int) ≤ sI
    · have d2 : decide (sI ≥ (m : Int)) = true := decide_eq_true h2
      have HE : Hid (HvE ls bs m sI = 1) := by unfold Hid HvE; rw [HG.out, if_pos rfl, if_pos (.inr (.inl h2))]
      go_wp2_with (first | (refine wpList_store_row (by rfl) 24 _ _ (by rfl) w w.heap.size (w.heap.size + 1) #[.slice none 0 0, .slice none 0 0] _ (by rfl) (by rfl) Q1.out.2.2.1 Q1.out.1 (by omega) 2 Try.szRT rfl rfl (one_rg _ _ _ _ _ _) ?_; intro W5 e5 b5 s5 o5) | (refine wpList_store_row (by rfl) 24 _ _ (by rfl) w w.heap.size (w.heap.size + 1 + 1) #[.slice none 0 0, .slice none 0 0] _ (by rfl) (by rfl) ((o5 (w.heap.size + 1 + 1) (by omega)).trans Q1.out.2.2.2) b5 (by omega) 2 Try.szRT rfl rfl (one_rg _ _ _ _ _ _) ?_; intro W6 e6 b6 s6 o6))
      refine bodyPost_ret (res_cct _ _ _ 24 _ 2 4 5 6 (by kernel_rfl) (w.heap.size + 1) (w.heap.size + 1 + 1) _ _ _ rfl rfl rfl Try.underlying24 rfl Try.szRT rfl rfl ((o6 _ (by omega)).trans e5) e6) rfl ?_
      exact ⟨⟨none, 0, none, 0, none, 0, none, 0, 0, by rw [HE.out]; rfl, fun h => (by rw [HE.out] at h; omega), fun _ => rfl⟩, b6⟩
    obtain ⟨s, rfl⟩ : ∃ s : Nat, sI = s := ⟨sI.toNat, by omega⟩
    have hs : s < m := by omega
    have hs' : (s : Int) < (m : Int) := by omega
    have d2 : decide ((s : Int) ≥ (m : Int)) = false := decide_eq_false (by omega)
    have d3 : decide (m ≤ s) = false := decide_eq_false (by omega)
    rcases (HL.out _ Q1.out.1).cells with h0 | ⟨lb, lo, rfl, hcl⟩
    · omega
    have gl := hcl s hs
    obtain ⟨l, hl⟩ : ∃ l, ls[s]?.getD 0 = l := ⟨_, rfl⟩
    obtain ⟨a, ha⟩ : ∃ a, bs[s]?.getD 0 = a := ⟨_, rfl⟩
    have hlv := regB_level HG.out s (by rw [HN.out.1]; exact hs)
    rw [hl, ha] at hlv
    obtain ⟨o1, o2, o3, o4⟩ := hlv
    have hp8 := pow8 (n := l.toNat) (by omega)
    have o5 : a ≤ 256 := by omega
    rw [hl] at gl
    have HLA : Hid (ls[s]?.getD 0 = l ∧ bs[s]?.getD 0 = a) := ⟨hl, ha⟩
    clear hcl hl ha o4 hp8 h1 h2
    by_cases h8 : l = 8
    · have d8 : (l == 8) = true := by simpa using h8
      have HE : Hid (HvE ls bs m s = 1) := by unfold Hid HvE; rw [HG.out, if_pos rfl, if_pos (.inr (.inr (by rw [Int.toNat_natCast, HLA.out.1]; exact h8)))]
      clear h8
      go_wp2_with (first | (refine wpList_store_row (by rfl) 24 _ _ (by rfl) w w.heap.size (w.heap.size + 1) #[.slice none 0 0, .slice none 0 0] _ (by rfl) (by rfl) Q1.out.2.2.1 Q1.out.1 (by omega) 2 Try.szRT rfl rfl (one_rg _ _ _ _ _ _) ?_; intro W5 e5 b5 s5 o5) | (refine wpList_store_row (by rfl) 24 _ _ (by rfl) w w.heap.size (w.heap.size + 1 + 1) #[.slice none 0 0, .slice none 0 0] _ (by rfl) (by rfl) ((o5 (w.heap.size + 1 + 1) (by omega)).trans Q1.out.2.2.2) b5 (by omega) 2 Try.szRT rfl rfl (one_rg _ _ _ _ _ _) ?_; intro W6 e6 b6 s6 o6))
      refine bodyPost_ret (res_cct _ _ _ 24 _ 2 4 5 6 (by kernel_rfl) (w.heap.size + 1) (w.heap.size + 1 + 1) _ _ _ rfl rfl rfl Try.underlying24 rfl Try.szRT rfl rfl ((o6 _ (by omega)).trans e5) e6) rfl ?_
      exact ⟨⟨none, 0, none, 0, none, 0, none, 0, 0, by rw [HE.out]; rfl, fun h => (by rw [HE.out] at h; omega), fun _ => rfl⟩, b6⟩
    have d8 : (l == 8) = false := by simpa using h8
    have HE : Hid (HvE ls bs m s = 0) := by unfold Hid HvE; rw [HG.out, if_pos rfl, if_neg (by rw [Int.toNat_natCast, HLA.out.1]; omega)]
    clear h8
    go_upto_region 5 with fail
    go_wp2_with (first | (refine wpList_load_row (by rfl) 24 _ (by rfl) w.heap.size #[.slice (some ⟨lb, lo, none⟩) m c, .slice ba m d] (by rfl) Q1.out.2.1 _ Try.underlying24 rfl 2 Try.szRT (by rfl) ?_))
    refine Calls.mono (refCopy_any _ ba m c d ls bs _ (by omega) hn (HL.out _ Q1.out.1) (HA.out _ Q1.out.1)) ?_
    rintro e' w2 ⟨⟨G, H, c1, c2, rfl, qG, qH, hGH⟩, bb2⟩
    go_upto_region 6 with fail
    obtain ⟨b7, hb7⟩ : ∃ b, w2.heap.size = b := ⟨_, rfl⟩
    obtain ⟨V2, hV2⟩ : ∃ V, w2.alloc (.cells #[.slice (some ⟨G, 0, none⟩) m c1, .slice (some ⟨H, 0, none⟩) m c2] 24) = V := ⟨_, rfl⟩
    have A2 : Below w2.heap.size w2 V2 := by rw [← hV2]; exact (Below.refl _ w2).alloc (Nat.le_refl _) _
    have Z7 : V2.heap[b7]? = some (.cells #[.slice (some ⟨G, 0, none⟩) m c1, .slice (some ⟨H, 0, none⟩) m c2] 24) := by rw [← hV2, ← hb7]; exact heap_alloc_new w2 _
    have n1 : w.heap.size + 1 + 1 < G := by have := qG.b; have := blk_lt Q1.out.2.2.2; omega
    have n2 : H < b7 := by rw [← hb7]; exact qH.lt
    have Q2 : Hid (Below w.heap.size w V2 ∧ V2.heap[w.heap.size]? = some (.cells #[.slice (some ⟨lb, lo, none⟩) m c, .slice ba m d] 24) ∧ V2.heap[w.heap.size + 1]? = some (.cells #[.slice none 0 0, .slice none 0 0] 24) ∧ V2.heap[w.heap.size + 1 + 1]? = some (.cells #[.slice none 0 0, .slice none 0 0] 24) ∧ V2.heap[b7]? = some (.cells #[.slice (some ⟨G, 0, none⟩) m c1, .slice (some ⟨H, 0, none⟩) m c2] 24) ∧ OwB V2 w.heap.size G m ls ∧ OwB V2 w.heap.size H m bs) := ⟨to_call (to_call Q1.out.1 bb2) A2, kept A2 (kept bb2 Q1.out.2.1), kept A2 (kept bb2 Q1.out.2.2.1), kept A2 (kept bb2 Q1.out.2.2.2), Z7, (qG.later A2).mono Q1.out.1.size, (qH.later A2).mono Q1.out.1.size⟩
    rw [hb7, hV2]
    clear hb7 hV2 A2 Z7 qG qH bb2 Q1 k0 gl
    go_wp2_with (first | (refine wpList_load_row (by rfl) 24 _ (by rfl) w.heap.size #[.slice (some ⟨lb, lo, none⟩) m c, .slice ba m d] (by rfl) Q2.out.2.1 _ Try.underlying24 rfl 2 Try.szRT (by rfl) ?_))
    refine Calls.mono (refCopy_any _ ba m c d ls bs _ (by omega) hn (HL.out _ Q2.out.1) (HA.out _ Q2.out.1)) ?_
    rintro e' w3 ⟨⟨G2, H2, c3, c4, rfl, qG, qH, hGH2⟩, bb3⟩
    go_upto_region 7 with fail
    obtain ⟨b8, hb8⟩ : ∃ b, w3.heap.size = b := ⟨_, rfl⟩
    obtain ⟨wr, hV3⟩ : ∃ V, w3.alloc (.cells #[.slice (some ⟨G2, 0, none⟩) m c3, .slice (some ⟨H2, 0, none⟩) m c4] 24) = V := ⟨_, rfl⟩
    have A3 : Below w3.heap.size w3 wr := by rw [← hV3]; exact (Below.refl _ w3).alloc (Nat.le_refl _) _
    have Z8 : wr.heap[b8]? = some (.cells #[.slice (some ⟨G2, 0, none⟩) m c3, .slice (some ⟨H2, 0, none⟩) m c4] 24) := by rw [← hV3, ← hb8]; exact heap_alloc_new w3 _
    have n3 : b7 < G2 := by have := qG.b; have := blk_lt Q2.out.2.2.2.2.1; omega
    have n4 : H2 < b8 := by rw [← hb8]; exact qH.lt
    have P : Hid (Below w.heap.size w wr ∧ wr.heap[w.heap.size]? = some (.cells #[.slice (some ⟨lb, lo, none⟩) m c, .slice ba m d] 24) ∧ wr.heap[w.heap.size + 1]? = some (.cells #[.slice none 0 0, .slice none 0 0] 24) ∧ wr.heap[w.heap.size + 1 + 1]? = some (.cells #[.slice none 0 0, .slice none 0 0] 24) ∧ wr.heap[b7]? = some (.cells #[.slice (some ⟨G, 0, none⟩) m c1, .slice (some ⟨H, 0, none⟩) m c2] 24) ∧ wr.heap[b8]? = some (.cells #[.slice (some ⟨G2, 0, none⟩) m c3, .slice (some ⟨H2, 0, none⟩) m c4] 24) ∧ OwB wr w.heap.size G m ls ∧ OwB wr w.heap.size H m bs ∧ OwB wr w.heap.size G2 m ls ∧ OwB wr w.heap.size H2 m bs) := ⟨to_call (to_call Q2.out.1 bb3) A3, kept A3 (kept bb3 Q2.out.2.1), kept A3 (kept bb3 Q2.out.2.2.1), kept A3 (kept bb3 Q2.out.2.2.2.1), kept A3 (kept bb3 Q2.out.2.2.2.2.1), Z8, (Q2.out.2.2.2.2.2.1.later bb3).later A3, (Q2.out.2.2.2.2.2.2.later bb3).later A3, (qG.later A3).mono Q2.out.1.size, (qH.later A3).mono Q2.out.1.size⟩
    rw [hb8, hV3]
    clear hb8 hV3 A3 Z8 qG qH bb3 Q2
    have c0 := cellAtJ P.out.2.2.2.2.1 0 _ rfl
    have g0 : wr.cell? ⟨G, s, none⟩ = some (.int .i64 l) := by have h := P.out.2.2.2.2.2.2.1.rd (c := c1) (by omega); rcases h.cells with h0 | ⟨b, o, hb, hc⟩; (· omega); (injection hb with hb; injection hb with hb1 hb2; subst hb1 hb2; have := hc s hs; rw [Nat.zero_add, HLA.out.1] at this; exact this)
    go_upto_region 8 with (first | (refine OwB.write (by rfl) _ _ (by rfl) Try.szIM w w.heap.size w.heap.size G m s ls (l + 1) (by rfl) (by rfl) P.out.2.2.2.2.2.2.1 hs P.out.1 (Nat.le_refl _) ?_; intro W9 e9 b9 s9 o9))
    have P' : Hid (Below w.heap.size w W9 ∧ W9.heap[w.heap.size]? = some (.cells #[.slice (some ⟨lb, lo, none⟩) m c, .slice ba m d] 24) ∧ W9.heap[w.heap.size + 1]? = some (.cells #[.slice none 0 0, .slice none 0 0] 24) ∧ W9.heap[w.heap.size + 1 + 1]? = some (.cells #[.slice none 0 0, .slice none 0 0] 24) ∧ W9.heap[b7]? = some (.cells #[.slice (some ⟨G, 0, none⟩) m c1, .slice (some ⟨H, 0, none⟩) m c2] 24) ∧ W9.heap[b8]? = some (.cells #[.slice (some ⟨G2, 0, none⟩) m c3, .slice (some ⟨H2, 0, none⟩) m c4] 24) ∧ OwB W9 w.heap.size G m (ls.set s (l + 1)) ∧ OwB W9 w.heap.size H m bs ∧ OwB W9 w.heap.size G2 m ls ∧ OwB W9 w.heap.size H2 m bs) := ⟨b9, (o9 _ (by omega)).trans P.out.2.1, (o9 _ (by omega)).trans P.out.2.2.1, (o9 _ (by omega)).trans P.out.2.2.2.1, (o9 _ (by omega)).trans P.out.2.2.2.2.1, (o9 _ (by omega)).trans P.out.2.2.2.2.2.1, e9, P.out.2.2.2.2.2.2.2.1.other (by omega) o9, P.out.2.2.2.2.2.2.2.2.1.other (by omega) o9, P.out.2.2.2.2.2.2.2.2.2.other (by omega) o9⟩
    have P := P'
    clear P' c0 g0 e9 b9 s9 o9
    have c0 := cellAtJ P.out.2.2.2.2.2.1 0 _ rfl
    have g0 : W9.cell? ⟨G2, s, none⟩ = some (.int .i64 l) := by have h := P.out.2.2.2.2.2.2.2.2.1.rd (c := c1) (by omega); rcases h.cells with h0 | ⟨b, o, hb, hc⟩; (· omega); (injection hb with hb; injection hb with hb1 hb2; subst hb1 hb2; have := hc s hs; rw [Nat.zero_add, HLA.out.1] at this; exact this)
    go_upto_region 9 with (first | (refine OwB.write (by rfl) _ _ (by rfl) Try.szIM w w.heap.size w.heap.size G2 m s ls (l + 1) (by rfl) (by rfl) P.out.2.2.2.2.2.2.2.2.1 hs P.out.1 (Nat.le_refl _) ?_; intro W8 e8 b8' s8 o8))
    have P' : Hid (Below w.heap.size w W8 ∧ W8.heap[w.heap.size]? = some (.cells #[.slice (some ⟨lb, lo, none⟩) m c, .slice ba m d] 24) ∧ W8.heap[w.heap.size + 1]? = some (.cells #[.slice none 0 0, .slice none 0 0] 24) ∧ W8.heap[w.heap.size + 1 + 1]? = some (.cells #[.slice none 0 0, .slice none 0 0] 24) ∧ W8.heap[b7]? = some (.cells #[.slice (some ⟨G, 0, none⟩) m c1, .slice (some ⟨H, 0, none⟩) m c2] 24) ∧ W8.heap[b8]? = some (.cells #[.slice (some ⟨G2, 0, none⟩) m c3, .slice (some ⟨H2, 0, none⟩) m c4] 24) ∧ OwB W8 w.heap.size G m (ls.set s (l + 1)) ∧ OwB W8 w.heap.size H m bs ∧ OwB W8 w.heap.size G2 m (ls.set s (l + 1)) ∧ OwB W8 w.heap.size H2 m bs) := ⟨b8', (o8 _ (by omega)).trans P.out.2.1, (o8 _ (by omega)).trans P.out.2.2.1, (o8 _ (by omega)).trans P.out.2.2.2.1, (o8 _ (by omega)).trans P.out.2.2.2.2.1, (o8 _ (by omega)).trans P.out.2.2.2.2.2.1, P.out.2.2.2.2.2.2.1.other (by omega) o8, P.out.2.2.2.2.2.2.2.1.other (by omega) o8, e8, P.out.2.2.2.2.2.2.2.2.2.other (by omega) o8⟩
    have P := P'
    clear P' c0 g0 e8 b8' s8 o8
    obtain ⟨wA, hwA⟩ : ∃ W, W8 = W := ⟨_, rfl⟩
    subst hwA
    rcases (HA.out _ P.out.1).cells with h0 | ⟨bb, bo, rfl, hca⟩
    · omega
    have ga := hca s hs
    rw [HLA.out.2] at ga
    have wa : IntKind.i64.wrap (2 * a) = 2 * a := wrI _ (by omega)
    have wb : IntKind.i64.wrap (2 * a + 1) = 2 * a + 1 := wrI _ (by omega)
    have K0 : Hid (W8.cell? ⟨b7, 1, none⟩ = _) := cellAtJ P.out.2.2.2.2.1 1 _ rfl
    have K1 : Hid (W8.cell? ⟨w.heap.size, 1, none⟩ = _) := cellAtJ P.out.2.1 1 _ rfl
    have K2 : Hid (W8.cell? ⟨bb, bo + s, none⟩ = some (.int .i64 a)) := ga
    have SX : Below W8.heap.size W8 W8.drew := (Below.refl _ _).drew
    refine wp_region_noPanic ?_
    refine wp_region_P (S := (fun V => Below W8.heap.size W8 V)) (s := 10) (by kernel_rfl) ?_
    refine takeP 54 (i := 0) (v := ?_) rfl rfl (by kernel_rfl) (by kernel_rfl) (by kernel_rfl) (by kernel_rfl) rfl (by kernel_rfl) (fun _ _ _ h => h) (Or.inl ⟨by kernel_rfl, ?_⟩) SX ?_
    rotate_left
    · intro w' hSw; have t0 := cell_later K0.out hSw; have t1 := cell_later K1.out hSw; have t2 := cell_later K2.out hSw; go_simp; try with_reducible rfl
    try simp only [Act.put, List.setIfInBounds_toArray, List.set_cons_zero, List.set_cons_succ]
    refine takeP 55 (i := 1) (v := ?_) rfl rfl (by kernel_rfl) (by kernel_rfl) (by kernel_rfl) (by kernel_rfl) rfl (by kernel_rfl) (fun _ _ _ h => h) (Or.inl ⟨by kernel_rfl, ?_⟩) SX ?_
    rotate_left
    · intro w' hSw; have t0 := cell_later K0.out hSw; have t1 := cell_later K1.out hSw; have t2 := cell_later K2.out hSw; go_simp; try with_reducible rfl
    try simp only [Act.put, List.setIfInBounds_toArray, List.set_cons_zero, List.set_cons_succ]
    refine takeP 56 (i := 2) (v := ?_) rfl rfl (by kernel_rfl) (by kernel_rfl) (by kernel_rfl) (by kernel_rfl) rfl (by kernel_rfl) (fun _ _ _ h => h) (Or.inl ⟨by kernel_rfl, ?_⟩) SX ?_
    rotate_left
    · intro w' hSw; have t0 := cell_later K0.out hSw; have t1 := cell_later K1.out hSw; have t2 := cell_later K2.out hSw; go_simp; try with_reducible rfl
    try simp only [Act.put, List.setIfInBounds_toArray, List.set_cons_zero, List.set_cons_succ]
    refine takeP 57 (i := 3) (v := ?_) rfl rfl (by kernel_rfl) (by kernel_rfl) (by kernel_rfl) (by kernel_rfl) rfl (by kernel_rfl) (fun _ _ _ h => h) (Or.inl ⟨by kernel_rfl, ?_⟩) SX ?_
    rotate_left
    · intro w' hSw; have t0 := cell_later K0.out hSw; have t1 := cell_later K1.out hSw; have t2 := cell_later K2.out hSw; go_simp; try with_reducible rfl
    try simp only [Act.put, List.setIfInBounds_toArray, List.set_cons_zero, List.set_cons_succ]
    refine takeP 58 (i := 4) (v := ?_) rfl rfl (by kernel_rfl) (by kernel_rfl) (by kernel_rfl) (by kernel_rfl) rfl (by kernel_rfl) (fun _ _ _ h => h) (Or.inl ⟨by kernel_rfl, ?_⟩) SX ?_
    rotate_left
    · intro w' hSw; have t0 := cell_later K0.out hSw; have t1 := cell_later K1.out hSw; have t2 := cell_later K2.out hSw; go_simp; try with_reducible rfl
    try simp only [Act.put, List.setIfInBounds_toArray, List.set_cons_zero, List.set_cons_succ]
    refine takeP 59 (i := 5) (v := ?_) rfl rfl (by kernel_rfl) (by kernel_rfl) (by kernel_rfl) (by kernel_rfl) rfl (by kernel_rfl) (fun _ _ _ h => h) (Or.inl ⟨by kernel_rfl, ?_⟩) SX ?_
    rotate_left
    · intro w' hSw; have t0 := cell_later K0.out hSw; have t1 := cell_later K1.out hSw; have t2 := cell_later K2.out hSw; go_simp; try with_reducible rfl
    try simp only [Act.put, List.setIfInBounds_toArray, List.set_cons_zero, List.set_cons_succ]
    refine takeP 60 (i := 6) (v := ?_) rfl rfl (by kernel_rfl) (by kernel_rfl) (by kernel_rfl) (by kernel_rfl) rfl (by kernel_rfl) (fun _ _ _ h => h) (Or.inl ⟨by kernel_rfl, ?_⟩) SX ?_
    rotate_left
    · intro w' hSw; have t0 := cell_later K0.out hSw; have t1 := cell_later K1.out hSw; have t2 := cell_later K2.out hSw; go_simp; try with_reducible rfl
    try simp only [Act.put, List.setIfInBounds_toArray, List.set_cons_zero, List.set_cons_succ]
    refine takeP 61 (i := 7) (v := ?_) rfl rfl (by kernel_rfl) (by kernel_rfl) (by kernel_rfl) (by kernel_rfl) rfl (by kernel_rfl) (fun _ _ _ h => h) (Or.inl ⟨by kernel_rfl, ?_⟩) SX ?_
    rotate_left
    · intro w' hSw; have t0 := cell_later K0.out hSw; have t1 := cell_later K1.out hSw; have t2 := cell_later K2.out hSw; go_simp; try with_reducible rfl
    try simp only [Act.put, List.setIfInBounds_toArray, List.set_cons_zero, List.set_cons_succ]
    refine takeP 62 (i := 8) (v := ?_) rfl rfl (by kernel_rfl) (by kernel_rfl) (by kernel_rfl) (by kernel_rfl) rfl (by kernel_rfl) (fun _ _ _ h => h) (Or.inl ⟨by kernel_rfl, ?_⟩) SX ?_
    rotate_left
    · intro w' hSw; have t0 := cell_later K0.out hSw; have t1 := cell_later K1.out hSw; have t2 := cell_later K2.out hSw; go_simp; try with_reducible rfl
    try simp only [Act.put, List.setIfInBounds_toArray, List.set_cons_zero, List.set_cons_succ]
    refine takeP 63 (i := 9) (v := ?_) rfl rfl (by kernel_rfl) (by kernel_rfl) (by kernel_rfl) (by kernel_rfl) rfl (by kernel_rfl) (fun _ _ _ h => h) (Or.inl ⟨by kernel_rfl, ?_⟩) SX ?_
    rotate_left
    · intro w' hSw; have t0 := cell_later K0.out hSw; have t1 := cell_later K1.out hSw; have t2 := cell_later K2.out hSw; go_simp; try with_reducible rfl
    try simp only [Act.put, List.setIfInBounds_toArray, List.set_cons_zero, List.set_cons_succ]
    refine wpAnyP_ready (rs := [10]) (by kernel_rfl) (by simp) ?_
    refine consPs _ rfl (by kernel_rfl) (hopL rfl (OwB.write (by rfl) _ _ (by rfl) Try.szIM w w.heap.size w.heap.size H m s bs (2 * a) (by kernel_rfl) (by kernel_rfl) (P.out.2.2.2.2.2.2.2.1.later SX) hs (to_call P.out.1 SX) (Nat.le_refl _) fun W9 e9 b9 s9 o9 => ?_)) AllReadyP.nil
    refine ⟨trivial, ?_⟩
    try simp only [Act.put, List.setIfInBounds_toArray, List.set_cons_zero, List.set_cons_succ]
    refine wpAnyP_done (by kernel_rfl) ?_ _
    refine NoPanic.normal ?_
    try simp only [Act.put, List.setIfInBounds_toArray, List.set_cons_zero, List.set_cons_succ]
    have P' : Hid (Below w.heap.size w W9 ∧ W9.heap[w.heap.size]? = some (.cells #[.slice (some ⟨lb, lo, none⟩) m c, .slice (some ⟨bb, bo, none⟩) m d] 24) ∧ W9.heap[w.heap.size + 1]? = some (.cells #[.slice none 0 0, .slice none 0 0] 24) ∧ W9.heap[w.heap.size + 1 + 1]? = some (.cells #[.slice none 0 0, .slice none 0 0] 24) ∧ W9.heap[b7]? = some (.cells #[.slice (some ⟨G, 0, none⟩) m c1, .slice (some ⟨H, 0, none⟩) m c2] 24) ∧ W9.heap[b8]? = some (.cells #[.slice (some ⟨G2, 0, none⟩) m c3, .slice (some ⟨H2, 0, none⟩) m c4] 24) ∧ OwB W9 w.heap.size G m (ls.set s (l + 1)) ∧ OwB W9 w.heap.size H m (bs.set s (2 * a)) ∧ OwB W9 w.heap.size G2 m (ls.set s (l + 1)) ∧ OwB W9 w.heap.size H2 m bs) := ⟨b9, (o9 _ (by omega)).trans (kept SX P.out.2.1), (o9 _ (by omega)).trans (kept SX P.out.2.2.1), (o9 _ (by omega)).trans (kept SX P.out.2.2.2.1), (o9 _ (by omega)).trans (kept SX P.out.2.2.2.2.1), (o9 _ (by omega)).trans (kept SX P.out.2.2.2.2.2.1), (P.out.2.2.2.2.2.2.1.later SX).other (by omega) o9, e9, (P.out.2.2.2.2.2.2.2.2.1.later SX).other (by omega) o9, (P.out.2.2.2.2.2.2.2.2.2.later SX).other (by omega) o9⟩
    have P := P'
    clear P' K0 K1 K2 e9 b9 s9 o9 SX
    have ga2 := cell_later ga (Below.refl _ _)
    have K0 : Hid (W9.cell? ⟨b8, 1, none⟩ = _) := cellAtJ P.out.2.2.2.2.2.1 1 _ rfl
    have K1 : Hid (W9.cell? ⟨w.heap.size, 1, none⟩ = _) := cellAtJ P.out.2.1 1 _ rfl
    have K2 : Hid (W9.cell? ⟨bb, bo + s, none⟩ = some (.int .i64 a)) := by
      rcases (HA.out _ P.out.1).cells with h0 | ⟨bb', bo', hb, hc⟩
      · omega
      injection hb with hb
      injection hb with hb1 hb2
      subst hb1 hb2
      have := hc s hs
      rw [HLA.out.2] at this
      exact this
    clear ga ga2 hca
    go_upto_region 10 with fail
    have SX : Below W9.heap.size W9 W9.drew := (Below.refl _ _).drew
    refine wp_region_noPanic ?_
    refine wp_region_P (S := (fun V => Below W9.heap.size W9 V)) (s := 11) (by kernel_rfl) ?_
    refine takeP 64 (i := 0) (v := ?_) rfl rfl (by kernel_rfl) (by kernel_rfl) (by kernel_rfl) (by kernel_rfl) rfl (by kernel_rfl) (fun _ _ _ h => h) (Or.inl ⟨by kernel_rfl, ?_⟩) SX ?_
    rotate_left
    · intro w' hSw; have t0 := cell_later K0.out hSw; have t1 := cell_later K1.out hSw; have t2 := cell_later K2.out hSw; go_simp; try with_reducible rfl
    try simp only [Act.put, List.setIfInBounds_toArray, List.set_cons_zero, List.set_cons_succ]
    refine takeP 65 (i := 1) (v := ?_) rfl rfl (by kernel_rfl) (by kernel_rfl) (by kernel_rfl) (by kernel_rfl) rfl (by kernel_rfl) (fun _ _ _ h => h) (Or.inl ⟨by kernel_rfl, ?_⟩) SX ?_
    rotate_left
    · intro w' hSw; have t0 := cell_later K0.out hSw; have t1 := cell_later K1.out hSw; have t2 := cell_later K2.out hSw; go_simp; try with_reducible rfl
    try simp only [Act.put, List.setIfInBounds_toArray, List.set_cons_zero, List.set_cons_succ]
    refine takeP 66 (i := 2) (v := ?_) rfl rfl (by kernel_rfl) (by kernel_rfl) (by kernel_rfl) (by kernel_rfl) rfl (by kernel_rfl) (fun _ _ _ h => h) (Or.inl ⟨by kernel_rfl, ?_⟩) SX ?_
    rotate_left
    · intro w' hSw; have t0 := cell_later K0.out hSw; have t1 := cell_later K1.out hSw; have t2 := cell_later K2.out hSw; go_simp; try with_reducible rfl
    try simp only [Act.put, List.setIfInBounds_toArray, List.set_cons_zero, List.set_cons_succ]
    refine takeP 67 (i := 3) (v := ?_) rfl rfl (by kernel_rfl) (by kernel_rfl) (by kernel_rfl) (by kernel_rfl) rfl (by kernel_rfl) (fun _ _ _ h => h) (Or.inl ⟨by kernel_rfl, ?_⟩) SX ?_
    rotate_left
    · intro w' hSw; have t0 := cell_later K0.out hSw; have t1 := cell_later K1.out hSw; have t2 := cell_later K2.out hSw; go_simp; try with_reducible rfl
    try simp only [Act.put, List.setIfInBounds_toArray, List.set_cons_zero, List.set_cons_succ]
    refine takeP 68 (i := 4) (v := ?_) rfl rfl (by kernel_rfl) (by kernel_rfl) (by kernel_rfl) (by kernel_rfl) rfl (by kernel_rfl) (fun _ _ _ h => h) (Or.inl ⟨by kernel_rfl, ?_⟩) SX ?_
    rotate_left
    · intro w' hSw; have t0 := cell_later K0.out hSw; have t1 := cell_later K1.out hSw; have t2 := cell_later K2.out hSw; go_simp; try with_reducible rfl
    try simp only [Act.put, List.setIfInBounds_toArray, List.set_cons_zero, List.set_cons_succ]
    refine takeP 69 (i := 5) (v := ?_) rfl rfl (by kernel_rfl) (by kernel_rfl) (by kernel_rfl) (by kernel_rfl) rfl (by kernel_rfl) (fun _ _ _ h => h) (Or.inl ⟨by kernel_rfl, ?_⟩) SX ?_
    rotate_left
    · intro w' hSw; have t0 := cell_later K0.out hSw; have t1 := cell_later K1.out hSw; have t2 := cell_later K2.out hSw; go_simp; try with_reducible rfl
    try simp only [Act.put, List.setIfInBounds_toArray, List.set_cons_zero, List.set_cons_succ]
    refine takeP 70 (i := 6) (v := ?_) rfl rfl (by kernel_rfl) (by kernel_rfl) (by kernel_rfl) (by kernel_rfl) rfl (by kernel_rfl) (fun _ _ _ h => h) (Or.inl ⟨by kernel_rfl, ?_⟩) SX ?_
    rotate_left
    · intro w' hSw; have t0 := cell_later K0.out hSw; have t1 := cell_later K1.out hSw; have t2 := cell_later K2.out hSw; go_simp; try with_reducible rfl
    try simp only [Act.put, List.setIfInBounds_toArray, List.set_cons_zero, List.set_cons_succ]
    refine takeP 71 (i := 7) (v := ?_) rfl rfl (by kernel_rfl) (by kernel_rfl) (by kernel_rfl) (by kernel_rfl) rfl (by kernel_rfl) (fun _ _ _ h => h) (Or.inl ⟨by kernel_rfl, ?_⟩) SX ?_
    rotate_left
    · intro w' hSw; have t0 := cell_later K0.out hSw; have t1 := cell_later K1.out hSw; have t2 := cell_later K2.out hSw; go_simp; try with_reducible rfl
    try simp only [Act.put, List.setIfInBounds_toArray, List.set_cons_zero, List.set_cons_succ]
    refine takeP 72 (i := 8) (v := ?_) rfl rfl (by kernel_rfl) (by kernel_rfl) (by kernel_rfl) (by kernel_rfl) rfl (by kernel_rfl) (fun _ _ _ h => h) (Or.inl ⟨by kernel_rfl, ?_⟩) SX ?_
    rotate_left
    · intro w' hSw; have t0 := cell_later K0.out hSw; have t1 := cell_later K1.out hSw; have t2 := cell_later K2.out hSw; go_simp; try with_reducible rfl
    try simp only [Act.put, List.setIfInBounds_toArray, List.set_cons_zero, List.set_cons_succ]
    refine takeP 73 (i := 9) (v := ?_) rfl rfl (by kernel_rfl) (by kernel_rfl) (by kernel_rfl) (by kernel_rfl) rfl (by kernel_rfl) (fun _ _ _ h => h) (Or.inl ⟨by kernel_rfl, ?_⟩) SX ?_
    rotate_left
    · intro w' hSw; have t0 := cell_later K0.out hSw; have t1 := cell_later K1.out hSw; have t2 := cell_later K2.out hSw; go_simp; try with_reducible rfl
    try simp only [Act.put, List.setIfInBounds_toArray, List.set_cons_zero, List.set_cons_succ]
    refine takeP 74 (i := 10) (v := ?_) rfl rfl (by kernel_rfl) (by kernel_rfl) (by kernel_rfl) (by kernel_rfl) rfl (by kernel_rfl) (fun _ _ _ h => h) (Or.inl ⟨by kernel_rfl, ?_⟩) SX ?_
    rotate_left
    · intro w' hSw; have t0 := cell_later K0.out hSw; have t1 := cell_later K1.out hSw; have t2 := cell_later K2.out hSw; go_simp; try with_reducible rfl
    try simp only [Act.put, List.setIfInBounds_toArray, List.set_cons_zero, List.set_cons_succ]
    refine wpAnyP_ready (rs := [11]) (by kernel_rfl) (by simp) ?_
    refine consPs _ rfl (by kernel_rfl) (hopL rfl (OwB.write (by rfl) _ _ (by rfl) Try.szIM w w.heap.size w.heap.size H2 m s bs (2 * a + 1) (by kernel_rfl) (by kernel_rfl) (P.out.2.2.2.2.2.2.2.2.2.later SX) hs (to_call P.out.1 SX) (Nat.le_refl _) fun WB eB bB sB oB => ?_)) AllReadyP.nil
    refine ⟨trivial, ?_⟩
    try simp only [Act.put, List.setIfInBounds_toArray, List.set_cons_zero, List.set_cons_succ]
    refine wpAnyP_done (by kernel_rfl) ?_ _
    refine NoPanic.normal ?_
    try simp only [Act.put, List.setIfInBounds_toArray, List.set_cons_zero, List.set_cons_succ]
    have P' : Hid (Below w.heap.size w WB ∧ WB.heap[w.heap.size]? = some (.cells #[.slice (some ⟨lb, lo, none⟩) m c, .slice (some ⟨bb, bo, none⟩) m d] 24) ∧ WB.heap[w.heap.size + 1]? = some (.cells #[.slice none 0 0, .slice none 0 0] 24) ∧ WB.heap[w.heap.size + 1 + 1]? = some (.cells #[.slice none 0 0, .slice none 0 0] 24) ∧ WB.heap[b7]? = some (.cells #[.slice (some ⟨G, 0, none⟩) m c1, .slice (some ⟨H, 0, none⟩) m c2] 24) ∧ WB.heap[b8]? = some (.cells #[.slice (some ⟨G2, 0, none⟩) m c3, .slice (some ⟨H2, 0, none⟩) m c4] 24) ∧ OwB WB w.heap.size G m (ls.set s (l + 1)) ∧ OwB WB w.heap.size H m (bs.set s (2 * a)) ∧ OwB WB w.heap.size G2 m (ls.set s (l + 1)) ∧ OwB WB w.heap.size H2 m (bs.set s (2 * a + 1))) := ⟨bB, (oB _ (by omega)).trans (kept SX P.out.2.1), (oB _ (by omega)).trans (kept SX P.out.2.2.1), (oB _ (by omega)).trans (kept SX P.out.2.2.2.1), (oB _ (by omega)).trans (kept SX P.out.2.2.2.2.1), (oB _ (by omega)).trans (kept SX P.out.2.2.2.2.2.1), (P.out.2.2.2.2.2.2.1.later SX).other (by omega) oB, (P.out.2.2.2.2.2.2.2.1.later SX).other (by omega) oB, (P.out.2.2.2.2.2.2.2.2.1.later SX).other (by omega) oB, eB⟩
    have P := P'
    clear P' K0 K1 K2 eB bB sB oB SX wa wb
    go_upto_region 11 with fail
    refine wp_region_noPanic ?_
    refine wp_region_P (S := (fun V => V.heap[b7]? = some (.cells #[.slice (some ⟨G, 0, none⟩) m c1, .slice (some ⟨H, 0, none⟩) m c2] 24) ∧ V.heap[b8]? = some (.cells #[.slice (some ⟨G2, 0, none⟩) m c3, .slice (some ⟨H2, 0, none⟩) m c4] 24))) (s := 3) (by kernel_rfl) ?_
    have SX : WB.drew.heap[b7]? = some (.cells #[.slice (some ⟨G, 0, none⟩) m c1, .slice (some ⟨H, 0, none⟩) m c2] 24) ∧ WB.drew.heap[b8]? = some (.cells #[.slice (some ⟨G2, 0, none⟩) m c3, .slice (some ⟨H2, 0, none⟩) m c4] 24) := ⟨P.out.2.2.2.2.1, P.out.2.2.2.2.2.1⟩
    refine takeP 75 (i := 0) (v := .agg #[.slice (some ⟨G, 0, none⟩) m c1, .slice (some ⟨H, 0, none⟩) m c2]) rfl rfl (by kernel_rfl) (by kernel_rfl) (by kernel_rfl) (by kernel_rfl) rfl (by kernel_rfl) (fun _ _ _ h => h) (Or.inl ⟨by kernel_rfl, fun w' hSw => ex_loadRN _ 24 _ rfl b7 (by kernel_rfl) w' _ hSw.1 _ Try.underlying24 rfl 2 Try.szRT rfl⟩) SX ?_
    try simp only [Act.put, List.setIfInBounds_toArray, List.set_cons_zero, List.set_cons_succ]
    refine takeP 76 (i := 1) (v := .agg #[.slice (some ⟨G2, 0, none⟩) m c3, .slice (some ⟨H2, 0, none⟩) m c4]) rfl rfl (by kernel_rfl) (by kernel_rfl) (by kernel_rfl) (by kernel_rfl) rfl (by kernel_rfl) (fun _ _ _ h => h) (Or.inl ⟨by kernel_rfl, fun w' hSw => ex_loadRN _ 24 _ rfl b8 (by kernel_rfl) w' _ hSw.2 _ Try.underlying24 rfl 2 Try.szRT rfl⟩) SX ?_
    try simp only [Act.put, List.setIfInBounds_toArray, List.set_cons_zero, List.set_cons_succ]
    refine wpAnyP_ready (rs := [2]) (by kernel_rfl) (by simp) ?_
    refine consP _ rfl (hopL rfl (wpList_store_row (by rfl) 24 _ _ (by rfl) w w.heap.size (w.heap.size + 1) #[.slice (some ⟨G, 0, none⟩) m c1, .slice (some ⟨H, 0, none⟩) m c2] _ (by kernel_rfl) (by kernel_rfl) P.out.2.2.1 P.out.1.drew (by omega) 2 Try.szRT rfl rfl (one_rg _ _ _ _ _ _) fun W5 e5 b5 s5 o5 => ?_)) AllReadyP.nil
    refine ⟨⟨(o5 _ (by omega)).trans SX.1, (o5 _ (by omega)).trans SX.2⟩, ?_⟩
    try simp only [Act.put, List.setIfInBounds_toArray, List.set_cons_zero, List.set_cons_succ]
    refine wpAnyP_ready (rs := [3]) (by kernel_rfl) (by simp) ?_
    refine consPs _ rfl (by kernel_rfl) (hopL rfl (wpList_store_row (by rfl) 24 _ _ (by rfl) w w.heap.size (w.heap.size + 1 + 1) #[.slice (some ⟨G2, 0, none⟩) m c3, .slice (some ⟨H2, 0, none⟩) m c4] _ (by kernel_rfl) (by kernel_rfl) ((o5 (w.heap.size + 1 + 1) (by omega)).trans P.out.2.2.2.1) b5 (by omega) 2 Try.szRT rfl rfl (one_rg _ _ _ _ _ _) fun W6 e6 b6 s6 o6 => ?_)) AllReadyP.nil
    refine ⟨trivial, ?_⟩
    try simp only [Act.put, List.setIfInBounds_toArray, List.set_cons_zero, List.set_cons_succ]
    refine takeP0 6 (i := 4) (v := ?_) rfl rfl (by kernel_rfl) (by kernel_rfl) (by kernel_rfl) rfl (fun _ _ _ h => h) (Or.inl ⟨by kernel_rfl, ?_⟩) (fun h => Bool.noConfusion (h : true = false)) ?_
    rotate_left
    · intro w' hSw; skip; go_simp; try with_reducible rfl
    try simp only [Act.put, List.setIfInBounds_toArray, List.set_cons_zero, List.set_cons_succ]
    refine wpAnyP_done (by kernel_rfl) ?_ _
    refine NoPanic.normal ?_
    try simp only [Act.put, List.setIfInBounds_toArray, List.set_cons_zero, List.set_cons_succ]
    have R1 := ((P.out.2.2.2.2.2.2.1.other (B := w.heap.size + 1) (by omega) o5).other (B := w.heap.size + 1 + 1) (by omega) o6).rd (c := c1) (by omega)
    have R2 := ((P.out.2.2.2.2.2.2.2.1.other (B := w.heap.size + 1) (by omega) o5).other (B := w.heap.size + 1 + 1) (by omega) o6).rd (c := c2) (by omega)
    have R3 := ((P.out.2.2.2.2.2.2.2.2.1.other (B := w.heap.size + 1) (by omega) o5).other (B := w.heap.size + 1 + 1) (by omega) o6).rd (c := c3) (by omega)
    have R4 := ((P.out.2.2.2.2.2.2.2.2.2.other (B := w.heap.size + 1) (by omega) o5).other (B := w.heap.size + 1 + 1) (by omega) o6).rd (c := c4) (by omega)
    have RR : Hid (RdIs W6 (some ⟨G, 0, none⟩) m c1 (ls.set s (l + 1)) ∧ RdIs W6 (some ⟨H, 0, none⟩) m c2 (bs.set s (2 * a)) ∧ RdIs W6 (some ⟨G2, 0, none⟩) m c3 (ls.set s (l + 1)) ∧ RdIs W6 (some ⟨H2, 0, none⟩) m c4 (bs.set s (2 * a + 1))) := ⟨R1, R2, R3, R4⟩
    clear R1 R2 R3 R4
    go_wp2_with fail
    refine bodyPost_ret (res_cct _ _ _ 24 _ 2 4 5 6 (by kernel_rfl) (w.heap.size + 1) (w.heap.size + 1 + 1) _ _ _ rfl rfl rfl Try.underlying24 rfl Try.szRT rfl rfl ((o6 _ (by omega)).trans e5) e6) rfl ?_
    refine ⟨⟨_, c1, _, c2, _, c3, _, c4, m, by rw [HE.out]; rfl, fun _ => ?_, fun h => absurd HE.out h⟩, b6⟩
    try rw [Int.toNat_natCast]
    rw [HLA.out.1, HLA.out.2]
    exact ⟨rfl, RR.out⟩
end Go.Proofs.Ytaadhjdbieoieaa
