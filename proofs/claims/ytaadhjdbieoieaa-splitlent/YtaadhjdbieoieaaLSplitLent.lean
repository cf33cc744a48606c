import Derived.Test.YtaadhjdbieoieaaSPLd
namespace Go.Proofs.Ytaadhjdbieoieaa
open Go.RowKit
set_option linter.unusedVariables false
set_option linter.unusedSimpArgs false
set_option maxRecDepth 100000 in
set_option maxHeartbeats 20000000 in
theorem splitLent_walk (k : Int) (tq : Option Addr) (tn tc : Nat) (F : Nat → Int × Bool) (w : World) (ht : RdTu w tq tn tc F) :
    Calls Try.prog 8 #[.int .i64 k, .slice tq tn tc] w fun e w' => e = .returned (.bool true) ∧ Below w.heap.size w w' := by
  have HT : Hid (∀ W', Below w.heap.size w W' → RdTu W' tq tn tc F) := fun W' hb => ht.later hb
  have htm : tn ≤ 9223372036854775807 := Nat.le_trans ht.max maxLen_le
  clear ht
  obtain ⟨n, hk, hn⟩ := and15 k
  have hn2 : n ≤ 256 := by omega
  have HW : Hid (∀ W, Calls Try.prog 9 #[.int .i64 (n : Int)] W fun e w' => (∃ B1 B2, e = .returned (.tuple #[.agg #[.slice (some ⟨B1, 0, none⟩) n n, .slice (some ⟨B2, 0, none⟩) n n], .int .i64 0]) ∧ RgO w' W.heap.size B1 B2 (List.replicate n 0) (List.replicate n 0)) ∧ Below W.heap.size W w') := fun W => (whole_any n W).mono fun e w' ⟨h, hb⟩ => ⟨by have := h.1 ⟨by omega, by omega⟩; rw [Int.toNat_natCast] at this; exact this, hb⟩
  go_enter Try.func8, Try.ntmps8
  go_wp2_with fail
  clear hk
  refine Calls.mono (HW.out _) ?_
  rintro e' w1 ⟨⟨B1, B2, rfl, hr⟩, bb1⟩
  go_upto_region 2 with fail
  have A1 : Below w1.heap.size w1 (w1.alloc (.cells #[.slice (some ⟨B1, 0, none⟩) n n, .slice (some ⟨B2, 0, none⟩) n n] 24)) := (Below.refl _ w1).alloc (Nat.le_refl _) _
  have Y1 : (w1.alloc (.cells #[.slice (some ⟨B1, 0, none⟩) n n, .slice (some ⟨B2, 0, none⟩) n n] 24)).heap[w1.heap.size]? = some (.cells #[.slice (some ⟨B1, 0, none⟩) n n, .slice (some ⟨B2, 0, none⟩) n n] 24) := heap_alloc_new w1 _
  obtain ⟨V1, hV1⟩ : ∃ V, (w1.alloc (.cells #[.slice (some ⟨B1, 0, none⟩) n n, .slice (some ⟨B2, 0, none⟩) n n] 24)) = V := ⟨_, rfl⟩
  obtain ⟨P, hP⟩ : ∃ p, w1.heap.size = p := ⟨_, rfl⟩
  have hp9 : w.heap.size ≤ P := by rw [← hP]; exact bb1.size
  rw [hV1] at A1 Y1 ⊢
  rw [hP] at Y1 ⊢
  have hlr : (List.replicate n (0 : Int)).length = n := List.length_replicate
  have P1 : Hid (Below w.heap.size w V1 ∧ RrS w V1 P n B1 B2 n n (List.replicate n 0) (List.replicate n 0)) := ⟨to_call bb1 A1, Y1, (owl_hv (hr.later A1) hlr hlr hn2).1, (owl_hv (hr.later A1) hlr hlr hn2).2, hr.ne⟩
  clear hV1 hP A1 Y1 hr bb1 HW hlr
  go_wp2_with (first | (refine wpList_load_row (by rfl) 24 _ (by rfl) P #[.slice (some ⟨B1, 0, none⟩) n n, .slice (some ⟨B2, 0, none⟩) n n] (by rfl) P1.out.2.v _ Try.underlying24 rfl 2 Try.szRT (by rfl) ?_))
  have HCP : Hid (Calls Try.prog 24 #[.agg #[.slice (some ⟨B1, 0, none⟩) n n, .slice (some ⟨B2, 0, none⟩) n n]] V1 fun e w' => (∃ u1 u2 j1 j2, e = .returned (.agg #[.slice u1 n j1, .slice u2 n j2]) ∧ RdIs w' u1 n j1 (List.replicate n 0) ∧ RdIs w' u2 n j2 (List.replicate n 0)) ∧ Below V1.heap.size V1 w') := by
    by_cases h0 : 0 < n
    · exact (refCopyL_any _ _ n n n _ _ V1 h0 hn2 P1.out.2.r1.rd P1.out.2.r2.rd).mono fun e w' ⟨⟨G, H, c1, c2, he, z1, z2, _⟩, hb⟩ => ⟨⟨_, _, c1, c2, he, z1.rd, z2.rd⟩, hb⟩
    · obtain rfl : n = 0 := by omega
      exact (refCopy0_any B1 0 B2 0 0 0 V1).mono fun e w' ⟨he, hb⟩ => ⟨⟨none, none, 0, 0, he, ⟨rfl, Nat.zero_le _, .inl rfl⟩, ⟨rfl, Nat.zero_le _, .inl rfl⟩⟩, hb⟩
  refine Calls.mono HCP.out ?_
  rintro e' w2 ⟨⟨u1, u2, j1, j2, rfl, x1, x2⟩, bb2⟩
  go_upto_region 5 with fail
  have A1 : Below w2.heap.size w2 (w2.alloc (.cells #[.slice u1 n j1, .slice u2 n j2] 24)) := (Below.refl _ w2).alloc (Nat.le_refl _) _
  have Y1 : (w2.alloc (.cells #[.slice u1 n j1, .slice u2 n j2] 24)).heap[w2.heap.size]? = some (.cells #[.slice u1 n j1, .slice u2 n j2] 24) := heap_alloc_new w2 _
  obtain ⟨V2, hV2⟩ : ∃ V, (w2.alloc (.cells #[.slice u1 n j1, .slice u2 n j2] 24)) = V := ⟨_, rfl⟩
  obtain ⟨U, hU⟩ : ∃ p, w2.heap.size = p := ⟨_, rfl⟩
  have hPU' : P < U := by rw [← hU]; exact blk_lt (kept bb2 P1.out.2.v)
  have hPU : P ≠ U := by omega
  have hu9 : w.heap.size ≤ U := by omega
  rw [hV2] at A1 Y1 ⊢
  rw [hU] at Y1 ⊢
  have P2 : Hid (∃ m g c C R1 R2 k1 k2 ls bs u1 u2 j1 j2, m ≤ 5 * 0 ∧ KpS w V2 P U n m (.slice none 0 0) g c C ∧ RrS w V2 P n R1 R2 k1 k2 ls bs ∧ SgV V2 U n u1 u2 j1 j2 ls bs ∧ (∀ k, k < 2 * m → g k ≠ R1 ∧ g k ≠ R2)) := ⟨0, fun _ => 0, fun _ => 0, fun _ => [], B1, B2, n, n, _, _, u1, u2, j1, j2, Nat.zero_le _, ⟨to_call (to_call P1.out.1 bb2) A1, World.ownsRow_nil _ _ _ _, fun q hq => (by cases hq), fun k hk => absurd hk (by omega), fun i j hi => absurd hi (by omega)⟩, (P1.out.2.later bb2).later A1, ⟨Y1, x1.later A1, x2.later A1⟩, fun k hk => absurd hk (by omega)⟩
  clear hV2 hU A1 Y1 x1 x2 bb2 P1 HCP hPU'
  go_wp2_with fail
  go_loopg [8, 9] 12 (fun gg kvv iv wx => ∃ i : Nat, iv = .int .i64 i ∧ i + gg = 12 ∧ Hid (∃ m g c C R1 R2 k1 k2 ls bs u1 u2 j1 j2, m ≤ 5 * i ∧ KpS w wx P U n m kvv g c C ∧ RrS w wx P n R1 R2 k1 k2 ls bs ∧ SgV wx U n u1 u2 j1 j2 ls bs ∧ (∀ k, k < 2 * m → g k ≠ R1 ∧ g k ≠ R2)))
  case atStart => exact ⟨0, rfl, by omega, P2⟩
  case round =>
    clear P2
    obtain ⟨i, rfl, hj, P0⟩ := hrel
    by_cases ht1 : i < tn
    · have e1 : decide ((i : Int) < (tn : Int)) = true := decide_eq_true (by omega)
      by_cases ht2 : i < 12
      · have e2 : decide ((i : Int) < 12) = true := decide_eq_true (by omega)
        obtain ⟨q, rfl⟩ : ∃ q, gk = q + 1 := ⟨gk - 1, by omega⟩
        have HIG : Hid (i + (q + 1) = 12) := hj
        have ht1' : (i : Int) < (tn : Int) := by omega
        obtain ⟨m, g, c, C, R1, R2, k1, k2, ls, bs, u1, u2, j1, j2, hm5, S', R', U', hd'⟩ := P0.out
        have HM5 : Hid (m ≤ 5 * i) := hm5
        have S0 : Hid (KpS w wr P U n m u8 g c C ∧ RrS w wr P n R1 R2 k1 k2 ls bs ∧ SgV wr U n u1 u2 j1 j2 ls bs ∧ (∀ k, k < 2 * m → g k ≠ R1 ∧ g k ≠ R2)) := ⟨S', R', U', hd'⟩
        have hm60 : m + 5 ≤ 1000000 := by omega
        clear P0 S' R' U' hd' hm5
        rcases (HT.out w (Below.refl _ _)).cells with h0 | ⟨tb, tf, rfl, hct⟩
        · omega
        have gt := hct i ht1
        obtain ⟨⟨sy, up⟩, hF⟩ : ∃ x, F i = x := ⟨_, rfl⟩
        rw [hF] at gt
        have HB1 : Hid (∀ W, Below w.heap.size w W → W.cell? ⟨tb, tf + i * 2 + 1, none⟩ = some (.bool up)) := fun W hb => cell_later gt.2 hb
        have CT0 : wr.cell? ⟨tb, tf + i * 2, none⟩ = some (.int .i64 sy) := cell_later gt.1 S0.out.1.b
        clear gt hct hF hj
        go_upto_region 10 with fail
        clear CT0
        go_wp2_with (first | (refine wpList_load_row (by rfl) 24 _ (by rfl) P #[.slice (some ⟨R1, 0, none⟩) n k1, .slice (some ⟨R2, 0, none⟩) n k2] (by rfl) S0.out.2.1.v _ Try.underlying24 rfl 2 Try.szRT (by rfl) ?_))
        refine Calls.mono (halveU _ _ n n k1 k2 ls bs sy _ S0.out.2.1.r1.rd S0.out.2.1.r2.rd) ?_
        rintro e' w1 ⟨⟨a1, a2, a3, a4, N, rfl, HX⟩, bb1⟩
        obtain ⟨er, her⟩ : ∃ er, HvE ls bs n sy = er := ⟨_, rfl⟩
        have HER : Hid (HvE ls bs n sy = er) := her
        rw [her]
        clear her
        go_upto_region 11 with fail
        have A1 : Below w1.heap.size w1 ((w1.alloc (.cells #[.slice a1 N N, .slice a2 N N] 24)).alloc (.cells #[.slice a3 N N, .slice a4 N N] 24)) := below_al (below_al (Below.refl _ w1) _) _
        have Z1 : ((w1.alloc (.cells #[.slice a1 N N, .slice a2 N N] 24)).alloc (.cells #[.slice a3 N N, .slice a4 N N] 24)).heap[w1.heap.size]? = some (.cells #[.slice a1 N N, .slice a2 N N] 24) := alloc_kept (heap_alloc_new w1 _) _
        have Z2 : ((w1.alloc (.cells #[.slice a1 N N, .slice a2 N N] 24)).alloc (.cells #[.slice a3 N N, .slice a4 N N] 24)).heap[w1.heap.size + 1]? = some (.cells #[.slice a3 N N, .slice a4 N N] 24) := alloc_at _ _ _ (by simp)
        obtain ⟨Va, hV1⟩ : ∃ V, ((w1.alloc (.cells #[.slice a1 N N, .slice a2 N N] 24)).alloc (.cells #[.slice a3 N N, .slice a4 N N] 24)) = V := ⟨_, rfl⟩
        obtain ⟨b11, hb15⟩ : ∃ b, w1.heap.size = b := ⟨_, rfl⟩
        obtain ⟨b12, hb16⟩ : ∃ b, b11 + 1 = b := ⟨_, rfl⟩
        rw [hV1] at A1 Z1 Z2 ⊢
        rw [hb15] at Z1 Z2 ⊢
        rw [hb16] at Z2 ⊢
        have S1 : Hid (KpS w Va P U n m u8 g c C ∧ RrS w Va P n R1 R2 k1 k2 ls bs ∧ SgV Va U n u1 u2 j1 j2 ls bs ∧ Va.heap[b11]? = some (.cells #[.slice a1 N N, .slice a2 N N] 24) ∧ Va.heap[b12]? = some (.cells #[.slice a3 N N, .slice a4 N N] 24) ∧ HvX Va wr.heap.size n ls bs sy a1 a2 a3 a4 N ∧ wr.heap.size ≤ Va.heap.size ∧ wr.heap.size ≤ b11 ∧ wr.heap.size ≤ b12) := ⟨(S0.out.1.later bb1).later A1, (S0.out.2.1.later bb1).later A1, (S0.out.2.2.1.later bb1).later A1, Z1, Z2, HX.later A1, Nat.le_trans bb1.size A1.size, by have := bb1.size; omega, by have := bb1.size; omega⟩
        clear hV1 hb15 hb16 A1 Z1 Z2 bb1 HX
        go_wp2_with (first | (refine wpList_load_row (by rfl) 24 _ (by rfl) P #[.slice (some ⟨R1, 0, none⟩) n k1, .slice (some ⟨R2, 0, none⟩) n k2] (by rfl) S1.out.2.1.v _ Try.underlying24 rfl 2 Try.szRT (by rfl) ?_))
        refine Calls.mono (halveU _ _ n n k1 k2 ls bs sy _ S1.out.2.1.r1.rd S1.out.2.1.r2.rd) ?_
        rintro e' w2 ⟨⟨e1, e2, e3, e4, M, rfl, HX⟩, bb2⟩
        rw [HER.out]
        go_upto_region 12 with fail
        have A1 : Below w2.heap.size w2 ((w2.alloc (.cells #[.slice e1 M M, .slice e2 M M] 24)).alloc (.cells #[.slice e3 M M, .slice e4 M M] 24)) := below_al (below_al (Below.refl _ w2) _) _
        have Z1 : ((w2.alloc (.cells #[.slice e1 M M, .slice e2 M M] 24)).alloc (.cells #[.slice e3 M M, .slice e4 M M] 24)).heap[w2.heap.size]? = some (.cells #[.slice e1 M M, .slice e2 M M] 24) := alloc_kept (heap_alloc_new w2 _) _
        have Z2 : ((w2.alloc (.cells #[.slice e1 M M, .slice e2 M M] 24)).alloc (.cells #[.slice e3 M M, .slice e4 M M] 24)).heap[w2.heap.size + 1]? = some (.cells #[.slice e3 M M, .slice e4 M M] 24) := alloc_at _ _ _ (by simp)
        obtain ⟨Vb, hV1⟩ : ∃ V, ((w2.alloc (.cells #[.slice e1 M M, .slice e2 M M] 24)).alloc (.cells #[.slice e3 M M, .slice e4 M M] 24)) = V := ⟨_, rfl⟩
        obtain ⟨b14, hb15⟩ : ∃ b, w2.heap.size = b := ⟨_, rfl⟩
        obtain ⟨b15, hb16⟩ : ∃ b, b14 + 1 = b := ⟨_, rfl⟩
        rw [hV1] at A1 Z1 Z2 ⊢
        rw [hb15] at Z1 Z2 ⊢
        rw [hb16] at Z2 ⊢
        have HDV : Hid (HvX Va wr.heap.size n ls bs sy a1 a2 a3 a4 N) := S1.out.2.2.2.2.2.1
        have HKB : Hid (w.heap.size ≤ wr.heap.size ∧ ∀ q, u8.ownBlock = some q → q < wr.heap.size) := ⟨S0.out.1.b.size, fun q hq => (World.ownsRow.lt S0.out.1.o q hq).2⟩
        have HSZ : Hid (wr.heap.size ≤ Va.heap.size ∧ Va.heap.size ≤ Vb.heap.size ∧ P < wr.heap.size ∧ U < wr.heap.size ∧ wr.heap.size ≤ b11 ∧ wr.heap.size ≤ b12 ∧ wr.heap.size ≤ b14 ∧ wr.heap.size ≤ b15) := ⟨S1.out.2.2.2.2.2.2.1, Nat.le_trans bb2.size A1.size, blk_lt S0.out.2.1.v, blk_lt S0.out.2.2.1.v, S1.out.2.2.2.2.2.2.2.1, S1.out.2.2.2.2.2.2.2.2, by have := bb2.size; have := S1.out.2.2.2.2.2.2.1; omega, by have := bb2.size; have := S1.out.2.2.2.2.2.2.1; omega⟩
        have HLO : Hid ((∀ k, k < 2 * m → g k < wr.heap.size) ∧ R1 < wr.heap.size ∧ R2 < wr.heap.size) := ⟨fun k hk => (S0.out.1.f k hk).lt, S0.out.2.1.r1.lt, S0.out.2.1.r2.lt⟩
        have HFR : Hid (∀ k, k < 2 * m → g k ≠ R1 ∧ g k ≠ R2) := S0.out.2.2.2
        have S2 : Hid (KpS w Vb P U n m u8 g c C ∧ RrS w Vb P n R1 R2 k1 k2 ls bs ∧ SgV Vb U n u1 u2 j1 j2 ls bs ∧ (Vb.heap[b11]? = some (.cells #[.slice a1 N N, .slice a2 N N] 24) ∧ Vb.heap[b12]? = some (.cells #[.slice a3 N N, .slice a4 N N] 24) ∧ Vb.heap[b14]? = some (.cells #[.slice e1 M M, .slice e2 M M] 24) ∧ Vb.heap[b15]? = some (.cells #[.slice e3 M M, .slice e4 M M] 24)) ∧ HvX Vb wr.heap.size n ls bs sy a1 a2 a3 a4 N ∧ HvX Vb Va.heap.size n ls bs sy e1 e2 e3 e4 M) := ⟨(S1.out.1.later bb2).later A1, (S1.out.2.1.later bb2).later A1, (S1.out.2.2.1.later bb2).later A1, ⟨kept A1 (kept bb2 S1.out.2.2.2.1), kept A1 (kept bb2 S1.out.2.2.2.2.1), Z1, Z2⟩, (S1.out.2.2.2.2.2.1.later bb2).later A1, HX.later A1⟩
        have HPB : Hid (P ≠ b12) := by have := HSZ.out; unfold Hid; omega
        clear hV1 hb15 hb16 A1 Z1 Z2 bb2 HX S0 S1
        have HSM : Hid _ := same_xx S2.out.2.2.2.2.1 S2.out.2.2.2.2.2
        have HSR : Hid (∀ V, Below Vb.heap.size Vb V → Calls Try.prog 11 #[.agg #[.slice (some ⟨R1, 0, none⟩) n k1, .slice (some ⟨R2, 0, none⟩) n k2], .agg #[.slice u1 n j1, .slice u2 n j2]] V fun e w' => e = .returned (.bool true) ∧ Below V.heap.size V w') := fun V hb => by
          have h := same_any (some ⟨R1, 0, none⟩) (some ⟨R2, 0, none⟩) u1 u2 n k1 n k2 n j1 n j2 ls bs ls bs V (S2.out.2.1.r1.rd.later hb) (S2.out.2.1.r2.rd.later hb) (S2.out.2.2.1.rl.later hb) (S2.out.2.2.1.ra.later hb)
          rw [decide_eq_true ⟨rfl, rfl⟩] at h
          exact h
        have g1 : (er != er) = false := by simp
        go_wp2_with (first | (refine wpList_load_rowG (by rfl) 24 _ (by rfl) b11 #[.slice a1 N N, .slice a2 N N] (by rfl) S2.out.2.2.2.1.1 _ Try.underlying24 rfl 2 Try.szRT (by rfl) ?_) | (refine wpList_load_rowG (by rfl) 24 _ (by rfl) b14 #[.slice e1 M M, .slice e2 M M] (by rfl) S2.out.2.2.2.1.2.2.1 _ Try.underlying24 rfl 2 Try.szRT (by rfl) ?_))
        refine Calls.mono (HSM.out.1 _ (Below.refl _ _)) ?_
        rintro e' Wa ⟨rfl, ba⟩
        go_wp2_with (first | (refine wpList_load_rowG (by rfl) 24 _ (by rfl) b12 #[.slice a3 N N, .slice a4 N N] (by rfl) (kept ba S2.out.2.2.2.1.2.1) _ Try.underlying24 rfl 2 Try.szRT (by rfl) ?_) | (refine wpList_load_rowG (by rfl) 24 _ (by rfl) b15 #[.slice e3 M M, .slice e4 M M] (by rfl) (kept ba S2.out.2.2.2.1.2.2.2) _ Try.underlying24 rfl 2 Try.szRT (by rfl) ?_))
        refine Calls.mono (HSM.out.2 _ ba) ?_
        rintro e' Wb ⟨rfl, bb⟩
        have bc := to_call ba bb
        go_wp2_with (first | (refine wpList_load_rowG (by rfl) 24 _ (by rfl) P #[.slice (some ⟨R1, 0, none⟩) n k1, .slice (some ⟨R2, 0, none⟩) n k2] (by rfl) (kept bc S2.out.2.1.v) _ Try.underlying24 rfl 2 Try.szRT (by rfl) ?_) | (refine wpList_load_rowG (by rfl) 24 _ (by rfl) U #[.slice u1 n j1, .slice u2 n j2] (by rfl) (kept bc S2.out.2.2.1.v) _ Try.underlying24 rfl 2 Try.szRT (by rfl) ?_))
        refine Calls.mono (HSR.out _ bc) ?_
        rintro e' Wc ⟨rfl, bd⟩
        have be := to_call bc bd
        have S3 : Hid (KpS w Wc P U n m u8 g c C ∧ RrS w Wc P n R1 R2 k1 k2 ls bs ∧ SgV Wc U n u1 u2 j1 j2 ls bs ∧ (Wc.heap[b11]? = some (.cells #[.slice a1 N N, .slice a2 N N] 24) ∧ Wc.heap[b12]? = some (.cells #[.slice a3 N N, .slice a4 N N] 24) ∧ Wc.heap[b14]? = some (.cells #[.slice e1 M M, .slice e2 M M] 24) ∧ Wc.heap[b15]? = some (.cells #[.slice e3 M M, .slice e4 M M] 24)) ∧ HvX Wc wr.heap.size n ls bs sy a1 a2 a3 a4 N ∧ HvX Wc Va.heap.size n ls bs sy e1 e2 e3 e4 M ∧ Vb.heap.size ≤ Wc.heap.size) := ⟨S2.out.1.later be, S2.out.2.1.later be, S2.out.2.2.1.later be, ⟨kept be S2.out.2.2.2.1.1, kept be S2.out.2.2.2.1.2.1, kept be S2.out.2.2.2.1.2.2.1, kept be S2.out.2.2.2.1.2.2.2⟩, S2.out.2.2.2.2.1.later be, S2.out.2.2.2.2.2.later be, be.size⟩
        clear ba bb bc bd be HSM HSR g1 S2
        by_cases he : er = 0
        · subst he
          obtain ⟨hN, D1, D2, C1, C2, ra1, ra2, ra3, ra4, x1, x2, o1, o2, o3, o4⟩ := S3.out.2.2.2.2.1.ok HER.out
          obtain ⟨hM, F1, F2, G1, G2, re1, re2, re3, re4, y1, y2, o5, o6, o7, o8⟩ := S3.out.2.2.2.2.2.1.ok HER.out
          obtain ⟨hrg, s0, sN, s8⟩ := HvE_zero HER.out
          have hlen := regB_len hrg
          have hn0 : 0 < n := by omega
          have hN2 : n = N := hN.symm
          subst hN2
          have hM2 : n = M := hM.symm
          subst hM2
          subst ra1 ra2 ra3 ra4 re1 re2 re3 re4
          have hvl := hv_lt HDV.out HER.out
          obtain ⟨l0, hl0⟩ : ∃ x, (ls.set sy.toNat (ls[sy.toNat]?.getD 0 + 1)) = x := ⟨_, rfl⟩
          obtain ⟨m0, hm0⟩ : ∃ x, (bs.set sy.toNat (2 * bs[sy.toNat]?.getD 0)) = x := ⟨_, rfl⟩
          obtain ⟨m1, hm1⟩ : ∃ x, (bs.set sy.toNat (2 * bs[sy.toNat]?.getD 0 + 1)) = x := ⟨_, rfl⟩
          rw [hl0, hm0] at x1 y1
          rw [hl0, hm1] at x2 y2
          have q0 : l0.length = n := by rw [← hl0, List.length_set]; omega
          have q1 : m0.length = n := by rw [← hm0, List.length_set]; omega
          have q2 : m1.length = n := by rw [← hm1, List.length_set]; omega
          have hws := HSZ.out
          have hkb := HKB.out
          have hlo := HLO.out
          have hb1 := x1.b1
          have hb2 := x1.b2
          have hb3 := x2.b1
          have hb4 := x2.b2
          have hb5 := y1.b1
          have hb6 := y1.b2
          have hb7 := y2.b1
          have hb8 := y2.b2
          have hne1 := x1.ne
          have hne2 := x2.ne
          have hne3 := y1.ne
          have hne4 := y2.ne
          have hne5 := S3.out.2.1.ne
          have hnd : ([D1, D2, C1, C2, F1, F2, G1, G2, R1, R2] : List Nat).Nodup := by
            simp only [List.nodup_cons, List.mem_cons, List.not_mem_nil, or_false, List.nodup_nil, and_true, not_or, not_false_eq_true]
            omega
          have hold : ∀ k, k < 2 * m → ∀ x ∈ ([D1, D2, C1, C2, F1, F2, G1, G2, R1, R2] : List Nat), g k ≠ x := by
            intro k hk x hx
            have h1 := hlo.1 k hk
            have h2 := HFR.out k hk
            simp only [List.mem_cons, List.not_mem_nil, or_false] at hx
            omega
          have LX1 := owl_hv (x1.monoB (base' := w.heap.size) (by omega)) q0 q1 hn2
          have LX2 := owl_hv (x2.monoB (base' := w.heap.size) (by omega)) q0 q2 hn2
          have LY1 := owl_hv (y1.monoB (base' := w.heap.size) (by omega)) q0 q1 hn2
          have LY2 := owl_hv (y2.monoB (base' := w.heap.size) (by omega)) q0 q2 hn2
          have HLS : Hid ((OwL Wc w.heap.size D1 n n l0 ∧ OwL Wc w.heap.size D2 n n m0) ∧ (OwL Wc w.heap.size C1 n n l0 ∧ OwL Wc w.heap.size C2 n n m1)) := ⟨LX1, LX2⟩
          have HLN : Hid (wr.heap.size ≤ D1 ∧ wr.heap.size ≤ D2 ∧ wr.heap.size ≤ C1 ∧ wr.heap.size ≤ C2) := ⟨hb1, hb2, hb3, hb4⟩
          have HMORE : Hid (∀ kv' w', w'.ownsRow w.heap.size 24 2 kv' (m + 5) (slL g c n (2 * m) ++ [.slice (some ⟨D1, 0, none⟩) n n, .slice (some ⟨D2, 0, none⟩) n n, .slice (some ⟨C1, 0, none⟩) n n, .slice (some ⟨C2, 0, none⟩) n n, .slice (some ⟨F1, 0, none⟩) n n, .slice (some ⟨F2, 0, none⟩) n n, .slice (some ⟨G1, 0, none⟩) n n, .slice (some ⟨G2, 0, none⟩) n n, .slice (some ⟨R1, 0, none⟩) n k1, .slice (some ⟨R2, 0, none⟩) n k2]) → Grx Wc w' u8.ownBlock kv'.ownBlock → KpS w w' P U n (m + 5) kv' (exN g (2 * m) [D1, D2, C1, C2, F1, F2, G1, G2, R1, R2]) (exN c (2 * m) [n, n, n, n, n, n, n, n, k1, k2]) (fun k => if k < 2 * m then C k else ([l0, m0, l0, m1, l0, m0, l0, m1, ls, bs] : List (List Int))[k - 2 * m]?.getD []) ∧ (∀ k, k < Wc.heap.size → (∀ q, u8.ownBlock = some q → k ≠ q) → w'.heap[k]? = Wc.heap[k]?) ∧ Wc.heap.size ≤ w'.heap.size) :=
            fun kv' w' o' g' => S3.out.1.more [D1, D2, C1, C2, F1, F2, G1, G2, R1, R2] [n, n, n, n, n, n, n, n, k1, k2] [l0, m0, l0, m1, l0, m0, l0, m1, ls, bs] rfl rfl (blk_lt S3.out.2.1.v) (blk_lt S3.out.2.2.1.v) (all10 LX1.1 LX1.2 LX2.1 LX2.2 LY1.1 LY1.2 LY2.1 LY2.2 S3.out.2.1.r1 S3.out.2.1.r2) hnd hold o' g'
          have S4 : Hid (KpS w Wc P U n m u8 g c C ∧ Wc.heap[P]? = some (.cells #[.slice (some ⟨R1, 0, none⟩) n k1, .slice (some ⟨R2, 0, none⟩) n k2] 24) ∧ Wc.heap[U]? = some (.cells #[.slice u1 n j1, .slice u2 n j2] 24) ∧ (Wc.heap[b11]? = some (.cells #[.slice (some ⟨D1, 0, none⟩) n n, .slice (some ⟨D2, 0, none⟩) n n] 24) ∧ Wc.heap[b12]? = some (.cells #[.slice (some ⟨C1, 0, none⟩) n n, .slice (some ⟨C2, 0, none⟩) n n] 24) ∧ Wc.heap[b14]? = some (.cells #[.slice (some ⟨F1, 0, none⟩) n n, .slice (some ⟨F2, 0, none⟩) n n] 24) ∧ Wc.heap[b15]? = some (.cells #[.slice (some ⟨G1, 0, none⟩) n n, .slice (some ⟨G2, 0, none⟩) n n] 24))) := ⟨S3.out.1, S3.out.2.1.v, S3.out.2.2.1.v, S3.out.2.2.2.1⟩
          clear hN hM o1 o2 o3 o4 o5 o6 o7 o8 x1 x2 y1 y2 hrg s0 sN s8 hlen hl0 hm0 hm1 q0 q1 q2 hws hkb hlo hb1 hb2 hb3 hb4 hb5 hb6 hb7 hb8 hne1 hne2 hne3 hne4 hne5 hnd hold LX1 LX2 LY1 LY2 HER HLO HFR HDV hvl S3
          go_upto_region 16 with (first | (refine wpList_load_row (by rfl) 24 _ (by rfl) b11 #[.slice (some ⟨D1, 0, none⟩) n n, .slice (some ⟨D2, 0, none⟩) n n] (by rfl) S4.out.2.2.2.1 _ Try.underlying24 rfl 2 Try.szRT (by rfl) ?_) | (refine wpList_load_row (by rfl) 24 _ (by rfl) b12 #[.slice (some ⟨C1, 0, none⟩) n n, .slice (some ⟨C2, 0, none⟩) n n] (by rfl) S4.out.2.2.2.2.1 _ Try.underlying24 rfl 2 Try.szRT (by rfl) ?_) | (refine wpList_load_row (by rfl) 24 _ (by rfl) b14 #[.slice (some ⟨F1, 0, none⟩) n n, .slice (some ⟨F2, 0, none⟩) n n] (by rfl) S4.out.2.2.2.2.2.1 _ Try.underlying24 rfl 2 Try.szRT (by rfl) ?_) | (refine wpList_load_row (by rfl) 24 _ (by rfl) b15 #[.slice (some ⟨G1, 0, none⟩) n n, .slice (some ⟨G2, 0, none⟩) n n] (by rfl) S4.out.2.2.2.2.2.2 _ Try.underlying24 rfl 2 Try.szRT (by rfl) ?_) | (refine wpList_load_row (by rfl) 24 _ (by rfl) P #[.slice (some ⟨R1, 0, none⟩) n k1, .slice (some ⟨R2, 0, none⟩) n k2] (by rfl) S4.out.2.1 _ Try.underlying24 rfl 2 Try.szRT (by rfl) ?_) | (at_builtin; refine append_gSB Try.underlying57 Try.infoRJ rfl (by decide) (by decide) Wc (by rfl) _ _ (by rfl) w.heap.size u8 m (slL g c n (2 * m)) (by rfl) S4.out.1.o 5 [.slice (some ⟨D1, 0, none⟩) n n, .slice (some ⟨D2, 0, none⟩) n n, .slice (some ⟨C1, 0, none⟩) n n, .slice (some ⟨C2, 0, none⟩) n n, .slice (some ⟨F1, 0, none⟩) n n, .slice (some ⟨F2, 0, none⟩) n n, .slice (some ⟨G1, 0, none⟩) n n, .slice (some ⟨G2, 0, none⟩) n n, .slice (some ⟨R1, 0, none⟩) n k1, .slice (some ⟨R2, 0, none⟩) n k2] (by rfl) rfl (by decide) (one_ten (l := ([D1, D2, C1, C2, F1, F2, G1, G2, R1, R2] : List Nat).zip [n, n, n, n, n, n, n, n, k1, k2])) hm60 S4.out.1.b.size ?_; intro v8 w8 oA gA))
          obtain ⟨K8, keep8, sz8⟩ := HMORE.out v8 w8 oA gA
          obtain ⟨g2, hg2⟩ : ∃ x, exN g (2 * m) [D1, D2, C1, C2, F1, F2, G1, G2, R1, R2] = x := ⟨_, rfl⟩
          obtain ⟨c2x, hc2⟩ : ∃ x, exN c (2 * m) [n, n, n, n, n, n, n, n, k1, k2] = x := ⟨_, rfl⟩
          obtain ⟨C2x, hC2⟩ : ∃ x, (fun k => if k < 2 * m then C k else ([l0, m0, l0, m1, l0, m0, l0, m1, ls, bs] : List (List Int))[k - 2 * m]?.getD []) = x := ⟨_, rfl⟩
          rw [hg2, hc2, hC2] at K8
          have kp : ∀ k, wr.heap.size ≤ k → k < Wc.heap.size → w8.heap[k]? = Wc.heap[k]? := fun k h1 h2 => keep8 k h2 fun q hq => by have := HKB.out.2 q hq; omega
          have S8 : Hid (KpS w w8 P U n (m + 5) v8 g2 c2x C2x ∧ w8.heap[P]? = some (.cells #[.slice (some ⟨R1, 0, none⟩) n k1, .slice (some ⟨R2, 0, none⟩) n k2] 24) ∧ w8.heap[U]? = some (.cells #[.slice u1 n j1, .slice u2 n j2] 24) ∧ w8.heap[b11]? = some (.cells #[.slice (some ⟨D1, 0, none⟩) n n, .slice (some ⟨D2, 0, none⟩) n n] 24) ∧ w8.heap[b12]? = some (.cells #[.slice (some ⟨C1, 0, none⟩) n n, .slice (some ⟨C2, 0, none⟩) n n] 24) ∧ OwL w8 w.heap.size D1 n n l0 ∧ OwL w8 w.heap.size D2 n n m0 ∧ OwL w8 w.heap.size C1 n n l0 ∧ OwL w8 w.heap.size C2 n n m1 ∧ (∀ k, k < 2 * (m + 5) → g2 k < w8.heap.size)) :=
            ⟨K8, (keep8 P (blk_lt S4.out.2.1) fun q hq => Ne.symm (S4.out.1.kb q hq).1).trans S4.out.2.1, (keep8 U (blk_lt S4.out.2.2.1) fun q hq => Ne.symm (S4.out.1.kb q hq).2).trans S4.out.2.2.1, (kp b11 HSZ.out.2.2.2.2.1 (blk_lt S4.out.2.2.2.1)).trans S4.out.2.2.2.1, (kp b12 HSZ.out.2.2.2.2.2.1 (blk_lt S4.out.2.2.2.2.1)).trans S4.out.2.2.2.2.1, HLS.out.1.1.keep (kp _ HLN.out.1 HLS.out.1.1.lt), HLS.out.1.2.keep (kp _ HLN.out.2.1 HLS.out.1.2.lt), HLS.out.2.1.keep (kp _ HLN.out.2.2.1 HLS.out.2.1.lt), HLS.out.2.2.keep (kp _ HLN.out.2.2.2 HLS.out.2.2.lt), fun k hk => (K8.f k hk).lt⟩
          clear K8 keep8 sz8 hg2 hc2 hC2 kp oA gA S4 HMORE HLS HLN HSZ HKB
          go_wp2_with (first | (refine wpList_load_row (by rfl) 24 _ (by rfl) b11 #[.slice (some ⟨D1, 0, none⟩) n n, .slice (some ⟨D2, 0, none⟩) n n] (by rfl) S8.out.2.2.2.1 _ Try.underlying24 rfl 2 Try.szRT (by rfl) ?_))
          refine Calls.mono (refCopyL_any _ _ n n n l0 m0 _ hn0 hn2 S8.out.2.2.2.2.2.1.rd S8.out.2.2.2.2.2.2.1.rd) ?_
          rintro e' Y1 ⟨⟨Q1, Q2, h1, h2, rfl, z1, z2, z3⟩, y1⟩
          have hz1 := z1.b
          have hz2 := z2.b
          have S9 : Hid (KpS w Y1 P U n (m + 5) v8 g2 c2x C2x ∧ Y1.heap[P]? = some (.cells #[.slice (some ⟨R1, 0, none⟩) n k1, .slice (some ⟨R2, 0, none⟩) n k2] 24) ∧ Y1.heap[U]? = some (.cells #[.slice u1 n j1, .slice u2 n j2] 24) ∧ Y1.heap[b12]? = some (.cells #[.slice (some ⟨C1, 0, none⟩) n n, .slice (some ⟨C2, 0, none⟩) n n] 24) ∧ OwL Y1 w.heap.size C1 n n l0 ∧ OwL Y1 w.heap.size C2 n n m1 ∧ OwL Y1 w.heap.size Q1 n h1 l0 ∧ OwL Y1 w.heap.size Q2 n h2 m0 ∧ Q1 < Q2 ∧ (∀ k, k < 2 * (m + 5) → g2 k ≠ Q1 ∧ g2 k ≠ Q2) ∧ P ≠ b12) := ⟨S8.out.1.later y1, kept y1 S8.out.2.1, kept y1 S8.out.2.2.1, kept y1 S8.out.2.2.2.2.1, S8.out.2.2.2.2.2.2.2.1.later y1, S8.out.2.2.2.2.2.2.2.2.1.later y1, z1.mono S8.out.1.b.size, z2.mono S8.out.1.b.size, z3, fun k hk => by have := S8.out.2.2.2.2.2.2.2.2.2 k hk; omega, HPB.out⟩
          clear S8 z1 z2 z3 y1 hz1 hz2
          go_upto_region 17 with (first | (refine wpList_store_row (by rfl) 24 _ _ (by rfl) w w.heap.size P #[.slice (some ⟨Q1, 0, none⟩) n h1, .slice (some ⟨Q2, 0, none⟩) n h2] _ (by rfl) (by rfl) S9.out.2.1 S9.out.1.b hp9 2 Try.szRT rfl rfl (one_rg _ _ _ _ _ _) ?_; intro X1 e1x b1x s1x o1x))
          have T1 : Hid ((KpS w X1 P U n (m + 5) v8 g2 c2x C2x ∧ RrS w X1 P n Q1 Q2 h1 h2 l0 m0 ∧ X1.heap[U]? = some (.cells #[.slice u1 n j1, .slice u2 n j2] 24) ∧ (∀ k, k < 2 * (m + 5) → g2 k ≠ Q1 ∧ g2 k ≠ Q2)) ∧ X1.heap[b12]? = some (.cells #[.slice (some ⟨C1, 0, none⟩) n n, .slice (some ⟨C2, 0, none⟩) n n] 24) ∧ OwL X1 w.heap.size C1 n n l0 ∧ OwL X1 w.heap.size C2 n n m1) := by
            have hne := S9.out.2.2.2.2.2.2.2.2.1
            have ow : ∀ {b N cc : Nat} {is : List Int}, OwL Y1 w.heap.size b N cc is → OwL X1 w.heap.size b N cc is := fun h => h.other (h.ty (by decide) S9.out.2.1) o1x
            exact ⟨⟨S9.out.1.stored b1x (.inl rfl) S9.out.2.1 o1x, ⟨e1x, ow S9.out.2.2.2.2.2.2.1, ow S9.out.2.2.2.2.2.2.2.1, by omega⟩, (o1x U (Ne.symm hPU)).trans S9.out.2.2.1, S9.out.2.2.2.2.2.2.2.2.2.1⟩, (o1x b12 (Ne.symm S9.out.2.2.2.2.2.2.2.2.2.2)).trans S9.out.2.2.2.1, ow S9.out.2.2.2.2.1, ow S9.out.2.2.2.2.2.1⟩
          have CU : X1.cell? ⟨tb, tf + i * 2 + 1, none⟩ = some (.bool up) := HB1.out _ b1x
          clear S9 e1x b1x s1x o1x
          cases up with
          | true =>
            go_wp2_with (first | (refine wpList_load_row (by rfl) 24 _ (by rfl) b12 #[.slice (some ⟨C1, 0, none⟩) n n, .slice (some ⟨C2, 0, none⟩) n n] (by rfl) T1.out.2.1 _ Try.underlying24 rfl 2 Try.szRT (by rfl) ?_))
            refine Calls.mono (refCopyL_any _ _ n n n l0 m1 _ hn0 hn2 T1.out.2.2.1.rd T1.out.2.2.2.rd) ?_
            rintro e' Y2 ⟨⟨T1x, T2x, h3, h4, rfl, z1, z2, z3⟩, y2⟩
            have hz1 := z1.b
            have hz2 := z2.b
            have T2 : Hid (KpS w Y2 P U n (m + 5) v8 g2 c2x C2x ∧ Y2.heap[P]? = some (.cells #[.slice (some ⟨Q1, 0, none⟩) n h1, .slice (some ⟨Q2, 0, none⟩) n h2] 24) ∧ Y2.heap[U]? = some (.cells #[.slice u1 n j1, .slice u2 n j2] 24) ∧ OwL Y2 w.heap.size T1x n h3 l0 ∧ OwL Y2 w.heap.size T2x n h4 m1 ∧ T1x < T2x ∧ (∀ k, k < 2 * (m + 5) → g2 k ≠ T1x ∧ g2 k ≠ T2x)) := ⟨T1.out.1.1.later y2, kept y2 T1.out.1.2.1.v, kept y2 T1.out.1.2.2.1, z1.mono T1.out.1.1.b.size, z2.mono T1.out.1.1.b.size, z3, fun k hk => by have := (T1.out.1.1.f k hk).lt; omega⟩
            clear T1 z1 z2 z3 y2 hz1 hz2 CU
            go_upto_region 19 with (first | (refine wpList_store_row (by rfl) 24 _ _ (by rfl) w w.heap.size P #[.slice (some ⟨T1x, 0, none⟩) n h3, .slice (some ⟨T2x, 0, none⟩) n h4] _ (by rfl) (by rfl) T2.out.2.1 T2.out.1.b hp9 2 Try.szRT rfl rfl (one_rg _ _ _ _ _ _) ?_; intro X2 e2x b2x s2x o2x))
            have T3 : Hid (KpS w X2 P U n (m + 5) v8 g2 c2x C2x ∧ RrS w X2 P n T1x T2x h3 h4 l0 m1 ∧ X2.heap[U]? = some (.cells #[.slice u1 n j1, .slice u2 n j2] 24) ∧ (∀ k, k < 2 * (m + 5) → g2 k ≠ T1x ∧ g2 k ≠ T2x)) := by
              have hne := T2.out.2.2.2.2.2.1
              have ow : ∀ {b N cc : Nat} {is : List Int}, OwL Y2 w.heap.size b N cc is → OwL X2 w.heap.size b N cc is := fun h => h.other (h.ty (by decide) T2.out.2.1) o2x
              exact ⟨T2.out.1.stored b2x (.inl rfl) T2.out.2.1 o2x, ⟨e2x, ow T2.out.2.2.2.1, ow T2.out.2.2.2.2.1, by omega⟩, (o2x U (Ne.symm hPU)).trans T2.out.2.2.1, T2.out.2.2.2.2.2.2⟩
            clear T2 e2x b2x s2x o2x
            go_wp2_with (first | (refine wpList_load_row (by rfl) 24 _ (by rfl) P #[.slice (some ⟨T1x, 0, none⟩) n h3, .slice (some ⟨T2x, 0, none⟩) n h4] (by rfl) T3.out.2.1.v _ Try.underlying24 rfl 2 Try.szRT (by rfl) ?_))
            refine Calls.mono (refCopyL_any _ _ n h3 h4 l0 m1 _ hn0 hn2 T3.out.2.1.r1.rd T3.out.2.1.r2.rd) ?_
            rintro e' Y1 ⟨⟨V1, V2, h5, h6, rfl, z1, z2, z3⟩, y1⟩
            have K1 : Hid (KpS w Y1 P U n (m + 5) v8 g2 c2x C2x ∧ RrS w Y1 P n T1x T2x h3 h4 l0 m1 ∧ Y1.heap[U]? = some (.cells #[.slice u1 n j1, .slice u2 n j2] 24) ∧ OwL Y1 w.heap.size V1 n h5 l0 ∧ OwL Y1 w.heap.size V2 n h6 m1) := ⟨T3.out.1.later y1, T3.out.2.1.later y1, kept y1 T3.out.2.2.1, z1.mono T3.out.1.b.size, z2.mono T3.out.1.b.size⟩
            have HFR : Hid (∀ k, k < 2 * (m + 5) → g2 k ≠ T1x ∧ g2 k ≠ T2x) := T3.out.2.2.2
            clear T3 z1 z2 z3 y1
            go_wp2_with (first | (refine wpList_store_row (by rfl) 24 _ _ (by rfl) w w.heap.size U #[.slice (some ⟨V1, 0, none⟩) n h5, .slice (some ⟨V2, 0, none⟩) n h6] _ (by rfl) (by rfl) K1.out.2.2.1 K1.out.1.b hu9 2 Try.szRT rfl rfl (one_rg _ _ _ _ _ _) ?_; intro X9 e9x b9x s9x o9x))
            have PZ : Hid (∃ m g c C R1 R2 k1 k2 ls bs u1 u2 j1 j2, m ≤ 5 * (i + 1) ∧ KpS w X9 P U n m v8 g c C ∧ RrS w X9 P n R1 R2 k1 k2 ls bs ∧ SgV X9 U n u1 u2 j1 j2 ls bs ∧ (∀ k, k < 2 * m → g k ≠ R1 ∧ g k ≠ R2)) := ⟨m + 5, g2, c2x, C2x, T1x, T2x, h3, h4, l0, m1, some ⟨V1, 0, none⟩, some ⟨V2, 0, none⟩, h5, h6, by have := HM5.out; omega, K1.out.1.stored b9x (.inr rfl) K1.out.2.2.1 o9x, K1.out.2.1.stored hPU K1.out.2.2.1 o9x, ⟨e9x, (K1.out.2.2.2.1.other (K1.out.2.2.2.1.ty (by decide) K1.out.2.2.1) o9x).rd, (K1.out.2.2.2.2.other (K1.out.2.2.2.2.ty (by decide) K1.out.2.2.1) o9x).rd⟩, HFR.out⟩
            clear K1 HFR e9x b9x s9x o9x
            go_roundg q
            case measure => omega
            case rel => exact ⟨i + 1, by go_num, by have := HIG.out; omega, PZ⟩
          | false =>
            go_upto_region 19 with fail
            have T3 : Hid (KpS w X1 P U n (m + 5) v8 g2 c2x C2x ∧ RrS w X1 P n Q1 Q2 h1 h2 l0 m0 ∧ X1.heap[U]? = some (.cells #[.slice u1 n j1, .slice u2 n j2] 24) ∧ (∀ k, k < 2 * (m + 5) → g2 k ≠ Q1 ∧ g2 k ≠ Q2)) := T1.out.1
            clear T1 CU
            go_wp2_with (first | (refine wpList_load_row (by rfl) 24 _ (by rfl) P #[.slice (some ⟨Q1, 0, none⟩) n h1, .slice (some ⟨Q2, 0, none⟩) n h2] (by rfl) T3.out.2.1.v _ Try.underlying24 rfl 2 Try.szRT (by rfl) ?_))
            refine Calls.mono (refCopyL_any _ _ n h1 h2 l0 m0 _ hn0 hn2 T3.out.2.1.r1.rd T3.out.2.1.r2.rd) ?_
            rintro e' Y1 ⟨⟨V1, V2, h5, h6, rfl, z1, z2, z3⟩, y1⟩
            have K1 : Hid (KpS w Y1 P U n (m + 5) v8 g2 c2x C2x ∧ RrS w Y1 P n Q1 Q2 h1 h2 l0 m0 ∧ Y1.heap[U]? = some (.cells #[.slice u1 n j1, .slice u2 n j2] 24) ∧ OwL Y1 w.heap.size V1 n h5 l0 ∧ OwL Y1 w.heap.size V2 n h6 m0) := ⟨T3.out.1.later y1, T3.out.2.1.later y1, kept y1 T3.out.2.2.1, z1.mono T3.out.1.b.size, z2.mono T3.out.1.b.size⟩
            have HFR : Hid (∀ k, k < 2 * (m + 5) → g2 k ≠ Q1 ∧ g2 k ≠ Q2) := T3.out.2.2.2
            clear T3 z1 z2 z3 y1
            go_wp2_with (first | (refine wpList_store_row (by rfl) 24 _ _ (by rfl) w w.heap.size U #[.slice (some ⟨V1, 0, none⟩) n h5, .slice (some ⟨V2, 0, none⟩) n h6] _ (by rfl) (by rfl) K1.out.2.2.1 K1.out.1.b hu9 2 Try.szRT rfl rfl (one_rg _ _ _ _ _ _) ?_; intro X9 e9x b9x s9x o9x))
            have PZ : Hid (∃ m g c C R1 R2 k1 k2 ls bs u1 u2 j1 j2, m ≤ 5 * (i + 1) ∧ KpS w X9 P U n m v8 g c C ∧ RrS w X9 P n R1 R2 k1 k2 ls bs ∧ SgV X9 U n u1 u2 j1 j2 ls bs ∧ (∀ k, k < 2 * m → g k ≠ R1 ∧ g k ≠ R2)) := ⟨m + 5, g2, c2x, C2x, Q1, Q2, h1, h2, l0, m0, some ⟨V1, 0, none⟩, some ⟨V2, 0, none⟩, h5, h6, by have := HM5.out; omega, K1.out.1.stored b9x (.inr rfl) K1.out.2.2.1 o9x, K1.out.2.1.stored hPU K1.out.2.2.1 o9x, ⟨e9x, (K1.out.2.2.2.1.other (K1.out.2.2.2.1.ty (by decide) K1.out.2.2.1) o9x).rd, (K1.out.2.2.2.2.other (K1.out.2.2.2.2.ty (by decide) K1.out.2.2.1) o9x).rd⟩, HFR.out⟩
            clear K1 HFR e9x b9x s9x o9x
            go_roundg q
            case measure => omega
            case rel => exact ⟨i + 1, by go_num, by have := HIG.out; omega, PZ⟩
        · have hne : (er != 0) = true := by simpa using he
          have P6 : Hid (∃ m g c C R1 R2 k1 k2 ls bs u1 u2 j1 j2, m ≤ 5 * (i + 1) ∧ KpS w Wc P U n m u8 g c C ∧ RrS w Wc P n R1 R2 k1 k2 ls bs ∧ SgV Wc U n u1 u2 j1 j2 ls bs ∧ (∀ k, k < 2 * m → g k ≠ R1 ∧ g k ≠ R2)) := ⟨m, g, c, C, R1, R2, k1, k2, ls, bs, u1, u2, j1, j2, by have := HM5.out; omega, S3.out.1, S3.out.2.1, S3.out.2.2.1, HFR.out⟩
          clear S3 HER he HFR HLO HSZ
          go_wp2_with fail
          go_roundg q
          case measure => omega
          case rel => exact ⟨i + 1, by go_num, by have := HIG.out; omega, P6⟩
      · have e2 : decide ((i : Int) < 12) = false := decide_eq_false (by omega)
        have e3 : decide (i < 12) = false := decide_eq_false ht2
        have hi12 : i ≤ 12 := by omega
        clear hj ht2
        obtain ⟨m, g, c, C, _, _, _, _, _, _, _, _, _, _, hm5, S, _, _, _⟩ := P0.out
        obtain ⟨ko, kc, rfl, hk⟩ := kv_open S.o
        have HSE : Hid (Calls Try.prog 25 #[.slice ko m kc] wr fun e w' => e = .returned (.bool true) ∧ Below w.heap.size wr w') := settled_any ko m kc g c n w.heap.size C wr (by omega) (by omega) S.b.size hk S.f S.i
        have HBB : Hid (Below w.heap.size w wr) := S.b
        clear S hk P0
        go_wp2_with fail
        refine Calls.mono HSE.out ?_
        rintro e' Y1 ⟨rfl, y1⟩
        go_wp2_with fail
        refine Calls.mono (awake_any _) ?_
        rintro e' Y2 ⟨rfl, y2⟩
        go_wp2_with fail
        go_ret
        exact ⟨rfl, to_call (HBB.out.trans y1) y2⟩
    · have e1 : decide ((i : Int) < (tn : Int)) = false := decide_eq_false (by omega)
      have e2 : decide (i < tn) = false := decide_eq_false ht1
      have hi12 : i ≤ 12 := by omega
      clear hj ht1
      obtain ⟨m, g, c, C, _, _, _, _, _, _, _, _, _, _, hm5, S, _, _, _⟩ := P0.out
      obtain ⟨ko, kc, rfl, hk⟩ := kv_open S.o
      have HSE : Hid (Calls Try.prog 25 #[.slice ko m kc] wr fun e w' => e = .returned (.bool true) ∧ Below w.heap.size wr w') := settled_any ko m kc g c n w.heap.size C wr (by omega) (by omega) S.b.size hk S.f S.i
      have HBB : Hid (Below w.heap.size w wr) := S.b
      clear S hk P0
      go_wp2_with fail
      refine Calls.mono HSE.out ?_
      rintro e' Y1 ⟨rfl, y1⟩
      go_wp2_with fail
      refine Calls.mono (awake_any _) ?_
      rintro e' Y2 ⟨rfl, y2⟩
      go_wp2_with fail
      go_ret
      exact ⟨rfl, to_call (HBB.out.trans y1) y2⟩
end Go.Proofs.Ytaadhjdbieoieaa
