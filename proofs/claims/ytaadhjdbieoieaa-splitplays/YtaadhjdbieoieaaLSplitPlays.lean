import Derived.Test.YtaadhjdbieoieaaSPP
namespace Go.Proofs.Ytaadhjdbieoieaa
open Go.RowKit
set_option linter.unusedVariables false
set_option linter.unusedSimpArgs false
set_option maxRecDepth 100000 in
set_option maxHeartbeats 20000000 in
theorem splitPlays_walk (k : Int) (tq : Option Addr) (tn tc : Nat) (F : Nat → Int × Bool) (so : Option Addr) (sn sc : Nat) (ss : List Int) (DI : Int) (eo : Option Addr) (en ec : Nat) (es : List Int) (PI : Int) (w : World) (ht : RdTu w tq tn tc F) (hs : RdIs w so sn sc ss) (he : RdIs w eo en ec es) (heb : ∀ i ∈ es, -9223372036854775808 ≤ i ∧ i ≤ 9223372036854775807) :
    Calls Try.prog 5 #[.int .i64 k, .slice tq tn tc, .slice so sn sc, .int .i64 DI, .slice eo en ec, .int .i64 PI] w fun e w' => e = .returned (.bool true) ∧ Below w.heap.size w w' := by
  have HS : Hid (∀ W', Below w.heap.size w W' → RdIs W' so sn sc ss) := fun W' hb => hs.later hb
  have HT : Hid (∀ W', Below w.heap.size w W' → RdTu W' tq tn tc F) := fun W' hb => ht.later hb
  have HE : Hid (∀ W', Below w.heap.size w W' → RdIs W' eo en ec es) := fun W' hb => he.later hb
  have HEB : Hid (∀ i ∈ es, -9223372036854775808 ≤ i ∧ i ≤ 9223372036854775807) := heb
  have htm : tn ≤ 9223372036854775807 := Nat.le_trans ht.max maxLen_le
  clear hs ht he heb
  by_cases hk : 0 ≤ k ∧ k ≤ 256
  · obtain ⟨n, rfl⟩ : ∃ n : Nat, k = n := ⟨k.toNat, by omega⟩
    have hn : n ≤ 256 := by omega
    have HW : Hid (∀ W, Calls Try.prog 9 #[.int .i64 (n : Int)] W fun e w' => (∃ B1 B2, e = .returned (.tuple #[.agg #[.slice (some ⟨B1, 0, none⟩) n n, .slice (some ⟨B2, 0, none⟩) n n], .int .i64 0]) ∧ RgO w' W.heap.size B1 B2 (List.replicate n 0) (List.replicate n 0)) ∧ Below W.heap.size W w') := fun W => (whole_any n W).mono fun e w' ⟨h, hb⟩ => ⟨by have := h.1 ⟨by omega, by omega⟩; rw [Int.toNat_natCast] at this; exact this, hb⟩
    clear hk
    go_enter Try.func5, Try.ntmps5
    go_wp2_with fail
    refine Calls.mono (HW.out _) ?_
    rintro e' w1 ⟨⟨B1, B2, rfl, hr⟩, bb1⟩
    go_upto_region 2 with fail
    have A1 : Below w1.heap.size w1 (w1.alloc (.cells #[.slice (some ⟨B1, 0, none⟩) n n, .slice (some ⟨B2, 0, none⟩) n n] 24)) := (Below.refl _ w1).alloc (Nat.le_refl _) _
    have Y1 : (w1.alloc (.cells #[.slice (some ⟨B1, 0, none⟩) n n, .slice (some ⟨B2, 0, none⟩) n n] 24)).heap[w1.heap.size]? = some (.cells #[.slice (some ⟨B1, 0, none⟩) n n, .slice (some ⟨B2, 0, none⟩) n n] 24) := heap_alloc_new w1 _
    obtain ⟨V1, hV1⟩ : ∃ V, (w1.alloc (.cells #[.slice (some ⟨B1, 0, none⟩) n n, .slice (some ⟨B2, 0, none⟩) n n] 24)) = V := ⟨_, rfl⟩
    obtain ⟨P, hP⟩ : ∃ p, w1.heap.size = p := ⟨_, rfl⟩
    have hp9 : w.heap.size ≤ P := by rw [← hP]; exact bb1.size
    rw [hV1] at A1 Y1 ⊢
    rw [hP] at Y1 ⊢
    have hrg : regB (List.replicate n 0) (List.replicate n 0) n = true := by
      refine (regB_iff _ _ _).2 ⟨by omega, by rw [List.length_replicate], by rw [List.length_replicate], fun j hj => ?_⟩
      rw [List.length_replicate] at hj
      rw [List.getElem?_replicate, if_pos hj]
      decide
    have P1 : Hid (Below w.heap.size w V1 ∧ RgV V1 w.heap.size P n B1 B2 (List.replicate n 0) (List.replicate n 0)) := ⟨to_call bb1 A1, Y1, hr.later A1, hrg⟩
    clear hV1 hP A1 Y1 hr bb1 hrg HW
    go_wp2_with fail
    refine Calls.mono (refWholeP n hn _) ?_
    rintro e' w2 ⟨⟨u1, k1, u2, k2, rfl, x1, x2⟩, bb2⟩
    go_upto_region 3 with fail
    have A1 : Below w2.heap.size w2 (w2.alloc (.cells #[.slice u1 n k1, .slice u2 n k2] 24)) := (Below.refl _ w2).alloc (Nat.le_refl _) _
    have Y1 : (w2.alloc (.cells #[.slice u1 n k1, .slice u2 n k2] 24)).heap[w2.heap.size]? = some (.cells #[.slice u1 n k1, .slice u2 n k2] 24) := heap_alloc_new w2 _
    obtain ⟨V2, hV2⟩ : ∃ V, (w2.alloc (.cells #[.slice u1 n k1, .slice u2 n k2] 24)) = V := ⟨_, rfl⟩
    obtain ⟨Q, hQ⟩ : ∃ p, w2.heap.size = p := ⟨_, rfl⟩
    have hPQ : P < Q := by rw [← hQ]; exact blk_lt (kept bb2 P1.out.2.v)
    rw [hV2] at A1 Y1 ⊢
    rw [hQ] at Y1 ⊢
    have P2 : Hid (∃ ls bs B1 B2 u1 u2 k1 k2, PlS w V2 P Q n ls bs B1 B2 u1 u2 k1 k2) := ⟨_, _, B1, B2, u1, u2, k1, k2, to_call (to_call P1.out.1 bb2) A1, (P1.out.2.later bb2).later A1, Y1, x1.later A1, x2.later A1⟩
    clear hV2 hQ A1 Y1 x1 x2 bb2 P1
    go_wp2_with fail
    refine Calls.mono (awake_any _) ?_
    rintro e' w3 ⟨rfl, bb3⟩
    have P3 : Hid (∃ ls bs B1 B2 u1 u2 k1 k2, PlS w w3 P Q n ls bs B1 B2 u1 u2 k1 k2) := by
      obtain ⟨ls, bs, B1, B2, u1, u2, k1, k2, h⟩ := P2.out
      exact ⟨ls, bs, B1, B2, u1, u2, k1, k2, h.later bb3⟩
    clear P2 bb3
    go_wp2_with fail
    go_loopg [17] 40 (fun g iv wx => ∃ j : Nat, iv = .int .i64 j ∧ j + g = 40 ∧ Hid (∃ ls bs B1 B2 u1 u2 k1 k2, PlS w wx P Q n ls bs B1 B2 u1 u2 k1 k2))
    case atStart => exact ⟨0, rfl, by omega, P3⟩
    case round =>
      clear P3
      obtain ⟨j, rfl, hj, P0⟩ := hrel
      by_cases ht1 : j < tn
      · have e1 : decide ((j : Int) < (tn : Int)) = true := decide_eq_true (by omega)
        by_cases ht2 : j < 40
        · have e2 : decide ((j : Int) < 40) = true := decide_eq_true (by omega)
          obtain ⟨q, rfl⟩ : ∃ q, gk = q + 1 := ⟨gk - 1, by omega⟩
          have HIG : Hid (j + (q + 1) = 40) := hj
          have ht1' : (j : Int) < (tn : Int) := by omega
          obtain ⟨ls, bs, B1, B2, u1, u2, k1, k2, P0'⟩ := P0.out
          have P2 : Hid (PlS w wr P Q n ls bs B1 B2 u1 u2 k1 k2) := P0'
          clear P0 P0'
          rcases (HT.out w (Below.refl _ _)).cells with h0 | ⟨tb, tf, rfl, hct⟩
          · omega
          have gt := hct j ht1
          obtain ⟨⟨sy, up⟩, hF⟩ : ∃ x, F j = x := ⟨_, rfl⟩
          rw [hF] at gt
          have HB0 : Hid (∀ W, Below w.heap.size w W → W.cell? ⟨tb, tf + j * 2, none⟩ = some (.int .i64 sy)) := fun W hb => cell_later gt.1 hb
          have HB1 : Hid (∀ W, Below w.heap.size w W → W.cell? ⟨tb, tf + j * 2 + 1, none⟩ = some (.bool up)) := fun W hb => cell_later gt.2 hb
          have CT0 : Hid (wr.cell? ⟨tb, tf + j * 2, none⟩ = some (.int .i64 sy)) := HB0.out _ P2.out.b
          clear gt hct hF hj
          go_upto_region 8 with fail
          apply by_key (F := fun b18 b19 a1 a2 a3 a4 N W => Hid (Below wr.heap.size wr W ∧ W.heap[b18]? = some (.cells #[.slice a1 N N, .slice a2 N N] 24) ∧ W.heap[b19]? = some (.cells #[.slice a3 N N, .slice a4 N N] 24) ∧ HvX W w.heap.size n ls bs sy a1 a2 a3 a4 N ∧ wr.heap.size ≤ b18 ∧ wr.heap.size ≤ b19))
          case main =>
            intro key
            refine wp_region_noPanic ?_
            refine wp_region_P (S := (fun V => Below wr.heap.size wr V)) (s := 13) (by kernel_rfl) ?_
            have SX : Below wr.heap.size wr wr.drew := (Below.refl _ _).drew
            refine takeP 64 (i := 0) (v := .agg #[.slice (some ⟨B1, 0, none⟩) n n, .slice (some ⟨B2, 0, none⟩) n n]) rfl rfl (by kernel_rfl) (by kernel_rfl) (by kernel_rfl) (by kernel_rfl) rfl (by kernel_rfl) (fun _ _ _ h => h) (Or.inl ⟨by kernel_rfl, fun w' hSw => ex_loadRN _ 24 _ rfl P (by kernel_rfl) w' _ (kept hSw P2.out.r.v) _ Try.underlying24 rfl 2 Try.szRT rfl⟩) SX ?_
            try simp only [Act.put, List.setIfInBounds_toArray, List.set_cons_zero, List.set_cons_succ]
            refine takeP 65 (i := 1) (v := ?_) rfl rfl (by kernel_rfl) (by kernel_rfl) (by kernel_rfl) (by kernel_rfl) rfl (by kernel_rfl) (fun _ _ _ h => h) (Or.inl ⟨by kernel_rfl, ?_⟩) SX ?_
            rotate_left
            · intro w' hSw; skip; go_simp; try with_reducible rfl
            try simp only [Act.put, List.setIfInBounds_toArray, List.set_cons_zero, List.set_cons_succ]
            refine takeP 66 (i := 2) (v := ?_) rfl rfl (by kernel_rfl) (by kernel_rfl) (by kernel_rfl) (by kernel_rfl) rfl (by kernel_rfl) (fun _ _ _ h => h) (Or.inl ⟨by kernel_rfl, ?_⟩) SX ?_
            rotate_left
            · intro w' hSw; skip; go_simp; try with_reducible rfl
            try simp only [Act.put, List.setIfInBounds_toArray, List.set_cons_zero, List.set_cons_succ]
            refine takeP 67 (i := 3) (v := ?_) rfl rfl (by kernel_rfl) (by kernel_rfl) (by kernel_rfl) (by kernel_rfl) rfl (by kernel_rfl) (fun _ _ _ h => h) (Or.inl ⟨by kernel_rfl, ?_⟩) SX ?_
            rotate_left
            · intro w' hSw; skip; go_simp; try with_reducible rfl
            try simp only [Act.put, List.setIfInBounds_toArray, List.set_cons_zero, List.set_cons_succ]
            refine takeP 68 (i := 4) (v := ?_) rfl rfl (by kernel_rfl) (by kernel_rfl) (by kernel_rfl) (by kernel_rfl) rfl (by kernel_rfl) (fun _ _ _ h => h) (Or.inl ⟨by kernel_rfl, ?_⟩) SX ?_
            rotate_left
            · intro w' hSw; skip; go_simp; try with_reducible rfl
            try simp only [Act.put, List.setIfInBounds_toArray, List.set_cons_zero, List.set_cons_succ]
            refine takeP 69 (i := 5) (v := ?_) rfl rfl (by kernel_rfl) (by kernel_rfl) (by kernel_rfl) (by kernel_rfl) rfl (by kernel_rfl) (fun _ _ _ h => h) (Or.inl ⟨by kernel_rfl, ?_⟩) SX ?_
            rotate_left
            · intro w' hSw; have t0 := cell_later CT0.out hSw; go_simp; try with_reducible rfl
            try simp only [Act.put, List.setIfInBounds_toArray, List.set_cons_zero, List.set_cons_succ]
            refine wpAnyP_ready (rs := [6, 11, 12]) (by kernel_rfl) (by simp) ?_
            refine consP _ rfl ?_ (consP _ rfl ?_ (consP _ rfl ?_ AllReadyP.nil))
            · refine hopCd 70 rfl (by kernel_rfl) rfl (by kernel_rfl) (Calls.mono (halveU _ _ n n n n ls bs sy _ (P2.out.r.rl.later SX) (P2.out.r.ra.later SX)) ?_)
              rintro e Vc ⟨⟨a1, a2, a3, a4, N, rfl, HX⟩, bb⟩
              have HX := HX.mono (Nat.le_trans P2.out.b.size SX.size)
              have SX : Below wr.heap.size wr Vc := to_call SX bb
              clear bb
              refine ⟨_, rfl, SX, ?_⟩
              try simp only [Act.put, List.setIfInBounds_toArray, List.set_cons_zero, List.set_cons_succ]
              refine takeP 63 (i := 7) (v := ?_) rfl rfl (by kernel_rfl) (by kernel_rfl) (by kernel_rfl) (by kernel_rfl) rfl (by kernel_rfl) (fun _ _ _ h => h) (Or.inl ⟨by kernel_rfl, ?_⟩) SX ?_
              rotate_left
              · intro w' hSw; skip; go_simp; try with_reducible rfl
              try simp only [Act.put, List.setIfInBounds_toArray, List.set_cons_zero, List.set_cons_succ]
              refine takeP 71 (i := 8) (v := ?_) rfl rfl (by kernel_rfl) (by kernel_rfl) (by kernel_rfl) (by kernel_rfl) rfl (by kernel_rfl) (fun _ _ _ h => h) (Or.inl ⟨by kernel_rfl, ?_⟩) SX ?_
              rotate_left
              · intro w' hSw; skip; go_simp; try with_reducible rfl
              try simp only [Act.put, List.setIfInBounds_toArray, List.set_cons_zero, List.set_cons_succ]
              refine takeP0 72 (i := 9) (v := ?_) rfl rfl (by kernel_rfl) (by kernel_rfl) (by kernel_rfl) rfl (fun _ _ _ h => h) (Or.inl ⟨by kernel_rfl, ?_⟩) (fun _ => SX) ?_
              rotate_left
              · intro w' hSw; skip; go_simp; try with_reducible rfl
              try simp only [Act.put, List.setIfInBounds_toArray, List.set_cons_zero, List.set_cons_succ]
              refine takeP0 73 (i := 10) (v := ?_) rfl rfl (by kernel_rfl) (by kernel_rfl) (by kernel_rfl) rfl (fun _ _ _ h => h) (Or.inl ⟨by kernel_rfl, ?_⟩) (fun _ => SX) ?_
              rotate_left
              · intro w' hSw; skip; go_simp; try with_reducible rfl
              try simp only [Act.put, List.setIfInBounds_toArray, List.set_cons_zero, List.set_cons_succ]
              refine wpAnyP_ready (rs := [11, 12]) (by kernel_rfl) (by simp) ?_
              refine consP _ rfl ?_ (consP _ rfl ?_ AllReadyP.nil)
              · refine hopAJ 18 rfl rfl rfl 24 rfl #[.slice none 0 0, .slice none 0 0] allocRT fun D12 Vca hD12 lD12 bD => ?_
                have q12 : wr.heap.size ≤ D12 := Nat.le_trans SX.size lD12
                have SX : Below wr.heap.size wr Vca := to_call SX bD
                have HX := HX.later bD
                clear bD
                refine ⟨SX, ?_⟩
                try simp only [Act.put, List.setIfInBounds_toArray, List.set_cons_zero, List.set_cons_succ]
                refine wpAnyP_ready (rs := [12]) (by kernel_rfl) (by simp) ?_
                refine consP _ rfl ?_ AllReadyP.nil
                · refine hopAJ 19 rfl rfl rfl 24 rfl #[.slice none 0 0, .slice none 0 0] allocRT fun D13 Vcab hD13 lD13 bD => ?_
                  have q13 : wr.heap.size ≤ D13 := Nat.le_trans SX.size lD13
                  have SX : Below wr.heap.size wr Vcab := to_call SX bD
                  have hneD : D12 ≠ D13 := by have := blk_lt hD12; omega
                  have hD12 := kept bD hD12
                  have HX := HX.later bD
                  clear bD
                  refine ⟨SX, ?_⟩
                  try simp only [Act.put, List.setIfInBounds_toArray, List.set_cons_zero, List.set_cons_succ]
                  refine wpAnyP_ready (rs := [13]) (by kernel_rfl) (by simp) ?_
                  refine consPs _ rfl (by kernel_rfl) (hopL rfl (wpList_store_row (by rfl) 24 _ _ (by rfl) wr wr.heap.size D12 #[.slice a1 N N, .slice a2 N N] _ (by kernel_rfl) (by kernel_rfl) hD12 SX q12 2 Try.szRT rfl rfl (one_rg _ _ _ _ _ _) fun W5 e5 b5 s5 o5 => ?_)) AllReadyP.nil
                  refine ⟨trivial, ?_⟩
                  refine put_noneP rfl ?_
                  refine wpAnyP_ready (rs := [14]) (by kernel_rfl) (by simp) ?_
                  refine consPs _ rfl (by kernel_rfl) (hopL rfl (wpList_store_row (by rfl) 24 _ _ (by rfl) wr wr.heap.size D13 #[.slice a3 N N, .slice a4 N N] _ (by kernel_rfl) (by kernel_rfl) ((o5 D13 (Ne.symm hneD)).trans hD13) b5 q13 2 Try.szRT rfl rfl (one_rg _ _ _ _ _ _) fun W6 e6 b6 s6 o6 => ?_)) AllReadyP.nil
                  refine ⟨trivial, ?_⟩
                  refine put_noneP rfl ?_
                  refine takeP0 20 (i := 15) (v := ?_) rfl rfl (by kernel_rfl) (by kernel_rfl) (by kernel_rfl) rfl (fun _ _ _ h => h) (Or.inl ⟨by kernel_rfl, ?_⟩) (fun h => Bool.noConfusion (h : true = false)) ?_
                  rotate_left
                  · intro w' hSw; skip; go_simp; try with_reducible rfl
                  try simp only [Act.put, List.setIfInBounds_toArray, List.set_cons_zero, List.set_cons_succ]
                  refine wpAnyP_done (by kernel_rfl) ?_ _
                  refine NoPanic.normal ?_
                  try simp only [Act.put, List.setIfInBounds_toArray, List.set_cons_zero, List.set_cons_succ]
                  exact key D12 D13 a1 a2 a3 a4 N W6 ⟨b6, (o6 D12 hneD).trans e5, e6, (HX.stored hD12 o5).stored ((o5 D13 (Ne.symm hneD)).trans hD13) o6, q12, q13⟩
              · refine hopAJ 19 rfl rfl rfl 24 rfl #[.slice none 0 0, .slice none 0 0] allocRT fun D13 Vcb hD13 lD13 bD => ?_
                have q13 : wr.heap.size ≤ D13 := Nat.le_trans SX.size lD13
                have SX : Below wr.heap.size wr Vcb := to_call SX bD
                have HX := HX.later bD
                clear bD
                refine ⟨SX, ?_⟩
                try simp only [Act.put, List.setIfInBounds_toArray, List.set_cons_zero, List.set_cons_succ]
                refine wpAnyP_ready (rs := [11]) (by kernel_rfl) (by simp) ?_
                refine consP _ rfl ?_ AllReadyP.nil
                · refine hopAJ 18 rfl rfl rfl 24 rfl #[.slice none 0 0, .slice none 0 0] allocRT fun D12 Vcba hD12 lD12 bD => ?_
                  have q12 : wr.heap.size ≤ D12 := Nat.le_trans SX.size lD12
                  have SX : Below wr.heap.size wr Vcba := to_call SX bD
                  have hneD : D12 ≠ D13 := by have := blk_lt hD13; omega
                  have hD13 := kept bD hD13
                  have HX := HX.later bD
                  clear bD
                  refine ⟨SX, ?_⟩
                  try simp only [Act.put, List.setIfInBounds_toArray, List.set_cons_zero, List.set_cons_succ]
                  refine wpAnyP_ready (rs := [13]) (by kernel_rfl) (by simp) ?_
                  refine consPs _ rfl (by kernel_rfl) (hopL rfl (wpList_store_row (by rfl) 24 _ _ (by rfl) wr wr.heap.size D12 #[.slice a1 N N, .slice a2 N N] _ (by kernel_rfl) (by kernel_rfl) hD12 SX q12 2 Try.szRT rfl rfl (one_rg _ _ _ _ _ _) fun W5 e5 b5 s5 o5 => ?_)) AllReadyP.nil
                  refine ⟨trivial, ?_⟩
                  refine put_noneP rfl ?_
                  refine wpAnyP_ready (rs := [14]) (by kernel_rfl) (by simp) ?_
                  refine consPs _ rfl (by kernel_rfl) (hopL rfl (wpList_store_row (by rfl) 24 _ _ (by rfl) wr wr.heap.size D13 #[.slice a3 N N, .slice a4 N N] _ (by kernel_rfl) (by kernel_rfl) ((o5 D13 (Ne.symm hneD)).trans hD13) b5 q13 2 Try.szRT rfl rfl (one_rg _ _ _ _ _ _) fun W6 e6 b6 s6 o6 => ?_)) AllReadyP.nil
                  refine ⟨trivial, ?_⟩
                  refine put_noneP rfl ?_
                  refine takeP0 20 (i := 15) (v := ?_) rfl rfl (by kernel_rfl) (by kernel_rfl) (by kernel_rfl) rfl (fun _ _ _ h => h) (Or.inl ⟨by kernel_rfl, ?_⟩) (fun h => Bool.noConfusion (h : true = false)) ?_
                  rotate_left
                  · intro w' hSw; skip; go_simp; try with_reducible rfl
                  try simp only [Act.put, List.setIfInBounds_toArray, List.set_cons_zero, List.set_cons_succ]
                  refine wpAnyP_done (by kernel_rfl) ?_ _
                  refine NoPanic.normal ?_
                  try simp only [Act.put, List.setIfInBounds_toArray, List.set_cons_zero, List.set_cons_succ]
                  exact key D12 D13 a1 a2 a3 a4 N W6 ⟨b6, (o6 D12 hneD).trans e5, e6, (HX.stored hD12 o5).stored ((o5 D13 (Ne.symm hneD)).trans hD13) o6, q12, q13⟩
            · refine hopAJ 18 rfl rfl rfl 24 rfl #[.slice none 0 0, .slice none 0 0] allocRT fun D12 Va hD12 lD12 bD => ?_
              have q12 : wr.heap.size ≤ D12 := Nat.le_trans SX.size lD12
              have SX : Below wr.heap.size wr Va := to_call SX bD
              clear bD
              refine ⟨SX, ?_⟩
              try simp only [Act.put, List.setIfInBounds_toArray, List.set_cons_zero, List.set_cons_succ]
              refine wpAnyP_ready (rs := [6, 12]) (by kernel_rfl) (by simp) ?_
              refine consP _ rfl ?_ (consP _ rfl ?_ AllReadyP.nil)
              · refine hopCd 70 rfl (by kernel_rfl) rfl (by kernel_rfl) (Calls.mono (halveU _ _ n n n n ls bs sy _ (P2.out.r.rl.later SX) (P2.out.r.ra.later SX)) ?_)
                rintro e Vac ⟨⟨a1, a2, a3, a4, N, rfl, HX⟩, bb⟩
                have HX := HX.mono (Nat.le_trans P2.out.b.size SX.size)
                have SX : Below wr.heap.size wr Vac := to_call SX bb
                have hD12 := kept bb hD12
                clear bb
                refine ⟨_, rfl, SX, ?_⟩
                try simp only [Act.put, List.setIfInBounds_toArray, List.set_cons_zero, List.set_cons_succ]
                refine takeP 63 (i := 7) (v := ?_) rfl rfl (by kernel_rfl) (by kernel_rfl) (by kernel_rfl) (by kernel_rfl) rfl (by kernel_rfl) (fun _ _ _ h => h) (Or.inl ⟨by kernel_rfl, ?_⟩) SX ?_
                rotate_left
                · intro w' hSw; skip; go_simp; try with_reducible rfl
                try simp only [Act.put, List.setIfInBounds_toArray, List.set_cons_zero, List.set_cons_succ]
                refine takeP 71 (i := 8) (v := ?_) rfl rfl (by kernel_rfl) (by kernel_rfl) (by kernel_rfl) (by kernel_rfl) rfl (by kernel_rfl) (fun _ _ _ h => h) (Or.inl ⟨by kernel_rfl, ?_⟩) SX ?_
                rotate_left
                · intro w' hSw; skip; go_simp; try with_reducible rfl
                try simp only [Act.put, List.setIfInBounds_toArray, List.set_cons_zero, List.set_cons_succ]
                refine takeP0 72 (i := 9) (v := ?_) rfl rfl (by kernel_rfl) (by kernel_rfl) (by kernel_rfl) rfl (fun _ _ _ h => h) (Or.inl ⟨by kernel_rfl, ?_⟩) (fun _ => SX) ?_
                rotate_left
                · intro w' hSw; skip; go_simp; try with_reducible rfl
                try simp only [Act.put, List.setIfInBounds_toArray, List.set_cons_zero, List.set_cons_succ]
                refine takeP0 73 (i := 10) (v := ?_) rfl rfl (by kernel_rfl) (by kernel_rfl) (by kernel_rfl) rfl (fun _ _ _ h => h) (Or.inl ⟨by kernel_rfl, ?_⟩) (fun _ => SX) ?_
                rotate_left
                · intro w' hSw; skip; go_simp; try with_reducible rfl
                try simp only [Act.put, List.setIfInBounds_toArray, List.set_cons_zero, List.set_cons_succ]
                refine wpAnyP_ready (rs := [12]) (by kernel_rfl) (by simp) ?_
                refine consP _ rfl ?_ AllReadyP.nil
                · refine hopAJ 19 rfl rfl rfl 24 rfl #[.slice none 0 0, .slice none 0 0] allocRT fun D13 Vacb hD13 lD13 bD => ?_
                  have q13 : wr.heap.size ≤ D13 := Nat.le_trans SX.size lD13
                  have SX : Below wr.heap.size wr Vacb := to_call SX bD
                  have hneD : D12 ≠ D13 := by have := blk_lt hD12; omega
                  have hD12 := kept bD hD12
                  have HX := HX.later bD
                  clear bD
                  refine ⟨SX, ?_⟩
                  try simp only [Act.put, List.setIfInBounds_toArray, List.set_cons_zero, List.set_cons_succ]
                  refine wpAnyP_ready (rs := [13]) (by kernel_rfl) (by simp) ?_
                  refine consPs _ rfl (by kernel_rfl) (hopL rfl (wpList_store_row (by rfl) 24 _ _ (by rfl) wr wr.heap.size D12 #[.slice a1 N N, .slice a2 N N] _ (by kernel_rfl) (by kernel_rfl) hD12 SX q12 2 Try.szRT rfl rfl (one_rg _ _ _ _ _ _) fun W5 e5 b5 s5 o5 => ?_)) AllReadyP.nil
                  refine ⟨trivial, ?_⟩
                  refine put_noneP rfl ?_
                  refine wpAnyP_ready (rs := [14]) (by kernel_rfl) (by simp) ?_
                  refine consPs _ rfl (by kernel_rfl) (hopL rfl (wpList_store_row (by rfl) 24 _ _ (by rfl) wr wr.heap.size D13 #[.slice a3 N N, .slice a4 N N] _ (by kernel_rfl) (by kernel_rfl) ((o5 D13 (Ne.symm hneD)).trans hD13) b5 q13 2 Try.szRT rfl rfl (one_rg _ _ _ _ _ _) fun W6 e6 b6 s6 o6 => ?_)) AllReadyP.nil
                  refine ⟨trivial, ?_⟩
                  refine put_noneP rfl ?_
                  refine takeP0 20 (i := 15) (v := ?_) rfl rfl (by kernel_rfl) (by kernel_rfl) (by kernel_rfl) rfl (fun _ _ _ h => h) (Or.inl ⟨by kernel_rfl, ?_⟩) (fun h => Bool.noConfusion (h : true = false)) ?_
                  rotate_left
                  · intro w' hSw; skip; go_simp; try with_reducible rfl
                  try simp only [Act.put, List.setIfInBounds_toArray, List.set_cons_zero, List.set_cons_succ]
                  refine wpAnyP_done (by kernel_rfl) ?_ _
                  refine NoPanic.normal ?_
                  try simp only [Act.put, List.setIfInBounds_toArray, List.set_cons_zero, List.set_cons_succ]
                  exact key D12 D13 a1 a2 a3 a4 N W6 ⟨b6, (o6 D12 hneD).trans e5, e6, (HX.stored hD12 o5).stored ((o5 D13 (Ne.symm hneD)).trans hD13) o6, q12, q13⟩
              · refine hopAJ 19 rfl rfl rfl 24 rfl #[.slice none 0 0, .slice none 0 0] allocRT fun D13 Vab hD13 lD13 bD => ?_
                have q13 : wr.heap.size ≤ D13 := Nat.le_trans SX.size lD13
                have SX : Below wr.heap.size wr Vab := to_call SX bD
                have hneD : D12 ≠ D13 := by have := blk_lt hD12; omega
                have hD12 := kept bD hD12
                clear bD
                refine ⟨SX, ?_⟩
                try simp only [Act.put, List.setIfInBounds_toArray, List.set_cons_zero, List.set_cons_succ]
                refine wpAnyP_ready (rs := [6]) (by kernel_rfl) (by simp) ?_
                refine consP _ rfl ?_ AllReadyP.nil
                · refine hopCd 70 rfl (by kernel_rfl) rfl (by kernel_rfl) (Calls.mono (halveU _ _ n n n n ls bs sy _ (P2.out.r.rl.later SX) (P2.out.r.ra.later SX)) ?_)
                  rintro e Vabc ⟨⟨a1, a2, a3, a4, N, rfl, HX⟩, bb⟩
                  have HX := HX.mono (Nat.le_trans P2.out.b.size SX.size)
                  have SX : Below wr.heap.size wr Vabc := to_call SX bb
                  have hD12 := kept bb hD12
                  have hD13 := kept bb hD13
                  clear bb
                  refine ⟨_, rfl, SX, ?_⟩
                  try simp only [Act.put, List.setIfInBounds_toArray, List.set_cons_zero, List.set_cons_succ]
                  refine takeP 63 (i := 7) (v := ?_) rfl rfl (by kernel_rfl) (by kernel_rfl) (by kernel_rfl) (by kernel_rfl) rfl (by kernel_rfl) (fun _ _ _ h => h) (Or.inl ⟨by kernel_rfl, ?_⟩) SX ?_
                  rotate_left
                  · intro w' hSw; skip; go_simp; try with_reducible rfl
                  try simp only [Act.put, List.setIfInBounds_toArray, List.set_cons_zero, List.set_cons_succ]
                  refine takeP 71 (i := 8) (v := ?_) rfl rfl (by kernel_rfl) (by kernel_rfl) (by kernel_rfl) (by kernel_rfl) rfl (by kernel_rfl) (fun _ _ _ h => h) (Or.inl ⟨by kernel_rfl, ?_⟩) SX ?_
                  rotate_left
                  · intro w' hSw; skip; go_simp; try with_reducible rfl
                  try simp only [Act.put, List.setIfInBounds_toArray, List.set_cons_zero, List.set_cons_succ]
                  refine takeP0 72 (i := 9) (v := ?_) rfl rfl (by kernel_rfl) (by kernel_rfl) (by kernel_rfl) rfl (fun _ _ _ h => h) (Or.inl ⟨by kernel_rfl, ?_⟩) (fun _ => SX) ?_
                  rotate_left
                  · intro w' hSw; skip; go_simp; try with_reducible rfl
                  try simp only [Act.put, List.setIfInBounds_toArray, List.set_cons_zero, List.set_cons_succ]
                  refine takeP0 73 (i := 10) (v := ?_) rfl rfl (by kernel_rfl) (by kernel_rfl) (by kernel_rfl) rfl (fun _ _ _ h => h) (Or.inl ⟨by kernel_rfl, ?_⟩) (fun _ => SX) ?_
                  rotate_left
                  · intro w' hSw; skip; go_simp; try with_reducible rfl
                  try simp only [Act.put, List.setIfInBounds_toArray, List.set_cons_zero, List.set_cons_succ]
                  refine wpAnyP_ready (rs := [13]) (by kernel_rfl) (by simp) ?_
                  refine consPs _ rfl (by kernel_rfl) (hopL rfl (wpList_store_row (by rfl) 24 _ _ (by rfl) wr wr.heap.size D12 #[.slice a1 N N, .slice a2 N N] _ (by kernel_rfl) (by kernel_rfl) hD12 SX q12 2 Try.szRT rfl rfl (one_rg _ _ _ _ _ _) fun W5 e5 b5 s5 o5 => ?_)) AllReadyP.nil
                  refine ⟨trivial, ?_⟩
                  refine put_noneP rfl ?_
                  refine wpAnyP_ready (rs := [14]) (by kernel_rfl) (by simp) ?_
                  refine consPs _ rfl (by kernel_rfl) (hopL rfl (wpList_store_row (by rfl) 24 _ _ (by rfl) wr wr.heap.size D13 #[.slice a3 N N, .slice a4 N N] _ (by kernel_rfl) (by kernel_rfl) ((o5 D13 (Ne.symm hneD)).trans hD13) b5 q13 2 Try.szRT rfl rfl (one_rg _ _ _ _ _ _) fun W6 e6 b6 s6 o6 => ?_)) AllReadyP.nil
                  refine ⟨trivial, ?_⟩
                  refine put_noneP rfl ?_
                  refine takeP0 20 (i := 15) (v := ?_) rfl rfl (by kernel_rfl) (by kernel_rfl) (by kernel_rfl) rfl (fun _ _ _ h => h) (Or.inl ⟨by kernel_rfl, ?_⟩) (fun h => Bool.noConfusion (h : true = false)) ?_
                  rotate_left
                  · intro w' hSw; skip; go_simp; try with_reducible rfl
                  try simp only [Act.put, List.setIfInBounds_toArray, List.set_cons_zero, List.set_cons_succ]
                  refine wpAnyP_done (by kernel_rfl) ?_ _
                  refine NoPanic.normal ?_
                  try simp only [Act.put, List.setIfInBounds_toArray, List.set_cons_zero, List.set_cons_succ]
                  exact key D12 D13 a1 a2 a3 a4 N W6 ⟨b6, (o6 D12 hneD).trans e5, e6, (HX.stored hD12 o5).stored ((o5 D13 (Ne.symm hneD)).trans hD13) o6, q12, q13⟩
            · refine hopAJ 19 rfl rfl rfl 24 rfl #[.slice none 0 0, .slice none 0 0] allocRT fun D13 Vb hD13 lD13 bD => ?_
              have q13 : wr.heap.size ≤ D13 := Nat.le_trans SX.size lD13
              have SX : Below wr.heap.size wr Vb := to_call SX bD
              clear bD
              refine ⟨SX, ?_⟩
              try simp only [Act.put, List.setIfInBounds_toArray, List.set_cons_zero, List.set_cons_succ]
              refine wpAnyP_ready (rs := [6, 11]) (by kernel_rfl) (by simp) ?_
              refine consP _ rfl ?_ (consP _ rfl ?_ AllReadyP.nil)
              · refine hopCd 70 rfl (by kernel_rfl) rfl (by kernel_rfl) (Calls.mono (halveU _ _ n n n n ls bs sy _ (P2.out.r.rl.later SX) (P2.out.r.ra.later SX)) ?_)
                rintro e Vbc ⟨⟨a1, a2, a3, a4, N, rfl, HX⟩, bb⟩
                have HX := HX.mono (Nat.le_trans P2.out.b.size SX.size)
                have SX : Below wr.heap.size wr Vbc := to_call SX bb
                have hD13 := kept bb hD13
                clear bb
                refine ⟨_, rfl, SX, ?_⟩
                try simp only [Act.put, List.setIfInBounds_toArray, List.set_cons_zero, List.set_cons_succ]
                refine takeP 63 (i := 7) (v := ?_) rfl rfl (by kernel_rfl) (by kernel_rfl) (by kernel_rfl) (by kernel_rfl) rfl (by kernel_rfl) (fun _ _ _ h => h) (Or.inl ⟨by kernel_rfl, ?_⟩) SX ?_
                rotate_left
                · intro w' hSw; skip; go_simp; try with_reducible rfl
                try simp only [Act.put, List.setIfInBounds_toArray, List.set_cons_zero, List.set_cons_succ]
                refine takeP 71 (i := 8) (v := ?_) rfl rfl (by kernel_rfl) (by kernel_rfl) (by kernel_rfl) (by kernel_rfl) rfl (by kernel_rfl) (fun _ _ _ h => h) (Or.inl ⟨by kernel_rfl, ?_⟩) SX ?_
                rotate_left
                · intro w' hSw; skip; go_simp; try with_reducible rfl
                try simp only [Act.put, List.setIfInBounds_toArray, List.set_cons_zero, List.set_cons_succ]
                refine takeP0 72 (i := 9) (v := ?_) rfl rfl (by kernel_rfl) (by kernel_rfl) (by kernel_rfl) rfl (fun _ _ _ h => h) (Or.inl ⟨by kernel_rfl, ?_⟩) (fun _ => SX) ?_
                rotate_left
                · intro w' hSw; skip; go_simp; try with_reducible rfl
                try simp only [Act.put, List.setIfInBounds_toArray, List.set_cons_zero, List.set_cons_succ]
                refine takeP0 73 (i := 10) (v := ?_) rfl rfl (by kernel_rfl) (by kernel_rfl) (by kernel_rfl) rfl (fun _ _ _ h => h) (Or.inl ⟨by kernel_rfl, ?_⟩) (fun _ => SX) ?_
                rotate_left
                · intro w' hSw; skip; go_simp; try with_reducible rfl
                try simp only [Act.put, List.setIfInBounds_toArray, List.set_cons_zero, List.set_cons_succ]
                refine wpAnyP_ready (rs := [11]) (by kernel_rfl) (by simp) ?_
                refine consP _ rfl ?_ AllReadyP.nil
                · refine hopAJ 18 rfl rfl rfl 24 rfl #[.slice none 0 0, .slice none 0 0] allocRT fun D12 Vbca hD12 lD12 bD => ?_
                  have q12 : wr.heap.size ≤ D12 := Nat.le_trans SX.size lD12
                  have SX : Below wr.heap.size wr Vbca := to_call SX bD
                  have hneD : D12 ≠ D13 := by have := blk_lt hD13; omega
                  have hD13 := kept bD hD13
                  have HX := HX.later bD
                  clear bD
                  refine ⟨SX, ?_⟩
                  try simp only [Act.put, List.setIfInBounds_toArray, List.set_cons_zero, List.set_cons_succ]
                  refine wpAnyP_ready (rs := [13]) (by kernel_rfl) (by simp) ?_
                  refine consPs _ rfl (by kernel_rfl) (hopL rfl (wpList_store_row (by rfl) 24 _ _ (by rfl) wr wr.heap.size D12 #[.slice a1 N N, .slice a2 N N] _ (by kernel_rfl) (by kernel_rfl) hD12 SX q12 2 Try.szRT rfl rfl (one_rg _ _ _ _ _ _) fun W5 e5 b5 s5 o5 => ?_)) AllReadyP.nil
                  refine ⟨trivial, ?_⟩
                  refine put_noneP rfl ?_
                  refine wpAnyP_ready (rs := [14]) (by kernel_rfl) (by simp) ?_
                  refine consPs _ rfl (by kernel_rfl) (hopL rfl (wpList_store_row (by rfl) 24 _ _ (by rfl) wr wr.heap.size D13 #[.slice a3 N N, .slice a4 N N] _ (by kernel_rfl) (by kernel_rfl) ((o5 D13 (Ne.symm hneD)).trans hD13) b5 q13 2 Try.szRT rfl rfl (one_rg _ _ _ _ _ _) fun W6 e6 b6 s6 o6 => ?_)) AllReadyP.nil
                  refine ⟨trivial, ?_⟩
                  refine put_noneP rfl ?_
                  refine takeP0 20 (i := 15) (v := ?_) rfl rfl (by kernel_rfl) (by kernel_rfl) (by kernel_rfl) rfl (fun _ _ _ h => h) (Or.inl ⟨by kernel_rfl, ?_⟩) (fun h => Bool.noConfusion (h : true = false)) ?_
                  rotate_left
                  · intro w' hSw; skip; go_simp; try with_reducible rfl
                  try simp only [Act.put, List.setIfInBounds_toArray, List.set_cons_zero, List.set_cons_succ]
                  refine wpAnyP_done (by kernel_rfl) ?_ _
                  refine NoPanic.normal ?_
                  try simp only [Act.put, List.setIfInBounds_toArray, List.set_cons_zero, List.set_cons_succ]
                  exact key D12 D13 a1 a2 a3 a4 N W6 ⟨b6, (o6 D12 hneD).trans e5, e6, (HX.stored hD12 o5).stored ((o5 D13 (Ne.symm hneD)).trans hD13) o6, q12, q13⟩
              · refine hopAJ 18 rfl rfl rfl 24 rfl #[.slice none 0 0, .slice none 0 0] allocRT fun D12 Vba hD12 lD12 bD => ?_
                have q12 : wr.heap.size ≤ D12 := Nat.le_trans SX.size lD12
                have SX : Below wr.heap.size wr Vba := to_call SX bD
                have hneD : D12 ≠ D13 := by have := blk_lt hD13; omega
                have hD13 := kept bD hD13
                clear bD
                refine ⟨SX, ?_⟩
                try simp only [Act.put, List.setIfInBounds_toArray, List.set_cons_zero, List.set_cons_succ]
                refine wpAnyP_ready (rs := [6]) (by kernel_rfl) (by simp) ?_
                refine consP _ rfl ?_ AllReadyP.nil
                · refine hopCd 70 rfl (by kernel_rfl) rfl (by kernel_rfl) (Calls.mono (halveU _ _ n n n n ls bs sy _ (P2.out.r.rl.later SX) (P2.out.r.ra.later SX)) ?_)
                  rintro e Vbac ⟨⟨a1, a2, a3, a4, N, rfl, HX⟩, bb⟩
                  have HX := HX.mono (Nat.le_trans P2.out.b.size SX.size)
                  have SX : Below wr.heap.size wr Vbac := to_call SX bb
                  have hD13 := kept bb hD13
                  have hD12 := kept bb hD12
                  clear bb
                  refine ⟨_, rfl, SX, ?_⟩
                  try simp only [Act.put, List.setIfInBounds_toArray, List.set_cons_zero, List.set_cons_succ]
                  refine takeP 63 (i := 7) (v := ?_) rfl rfl (by kernel_rfl) (by kernel_rfl) (by kernel_rfl) (by kernel_rfl) rfl (by kernel_rfl) (fun _ _ _ h => h) (Or.inl ⟨by kernel_rfl, ?_⟩) SX ?_
                  rotate_left
                  · intro w' hSw; skip; go_simp; try with_reducible rfl
                  try simp only [Act.put, List.setIfInBounds_toArray, List.set_cons_zero, List.set_cons_succ]
                  refine takeP 71 (i := 8) (v := ?_) rfl rfl (by kernel_rfl) (by kernel_rfl) (by kernel_rfl) (by kernel_rfl) rfl (by kernel_rfl) (fun _ _ _ h => h) (Or.inl ⟨by kernel_rfl, ?_⟩) SX ?_
                  rotate_left
                  · intro w' hSw; skip; go_simp; try with_reducible rfl
                  try simp only [Act.put, List.setIfInBounds_toArray, List.set_cons_zero, List.set_cons_succ]
                  refine takeP0 72 (i := 9) (v := ?_) rfl rfl (by kernel_rfl) (by kernel_rfl) (by kernel_rfl) rfl (fun _ _ _ h => h) (Or.inl ⟨by kernel_rfl, ?_⟩) (fun _ => SX) ?_
                  rotate_left
                  · intro w' hSw; skip; go_simp; try with_reducible rfl
                  try simp only [Act.put, List.setIfInBounds_toArray, List.set_cons_zero, List.set_cons_succ]
                  refine takeP0 73 (i := 10) (v := ?_) rfl rfl (by kernel_rfl) (by kernel_rfl) (by kernel_rfl) rfl (fun _ _ _ h => h) (Or.inl ⟨by kernel_rfl, ?_⟩) (fun _ => SX) ?_
                  rotate_left
                  · intro w' hSw; skip; go_simp; try with_reducible rfl
                  try simp only [Act.put, List.setIfInBounds_toArray, List.set_cons_zero, List.set_cons_succ]
                  refine wpAnyP_ready (rs := [13]) (by kernel_rfl) (by simp) ?_
                  refine consPs _ rfl (by kernel_rfl) (hopL rfl (wpList_store_row (by rfl) 24 _ _ (by rfl) wr wr.heap.size D12 #[.slice a1 N N, .slice a2 N N] _ (by kernel_rfl) (by kernel_rfl) hD12 SX q12 2 Try.szRT rfl rfl (one_rg _ _ _ _ _ _) fun W5 e5 b5 s5 o5 => ?_)) AllReadyP.nil
                  refine ⟨trivial, ?_⟩
                  refine put_noneP rfl ?_
                  refine wpAnyP_ready (rs := [14]) (by kernel_rfl) (by simp) ?_
                  refine consPs _ rfl (by kernel_rfl) (hopL rfl (wpList_store_row (by rfl) 24 _ _ (by rfl) wr wr.heap.size D13 #[.slice a3 N N, .slice a4 N N] _ (by kernel_rfl) (by kernel_rfl) ((o5 D13 (Ne.symm hneD)).trans hD13) b5 q13 2 Try.szRT rfl rfl (one_rg _ _ _ _ _ _) fun W6 e6 b6 s6 o6 => ?_)) AllReadyP.nil
                  refine ⟨trivial, ?_⟩
                  refine put_noneP rfl ?_
                  refine takeP0 20 (i := 15) (v := ?_) rfl rfl (by kernel_rfl) (by kernel_rfl) (by kernel_rfl) rfl (fun _ _ _ h => h) (Or.inl ⟨by kernel_rfl, ?_⟩) (fun h => Bool.noConfusion (h : true = false)) ?_
                  rotate_left
                  · intro w' hSw; skip; go_simp; try with_reducible rfl
                  try simp only [Act.put, List.setIfInBounds_toArray, List.set_cons_zero, List.set_cons_succ]
                  refine wpAnyP_done (by kernel_rfl) ?_ _
                  refine NoPanic.normal ?_
                  try simp only [Act.put, List.setIfInBounds_toArray, List.set_cons_zero, List.set_cons_succ]
                  exact key D12 D13 a1 a2 a3 a4 N W6 ⟨b6, (o6 D12 hneD).trans e5, e6, (HX.stored hD12 o5).stored ((o5 D13 (Ne.symm hneD)).trans hD13) o6, q12, q13⟩
          case pf =>
            intro b18 b19 a1 a2 a3 a4 N W8 PF8
            have P3 : Hid (PlS w W8 P Q n ls bs B1 B2 u1 u2 k1 k2) := P2.out.later PF8.out.1
            have HLT : Hid (P < wr.heap.size ∧ Q < wr.heap.size ∧ wr.heap.size ≤ W8.heap.size) := ⟨blk_lt P2.out.r.v, blk_lt P2.out.s.v, PF8.out.1.size⟩
            have CT8 : Hid (W8.cell? ⟨tb, tf + j * 2, none⟩ = some (.int .i64 sy)) := HB0.out _ P3.out.b
            clear CT0 P2
            go_upto_region 9 with fail
            apply by_keyY (F := fun b21 b22 e1 f1 e2 f2 e3 f3 e4 f4 M W => Hid (Below W8.heap.size W8 W ∧ W.heap[b21]? = some (.cells #[.slice e1 M f1, .slice e2 M f2] 24) ∧ W.heap[b22]? = some (.cells #[.slice e3 M f3, .slice e4 M f4] 24) ∧ HvY W n ls bs sy e1 f1 e2 f2 e3 f3 e4 f4 M ∧ W8.heap.size ≤ b21 ∧ W8.heap.size ≤ b22))
            case main =>
              intro key
              refine wp_region_noPanic ?_
              refine wp_region_P (S := (fun V => Below W8.heap.size W8 V)) (s := 13) (by kernel_rfl) ?_
              have SX : Below W8.heap.size W8 W8.drew := (Below.refl _ _).drew
              refine takeP 75 (i := 0) (v := .agg #[.slice u1 n k1, .slice u2 n k2]) rfl rfl (by kernel_rfl) (by kernel_rfl) (by kernel_rfl) (by kernel_rfl) rfl (by kernel_rfl) (fun _ _ _ h => h) (Or.inl ⟨by kernel_rfl, fun w' hSw => ex_loadRN _ 24 _ rfl Q (by kernel_rfl) w' _ (kept hSw P3.out.s.v) _ Try.underlying24 rfl 2 Try.szRT rfl⟩) SX ?_
              try simp only [Act.put, List.setIfInBounds_toArray, List.set_cons_zero, List.set_cons_succ]
              refine takeP 76 (i := 1) (v := ?_) rfl rfl (by kernel_rfl) (by kernel_rfl) (by kernel_rfl) (by kernel_rfl) rfl (by kernel_rfl) (fun _ _ _ h => h) (Or.inl ⟨by kernel_rfl, ?_⟩) SX ?_
              rotate_left
              · intro w' hSw; skip; go_simp; try with_reducible rfl
              try simp only [Act.put, List.setIfInBounds_toArray, List.set_cons_zero, List.set_cons_succ]
              refine takeP 77 (i := 2) (v := ?_) rfl rfl (by kernel_rfl) (by kernel_rfl) (by kernel_rfl) (by kernel_rfl) rfl (by kernel_rfl) (fun _ _ _ h => h) (Or.inl ⟨by kernel_rfl, ?_⟩) SX ?_
              rotate_left
              · intro w' hSw; skip; go_simp; try with_reducible rfl
              try simp only [Act.put, List.setIfInBounds_toArray, List.set_cons_zero, List.set_cons_succ]
              refine takeP 78 (i := 3) (v := ?_) rfl rfl (by kernel_rfl) (by kernel_rfl) (by kernel_rfl) (by kernel_rfl) rfl (by kernel_rfl) (fun _ _ _ h => h) (Or.inl ⟨by kernel_rfl, ?_⟩) SX ?_
              rotate_left
              · intro w' hSw; skip; go_simp; try with_reducible rfl
              try simp only [Act.put, List.setIfInBounds_toArray, List.set_cons_zero, List.set_cons_succ]
              refine takeP 79 (i := 4) (v := ?_) rfl rfl (by kernel_rfl) (by kernel_rfl) (by kernel_rfl) (by kernel_rfl) rfl (by kernel_rfl) (fun _ _ _ h => h) (Or.inl ⟨by kernel_rfl, ?_⟩) SX ?_
              rotate_left
              · intro w' hSw; skip; go_simp; try with_reducible rfl
              try simp only [Act.put, List.setIfInBounds_toArray, List.set_cons_zero, List.set_cons_succ]
              refine takeP 80 (i := 5) (v := ?_) rfl rfl (by kernel_rfl) (by kernel_rfl) (by kernel_rfl) (by kernel_rfl) rfl (by kernel_rfl) (fun _ _ _ h => h) (Or.inl ⟨by kernel_rfl, ?_⟩) SX ?_
              rotate_left
              · intro w' hSw; have t0 := cell_later CT8.out hSw; go_simp; try with_reducible rfl
              try simp only [Act.put, List.setIfInBounds_toArray, List.set_cons_zero, List.set_cons_succ]
              refine wpAnyP_ready (rs := [6, 11, 12]) (by kernel_rfl) (by simp) ?_
              refine consP _ rfl ?_ (consP _ rfl ?_ (consP _ rfl ?_ AllReadyP.nil))
              · refine hopCd 81 rfl (by kernel_rfl) rfl (by kernel_rfl) (Calls.mono (refHalveY _ _ n n k1 k2 ls bs sy _ (P3.out.s.rl.later SX) (P3.out.s.ra.later SX)) ?_)
                rintro e Vc ⟨⟨e1, f1, e2, f2, e3, f3, e4, f4, M, rfl, HX⟩, bb⟩
                have SX : Below W8.heap.size W8 Vc := to_call SX bb
                clear bb
                refine ⟨_, rfl, SX, ?_⟩
                try simp only [Act.put, List.setIfInBounds_toArray, List.set_cons_zero, List.set_cons_succ]
                refine takeP 74 (i := 7) (v := ?_) rfl rfl (by kernel_rfl) (by kernel_rfl) (by kernel_rfl) (by kernel_rfl) rfl (by kernel_rfl) (fun _ _ _ h => h) (Or.inl ⟨by kernel_rfl, ?_⟩) SX ?_
                rotate_left
                · intro w' hSw; skip; go_simp; try with_reducible rfl
                try simp only [Act.put, List.setIfInBounds_toArray, List.set_cons_zero, List.set_cons_succ]
                refine takeP 82 (i := 8) (v := ?_) rfl rfl (by kernel_rfl) (by kernel_rfl) (by kernel_rfl) (by kernel_rfl) rfl (by kernel_rfl) (fun _ _ _ h => h) (Or.inl ⟨by kernel_rfl, ?_⟩) SX ?_
                rotate_left
                · intro w' hSw; skip; go_simp; try with_reducible rfl
                try simp only [Act.put, List.setIfInBounds_toArray, List.set_cons_zero, List.set_cons_succ]
                refine takeP0 83 (i := 9) (v := ?_) rfl rfl (by kernel_rfl) (by kernel_rfl) (by kernel_rfl) rfl (fun _ _ _ h => h) (Or.inl ⟨by kernel_rfl, ?_⟩) (fun _ => SX) ?_
                rotate_left
                · intro w' hSw; skip; go_simp; try with_reducible rfl
                try simp only [Act.put, List.setIfInBounds_toArray, List.set_cons_zero, List.set_cons_succ]
                refine takeP0 84 (i := 10) (v := ?_) rfl rfl (by kernel_rfl) (by kernel_rfl) (by kernel_rfl) rfl (fun _ _ _ h => h) (Or.inl ⟨by kernel_rfl, ?_⟩) (fun _ => SX) ?_
                rotate_left
                · intro w' hSw; skip; go_simp; try with_reducible rfl
                try simp only [Act.put, List.setIfInBounds_toArray, List.set_cons_zero, List.set_cons_succ]
                refine wpAnyP_ready (rs := [11, 12]) (by kernel_rfl) (by simp) ?_
                refine consP _ rfl ?_ (consP _ rfl ?_ AllReadyP.nil)
                · refine hopAJ 21 rfl rfl rfl 24 rfl #[.slice none 0 0, .slice none 0 0] allocRT fun D12 Vca hD12 lD12 bD => ?_
                  have q12 : W8.heap.size ≤ D12 := Nat.le_trans SX.size lD12
                  have SX : Below W8.heap.size W8 Vca := to_call SX bD
                  have HX := HX.later bD
                  clear bD
                  refine ⟨SX, ?_⟩
                  try simp only [Act.put, List.setIfInBounds_toArray, List.set_cons_zero, List.set_cons_succ]
                  refine wpAnyP_ready (rs := [12]) (by kernel_rfl) (by simp) ?_
                  refine consP _ rfl ?_ AllReadyP.nil
                  · refine hopAJ 22 rfl rfl rfl 24 rfl #[.slice none 0 0, .slice none 0 0] allocRT fun D13 Vcab hD13 lD13 bD => ?_
                    have q13 : W8.heap.size ≤ D13 := Nat.le_trans SX.size lD13
                    have SX : Below W8.heap.size W8 Vcab := to_call SX bD
                    have hneD : D12 ≠ D13 := by have := blk_lt hD12; omega
                    have hD12 := kept bD hD12
                    have HX := HX.later bD
                    clear bD
                    refine ⟨SX, ?_⟩
                    try simp only [Act.put, List.setIfInBounds_toArray, List.set_cons_zero, List.set_cons_succ]
                    refine wpAnyP_ready (rs := [13]) (by kernel_rfl) (by simp) ?_
                    refine consPs _ rfl (by kernel_rfl) (hopL rfl (wpList_store_row (by rfl) 24 _ _ (by rfl) W8 W8.heap.size D12 #[.slice e1 M f1, .slice e2 M f2] _ (by kernel_rfl) (by kernel_rfl) hD12 SX q12 2 Try.szRT rfl rfl (one_rg _ _ _ _ _ _) fun W5 e5 b5 s5 o5 => ?_)) AllReadyP.nil
                    refine ⟨trivial, ?_⟩
                    refine put_noneP rfl ?_
                    refine wpAnyP_ready (rs := [14]) (by kernel_rfl) (by simp) ?_
                    refine consPs _ rfl (by kernel_rfl) (hopL rfl (wpList_store_row (by rfl) 24 _ _ (by rfl) W8 W8.heap.size D13 #[.slice e3 M f3, .slice e4 M f4] _ (by kernel_rfl) (by kernel_rfl) ((o5 D13 (Ne.symm hneD)).trans hD13) b5 q13 2 Try.szRT rfl rfl (one_rg _ _ _ _ _ _) fun W6 e6 b6 s6 o6 => ?_)) AllReadyP.nil
                    refine ⟨trivial, ?_⟩
                    refine put_noneP rfl ?_
                    refine takeP0 23 (i := 15) (v := ?_) rfl rfl (by kernel_rfl) (by kernel_rfl) (by kernel_rfl) rfl (fun _ _ _ h => h) (Or.inl ⟨by kernel_rfl, ?_⟩) (fun h => Bool.noConfusion (h : true = false)) ?_
                    rotate_left
                    · intro w' hSw; skip; go_simp; try with_reducible rfl
                    try simp only [Act.put, List.setIfInBounds_toArray, List.set_cons_zero, List.set_cons_succ]
                    refine wpAnyP_done (by kernel_rfl) ?_ _
                    refine NoPanic.normal ?_
                    try simp only [Act.put, List.setIfInBounds_toArray, List.set_cons_zero, List.set_cons_succ]
                    exact key D12 D13 e1 f1 e2 f2 e3 f3 e4 f4 M W6 ⟨b6, (o6 D12 hneD).trans e5, e6, (HX.stored hD12 o5).stored ((o5 D13 (Ne.symm hneD)).trans hD13) o6, q12, q13⟩
                · refine hopAJ 22 rfl rfl rfl 24 rfl #[.slice none 0 0, .slice none 0 0] allocRT fun D13 Vcb hD13 lD13 bD => ?_
                  have q13 : W8.heap.size ≤ D13 := Nat.le_trans SX.size lD13
                  have SX : Below W8.heap.size W8 Vcb := to_call SX bD
                  have HX := HX.later bD
                  clear bD
                  refine ⟨SX, ?_⟩
                  try simp only [Act.put, List.setIfInBounds_toArray, List.set_cons_zero, List.set_cons_succ]
                  refine wpAnyP_ready (rs := [11]) (by kernel_rfl) (by simp) ?_
                  refine consP _ rfl ?_ AllReadyP.nil
                  · refine hopAJ 21 rfl rfl rfl 24 rfl #[.slice none 0 0, .slice none 0 0] allocRT fun D12 Vcba hD12 lD12 bD => ?_
                    have q12 : W8.heap.size ≤ D12 := Nat.le_trans SX.size lD12
                    have SX : Below W8.heap.size W8 Vcba := to_call SX bD
                    have hneD : D12 ≠ D13 := by have := blk_lt hD13; omega
                    have hD13 := kept bD hD13
                    have HX := HX.later bD
                    clear bD
                    refine ⟨SX, ?_⟩
                    try simp only [Act.put, List.setIfInBounds_toArray, List.set_cons_zero, List.set_cons_succ]
                    refine wpAnyP_ready (rs := [13]) (by kernel_rfl) (by simp) ?_
                    refine consPs _ rfl (by kernel_rfl) (hopL rfl (wpList_store_row (by rfl) 24 _ _ (by rfl) W8 W8.heap.size D12 #[.slice e1 M f1, .slice e2 M f2] _ (by kernel_rfl) (by kernel_rfl) hD12 SX q12 2 Try.szRT rfl rfl (one_rg _ _ _ _ _ _) fun W5 e5 b5 s5 o5 => ?_)) AllReadyP.nil
                    refine ⟨trivial, ?_⟩
                    refine put_noneP rfl ?_
                    refine wpAnyP_ready (rs := [14]) (by kernel_rfl) (by simp) ?_
                    refine consPs _ rfl (by kernel_rfl) (hopL rfl (wpList_store_row (by rfl) 24 _ _ (by rfl) W8 W8.heap.size D13 #[.slice e3 M f3, .slice e4 M f4] _ (by kernel_rfl) (by kernel_rfl) ((o5 D13 (Ne.symm hneD)).trans hD13) b5 q13 2 Try.szRT rfl rfl (one_rg _ _ _ _ _ _) fun W6 e6 b6 s6 o6 => ?_)) AllReadyP.nil
                    refine ⟨trivial, ?_⟩
                    refine put_noneP rfl ?_
                    refine takeP0 23 (i := 15) (v := ?_) rfl rfl (by kernel_rfl) (by kernel_rfl) (by kernel_rfl) rfl (fun _ _ _ h => h) (Or.inl ⟨by kernel_rfl, ?_⟩) (fun h => Bool.noConfusion (h : true = false)) ?_
                    rotate_left
                    · intro w' hSw; skip; go_simp; try with_reducible rfl
                    try simp only [Act.put, List.setIfInBounds_toArray, List.set_cons_zero, List.set_cons_succ]
                    refine wpAnyP_done (by kernel_rfl) ?_ _
                    refine NoPanic.normal ?_
                    try simp only [Act.put, List.setIfInBounds_toArray, List.set_cons_zero, List.set_cons_succ]
                    exact key D12 D13 e1 f1 e2 f2 e3 f3 e4 f4 M W6 ⟨b6, (o6 D12 hneD).trans e5, e6, (HX.stored hD12 o5).stored ((o5 D13 (Ne.symm hneD)).trans hD13) o6, q12, q13⟩
              · refine hopAJ 21 rfl rfl rfl 24 rfl #[.slice none 0 0, .slice none 0 0] allocRT fun D12 Va hD12 lD12 bD => ?_
                have q12 : W8.heap.size ≤ D12 := Nat.le_trans SX.size lD12
                have SX : Below W8.heap.size W8 Va := to_call SX bD
                clear bD
                refine ⟨SX, ?_⟩
                try simp only [Act.put, List.setIfInBounds_toArray, List.set_cons_zero, List.set_cons_succ]
                refine wpAnyP_ready (rs := [6, 12]) (by kernel_rfl) (by simp) ?_
                refine consP _ rfl ?_ (consP _ rfl ?_ AllReadyP.nil)
                · refine hopCd 81 rfl (by kernel_rfl) rfl (by kernel_rfl) (Calls.mono (refHalveY _ _ n n k1 k2 ls bs sy _ (P3.out.s.rl.later SX) (P3.out.s.ra.later SX)) ?_)
                  rintro e Vac ⟨⟨e1, f1, e2, f2, e3, f3, e4, f4, M, rfl, HX⟩, bb⟩
                  have SX : Below W8.heap.size W8 Vac := to_call SX bb
                  have hD12 := kept bb hD12
                  clear bb
                  refine ⟨_, rfl, SX, ?_⟩
                  try simp only [Act.put, List.setIfInBounds_toArray, List.set_cons_zero, List.set_cons_succ]
                  refine takeP 74 (i := 7) (v := ?_) rfl rfl (by kernel_rfl) (by kernel_rfl) (by kernel_rfl) (by kernel_rfl) rfl (by kernel_rfl) (fun _ _ _ h => h) (Or.inl ⟨by kernel_rfl, ?_⟩) SX ?_
                  rotate_left
                  · intro w' hSw; skip; go_simp; try with_reducible rfl
                  try simp only [Act.put, List.setIfInBounds_toArray, List.set_cons_zero, List.set_cons_succ]
                  refine takeP 82 (i := 8) (v := ?_) rfl rfl (by kernel_rfl) (by kernel_rfl) (by kernel_rfl) (by kernel_rfl) rfl (by kernel_rfl) (fun _ _ _ h => h) (Or.inl ⟨by kernel_rfl, ?_⟩) SX ?_
                  rotate_left
                  · intro w' hSw; skip; go_simp; try with_reducible rfl
                  try simp only [Act.put, List.setIfInBounds_toArray, List.set_cons_zero, List.set_cons_succ]
                  refine takeP0 83 (i := 9) (v := ?_) rfl rfl (by kernel_rfl) (by kernel_rfl) (by kernel_rfl) rfl (fun _ _ _ h => h) (Or.inl ⟨by kernel_rfl, ?_⟩) (fun _ => SX) ?_
                  rotate_left
                  · intro w' hSw; skip; go_simp; try with_reducible rfl
                  try simp only [Act.put, List.setIfInBounds_toArray, List.set_cons_zero, List.set_cons_succ]
                  refine takeP0 84 (i := 10) (v := ?_) rfl rfl (by kernel_rfl) (by kernel_rfl) (by kernel_rfl) rfl (fun _ _ _ h => h) (Or.inl ⟨by kernel_rfl, ?_⟩) (fun _ => SX) ?_
                  rotate_left
                  · intro w' hSw; skip; go_simp; try with_reducible rfl
                  try simp only [Act.put, List.setIfInBounds_toArray, List.set_cons_zero, List.set_cons_succ]
                  refine wpAnyP_ready (rs := [12]) (by kernel_rfl) (by simp) ?_
                  refine consP _ rfl ?_ AllReadyP.nil
                  · refine hopAJ 22 rfl rfl rfl 24 rfl #[.slice none 0 0, .slice none 0 0] allocRT fun D13 Vacb hD13 lD13 bD => ?_
                    have q13 : W8.heap.size ≤ D13 := Nat.le_trans SX.size lD13
                    have SX : Below W8.heap.size W8 Vacb := to_call SX bD
                    have hneD : D12 ≠ D13 := by have := blk_lt hD12; omega
                    have hD12 := kept bD hD12
                    have HX := HX.later bD
                    clear bD
                    refine ⟨SX, ?_⟩
                    try simp only [Act.put, List.setIfInBounds_toArray, List.set_cons_zero, List.set_cons_succ]
                    refine wpAnyP_ready (rs := [13]) (by kernel_rfl) (by simp) ?_
                    refine consPs _ rfl (by kernel_rfl) (hopL rfl (wpList_store_row (by rfl) 24 _ _ (by rfl) W8 W8.heap.size D12 #[.slice e1 M f1, .slice e2 M f2] _ (by kernel_rfl) (by kernel_rfl) hD12 SX q12 2 Try.szRT rfl rfl (one_rg _ _ _ _ _ _) fun W5 e5 b5 s5 o5 => ?_)) AllReadyP.nil
                    refine ⟨trivial, ?_⟩
                    refine put_noneP rfl ?_
                    refine wpAnyP_ready (rs := [14]) (by kernel_rfl) (by simp) ?_
                    refine consPs _ rfl (by kernel_rfl) (hopL rfl (wpList_store_row (by rfl) 24 _ _ (by rfl) W8 W8.heap.size D13 #[.slice e3 M f3, .slice e4 M f4] _ (by kernel_rfl) (by kernel_rfl) ((o5 D13 (Ne.symm hneD)).trans hD13) b5 q13 2 Try.szRT rfl rfl (one_rg _ _ _ _ _ _) fun W6 e6 b6 s6 o6 => ?_)) AllReadyP.nil
                    refine ⟨trivial, ?_⟩
                    refine put_noneP rfl ?_
                    refine takeP0 23 (i := 15) (v := ?_) rfl rfl (by kernel_rfl) (by kernel_rfl) (by kernel_rfl) rfl (fun _ _ _ h => h) (Or.inl ⟨by kernel_rfl, ?_⟩) (fun h => Bool.noConfusion (h : true = false)) ?_
                    rotate_left
                    · intro w' hSw; skip; go_simp; try with_reducible rfl
                    try simp only [Act.put, List.setIfInBounds_toArray, List.set_cons_zero, List.set_cons_succ]
                    refine wpAnyP_done (by kernel_rfl) ?_ _
                    refine NoPanic.normal ?_
                    try simp only [Act.put, List.setIfInBounds_toArray, List.set_cons_zero, List.set_cons_succ]
                    exact key D12 D13 e1 f1 e2 f2 e3 f3 e4 f4 M W6 ⟨b6, (o6 D12 hneD).trans e5, e6, (HX.stored hD12 o5).stored ((o5 D13 (Ne.symm hneD)).trans hD13) o6, q12, q13⟩
                · refine hopAJ 22 rfl rfl rfl 24 rfl #[.slice none 0 0, .slice none 0 0] allocRT fun D13 Vab hD13 lD13 bD => ?_
                  have q13 : W8.heap.size ≤ D13 := Nat.le_trans SX.size lD13
                  have SX : Below W8.heap.size W8 Vab := to_call SX bD
                  have hneD : D12 ≠ D13 := by have := blk_lt hD12; omega
                  have hD12 := kept bD hD12
                  clear bD
                  refine ⟨SX, ?_⟩
                  try simp only [Act.put, List.setIfInBounds_toArray, List.set_cons_zero, List.set_cons_succ]
                  refine wpAnyP_ready (rs := [6]) (by kernel_rfl) (by simp) ?_
                  refine consP _ rfl ?_ AllReadyP.nil
                  · refine hopCd 81 rfl (by kernel_rfl) rfl (by kernel_rfl) (Calls.mono (refHalveY _ _ n n k1 k2 ls bs sy _ (P3.out.s.rl.later SX) (P3.out.s.ra.later SX)) ?_)
                    rintro e Vabc ⟨⟨e1, f1, e2, f2, e3, f3, e4, f4, M, rfl, HX⟩, bb⟩
                    have SX : Below W8.heap.size W8 Vabc := to_call SX bb
                    have hD12 := kept bb hD12
                    have hD13 := kept bb hD13
                    clear bb
                    refine ⟨_, rfl, SX, ?_⟩
                    try simp only [Act.put, List.setIfInBounds_toArray, List.set_cons_zero, List.set_cons_succ]
                    refine takeP 74 (i := 7) (v := ?_) rfl rfl (by kernel_rfl) (by kernel_rfl) (by kernel_rfl) (by kernel_rfl) rfl (by kernel_rfl) (fun _ _ _ h => h) (Or.inl ⟨by kernel_rfl, ?_⟩) SX ?_
                    rotate_left
                    · intro w' hSw; skip; go_simp; try with_reducible rfl
                    try simp only [Act.put, List.setIfInBounds_toArray, List.set_cons_zero, List.set_cons_succ]
                    refine takeP 82 (i := 8) (v := ?_) rfl rfl (by kernel_rfl) (by kernel_rfl) (by kernel_rfl) (by kernel_rfl) rfl (by kernel_rfl) (fun _ _ _ h => h) (Or.inl ⟨by kernel_rfl, ?_⟩) SX ?_
                    rotate_left
                    · intro w' hSw; skip; go_simp; try with_reducible rfl
                    try simp only [Act.put, List.setIfInBounds_toArray, List.set_cons_zero, List.set_cons_succ]
                    refine takeP0 83 (i := 9) (v := ?_) rfl rfl (by kernel_rfl) (by kernel_rfl) (by kernel_rfl) rfl (fun _ _ _ h => h) (Or.inl ⟨by kernel_rfl, ?_⟩) (fun _ => SX) ?_
                    rotate_left
                    · intro w' hSw; skip; go_simp; try with_reducible rfl
                    try simp only [Act.put, List.setIfInBounds_toArray, List.set_cons_zero, List.set_cons_succ]
                    refine takeP0 84 (i := 10) (v := ?_) rfl rfl (by kernel_rfl) (by kernel_rfl) (by kernel_rfl) rfl (fun _ _ _ h => h) (Or.inl ⟨by kernel_rfl, ?_⟩) (fun _ => SX) ?_
                    rotate_left
                    · intro w' hSw; skip; go_simp; try with_reducible rfl
                    try simp only [Act.put, List.setIfInBounds_toArray, List.set_cons_zero, List.set_cons_succ]
                    refine wpAnyP_ready (rs := [13]) (by kernel_rfl) (by simp) ?_
                    refine consPs _ rfl (by kernel_rfl) (hopL rfl (wpList_store_row (by rfl) 24 _ _ (by rfl) W8 W8.heap.size D12 #[.slice e1 M f1, .slice e2 M f2] _ (by kernel_rfl) (by kernel_rfl) hD12 SX q12 2 Try.szRT rfl rfl (one_rg _ _ _ _ _ _) fun W5 e5 b5 s5 o5 => ?_)) AllReadyP.nil
                    refine ⟨trivial, ?_⟩
                    refine put_noneP rfl ?_
                    refine wpAnyP_ready (rs := [14]) (by kernel_rfl) (by simp) ?_
                    refine consPs _ rfl (by kernel_rfl) (hopL rfl (wpList_store_row (by rfl) 24 _ _ (by rfl) W8 W8.heap.size D13 #[.slice e3 M f3, .slice e4 M f4] _ (by kernel_rfl) (by kernel_rfl) ((o5 D13 (Ne.symm hneD)).trans hD13) b5 q13 2 Try.szRT rfl rfl (one_rg _ _ _ _ _ _) fun W6 e6 b6 s6 o6 => ?_)) AllReadyP.nil
                    refine ⟨trivial, ?_⟩
                    refine put_noneP rfl ?_
                    refine takeP0 23 (i := 15) (v := ?_) rfl rfl (by kernel_rfl) (by kernel_rfl) (by kernel_rfl) rfl (fun _ _ _ h => h) (Or.inl ⟨by kernel_rfl, ?_⟩) (fun h => Bool.noConfusion (h : true = false)) ?_
                    rotate_left
                    · intro w' hSw; skip; go_simp; try with_reducible rfl
                    try simp only [Act.put, List.setIfInBounds_toArray, List.set_cons_zero, List.set_cons_succ]
                    refine wpAnyP_done (by kernel_rfl) ?_ _
                    refine NoPanic.normal ?_
                    try simp only [Act.put, List.setIfInBounds_toArray, List.set_cons_zero, List.set_cons_succ]
                    exact key D12 D13 e1 f1 e2 f2 e3 f3 e4 f4 M W6 ⟨b6, (o6 D12 hneD).trans e5, e6, (HX.stored hD12 o5).stored ((o5 D13 (Ne.symm hneD)).trans hD13) o6, q12, q13⟩
              · refine hopAJ 22 rfl rfl rfl 24 rfl #[.slice none 0 0, .slice none 0 0] allocRT fun D13 Vb hD13 lD13 bD => ?_
                have q13 : W8.heap.size ≤ D13 := Nat.le_trans SX.size lD13
                have SX : Below W8.heap.size W8 Vb := to_call SX bD
                clear bD
                refine ⟨SX, ?_⟩
                try simp only [Act.put, List.setIfInBounds_toArray, List.set_cons_zero, List.set_cons_succ]
                refine wpAnyP_ready (rs := [6, 11]) (by kernel_rfl) (by simp) ?_
                refine consP _ rfl ?_ (consP _ rfl ?_ AllReadyP.nil)
                · refine hopCd 81 rfl (by kernel_rfl) rfl (by kernel_rfl) (Calls.mono (refHalveY _ _ n n k1 k2 ls bs sy _ (P3.out.s.rl.later SX) (P3.out.s.ra.later SX)) ?_)
                  rintro e Vbc ⟨⟨e1, f1, e2, f2, e3, f3, e4, f4, M, rfl, HX⟩, bb⟩
                  have SX : Below W8.heap.size W8 Vbc := to_call SX bb
                  have hD13 := kept bb hD13
                  clear bb
                  refine ⟨_, rfl, SX, ?_⟩
                  try simp only [Act.put, List.setIfInBounds_toArray, List.set_cons_zero, List.set_cons_succ]
                  refine takeP 74 (i := 7) (v := ?_) rfl rfl (by kernel_rfl) (by kernel_rfl) (by kernel_rfl) (by kernel_rfl) rfl (by kernel_rfl) (fun _ _ _ h => h) (Or.inl ⟨by kernel_rfl, ?_⟩) SX ?_
                  rotate_left
                  · intro w' hSw; skip; go_simp; try with_reducible rfl
                  try simp only [Act.put, List.setIfInBounds_toArray, List.set_cons_zero, List.set_cons_succ]
                  refine takeP 82 (i := 8) (v := ?_) rfl rfl (by kernel_rfl) (by kernel_rfl) (by kernel_rfl) (by kernel_rfl) rfl (by kernel_rfl) (fun _ _ _ h => h) (Or.inl ⟨by kernel_rfl, ?_⟩) SX ?_
                  rotate_left
                  · intro w' hSw; skip; go_simp; try with_reducible rfl
                  try simp only [Act.put, List.setIfInBounds_toArray, List.set_cons_zero, List.set_cons_succ]
                  refine takeP0 83 (i := 9) (v := ?_) rfl rfl (by kernel_rfl) (by kernel_rfl) (by kernel_rfl) rfl (fun _ _ _ h => h) (Or.inl ⟨by kernel_rfl, ?_⟩) (fun _ => SX) ?_
                  rotate_left
                  · intro w' hSw; skip; go_simp; try with_reducible rfl
                  try simp only [Act.put, List.setIfInBounds_toArray, List.set_cons_zero, List.set_cons_succ]
                  refine takeP0 84 (i := 10) (v := ?_) rfl rfl (by kernel_rfl) (by kernel_rfl) (by kernel_rfl) rfl (fun _ _ _ h => h) (Or.inl ⟨by kernel_rfl, ?_⟩) (fun _ => SX) ?_
                  rotate_left
                  · intro w' hSw; skip; go_simp; try with_reducible rfl
                  try simp only [Act.put, List.setIfInBounds_toArray, List.set_cons_zero, List.set_cons_succ]
                  refine wpAnyP_ready (rs := [11]) (by kernel_rfl) (by simp) ?_
                  refine consP _ rfl ?_ AllReadyP.nil
                  · refine hopAJ 21 rfl rfl rfl 24 rfl #[.slice none 0 0, .slice none 0 0] allocRT fun D12 Vbca hD12 lD12 bD => ?_
                    have q12 : W8.heap.size ≤ D12 := Nat.le_trans SX.size lD12
                    have SX : Below W8.heap.size W8 Vbca := to_call SX bD
                    have hneD : D12 ≠ D13 := by have := blk_lt hD13; omega
                    have hD13 := kept bD hD13
                    have HX := HX.later bD
                    clear bD
                    refine ⟨SX, ?_⟩
                    try simp only [Act.put, List.setIfInBounds_toArray, List.set_cons_zero, List.set_cons_succ]
                    refine wpAnyP_ready (rs := [13]) (by kernel_rfl) (by simp) ?_
                    refine consPs _ rfl (by kernel_rfl) (hopL rfl (wpList_store_row (by rfl) 24 _ _ (by rfl) W8 W8.heap.size D12 #[.slice e1 M f1, .slice e2 M f2] _ (by kernel_rfl) (by kernel_rfl) hD12 SX q12 2 Try.szRT rfl rfl (one_rg _ _ _ _ _ _) fun W5 e5 b5 s5 o5 => ?_)) AllReadyP.nil
                    refine ⟨trivial, ?_⟩
                    refine put_noneP rfl ?_
                    refine wpAnyP_ready (rs := [14]) (by kernel_rfl) (by simp) ?_
                    refine consPs _ rfl (by kernel_rfl) (hopL rfl (wpList_store_row (by rfl) 24 _ _ (by rfl) W8 W8.heap.size D13 #[.slice e3 M f3, .slice e4 M f4] _ (by kernel_rfl) (by kernel_rfl) ((o5 D13 (Ne.symm hneD)).trans hD13) b5 q13 2 Try.szRT rfl rfl (one_rg _ _ _ _ _ _) fun W6 e6 b6 s6 o6 => ?_)) AllReadyP.nil
                    refine ⟨trivial, ?_⟩
                    refine put_noneP rfl ?_
                    refine takeP0 23 (i := 15) (v := ?_) rfl rfl (by kernel_rfl) (by kernel_rfl) (by kernel_rfl) rfl (fun _ _ _ h => h) (Or.inl ⟨by kernel_rfl, ?_⟩) (fun h => Bool.noConfusion (h : true = false)) ?_
                    rotate_left
                    · intro w' hSw; skip; go_simp; try with_reducible rfl
                    try simp only [Act.put, List.setIfInBounds_toArray, List.set_cons_zero, List.set_cons_succ]
                    refine wpAnyP_done (by kernel_rfl) ?_ _
                    refine NoPanic.normal ?_
                    try simp only [Act.put, List.setIfInBounds_toArray, List.set_cons_zero, List.set_cons_succ]
                    exact key D12 D13 e1 f1 e2 f2 e3 f3 e4 f4 M W6 ⟨b6, (o6 D12 hneD).trans e5, e6, (HX.stored hD12 o5).stored ((o5 D13 (Ne.symm hneD)).trans hD13) o6, q12, q13⟩
                · refine hopAJ 21 rfl rfl rfl 24 rfl #[.slice none 0 0, .slice none 0 0] allocRT fun D12 Vba hD12 lD12 bD => ?_
                  have q12 : W8.heap.size ≤ D12 := Nat.le_trans SX.size lD12
                  have SX : Below W8.heap.size W8 Vba := to_call SX bD
                  have hneD : D12 ≠ D13 := by have := blk_lt hD13; omega
                  have hD13 := kept bD hD13
                  clear bD
                  refine ⟨SX, ?_⟩
                  try simp only [Act.put, List.setIfInBounds_toArray, List.set_cons_zero, List.set_cons_succ]
                  refine wpAnyP_ready (rs := [6]) (by kernel_rfl) (by simp) ?_
                  refine consP _ rfl ?_ AllReadyP.nil
                  · refine hopCd 81 rfl (by kernel_rfl) rfl (by kernel_rfl) (Calls.mono (refHalveY _ _ n n k1 k2 ls bs sy _ (P3.out.s.rl.later SX) (P3.out.s.ra.later SX)) ?_)
                    rintro e Vbac ⟨⟨e1, f1, e2, f2, e3, f3, e4, f4, M, rfl, HX⟩, bb⟩
                    have SX : Below W8.heap.size W8 Vbac := to_call SX bb
                    have hD13 := kept bb hD13
                    have hD12 := kept bb hD12
                    clear bb
                    refine ⟨_, rfl, SX, ?_⟩
                    try simp only [Act.put, List.setIfInBounds_toArray, List.set_cons_zero, List.set_cons_succ]
                    refine takeP 74 (i := 7) (v := ?_) rfl rfl (by kernel_rfl) (by kernel_rfl) (by kernel_rfl) (by kernel_rfl) rfl (by kernel_rfl) (fun _ _ _ h => h) (Or.inl ⟨by kernel_rfl, ?_⟩) SX ?_
                    rotate_left
                    · intro w' hSw; skip; go_simp; try with_reducible rfl
                    try simp only [Act.put, List.setIfInBounds_toArray, List.set_cons_zero, List.set_cons_succ]
                    refine takeP 82 (i := 8) (v := ?_) rfl rfl (by kernel_rfl) (by kernel_rfl) (by kernel_rfl) (by kernel_rfl) rfl (by kernel_rfl) (fun _ _ _ h => h) (Or.inl ⟨by kernel_rfl, ?_⟩) SX ?_
                    rotate_left
                    · intro w' hSw; skip; go_simp; try with_reducible rfl
                    try simp only [Act.put, List.setIfInBounds_toArray, List.set_cons_zero, List.set_cons_succ]
                    refine takeP0 83 (i := 9) (v := ?_) rfl rfl (by kernel_rfl) (by kernel_rfl) (by kernel_rfl) rfl (fun _ _ _ h => h) (Or.inl ⟨by kernel_rfl, ?_⟩) (fun _ => SX) ?_
                    rotate_left
                    · intro w' hSw; skip; go_simp; try with_reducible rfl
                    try simp only [Act.put, List.setIfInBounds_toArray, List.set_cons_zero, List.set_cons_succ]
                    refine takeP0 84 (i := 10) (v := ?_) rfl rfl (by kernel_rfl) (by kernel_rfl) (by kernel_rfl) rfl (fun _ _ _ h => h) (Or.inl ⟨by kernel_rfl, ?_⟩) (fun _ => SX) ?_
                    rotate_left
                    · intro w' hSw; skip; go_simp; try with_reducible rfl
                    try simp only [Act.put, List.setIfInBounds_toArray, List.set_cons_zero, List.set_cons_succ]
                    refine wpAnyP_ready (rs := [13]) (by kernel_rfl) (by simp) ?_
                    refine consPs _ rfl (by kernel_rfl) (hopL rfl (wpList_store_row (by rfl) 24 _ _ (by rfl) W8 W8.heap.size D12 #[.slice e1 M f1, .slice e2 M f2] _ (by kernel_rfl) (by kernel_rfl) hD12 SX q12 2 Try.szRT rfl rfl (one_rg _ _ _ _ _ _) fun W5 e5 b5 s5 o5 => ?_)) AllReadyP.nil
                    refine ⟨trivial, ?_⟩
                    refine put_noneP rfl ?_
                    refine wpAnyP_ready (rs := [14]) (by kernel_rfl) (by simp) ?_
                    refine consPs _ rfl (by kernel_rfl) (hopL rfl (wpList_store_row (by rfl) 24 _ _ (by rfl) W8 W8.heap.size D13 #[.slice e3 M f3, .slice e4 M f4] _ (by kernel_rfl) (by kernel_rfl) ((o5 D13 (Ne.symm hneD)).trans hD13) b5 q13 2 Try.szRT rfl rfl (one_rg _ _ _ _ _ _) fun W6 e6 b6 s6 o6 => ?_)) AllReadyP.nil
                    refine ⟨trivial, ?_⟩
                    refine put_noneP rfl ?_
                    refine takeP0 23 (i := 15) (v := ?_) rfl rfl (by kernel_rfl) (by kernel_rfl) (by kernel_rfl) rfl (fun _ _ _ h => h) (Or.inl ⟨by kernel_rfl, ?_⟩) (fun h => Bool.noConfusion (h : true = false)) ?_
                    rotate_left
                    · intro w' hSw; skip; go_simp; try with_reducible rfl
                    try simp only [Act.put, List.setIfInBounds_toArray, List.set_cons_zero, List.set_cons_succ]
                    refine wpAnyP_done (by kernel_rfl) ?_ _
                    refine NoPanic.normal ?_
                    try simp only [Act.put, List.setIfInBounds_toArray, List.set_cons_zero, List.set_cons_succ]
                    exact key D12 D13 e1 f1 e2 f2 e3 f3 e4 f4 M W6 ⟨b6, (o6 D12 hneD).trans e5, e6, (HX.stored hD12 o5).stored ((o5 D13 (Ne.symm hneD)).trans hD13) o6, q12, q13⟩
            case pf =>
              intro b21 b22 e1 f1 e2 f2 e3 f3 e4 f4 M W9 PF9
              have P4 : Hid (PlS w W9 P Q n ls bs B1 B2 u1 u2 k1 k2 ∧ BoxS W9 P Q b18 b19 b21 b22 #[.slice (some ⟨B1, 0, none⟩) n n, .slice (some ⟨B2, 0, none⟩) n n] #[.slice u1 n k1, .slice u2 n k2] #[.slice a1 N N, .slice a2 N N] #[.slice a3 N N, .slice a4 N N] #[.slice e1 M f1, .slice e2 M f2] #[.slice e3 M f3, .slice e4 M f4] ∧ HvX W9 w.heap.size n ls bs sy a1 a2 a3 a4 N ∧ HvY W9 n ls bs sy e1 f1 e2 f2 e3 f3 e4 f4 M) := by
                have h := P3.out.later PF9.out.1
                have := HLT.out
                have := PF8.out.2.2.2.2
                have := PF9.out.2.2.2.2
                exact ⟨h, ⟨h.r.v, h.s.v, kept PF9.out.1 PF8.out.2.1, kept PF9.out.1 PF8.out.2.2.1, PF9.out.2.1, PF9.out.2.2.1, by omega, by intro k hk; omega⟩, PF8.out.2.2.2.1.later PF9.out.1, PF9.out.2.2.2.1⟩
              obtain ⟨er, her⟩ : ∃ er, HvE ls bs n sy = er := ⟨_, rfl⟩
              have HER : Hid (HvE ls bs n sy = er) := her
              rw [her]
              have HSM : Hid _ := same_xy P4.out.2.2.1 P4.out.2.2.2
              have g1 : (er != er) = false := by simp
              clear her P3 PF8 PF9 CT8 HLT
              go_wp2_with (first | (refine wpList_load_rowG (by rfl) 24 _ (by rfl) b18 #[.slice a1 N N, .slice a2 N N] (by rfl) P4.out.2.1.h3 _ Try.underlying24 rfl 2 Try.szRT (by rfl) ?_) | (refine wpList_load_rowG (by rfl) 24 _ (by rfl) b21 #[.slice e1 M f1, .slice e2 M f2] (by rfl) P4.out.2.1.h5 _ Try.underlying24 rfl 2 Try.szRT (by rfl) ?_))
              refine Calls.mono (HSM.out.1 _ (Below.refl _ _)) ?_
              rintro e' Wa ⟨rfl, ba⟩
              go_wp2_with (first | (refine wpList_load_rowG (by rfl) 24 _ (by rfl) b19 #[.slice a3 N N, .slice a4 N N] (by rfl) (kept ba P4.out.2.1.h4) _ Try.underlying24 rfl 2 Try.szRT (by rfl) ?_) | (refine wpList_load_rowG (by rfl) 24 _ (by rfl) b22 #[.slice e3 M f3, .slice e4 M f4] (by rfl) (kept ba P4.out.2.1.h6) _ Try.underlying24 rfl 2 Try.szRT (by rfl) ?_))
              refine Calls.mono (HSM.out.2 _ ba) ?_
              rintro e' Wb ⟨rfl, bb⟩
              have P5 : Hid (PlS w Wb P Q n ls bs B1 B2 u1 u2 k1 k2 ∧ BoxS Wb P Q b18 b19 b21 b22 #[.slice (some ⟨B1, 0, none⟩) n n, .slice (some ⟨B2, 0, none⟩) n n] #[.slice u1 n k1, .slice u2 n k2] #[.slice a1 N N, .slice a2 N N] #[.slice a3 N N, .slice a4 N N] #[.slice e1 M f1, .slice e2 M f2] #[.slice e3 M f3, .slice e4 M f4] ∧ HvX Wb w.heap.size n ls bs sy a1 a2 a3 a4 N ∧ HvY Wb n ls bs sy e1 f1 e2 f2 e3 f3 e4 f4 M) := by
                have bc := to_call ba bb
                exact ⟨P4.out.1.later bc, P4.out.2.1.later bc, P4.out.2.2.1.later bc, P4.out.2.2.2.later bc⟩
              clear P4 HSM ba bb g1
              by_cases he : er = 0
              · subst he
                obtain ⟨rfl, rfl, D1, D2, C1, C2, rfl, rfl, rfl, rfl, htl⟩ := two_of P5.out.2.2.1 P5.out.2.2.2 HER.out
                obtain ⟨l0, hl0⟩ : ∃ x, (ls.set sy.toNat (ls[sy.toNat]?.getD 0 + 1)) = x := ⟨_, rfl⟩
                obtain ⟨m0, hm0⟩ : ∃ x, (bs.set sy.toNat (2 * bs[sy.toNat]?.getD 0)) = x := ⟨_, rfl⟩
                obtain ⟨m1, hm1⟩ : ∃ x, (bs.set sy.toNat (2 * bs[sy.toNat]?.getD 0 + 1)) = x := ⟨_, rfl⟩
                rw [hl0, hm0, hm1] at htl
                have S0 : Hid (Below w.heap.size w Wb ∧ BoxS Wb P Q b18 b19 b21 b22 #[.slice (some ⟨B1, 0, none⟩) n n, .slice (some ⟨B2, 0, none⟩) n n] #[.slice u1 n k1, .slice u2 n k2] #[.slice (some ⟨D1, 0, none⟩) n n, .slice (some ⟨D2, 0, none⟩) n n] #[.slice (some ⟨C1, 0, none⟩) n n, .slice (some ⟨C2, 0, none⟩) n n] #[.slice e1 n f1, .slice e2 n f2] #[.slice e3 n f3, .slice e4 n f4] ∧ TwoL Wb w.heap.size n l0 m0 m1 D1 D2 C1 C2 e1 f1 e2 f2 e3 f3 e4 f4) := ⟨P5.out.1.b, P5.out.2.1, htl⟩
                clear htl hl0 hm0 hm1 P5 HER
                go_upto_region 14 with (first | (refine wpList_load_row (by rfl) 24 _ (by rfl) b18 #[.slice (some ⟨D1, 0, none⟩) n n, .slice (some ⟨D2, 0, none⟩) n n] (by rfl) S0.out.2.1.h3 _ Try.underlying24 rfl 2 Try.szRT (by rfl) ?_) | (refine wpList_store_row (by rfl) 24 _ _ (by rfl) w w.heap.size P #[.slice (some ⟨D1, 0, none⟩) n n, .slice (some ⟨D2, 0, none⟩) n n] _ (by rfl) (by rfl) S0.out.2.1.h1 S0.out.1 hp9 2 Try.szRT rfl rfl (one_rg _ _ _ _ _ _) ?_; intro X1 e1x b1x s1x o1x))
                have S1 : Hid (Below w.heap.size w X1 ∧ BoxS X1 P Q b18 b19 b21 b22 #[.slice (some ⟨D1, 0, none⟩) n n, .slice (some ⟨D2, 0, none⟩) n n] #[.slice u1 n k1, .slice u2 n k2] #[.slice (some ⟨D1, 0, none⟩) n n, .slice (some ⟨D2, 0, none⟩) n n] #[.slice (some ⟨C1, 0, none⟩) n n, .slice (some ⟨C2, 0, none⟩) n n] #[.slice e1 n f1, .slice e2 n f2] #[.slice e3 n f3, .slice e4 n f4] ∧ TwoL X1 w.heap.size n l0 m0 m1 D1 D2 C1 C2 e1 f1 e2 f2 e3 f3 e4 f4) := ⟨b1x, S0.out.2.1.setP e1x o1x, S0.out.2.2.stored S0.out.2.1.h1 o1x⟩
                clear S0 e1x b1x s1x o1x
                go_upto_region 15 with (first | (refine wpList_load_row (by rfl) 24 _ (by rfl) b21 #[.slice e1 n f1, .slice e2 n f2] (by rfl) S1.out.2.1.h5 _ Try.underlying24 rfl 2 Try.szRT (by rfl) ?_) | (refine wpList_store_row (by rfl) 24 _ _ (by rfl) w w.heap.size Q #[.slice e1 n f1, .slice e2 n f2] _ (by rfl) (by rfl) S1.out.2.1.h2 S1.out.1 (Nat.le_trans hp9 (Nat.le_of_lt hPQ)) 2 Try.szRT rfl rfl (one_rg _ _ _ _ _ _) ?_; intro X2 e2x b2x s2x o2x))
                have S2 : Hid (Below w.heap.size w X2 ∧ BoxS X2 P Q b18 b19 b21 b22 #[.slice (some ⟨D1, 0, none⟩) n n, .slice (some ⟨D2, 0, none⟩) n n] #[.slice e1 n f1, .slice e2 n f2] #[.slice (some ⟨D1, 0, none⟩) n n, .slice (some ⟨D2, 0, none⟩) n n] #[.slice (some ⟨C1, 0, none⟩) n n, .slice (some ⟨C2, 0, none⟩) n n] #[.slice e1 n f1, .slice e2 n f2] #[.slice e3 n f3, .slice e4 n f4] ∧ TwoL X2 w.heap.size n l0 m0 m1 D1 D2 C1 C2 e1 f1 e2 f2 e3 f3 e4 f4) := ⟨b2x, S1.out.2.1.setQ e2x o2x, S1.out.2.2.stored S1.out.2.1.h2 o2x⟩
                have CU : X2.cell? ⟨tb, tf + j * 2 + 1, none⟩ = some (.bool up) := HB1.out _ b2x
                clear S1 e2x b2x s2x o2x
                cases up with
                | true =>
                  go_upto_region 17 with (first | (refine wpList_load_row (by rfl) 24 _ (by rfl) b19 #[.slice (some ⟨C1, 0, none⟩) n n, .slice (some ⟨C2, 0, none⟩) n n] (by rfl) S2.out.2.1.h4 _ Try.underlying24 rfl 2 Try.szRT (by rfl) ?_) | (refine wpList_store_row (by rfl) 24 _ _ (by rfl) w w.heap.size P #[.slice (some ⟨C1, 0, none⟩) n n, .slice (some ⟨C2, 0, none⟩) n n] _ (by rfl) (by rfl) S2.out.2.1.h1 S2.out.1 hp9 2 Try.szRT rfl rfl (one_rg _ _ _ _ _ _) ?_; intro X3 e3x b3x s3x o3x))
                  have S3 : Hid (Below w.heap.size w X3 ∧ BoxS X3 P Q b18 b19 b21 b22 #[.slice (some ⟨C1, 0, none⟩) n n, .slice (some ⟨C2, 0, none⟩) n n] #[.slice e1 n f1, .slice e2 n f2] #[.slice (some ⟨D1, 0, none⟩) n n, .slice (some ⟨D2, 0, none⟩) n n] #[.slice (some ⟨C1, 0, none⟩) n n, .slice (some ⟨C2, 0, none⟩) n n] #[.slice e1 n f1, .slice e2 n f2] #[.slice e3 n f3, .slice e4 n f4] ∧ TwoL X3 w.heap.size n l0 m0 m1 D1 D2 C1 C2 e1 f1 e2 f2 e3 f3 e4 f4) := ⟨b3x, S2.out.2.1.setP e3x o3x, S2.out.2.2.stored S2.out.2.1.h1 o3x⟩
                  clear S2 e3x b3x s3x o3x CU
                  go_upto_region 18 with (first | (refine wpList_load_row (by rfl) 24 _ (by rfl) b22 #[.slice e3 n f3, .slice e4 n f4] (by rfl) S3.out.2.1.h6 _ Try.underlying24 rfl 2 Try.szRT (by rfl) ?_) | (refine wpList_store_row (by rfl) 24 _ _ (by rfl) w w.heap.size Q #[.slice e3 n f3, .slice e4 n f4] _ (by rfl) (by rfl) S3.out.2.1.h2 S3.out.1 (Nat.le_trans hp9 (Nat.le_of_lt hPQ)) 2 Try.szRT rfl rfl (one_rg _ _ _ _ _ _) ?_; intro X4 e4x b4x s4x o4x))
                  have S4 : Hid (Below w.heap.size w X4 ∧ BoxS X4 P Q b18 b19 b21 b22 #[.slice (some ⟨C1, 0, none⟩) n n, .slice (some ⟨C2, 0, none⟩) n n] #[.slice e3 n f3, .slice e4 n f4] #[.slice (some ⟨D1, 0, none⟩) n n, .slice (some ⟨D2, 0, none⟩) n n] #[.slice (some ⟨C1, 0, none⟩) n n, .slice (some ⟨C2, 0, none⟩) n n] #[.slice e1 n f1, .slice e2 n f2] #[.slice e3 n f3, .slice e4 n f4] ∧ TwoL X4 w.heap.size n l0 m0 m1 D1 D2 C1 C2 e1 f1 e2 f2 e3 f3 e4 f4) := ⟨b4x, S3.out.2.1.setQ e4x o4x, S3.out.2.2.stored S3.out.2.1.h2 o4x⟩
                  clear S3 e4x b4x s4x o4x
                  have PE : Hid (∃ ls bs B1 B2 u1 u2 k1 k2, PlS w X4 P Q n ls bs B1 B2 u1 u2 k1 k2) := ⟨l0, m1, C1, C2, e3, e4, f3, f4, S4.out.1, ⟨S4.out.2.1.h1, S4.out.2.2.up, S4.out.2.2.g1⟩, ⟨S4.out.2.1.h2, S4.out.2.2.r3, S4.out.2.2.r4⟩⟩
                  clear S4
                  obtain ⟨ls, bs, B1, B2, u1, u2, k1, k2, PX⟩ := PE.out
                  have PY : Hid (PlS w X4 P Q n ls bs B1 B2 u1 u2 k1 k2) := PX
                  clear PE PX
                  obtain ⟨wv, hwv⟩ : ∃ x, WyV ls bs n = x := ⟨_, rfl⟩
                  have hwe : WyE ls bs n = 0 := wyE_ok PY.out.r.g
                  go_wp2_with (first | (refine wpList_load_row (by rfl) 24 _ (by rfl) P #[.slice (some ⟨B1, 0, none⟩) n n, .slice (some ⟨B2, 0, none⟩) n n] (by rfl) PY.out.r.v _ Try.underlying24 rfl 2 Try.szRT (by rfl) ?_))
                  refine Calls.mono (hwv ▸ hwe ▸ way_any _ _ n n n n ls bs _ PY.out.r.rl PY.out.r.ra) ?_
                  rintro e' Y1 ⟨rfl, y1⟩
                  have PY' : Hid (PlS w Y1 P Q n ls bs B1 B2 u1 u2 k1 k2) := PY.out.later y1
                  have PY := PY'
                  clear PY' y1
                  go_wp2_with (first | (refine wpList_load_row (by rfl) 24 _ (by rfl) Q #[.slice u1 n k1, .slice u2 n k2] (by rfl) PY.out.s.v _ Try.underlying24 rfl 2 Try.szRT (by rfl) ?_))
                  refine Calls.mono (hwv ▸ hwe ▸ refWay_any _ _ n n k1 k2 ls bs _ PY.out.s.rl PY.out.s.ra) ?_
                  rintro e' Y2 ⟨rfl, y2⟩
                  have PY' : Hid (PlS w Y2 P Q n ls bs B1 B2 u1 u2 k1 k2) := PY.out.later y2
                  have PY := PY'
                  clear PY' y2 hwv hwe
                  go_wp2_with (first | (refine wpList_load_row (by rfl) 24 _ (by rfl) P #[.slice (some ⟨B1, 0, none⟩) n n, .slice (some ⟨B2, 0, none⟩) n n] (by rfl) PY.out.r.v _ Try.underlying24 rfl 2 Try.szRT (by rfl) ?_))
                  refine Calls.mono (ends_any _ _ so n n n n sn sc ls bs ss DI _ PY.out.r.rl PY.out.r.ra (HS.out _ PY.out.b)) ?_
                  rintro e' Y3 ⟨⟨v7, rfl, h71, h72⟩, y3⟩
                  have PY' : Hid (PlS w Y3 P Q n ls bs B1 B2 u1 u2 k1 k2) := PY.out.later y3
                  have PY := PY'
                  obtain ⟨ee, hee⟩ : ∃ x, EnE ls bs ss n sn DI = x := ⟨_, rfl⟩
                  have HEE : Hid (EnE ls bs ss n sn DI = ee) := hee
                  have H7 : Hid (∃ b7 N7, v7 = .slice b7 N7 N7 ∧ RdIs Y3 b7 N7 N7 (if ee = 0 then enL (ls.zip bs) ss DI.toNat else [])) := by
                    by_cases h0 : ee = 0
                    · obtain ⟨B, rfl, -, hB⟩ := h71 (hee.trans h0)
                      have hl := (zip_low (EnE_zero (hee.trans h0)).1).1
                      have hn := regB_len (EnE_zero (hee.trans h0)).1
                      refine ⟨_, n, rfl, ?_⟩
                      rw [if_pos h0]
                      have h := inC_rd hB (Nat.le_trans (m := 256) (by rw [enL_len, hl]; omega) (by decide))
                      rw [enL_len, hl] at h
                      exact h
                    · obtain rfl := h72 (by rw [hee]; exact h0)
                      exact ⟨none, 0, rfl, by rw [if_neg h0]; exact ⟨rfl, Nat.zero_le _, .inl rfl⟩⟩
                  rw [hee]
                  obtain ⟨b7, N7, rfl, R7⟩ := H7.out
                  have R7 : Hid (RdIs Y3 b7 N7 N7 (if ee = 0 then enL (ls.zip bs) ss DI.toNat else [])) := R7
                  clear PY' y3 h71 h72 hee H7
                  go_wp2_with (first | (refine wpList_load_row (by rfl) 24 _ (by rfl) Q #[.slice u1 n k1, .slice u2 n k2] (by rfl) PY.out.s.v _ Try.underlying24 rfl 2 Try.szRT (by rfl) ?_))
                  refine Calls.mono (refEnds_any _ _ so n n k1 k2 sn sc ls bs ss DI _ PY.out.s.rl PY.out.s.ra (HS.out _ PY.out.b)) ?_
                  rintro e' Y4 ⟨⟨v8, rfl, h81, h82⟩, y4⟩
                  have PY' : Hid (PlS w Y4 P Q n ls bs B1 B2 u1 u2 k1 k2) := PY.out.later y4
                  have PY := PY'
                  have H8 : Hid (∃ b8 N8 c8, v8 = .slice b8 N8 c8 ∧ RdIs Y4 b8 N8 c8 (if ee = 0 then enL (ls.zip bs) ss DI.toNat else [])) := by
                    by_cases h0 : ee = 0
                    · obtain ⟨ao, cc, rfl, h9⟩ := (h81 (HEE.out.trans h0)).rd
                      exact ⟨ao, _, cc, rfl, by rw [if_pos h0]; exact h9⟩
                    · obtain rfl := h82 (by rw [HEE.out]; exact h0)
                      exact ⟨none, 0, 0, rfl, by rw [if_neg h0]; exact ⟨rfl, Nat.zero_le _, .inl rfl⟩⟩
                  rw [HEE.out]
                  obtain ⟨b8, N8, c8, rfl, R8⟩ := H8.out
                  have R8 : Hid _ := R8
                  have R7 : Hid _ := R7.out.later y4
                  have HSI : Hid (∀ V, Below Y4.heap.size Y4 V → Calls Try.prog 21 #[.slice b7 N7 N7, .slice b8 N8 c8] V fun e w' => e = .returned (.bool true) ∧ Below V.heap.size V w') := fun V hb => by
                    have h := sameIntsM_any b7 b8 N7 N8 N7 c8 _ _ V (R7.out.later hb) (R8.out.later hb)
                    rw [decide_eq_true rfl] at h
                    exact h
                  obtain ⟨wi, hwi⟩ : ∃ x, WiV ls bs es n en PI = x := ⟨_, rfl⟩
                  have HW1 : Hid (∀ V, Below Y4.heap.size Y4 V → Calls Try.prog 22 #[.agg #[.slice (some ⟨B1, 0, none⟩) n n, .slice (some ⟨B2, 0, none⟩) n n], .slice eo en ec, .int .i64 PI] V fun e w' => e = .returned (.bool wi) ∧ Below V.heap.size V w') := fun V hb => hwi ▸ within_any _ _ eo n n n n en ec ls bs es PI V (PY.out.r.rl.later hb) (PY.out.r.ra.later hb) (HE.out _ (to_call PY.out.b hb))
                  have HW2 : Hid (∀ V, Below Y4.heap.size Y4 V → Calls Try.prog 23 #[.agg #[.slice u1 n k1, .slice u2 n k2], .slice eo en ec, .int .i64 PI] V fun e w' => e = .returned (.bool wi) ∧ Below V.heap.size V w') := fun V hb => hwi ▸ refWithin_any _ _ eo n n k1 k2 en ec ls bs es PI V (PY.out.s.rl.later hb) (PY.out.s.ra.later hb) (HE.out _ (to_call PY.out.b hb)) HEB.out
                  have g1 : (wv != wv) = false := by simp
                  have g3 : (ee != ee) = false := by simp
                  have g4 : (wi != wi) = false := by simp
                  clear PY' y4 h81 h82 H8 R7 R8 HEE hwi
                  go_upto_region 22 with fail
                  refine wp_region_noPanic ?_
                  have SX : Below Y4.heap.size Y4 Y4.drew := (Below.refl _ _).drew
                  refine wp_region_held_drew (S := (fun V => Below Y4.heap.size Y4 V)) (by kernel_rfl) SX (fun _ => ?_)
                  refine takeH 135 (i := 0) (v := ?_) rfl rfl (by kernel_rfl) (by kernel_rfl) (by kernel_rfl) (fun _ _ _ h => h) (Or.inl ⟨by kernel_rfl, ?_⟩) SX ?_
                  rotate_left
                  · intro w' hSw; skip; go_simp; try with_reducible rfl
                  try simp only [Act.put, List.setIfInBounds_toArray, List.set_cons_zero, List.set_cons_succ]
                  refine takeH 136 (i := 1) (v := ?_) rfl rfl (by kernel_rfl) (by kernel_rfl) (by kernel_rfl) (fun _ _ _ h => h) (Or.inl ⟨by kernel_rfl, ?_⟩) SX ?_
                  rotate_left
                  · intro w' hSw; skip; go_simp; try with_reducible rfl
                  try simp only [Act.put, List.setIfInBounds_toArray, List.set_cons_zero, List.set_cons_succ]
                  refine takeH 137 (i := 2) (v := ?_) rfl rfl (by kernel_rfl) (by kernel_rfl) (by kernel_rfl) (fun _ _ _ h => h) (Or.inl ⟨by kernel_rfl, ?_⟩) SX ?_
                  rotate_left
                  · intro w' hSw; skip; go_simp; try with_reducible rfl
                  try simp only [Act.put, List.setIfInBounds_toArray, List.set_cons_zero, List.set_cons_succ]
                  refine takeH 138 (i := 3) (v := ?_) rfl rfl (by kernel_rfl) (by kernel_rfl) (by kernel_rfl) (fun _ _ _ h => h) (Or.inl ⟨by kernel_rfl, ?_⟩) SX ?_
                  rotate_left
                  · intro w' hSw; skip; go_simp; try with_reducible rfl
                  try simp only [Act.put, List.setIfInBounds_toArray, List.set_cons_zero, List.set_cons_succ]
                  refine takeH 139 (i := 4) (v := ?_) rfl rfl (by kernel_rfl) (by kernel_rfl) (by kernel_rfl) (fun _ _ _ h => h) (Or.inl ⟨by kernel_rfl, ?_⟩) SX ?_
                  rotate_left
                  · intro w' hSw; skip; go_simp; try with_reducible rfl
                  try simp only [Act.put, List.setIfInBounds_toArray, List.set_cons_zero, List.set_cons_succ]
                  refine takeH 140 (i := 5) (v := ?_) rfl rfl (by kernel_rfl) (by kernel_rfl) (by kernel_rfl) (fun _ _ _ h => h) (Or.inl ⟨by kernel_rfl, ?_⟩) SX ?_
                  rotate_left
                  · intro w' hSw; skip; go_simp; try with_reducible rfl
                  try simp only [Act.put, List.setIfInBounds_toArray, List.set_cons_zero, List.set_cons_succ]
                  refine takeH 141 (i := 6) (v := ?_) rfl rfl (by kernel_rfl) (by kernel_rfl) (by kernel_rfl) (fun _ _ _ h => h) (Or.inl ⟨by kernel_rfl, ?_⟩) SX ?_
                  rotate_left
                  · intro w' hSw; skip; go_simp; try with_reducible rfl
                  try simp only [Act.put, List.setIfInBounds_toArray, List.set_cons_zero, List.set_cons_succ]
                  refine takeH 142 (i := 7) (v := ?_) rfl rfl (by kernel_rfl) (by kernel_rfl) (by kernel_rfl) (fun _ _ _ h => h) (Or.inl ⟨by kernel_rfl, ?_⟩) SX ?_
                  rotate_left
                  · intro w' hSw; skip; go_simp; try with_reducible rfl
                  try simp only [Act.put, List.setIfInBounds_toArray, List.set_cons_zero, List.set_cons_succ]
                  refine takeH 143 (i := 8) (v := ?_) rfl rfl (by kernel_rfl) (by kernel_rfl) (by kernel_rfl) (fun _ _ _ h => h) (Or.inl ⟨by kernel_rfl, ?_⟩) SX ?_
                  rotate_left
                  · intro w' hSw; skip; go_simp; try with_reducible rfl
                  try simp only [Act.put, List.setIfInBounds_toArray, List.set_cons_zero, List.set_cons_succ]
                  refine takeH 144 (i := 9) (v := ?_) rfl rfl (by kernel_rfl) (by kernel_rfl) (by kernel_rfl) (fun _ _ _ h => h) (Or.inl ⟨by kernel_rfl, ?_⟩) SX ?_
                  rotate_left
                  · intro w' hSw; skip; go_simp; try with_reducible rfl
                  try simp only [Act.put, List.setIfInBounds_toArray, List.set_cons_zero, List.set_cons_succ]
                  refine takeH 145 (i := 10) (v := ?_) rfl rfl (by kernel_rfl) (by kernel_rfl) (by kernel_rfl) (fun _ _ _ h => h) (Or.inl ⟨by kernel_rfl, ?_⟩) SX ?_
                  rotate_left
                  · intro w' hSw; skip; go_simp; try with_reducible rfl
                  try simp only [Act.put, List.setIfInBounds_toArray, List.set_cons_zero, List.set_cons_succ]
                  refine takeH 146 (i := 11) (v := ?_) rfl rfl (by kernel_rfl) (by kernel_rfl) (by kernel_rfl) (fun _ _ _ h => h) (Or.inl ⟨by kernel_rfl, ?_⟩) SX ?_
                  rotate_left
                  · intro w' hSw; skip; go_simp; try with_reducible rfl
                  try simp only [Act.put, List.setIfInBounds_toArray, List.set_cons_zero, List.set_cons_succ]
                  refine takeH 147 (i := 12) (v := ?_) rfl rfl (by kernel_rfl) (by kernel_rfl) (by kernel_rfl) (fun _ _ _ h => h) (Or.inl ⟨by kernel_rfl, ?_⟩) SX ?_
                  rotate_left
                  · intro w' hSw; skip; go_simp; try with_reducible rfl
                  try simp only [Act.put, List.setIfInBounds_toArray, List.set_cons_zero, List.set_cons_succ]
                  refine takeH 148 (i := 13) (v := ?_) rfl rfl (by kernel_rfl) (by kernel_rfl) (by kernel_rfl) (fun _ _ _ h => h) (Or.inl ⟨by kernel_rfl, ?_⟩) SX ?_
                  rotate_left
                  · intro w' hSw; skip; go_simp; try with_reducible rfl
                  try simp only [Act.put, List.setIfInBounds_toArray, List.set_cons_zero, List.set_cons_succ]
                  refine takeH 149 (i := 14) (v := ?_) rfl rfl (by kernel_rfl) (by kernel_rfl) (by kernel_rfl) (fun _ _ _ h => h) (Or.inl ⟨by kernel_rfl, ?_⟩) SX ?_
                  rotate_left
                  · intro w' hSw; skip; go_simp; try with_reducible rfl
                  try simp only [Act.put, List.setIfInBounds_toArray, List.set_cons_zero, List.set_cons_succ]
                  refine wpAnyH_ready (rs := [15]) (by kernel_rfl) (by simp) ?_
                  refine consH _ rfl (hopCd 150 rfl (by kernel_rfl) rfl (by kernel_rfl) (Calls.mono (HSI.out _ SX) ?_)) AllReadyH.nil
                  rintro e V1 ⟨rfl, q1⟩
                  have SX : Below Y4.heap.size Y4 V1 := to_call SX q1
                  refine ⟨_, rfl, SX, ?_⟩
                  try simp only [Act.put, List.setIfInBounds_toArray, List.set_cons_zero, List.set_cons_succ]
                  refine takeH 151 (i := 16) (v := ?_) rfl rfl (by kernel_rfl) (by kernel_rfl) (by kernel_rfl) (fun _ _ _ h => h) (Or.inl ⟨by kernel_rfl, ?_⟩) SX ?_
                  rotate_left
                  · intro w' hSw; skip; go_simp; try with_reducible rfl
                  try simp only [Act.put, List.setIfInBounds_toArray, List.set_cons_zero, List.set_cons_succ]
                  refine takeH 152 (i := 17) (v := ?_) rfl rfl (by kernel_rfl) (by kernel_rfl) (by kernel_rfl) (fun _ _ _ h => h) (Or.inl ⟨by kernel_rfl, ?_⟩) SX ?_
                  rotate_left
                  · intro w' hSw; skip; go_simp; try with_reducible rfl
                  try simp only [Act.put, List.setIfInBounds_toArray, List.set_cons_zero, List.set_cons_succ]
                  refine takeH 153 (i := 18) (v := ?_) rfl rfl (by kernel_rfl) (by kernel_rfl) (by kernel_rfl) (fun _ _ _ h => h) (Or.inl ⟨by kernel_rfl, ?_⟩) SX ?_
                  rotate_left
                  · intro w' hSw; skip; go_simp; try with_reducible rfl
                  try simp only [Act.put, List.setIfInBounds_toArray, List.set_cons_zero, List.set_cons_succ]
                  refine takeH 154 (i := 19) (v := .agg #[.slice (some ⟨B1, 0, none⟩) n n, .slice (some ⟨B2, 0, none⟩) n n]) rfl rfl (by kernel_rfl) (by kernel_rfl) (by kernel_rfl) (fun _ _ _ h => h) (Or.inl ⟨by kernel_rfl, fun w' hSw => ex_loadRN _ 24 _ rfl P (by kernel_rfl) w' _ (kept hSw PY.out.r.v) _ Try.underlying24 rfl 2 Try.szRT rfl⟩) SX ?_
                  try simp only [Act.put, List.setIfInBounds_toArray, List.set_cons_zero, List.set_cons_succ]
                  refine takeH 155 (i := 20) (v := ?_) rfl rfl (by kernel_rfl) (by kernel_rfl) (by kernel_rfl) (fun _ _ _ h => h) (Or.inl ⟨by kernel_rfl, ?_⟩) SX ?_
                  rotate_left
                  · intro w' hSw; skip; go_simp; try with_reducible rfl
                  try simp only [Act.put, List.setIfInBounds_toArray, List.set_cons_zero, List.set_cons_succ]
                  refine takeH 156 (i := 21) (v := ?_) rfl rfl (by kernel_rfl) (by kernel_rfl) (by kernel_rfl) (fun _ _ _ h => h) (Or.inl ⟨by kernel_rfl, ?_⟩) SX ?_
                  rotate_left
                  · intro w' hSw; skip; go_simp; try with_reducible rfl
                  try simp only [Act.put, List.setIfInBounds_toArray, List.set_cons_zero, List.set_cons_succ]
                  refine takeH 158 (i := 23) (v := .agg #[.slice u1 n k1, .slice u2 n k2]) rfl rfl (by kernel_rfl) (by kernel_rfl) (by kernel_rfl) (fun _ _ _ h => h) (Or.inl ⟨by kernel_rfl, fun w' hSw => ex_loadRN _ 24 _ rfl Q (by kernel_rfl) w' _ (kept hSw PY.out.s.v) _ Try.underlying24 rfl 2 Try.szRT rfl⟩) SX ?_
                  try simp only [Act.put, List.setIfInBounds_toArray, List.set_cons_zero, List.set_cons_succ]
                  refine takeH 159 (i := 24) (v := ?_) rfl rfl (by kernel_rfl) (by kernel_rfl) (by kernel_rfl) (fun _ _ _ h => h) (Or.inl ⟨by kernel_rfl, ?_⟩) SX ?_
                  rotate_left
                  · intro w' hSw; skip; go_simp; try with_reducible rfl
                  try simp only [Act.put, List.setIfInBounds_toArray, List.set_cons_zero, List.set_cons_succ]
                  refine takeH 160 (i := 25) (v := ?_) rfl rfl (by kernel_rfl) (by kernel_rfl) (by kernel_rfl) (fun _ _ _ h => h) (Or.inl ⟨by kernel_rfl, ?_⟩) SX ?_
                  rotate_left
                  · intro w' hSw; skip; go_simp; try with_reducible rfl
                  try simp only [Act.put, List.setIfInBounds_toArray, List.set_cons_zero, List.set_cons_succ]
                  refine wpAnyH_ready (rs := [22]) (by kernel_rfl) (by simp) ?_
                  refine consH _ rfl (hopCd 157 rfl (by kernel_rfl) rfl (by kernel_rfl) (Calls.mono (HW1.out _ SX) ?_)) AllReadyH.nil
                  rintro e V2 ⟨rfl, q2⟩
                  have SX : Below Y4.heap.size Y4 V2 := to_call SX q2
                  refine ⟨_, rfl, SX, ?_⟩
                  try simp only [Act.put, List.setIfInBounds_toArray, List.set_cons_zero, List.set_cons_succ]
                  refine wpAnyH_ready (rs := [26]) (by kernel_rfl) (by simp) ?_
                  refine consH _ rfl (hopCd 161 rfl (by kernel_rfl) rfl (by kernel_rfl) (Calls.mono (HW2.out _ SX) ?_)) AllReadyH.nil
                  rintro e V3 ⟨rfl, q3⟩
                  have SX : Below Y4.heap.size Y4 V3 := to_call SX q3
                  refine ⟨_, rfl, SX, ?_⟩
                  try simp only [Act.put, List.setIfInBounds_toArray, List.set_cons_zero, List.set_cons_succ]
                  refine takeH 162 (i := 27) (v := ?_) rfl rfl (by kernel_rfl) (by kernel_rfl) (by kernel_rfl) (fun _ _ _ h => h) (Or.inl ⟨by kernel_rfl, ?_⟩) SX ?_
                  rotate_left
                  · intro w' hSw; skip; go_simp; try with_reducible rfl
                  try simp only [Act.put, List.setIfInBounds_toArray, List.set_cons_zero, List.set_cons_succ]
                  refine takeH 163 (i := 28) (v := ?_) rfl rfl (by kernel_rfl) (by kernel_rfl) (by kernel_rfl) (fun _ _ _ h => h) (Or.inl ⟨by kernel_rfl, ?_⟩) SX ?_
                  rotate_left
                  · intro w' hSw; skip; go_simp; try with_reducible rfl
                  try simp only [Act.put, List.setIfInBounds_toArray, List.set_cons_zero, List.set_cons_succ]
                  refine wpAnyH_done (by kernel_rfl) ?_ _
                  refine NoPanic.normal ?_
                  try simp only [Act.put, List.setIfInBounds_toArray, List.set_cons_zero, List.set_cons_succ]
                  have PZ : Hid (∃ ls bs B1 B2 u1 u2 k1 k2, PlS w V3 P Q n ls bs B1 B2 u1 u2 k1 k2) := ⟨ls, bs, B1, B2, u1, u2, k1, k2, PY.out.later SX⟩
                  clear PY HSI HW1 HW2 SX q1 q2 q3 g1 g3 g4
                  go_wp2_with fail
                  go_roundg q
                  case measure => omega
                  case rel => exact ⟨j + 1, by go_num, by have := HIG.out; omega, PZ⟩
                | false =>
                  have PE : Hid (∃ ls bs B1 B2 u1 u2 k1 k2, PlS w X2 P Q n ls bs B1 B2 u1 u2 k1 k2) := ⟨l0, m0, D1, D2, e1, e2, f1, f2, S2.out.1, ⟨S2.out.2.1.h1, S2.out.2.2.lo, S2.out.2.2.g0⟩, ⟨S2.out.2.1.h2, S2.out.2.2.r1, S2.out.2.2.r2⟩⟩
                  clear S2
                  go_upto_region 18 with fail
                  clear CU
                  obtain ⟨ls, bs, B1, B2, u1, u2, k1, k2, PX⟩ := PE.out
                  have PY : Hid (PlS w X2 P Q n ls bs B1 B2 u1 u2 k1 k2) := PX
                  clear PE PX
                  obtain ⟨wv, hwv⟩ : ∃ x, WyV ls bs n = x := ⟨_, rfl⟩
                  have hwe : WyE ls bs n = 0 := wyE_ok PY.out.r.g
                  go_wp2_with (first | (refine wpList_load_row (by rfl) 24 _ (by rfl) P #[.slice (some ⟨B1, 0, none⟩) n n, .slice (some ⟨B2, 0, none⟩) n n] (by rfl) PY.out.r.v _ Try.underlying24 rfl 2 Try.szRT (by rfl) ?_))
                  refine Calls.mono (hwv ▸ hwe ▸ way_any _ _ n n n n ls bs _ PY.out.r.rl PY.out.r.ra) ?_
                  rintro e' Y1 ⟨rfl, y1⟩
                  have PY' : Hid (PlS w Y1 P Q n ls bs B1 B2 u1 u2 k1 k2) := PY.out.later y1
                  have PY := PY'
                  clear PY' y1
                  go_wp2_with (first | (refine wpList_load_row (by rfl) 24 _ (by rfl) Q #[.slice u1 n k1, .slice u2 n k2] (by rfl) PY.out.s.v _ Try.underlying24 rfl 2 Try.szRT (by rfl) ?_))
                  refine Calls.mono (hwv ▸ hwe ▸ refWay_any _ _ n n k1 k2 ls bs _ PY.out.s.rl PY.out.s.ra) ?_
                  rintro e' Y2 ⟨rfl, y2⟩
                  have PY' : Hid (PlS w Y2 P Q n ls bs B1 B2 u1 u2 k1 k2) := PY.out.later y2
                  have PY := PY'
                  clear PY' y2 hwv hwe
                  go_wp2_with (first | (refine wpList_load_row (by rfl) 24 _ (by rfl) P #[.slice (some ⟨B1, 0, none⟩) n n, .slice (some ⟨B2, 0, none⟩) n n] (by rfl) PY.out.r.v _ Try.underlying24 rfl 2 Try.szRT (by rfl) ?_))
                  refine Calls.mono (ends_any _ _ so n n n n sn sc ls bs ss DI _ PY.out.r.rl PY.out.r.ra (HS.out _ PY.out.b)) ?_
                  rintro e' Y3 ⟨⟨v7, rfl, h71, h72⟩, y3⟩
                  have PY' : Hid (PlS w Y3 P Q n ls bs B1 B2 u1 u2 k1 k2) := PY.out.later y3
                  have PY := PY'
                  obtain ⟨ee, hee⟩ : ∃ x, EnE ls bs ss n sn DI = x := ⟨_, rfl⟩
                  have HEE : Hid (EnE ls bs ss n sn DI = ee) := hee
                  have H7 : Hid (∃ b7 N7, v7 = .slice b7 N7 N7 ∧ RdIs Y3 b7 N7 N7 (if ee = 0 then enL (ls.zip bs) ss DI.toNat else [])) := by
                    by_cases h0 : ee = 0
                    · obtain ⟨B, rfl, -, hB⟩ := h71 (hee.trans h0)
                      have hl := (zip_low (EnE_zero (hee.trans h0)).1).1
                      have hn := regB_len (EnE_zero (hee.trans h0)).1
                      refine ⟨_, n, rfl, ?_⟩
                      rw [if_pos h0]
                      have h := inC_rd hB (Nat.le_trans (m := 256) (by rw [enL_len, hl]; omega) (by decide))
                      rw [enL_len, hl] at h
                      exact h
                    · obtain rfl := h72 (by rw [hee]; exact h0)
                      exact ⟨none, 0, rfl, by rw [if_neg h0]; exact ⟨rfl, Nat.zero_le _, .inl rfl⟩⟩
                  rw [hee]
                  obtain ⟨b7, N7, rfl, R7⟩ := H7.out
                  have R7 : Hid (RdIs Y3 b7 N7 N7 (if ee = 0 then enL (ls.zip bs) ss DI.toNat else [])) := R7
                  clear PY' y3 h71 h72 hee H7
                  go_wp2_with (first | (refine wpList_load_row (by rfl) 24 _ (by rfl) Q #[.slice u1 n k1, .slice u2 n k2] (by rfl) PY.out.s.v _ Try.underlying24 rfl 2 Try.szRT (by rfl) ?_))
                  refine Calls.mono (refEnds_any _ _ so n n k1 k2 sn sc ls bs ss DI _ PY.out.s.rl PY.out.s.ra (HS.out _ PY.out.b)) ?_
                  rintro e' Y4 ⟨⟨v8, rfl, h81, h82⟩, y4⟩
                  have PY' : Hid (PlS w Y4 P Q n ls bs B1 B2 u1 u2 k1 k2) := PY.out.later y4
                  have PY := PY'
                  have H8 : Hid (∃ b8 N8 c8, v8 = .slice b8 N8 c8 ∧ RdIs Y4 b8 N8 c8 (if ee = 0 then enL (ls.zip bs) ss DI.toNat else [])) := by
                    by_cases h0 : ee = 0
                    · obtain ⟨ao, cc, rfl, h9⟩ := (h81 (HEE.out.trans h0)).rd
                      exact ⟨ao, _, cc, rfl, by rw [if_pos h0]; exact h9⟩
                    · obtain rfl := h82 (by rw [HEE.out]; exact h0)
                      exact ⟨none, 0, 0, rfl, by rw [if_neg h0]; exact ⟨rfl, Nat.zero_le _, .inl rfl⟩⟩
                  rw [HEE.out]
                  obtain ⟨b8, N8, c8, rfl, R8⟩ := H8.out
                  have R8 : Hid _ := R8
                  have R7 : Hid _ := R7.out.later y4
                  have HSI : Hid (∀ V, Below Y4.heap.size Y4 V → Calls Try.prog 21 #[.slice b7 N7 N7, .slice b8 N8 c8] V fun e w' => e = .returned (.bool true) ∧ Below V.heap.size V w') := fun V hb => by
                    have h := sameIntsM_any b7 b8 N7 N8 N7 c8 _ _ V (R7.out.later hb) (R8.out.later hb)
                    rw [decide_eq_true rfl] at h
                    exact h
                  obtain ⟨wi, hwi⟩ : ∃ x, WiV ls bs es n en PI = x := ⟨_, rfl⟩
                  have HW1 : Hid (∀ V, Below Y4.heap.size Y4 V → Calls Try.prog 22 #[.agg #[.slice (some ⟨B1, 0, none⟩) n n, .slice (some ⟨B2, 0, none⟩) n n], .slice eo en ec, .int .i64 PI] V fun e w' => e = .returned (.bool wi) ∧ Below V.heap.size V w') := fun V hb => hwi ▸ within_any _ _ eo n n n n en ec ls bs es PI V (PY.out.r.rl.later hb) (PY.out.r.ra.later hb) (HE.out _ (to_call PY.out.b hb))
                  have HW2 : Hid (∀ V, Below Y4.heap.size Y4 V → Calls Try.prog 23 #[.agg #[.slice u1 n k1, .slice u2 n k2], .slice eo en ec, .int .i64 PI] V fun e w' => e = .returned (.bool wi) ∧ Below V.heap.size V w') := fun V hb => hwi ▸ refWithin_any _ _ eo n n k1 k2 en ec ls bs es PI V (PY.out.s.rl.later hb) (PY.out.s.ra.later hb) (HE.out _ (to_call PY.out.b hb)) HEB.out
                  have g1 : (wv != wv) = false := by simp
                  have g3 : (ee != ee) = false := by simp
                  have g4 : (wi != wi) = false := by simp
                  clear PY' y4 h81 h82 H8 R7 R8 HEE hwi
                  go_upto_region 22 with fail
                  refine wp_region_noPanic ?_
                  have SX : Below Y4.heap.size Y4 Y4.drew := (Below.refl _ _).drew
                  refine wp_region_held_drew (S := (fun V => Below Y4.heap.size Y4 V)) (by kernel_rfl) SX (fun _ => ?_)
                  refine takeH 135 (i := 0) (v := ?_) rfl rfl (by kernel_rfl) (by kernel_rfl) (by kernel_rfl) (fun _ _ _ h => h) (Or.inl ⟨by kernel_rfl, ?_⟩) SX ?_
                  rotate_left
                  · intro w' hSw; skip; go_simp; try with_reducible rfl
                  try simp only [Act.put, List.setIfInBounds_toArray, List.set_cons_zero, List.set_cons_succ]
                  refine takeH 136 (i := 1) (v := ?_) rfl rfl (by kernel_rfl) (by kernel_rfl) (by kernel_rfl) (fun _ _ _ h => h) (Or.inl ⟨by kernel_rfl, ?_⟩) SX ?_
                  rotate_left
                  · intro w' hSw; skip; go_simp; try with_reducible rfl
                  try simp only [Act.put, List.setIfInBounds_toArray, List.set_cons_zero, List.set_cons_succ]
                  refine takeH 137 (i := 2) (v := ?_) rfl rfl (by kernel_rfl) (by kernel_rfl) (by kernel_rfl) (fun _ _ _ h => h) (Or.inl ⟨by kernel_rfl, ?_⟩) SX ?_
                  rotate_left
                  · intro w' hSw; skip; go_simp; try with_reducible rfl
                  try simp only [Act.put, List.setIfInBounds_toArray, List.set_cons_zero, List.set_cons_succ]
                  refine takeH 138 (i := 3) (v := ?_) rfl rfl (by kernel_rfl) (by kernel_rfl) (by kernel_rfl) (fun _ _ _ h => h) (Or.inl ⟨by kernel_rfl, ?_⟩) SX ?_
                  rotate_left
                  · intro w' hSw; skip; go_simp; try with_reducible rfl
                  try simp only [Act.put, List.setIfInBounds_toArray, List.set_cons_zero, List.set_cons_succ]
                  refine takeH 139 (i := 4) (v := ?_) rfl rfl (by kernel_rfl) (by kernel_rfl) (by kernel_rfl) (fun _ _ _ h => h) (Or.inl ⟨by kernel_rfl, ?_⟩) SX ?_
                  rotate_left
                  · intro w' hSw; skip; go_simp; try with_reducible rfl
                  try simp only [Act.put, List.setIfInBounds_toArray, List.set_cons_zero, List.set_cons_succ]
                  refine takeH 140 (i := 5) (v := ?_) rfl rfl (by kernel_rfl) (by kernel_rfl) (by kernel_rfl) (fun _ _ _ h => h) (Or.inl ⟨by kernel_rfl, ?_⟩) SX ?_
                  rotate_left
                  · intro w' hSw; skip; go_simp; try with_reducible rfl
                  try simp only [Act.put, List.setIfInBounds_toArray, List.set_cons_zero, List.set_cons_succ]
                  refine takeH 141 (i := 6) (v := ?_) rfl rfl (by kernel_rfl) (by kernel_rfl) (by kernel_rfl) (fun _ _ _ h => h) (Or.inl ⟨by kernel_rfl, ?_⟩) SX ?_
                  rotate_left
                  · intro w' hSw; skip; go_simp; try with_reducible rfl
                  try simp only [Act.put, List.setIfInBounds_toArray, List.set_cons_zero, List.set_cons_succ]
                  refine takeH 142 (i := 7) (v := ?_) rfl rfl (by kernel_rfl) (by kernel_rfl) (by kernel_rfl) (fun _ _ _ h => h) (Or.inl ⟨by kernel_rfl, ?_⟩) SX ?_
                  rotate_left
                  · intro w' hSw; skip; go_simp; try with_reducible rfl
                  try simp only [Act.put, List.setIfInBounds_toArray, List.set_cons_zero, List.set_cons_succ]
                  refine takeH 143 (i := 8) (v := ?_) rfl rfl (by kernel_rfl) (by kernel_rfl) (by kernel_rfl) (fun _ _ _ h => h) (Or.inl ⟨by kernel_rfl, ?_⟩) SX ?_
                  rotate_left
                  · intro w' hSw; skip; go_simp; try with_reducible rfl
                  try simp only [Act.put, List.setIfInBounds_toArray, List.set_cons_zero, List.set_cons_succ]
                  refine takeH 144 (i := 9) (v := ?_) rfl rfl (by kernel_rfl) (by kernel_rfl) (by kernel_rfl) (fun _ _ _ h => h) (Or.inl ⟨by kernel_rfl, ?_⟩) SX ?_
                  rotate_left
                  · intro w' hSw; skip; go_simp; try with_reducible rfl
                  try simp only [Act.put, List.setIfInBounds_toArray, List.set_cons_zero, List.set_cons_succ]
                  refine takeH 145 (i := 10) (v := ?_) rfl rfl (by kernel_rfl) (by kernel_rfl) (by kernel_rfl) (fun _ _ _ h => h) (Or.inl ⟨by kernel_rfl, ?_⟩) SX ?_
                  rotate_left
                  · intro w' hSw; skip; go_simp; try with_reducible rfl
                  try simp only [Act.put, List.setIfInBounds_toArray, List.set_cons_zero, List.set_cons_succ]
                  refine takeH 146 (i := 11) (v := ?_) rfl rfl (by kernel_rfl) (by kernel_rfl) (by kernel_rfl) (fun _ _ _ h => h) (Or.inl ⟨by kernel_rfl, ?_⟩) SX ?_
                  rotate_left
                  · intro w' hSw; skip; go_simp; try with_reducible rfl
                  try simp only [Act.put, List.setIfInBounds_toArray, List.set_cons_zero, List.set_cons_succ]
                  refine takeH 147 (i := 12) (v := ?_) rfl rfl (by kernel_rfl) (by kernel_rfl) (by kernel_rfl) (fun _ _ _ h => h) (Or.inl ⟨by kernel_rfl, ?_⟩) SX ?_
                  rotate_left
                  · intro w' hSw; skip; go_simp; try with_reducible rfl
                  try simp only [Act.put, List.setIfInBounds_toArray, List.set_cons_zero, List.set_cons_succ]
                  refine takeH 148 (i := 13) (v := ?_) rfl rfl (by kernel_rfl) (by kernel_rfl) (by kernel_rfl) (fun _ _ _ h => h) (Or.inl ⟨by kernel_rfl, ?_⟩) SX ?_
                  rotate_left
                  · intro w' hSw; skip; go_simp; try with_reducible rfl
                  try simp only [Act.put, List.setIfInBounds_toArray, List.set_cons_zero, List.set_cons_succ]
                  refine takeH 149 (i := 14) (v := ?_) rfl rfl (by kernel_rfl) (by kernel_rfl) (by kernel_rfl) (fun _ _ _ h => h) (Or.inl ⟨by kernel_rfl, ?_⟩) SX ?_
                  rotate_left
                  · intro w' hSw; skip; go_simp; try with_reducible rfl
                  try simp only [Act.put, List.setIfInBounds_toArray, List.set_cons_zero, List.set_cons_succ]
                  refine wpAnyH_ready (rs := [15]) (by kernel_rfl) (by simp) ?_
                  refine consH _ rfl (hopCd 150 rfl (by kernel_rfl) rfl (by kernel_rfl) (Calls.mono (HSI.out _ SX) ?_)) AllReadyH.nil
                  rintro e V1 ⟨rfl, q1⟩
                  have SX : Below Y4.heap.size Y4 V1 := to_call SX q1
                  refine ⟨_, rfl, SX, ?_⟩
                  try simp only [Act.put, List.setIfInBounds_toArray, List.set_cons_zero, List.set_cons_succ]
                  refine takeH 151 (i := 16) (v := ?_) rfl rfl (by kernel_rfl) (by kernel_rfl) (by kernel_rfl) (fun _ _ _ h => h) (Or.inl ⟨by kernel_rfl, ?_⟩) SX ?_
                  rotate_left
                  · intro w' hSw; skip; go_simp; try with_reducible rfl
                  try simp only [Act.put, List.setIfInBounds_toArray, List.set_cons_zero, List.set_cons_succ]
                  refine takeH 152 (i := 17) (v := ?_) rfl rfl (by kernel_rfl) (by kernel_rfl) (by kernel_rfl) (fun _ _ _ h => h) (Or.inl ⟨by kernel_rfl, ?_⟩) SX ?_
                  rotate_left
                  · intro w' hSw; skip; go_simp; try with_reducible rfl
                  try simp only [Act.put, List.setIfInBounds_toArray, List.set_cons_zero, List.set_cons_succ]
                  refine takeH 153 (i := 18) (v := ?_) rfl rfl (by kernel_rfl) (by kernel_rfl) (by kernel_rfl) (fun _ _ _ h => h) (Or.inl ⟨by kernel_rfl, ?_⟩) SX ?_
                  rotate_left
                  · intro w' hSw; skip; go_simp; try with_reducible rfl
                  try simp only [Act.put, List.setIfInBounds_toArray, List.set_cons_zero, List.set_cons_succ]
                  refine takeH 154 (i := 19) (v := .agg #[.slice (some ⟨B1, 0, none⟩) n n, .slice (some ⟨B2, 0, none⟩) n n]) rfl rfl (by kernel_rfl) (by kernel_rfl) (by kernel_rfl) (fun _ _ _ h => h) (Or.inl ⟨by kernel_rfl, fun w' hSw => ex_loadRN _ 24 _ rfl P (by kernel_rfl) w' _ (kept hSw PY.out.r.v) _ Try.underlying24 rfl 2 Try.szRT rfl⟩) SX ?_
                  try simp only [Act.put, List.setIfInBounds_toArray, List.set_cons_zero, List.set_cons_succ]
                  refine takeH 155 (i := 20) (v := ?_) rfl rfl (by kernel_rfl) (by kernel_rfl) (by kernel_rfl) (fun _ _ _ h => h) (Or.inl ⟨by kernel_rfl, ?_⟩) SX ?_
                  rotate_left
                  · intro w' hSw; skip; go_simp; try with_reducible rfl
                  try simp only [Act.put, List.setIfInBounds_toArray, List.set_cons_zero, List.set_cons_succ]
                  refine takeH 156 (i := 21) (v := ?_) rfl rfl (by kernel_rfl) (by kernel_rfl) (by kernel_rfl) (fun _ _ _ h => h) (Or.inl ⟨by kernel_rfl, ?_⟩) SX ?_
                  rotate_left
                  · intro w' hSw; skip; go_simp; try with_reducible rfl
                  try simp only [Act.put, List.setIfInBounds_toArray, List.set_cons_zero, List.set_cons_succ]
                  refine takeH 158 (i := 23) (v := .agg #[.slice u1 n k1, .slice u2 n k2]) rfl rfl (by kernel_rfl) (by kernel_rfl) (by kernel_rfl) (fun _ _ _ h => h) (Or.inl ⟨by kernel_rfl, fun w' hSw => ex_loadRN _ 24 _ rfl Q (by kernel_rfl) w' _ (kept hSw PY.out.s.v) _ Try.underlying24 rfl 2 Try.szRT rfl⟩) SX ?_
                  try simp only [Act.put, List.setIfInBounds_toArray, List.set_cons_zero, List.set_cons_succ]
                  refine takeH 159 (i := 24) (v := ?_) rfl rfl (by kernel_rfl) (by kernel_rfl) (by kernel_rfl) (fun _ _ _ h => h) (Or.inl ⟨by kernel_rfl, ?_⟩) SX ?_
                  rotate_left
                  · intro w' hSw; skip; go_simp; try with_reducible rfl
                  try simp only [Act.put, List.setIfInBounds_toArray, List.set_cons_zero, List.set_cons_succ]
                  refine takeH 160 (i := 25) (v := ?_) rfl rfl (by kernel_rfl) (by kernel_rfl) (by kernel_rfl) (fun _ _ _ h => h) (Or.inl ⟨by kernel_rfl, ?_⟩) SX ?_
                  rotate_left
                  · intro w' hSw; skip; go_simp; try with_reducible rfl
                  try simp only [Act.put, List.setIfInBounds_toArray, List.set_cons_zero, List.set_cons_succ]
                  refine wpAnyH_ready (rs := [22]) (by kernel_rfl) (by simp) ?_
                  refine consH _ rfl (hopCd 157 rfl (by kernel_rfl) rfl (by kernel_rfl) (Calls.mono (HW1.out _ SX) ?_)) AllReadyH.nil
                  rintro e V2 ⟨rfl, q2⟩
                  have SX : Below Y4.heap.size Y4 V2 := to_call SX q2
                  refine ⟨_, rfl, SX, ?_⟩
                  try simp only [Act.put, List.setIfInBounds_toArray, List.set_cons_zero, List.set_cons_succ]
                  refine wpAnyH_ready (rs := [26]) (by kernel_rfl) (by simp) ?_
                  refine consH _ rfl (hopCd 161 rfl (by kernel_rfl) rfl (by kernel_rfl) (Calls.mono (HW2.out _ SX) ?_)) AllReadyH.nil
                  rintro e V3 ⟨rfl, q3⟩
                  have SX : Below Y4.heap.size Y4 V3 := to_call SX q3
                  refine ⟨_, rfl, SX, ?_⟩
                  try simp only [Act.put, List.setIfInBounds_toArray, List.set_cons_zero, List.set_cons_succ]
                  refine takeH 162 (i := 27) (v := ?_) rfl rfl (by kernel_rfl) (by kernel_rfl) (by kernel_rfl) (fun _ _ _ h => h) (Or.inl ⟨by kernel_rfl, ?_⟩) SX ?_
                  rotate_left
                  · intro w' hSw; skip; go_simp; try with_reducible rfl
                  try simp only [Act.put, List.setIfInBounds_toArray, List.set_cons_zero, List.set_cons_succ]
                  refine takeH 163 (i := 28) (v := ?_) rfl rfl (by kernel_rfl) (by kernel_rfl) (by kernel_rfl) (fun _ _ _ h => h) (Or.inl ⟨by kernel_rfl, ?_⟩) SX ?_
                  rotate_left
                  · intro w' hSw; skip; go_simp; try with_reducible rfl
                  try simp only [Act.put, List.setIfInBounds_toArray, List.set_cons_zero, List.set_cons_succ]
                  refine wpAnyH_done (by kernel_rfl) ?_ _
                  refine NoPanic.normal ?_
                  try simp only [Act.put, List.setIfInBounds_toArray, List.set_cons_zero, List.set_cons_succ]
                  have PZ : Hid (∃ ls bs B1 B2 u1 u2 k1 k2, PlS w V3 P Q n ls bs B1 B2 u1 u2 k1 k2) := ⟨ls, bs, B1, B2, u1, u2, k1, k2, PY.out.later SX⟩
                  clear PY HSI HW1 HW2 SX q1 q2 q3 g1 g3 g4
                  go_wp2_with fail
                  go_roundg q
                  case measure => omega
                  case rel => exact ⟨j + 1, by go_num, by have := HIG.out; omega, PZ⟩
              · have hne : (er != 0) = true := by simpa using he
                have P6 : Hid (∃ ls bs B1 B2 u1 u2 k1 k2, PlS w Wb P Q n ls bs B1 B2 u1 u2 k1 k2) := ⟨ls, bs, B1, B2, u1, u2, k1, k2, P5.out.1⟩
                clear P5 HER he
                go_wp2_with fail
                go_roundg q
                case measure => omega
                case rel => exact ⟨j + 1, by go_num, by have := HIG.out; omega, P6⟩
        · have e2 : decide ((j : Int) < 40) = false := decide_eq_false (by omega)
          have e3 : decide (j < 40) = false := decide_eq_false ht2
          have PB : Hid (Below w.heap.size w wr) := by
            obtain ⟨ls, bs, B1, B2, u1, u2, k1, k2, h⟩ := P0.out
            exact h.b
          clear hj ht2
          go_wp2_with fail
          go_ret
          exact ⟨rfl, PB.out⟩
      · have e1 : decide ((j : Int) < (tn : Int)) = false := decide_eq_false (by omega)
        have e2 : decide (j < tn) = false := decide_eq_false ht1
        have PB : Hid (Below w.heap.size w wr) := by
          obtain ⟨ls, bs, B1, B2, u1, u2, k1, k2, h⟩ := P0.out
          exact h.b
        clear hj ht1
        go_wp2_with fail
        go_ret
        exact ⟨rfl, PB.out⟩
  · have HW : Hid (∀ W, Calls Try.prog 9 #[.int .i64 k] W fun e w' => e = .returned (.tuple #[.agg #[.slice none 0 0, .slice none 0 0], .int .i64 1]) ∧ Below W.heap.size W w') := fun W => (whole_any k W).mono fun e w' ⟨h, hb⟩ => ⟨h.2 hk, hb⟩
    have HX : Hid (∀ W, Calls Try.prog 10 #[.int .i64 k] W fun e w' => e = .returned (.tuple #[.agg #[.slice none 0 0, .slice none 0 0], .int .i64 1]) ∧ Below W.heap.size W w') := fun W => (refWhole_any k W).mono fun e w' ⟨h, hb⟩ => ⟨h.2 hk, hb⟩
    clear hk
    go_enter Try.func5, Try.ntmps5
    go_wp2_with fail
    refine Calls.mono (HW.out _) ?_
    rintro e' w1 ⟨rfl, bb1⟩
    go_upto_region 2 with fail
    have A1 : Below w.heap.size w (w1.alloc (.cells #[.slice none 0 0, .slice none 0 0] 24)) := to_call bb1 ((Below.refl _ w1).alloc (Nat.le_refl _) _)
    obtain ⟨V1, hV1⟩ : ∃ V, (w1.alloc (.cells #[.slice none 0 0, .slice none 0 0] 24)) = V := ⟨_, rfl⟩
    rw [hV1] at A1 ⊢
    clear hV1 bb1 HW
    go_wp2_with fail
    refine Calls.mono (HX.out _) ?_
    rintro e' w2 ⟨rfl, bb2⟩
    go_upto_region 3 with fail
    have A2 : Below w.heap.size w (w2.alloc (.cells #[.slice none 0 0, .slice none 0 0] 24)) := to_call (to_call A1 bb2) ((Below.refl _ w2).alloc (Nat.le_refl _) _)
    obtain ⟨V2, hV2⟩ : ∃ V, (w2.alloc (.cells #[.slice none 0 0, .slice none 0 0] 24)) = V := ⟨_, rfl⟩
    rw [hV2] at A2 ⊢
    clear hV2 bb2 HX A1
    go_wp2_with fail
    refine Calls.mono (awake_any _) ?_
    rintro e' w3 ⟨rfl, bb3⟩
    have P3 : Hid (Below w.heap.size w w3) := to_call A2 bb3
    clear bb3 A2
    go_wp2_with fail
    go_loopg [17] 1 (fun g iv wx => iv = .int .i64 0 ∧ Hid (Below w.heap.size w wx))
    case atStart => exact ⟨rfl, P3⟩
    case round =>
      clear P3
      obtain ⟨rfl, P0⟩ := hrel
      by_cases ht1 : 0 < tn
      · have e1 : decide ((0 : Int) < (tn : Int)) = true := decide_eq_true (by omega)
        go_wp2_with fail
        go_ret
        exact ⟨rfl, P0.out⟩
      · have e1 : decide ((0 : Int) < (tn : Int)) = false := decide_eq_false (by omega)
        go_wp2_with fail
        go_ret
        exact ⟨rfl, P0.out⟩
end Go.Proofs.Ytaadhjdbieoieaa
