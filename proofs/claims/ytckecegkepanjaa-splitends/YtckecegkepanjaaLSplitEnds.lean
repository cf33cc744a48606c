import Derived.Test.YtckecegkepanjaaSPr
namespace Go.Proofs.Ytckecegkepanjaa
open Go.RowKit
set_option linter.unusedVariables false
set_option linter.unusedSimpArgs false
set_option maxRecDepth 100000 in
set_option maxHeartbeats 4000000 in
theorem splitEnds_walk (k : Int) (tq : Option Addr) (tn tc : Nat) (F : Nat → Int × Bool) (so : Option Addr) (sn sc : Nat) (ss : List Int) (DI : Int) (w : World) (ht : RdTu w tq tn tc F) (hs : RdIs w so sn sc ss) :
    Calls Try.prog 7 #[.int .i64 k, .slice tq tn tc, .slice so sn sc, .int .i64 DI] w fun e w' => e = .returned (.bool true) ∧ Below w.heap.size w w' := by
  have HS : Hid (∀ W', Below w.heap.size w W' → RdIs W' so sn sc ss) := fun W' hb => hs.later hb
  have HT : Hid (∀ W', Below w.heap.size w W' → RdTu W' tq tn tc F) := fun W' hb => ht.later hb
  have htm : tn ≤ 9223372036854775807 := Nat.le_trans ht.max maxLen_le
  clear hs ht
  by_cases h1 : k < 0
  · have d1 : decide (k < 0) = true := decide_eq_true h1
    go_enter Try.func7, Try.ntmps7
    go_wp2_with fail
    refine Calls.mono (awake_any _) ?_
    rintro e' wz ⟨rfl, bbz⟩
    go_wp2_with fail
    go_ret
    exact ⟨rfl, to_call (Below.refl _ _) bbz⟩
  · have d1 : decide (k < 0) = false := decide_eq_false h1
    by_cases h2 : k > 40
    · have d2 : decide (k > 40) = true := decide_eq_true h2
      go_enter Try.func7, Try.ntmps7
      go_wp2_with fail
      refine Calls.mono (awake_any _) ?_
      rintro e' wz ⟨rfl, bbz⟩
      go_wp2_with fail
      go_ret
      exact ⟨rfl, to_call (Below.refl _ _) bbz⟩
    · have d2 : decide (k > 40) = false := decide_eq_false h2
      obtain ⟨n, rfl⟩ : ∃ n : Nat, k = n := ⟨k.toNat, by omega⟩
      have hn : n ≤ 40 := by omega
      have HW : Hid (∀ W, Calls Try.prog 9 #[.int .i64 (n : Int)] W fun e w' => (∃ B1 B2, e = .returned (.tuple #[.agg #[.slice (some ⟨B1, 0, none⟩) n n, .slice (some ⟨B2, 0, none⟩) n n], .int .i64 0]) ∧ RgO w' W.heap.size B1 B2 (List.replicate n 0) (List.replicate n 0)) ∧ Below W.heap.size W w') := fun W => (whole_any n W).mono fun e w' ⟨h, hb⟩ => ⟨by have := h.1 ⟨by omega, by omega⟩; rw [Int.toNat_natCast] at this; exact this, hb⟩
      clear h1 h2
      go_enter Try.func7, Try.ntmps7
      go_wp2_with fail
      refine Calls.mono (HW.out _) ?_
      rintro e' w1 ⟨⟨B1, B2, rfl, hr⟩, bb1⟩
      go_upto_region 4 with fail
      have A1 : Below w1.heap.size w1 (w1.alloc (.cells #[.slice (some ⟨B1, 0, none⟩) n n, .slice (some ⟨B2, 0, none⟩) n n] 24)) := (Below.refl _ w1).alloc (Nat.le_refl _) _
      have Y1 : (w1.alloc (.cells #[.slice (some ⟨B1, 0, none⟩) n n, .slice (some ⟨B2, 0, none⟩) n n] 24)).heap[w1.heap.size]? = some (.cells #[.slice (some ⟨B1, 0, none⟩) n n, .slice (some ⟨B2, 0, none⟩) n n] 24) := heap_alloc_new w1 _
      obtain ⟨V1, hV1⟩ : ∃ V, (w1.alloc (.cells #[.slice (some ⟨B1, 0, none⟩) n n, .slice (some ⟨B2, 0, none⟩) n n] 24)) = V := ⟨_, rfl⟩
      obtain ⟨P9, hP9⟩ : ∃ p, w1.heap.size = p := ⟨_, rfl⟩
      have hp9 : w.heap.size ≤ P9 := by rw [← hP9]; exact bb1.size
      rw [hV1] at A1 Y1 ⊢
      rw [hP9] at Y1 ⊢
      have hrg : regB (List.replicate n 0) (List.replicate n 0) n = true := by
        refine (regB_iff _ _ _).2 ⟨by omega, by rw [List.length_replicate], by rw [List.length_replicate], fun j hj => ?_⟩
        rw [List.length_replicate] at hj
        rw [List.getElem?_replicate, if_pos hj]
        decide
      have P1 : Hid (∃ B1 B2 ls bs, (Below w.heap.size w V1 ∧ RgV V1 w.heap.size P9 n B1 B2 ls bs)) := ⟨B1, B2, _, _, to_call bb1 A1, Y1, hr.later A1, hrg⟩
      clear hV1 hP9 A1 Y1 hr bb1 hrg HW d1 d2
      go_wp2_with fail
      go_loopg [11] 40 (fun g iv wx => ∃ j : Nat, iv = .int .i64 j ∧ j + g = 40 ∧ Hid (∃ B1 B2 ls bs, (Below w.heap.size w wx ∧ RgV wx w.heap.size P9 n B1 B2 ls bs)))
      case atStart => exact ⟨0, rfl, by omega, P1⟩
      case round =>
        clear P1
        obtain ⟨j, rfl, hj, P0⟩ := hrel
        obtain ⟨B1, B2, ls, bs, P0'⟩ := P0.out
        have P2 : Hid (Below w.heap.size w wr ∧ RgV wr w.heap.size P9 n B1 B2 ls bs) := P0'
        clear P0 P0'
        by_cases ht1 : j < tn
        · have e1 : decide ((j : Int) < (tn : Int)) = true := decide_eq_true (by omega)
          by_cases ht2 : j < 40
          · have e2 : decide ((j : Int) < 40) = true := decide_eq_true (by omega)
            obtain ⟨q, rfl⟩ : ∃ q, gk = q + 1 := ⟨gk - 1, by omega⟩
            have HIG : Hid (j + (q + 1) = 40) := hj
            have ht1' : (j : Int) < (tn : Int) := by omega
            rcases (HT.out _ P2.out.1).cells with h0 | ⟨tb, tf, rfl, hct⟩
            · omega
            have gt := hct j ht1
            obtain ⟨⟨sy, up⟩, hF⟩ : ∃ x, F j = x := ⟨_, rfl⟩
            rw [hF] at gt
            have CT0 : Hid (wr.cell? ⟨tb, tf + j * 2, none⟩ = some (.int .i64 sy)) := gt.1
            have CT1 : Hid (wr.cell? ⟨tb, tf + j * 2 + 1, none⟩ = some (.bool up)) := gt.2
            have HBW : Hid (∀ W, Below wr.heap.size wr W → W.cell? ⟨tb, tf + j * 2 + 1, none⟩ = some (.bool up)) := fun W hb => cell_later CT1.out hb
            clear gt hct hF hj
            go_upto_region 9 with fail
            apply by_key (F := fun b12 b13 a1 a2 a3 a4 N W => Hid (Below w.heap.size w W ∧ RgV W w.heap.size P9 n B1 B2 ls bs ∧ W.heap[b12]? = some (.cells #[.slice a1 N N, .slice a2 N N] 24) ∧ W.heap[b13]? = some (.cells #[.slice a3 N N, .slice a4 N N] 24) ∧ HvX W w.heap.size n ls bs sy a1 a2 a3 a4 N ∧ P9 ≠ b12 ∧ P9 ≠ b13))
            case main =>
              intro key
              refine wp_region_noPanic ?_
              refine wp_region_P (S := (fun V => Below wr.heap.size wr V)) (s := 13) (by kernel_rfl) ?_
              have SX : Below wr.heap.size wr wr.drew := (Below.refl _ _).drew
              refine takeP 45 (i := 0) (v := .agg #[.slice (some ⟨B1, 0, none⟩) n n, .slice (some ⟨B2, 0, none⟩) n n]) rfl rfl (by kernel_rfl) (by kernel_rfl) (by kernel_rfl) (by kernel_rfl) rfl (by kernel_rfl) (fun _ _ _ h => h) (Or.inl ⟨by kernel_rfl, fun w' hSw => ex_loadRN _ 24 _ rfl P9 (by kernel_rfl) w' _ (kept hSw P2.out.2.v) _ Try.underlying24 rfl 2 Try.szRT rfl⟩) SX ?_
              try simp only [Act.put, List.setIfInBounds_toArray, List.set_cons_zero, List.set_cons_succ]
              refine takeP 46 (i := 1) (v := ?_) rfl rfl (by kernel_rfl) (by kernel_rfl) (by kernel_rfl) (by kernel_rfl) rfl (by kernel_rfl) (fun _ _ _ h => h) (Or.inl ⟨by kernel_rfl, ?_⟩) SX ?_
              rotate_left
              · intro w' hSw; have t0 := cell_later CT0.out hSw; go_simp; try with_reducible rfl
              try simp only [Act.put, List.setIfInBounds_toArray, List.set_cons_zero, List.set_cons_succ]
              refine takeP 47 (i := 2) (v := ?_) rfl rfl (by kernel_rfl) (by kernel_rfl) (by kernel_rfl) (by kernel_rfl) rfl (by kernel_rfl) (fun _ _ _ h => h) (Or.inl ⟨by kernel_rfl, ?_⟩) SX ?_
              rotate_left
              · intro w' hSw; have t0 := cell_later CT0.out hSw; go_simp; try with_reducible rfl
              try simp only [Act.put, List.setIfInBounds_toArray, List.set_cons_zero, List.set_cons_succ]
              refine takeP 48 (i := 3) (v := ?_) rfl rfl (by kernel_rfl) (by kernel_rfl) (by kernel_rfl) (by kernel_rfl) rfl (by kernel_rfl) (fun _ _ _ h => h) (Or.inl ⟨by kernel_rfl, ?_⟩) SX ?_
              rotate_left
              · intro w' hSw; have t0 := cell_later CT0.out hSw; go_simp; try with_reducible rfl
              try simp only [Act.put, List.setIfInBounds_toArray, List.set_cons_zero, List.set_cons_succ]
              refine takeP 49 (i := 4) (v := ?_) rfl rfl (by kernel_rfl) (by kernel_rfl) (by kernel_rfl) (by kernel_rfl) rfl (by kernel_rfl) (fun _ _ _ h => h) (Or.inl ⟨by kernel_rfl, ?_⟩) SX ?_
              rotate_left
              · intro w' hSw; have t0 := cell_later CT0.out hSw; go_simp; try with_reducible rfl
              try simp only [Act.put, List.setIfInBounds_toArray, List.set_cons_zero, List.set_cons_succ]
              refine takeP 50 (i := 5) (v := ?_) rfl rfl (by kernel_rfl) (by kernel_rfl) (by kernel_rfl) (by kernel_rfl) rfl (by kernel_rfl) (fun _ _ _ h => h) (Or.inl ⟨by kernel_rfl, ?_⟩) SX ?_
              rotate_left
              · intro w' hSw; have t0 := cell_later CT0.out hSw; go_simp; try with_reducible rfl
              try simp only [Act.put, List.setIfInBounds_toArray, List.set_cons_zero, List.set_cons_succ]
              refine wpAnyP_ready (rs := [6, 11, 12]) (by kernel_rfl) (by simp) ?_
              refine consP _ rfl ?_ (consP _ rfl ?_ (consP _ rfl ?_ AllReadyP.nil))
              · refine hopCd 51 rfl (by kernel_rfl) rfl (by kernel_rfl) (Calls.mono (halveU _ _ n n n n ls bs sy _ (P2.out.2.rl.later SX) (P2.out.2.ra.later SX)) ?_)
                rintro e Vc ⟨⟨a1, a2, a3, a4, N, rfl, HX⟩, bb⟩
                have HX := HX.mono (Nat.le_trans P2.out.1.size SX.size)
                have SX : Below wr.heap.size wr Vc := to_call SX bb
                clear bb
                refine ⟨_, rfl, SX, ?_⟩
                try simp only [Act.put, List.setIfInBounds_toArray, List.set_cons_zero, List.set_cons_succ]
                refine takeP 44 (i := 7) (v := ?_) rfl rfl (by kernel_rfl) (by kernel_rfl) (by kernel_rfl) (by kernel_rfl) rfl (by kernel_rfl) (fun _ _ _ h => h) (Or.inl ⟨by kernel_rfl, ?_⟩) SX ?_
                rotate_left
                · intro w' hSw; skip; go_simp; try with_reducible rfl
                try simp only [Act.put, List.setIfInBounds_toArray, List.set_cons_zero, List.set_cons_succ]
                refine takeP 52 (i := 8) (v := ?_) rfl rfl (by kernel_rfl) (by kernel_rfl) (by kernel_rfl) (by kernel_rfl) rfl (by kernel_rfl) (fun _ _ _ h => h) (Or.inl ⟨by kernel_rfl, ?_⟩) SX ?_
                rotate_left
                · intro w' hSw; skip; go_simp; try with_reducible rfl
                try simp only [Act.put, List.setIfInBounds_toArray, List.set_cons_zero, List.set_cons_succ]
                refine takeP0 53 (i := 9) (v := ?_) rfl rfl (by kernel_rfl) (by kernel_rfl) (by kernel_rfl) rfl (fun _ _ _ h => h) (Or.inl ⟨by kernel_rfl, ?_⟩) (fun _ => SX) ?_
                rotate_left
                · intro w' hSw; skip; go_simp; try with_reducible rfl
                try simp only [Act.put, List.setIfInBounds_toArray, List.set_cons_zero, List.set_cons_succ]
                refine takeP0 54 (i := 10) (v := ?_) rfl rfl (by kernel_rfl) (by kernel_rfl) (by kernel_rfl) rfl (fun _ _ _ h => h) (Or.inl ⟨by kernel_rfl, ?_⟩) (fun _ => SX) ?_
                rotate_left
                · intro w' hSw; skip; go_simp; try with_reducible rfl
                try simp only [Act.put, List.setIfInBounds_toArray, List.set_cons_zero, List.set_cons_succ]
                refine wpAnyP_ready (rs := [11, 12]) (by kernel_rfl) (by simp) ?_
                refine consP _ rfl ?_ (consP _ rfl ?_ AllReadyP.nil)
                · refine hopAJ 12 rfl rfl rfl 24 rfl #[.slice none 0 0, .slice none 0 0] allocRT fun D12 Vca hD12 lD12 bD => ?_
                  have q12 : wr.heap.size ≤ D12 := Nat.le_trans SX.size lD12
                  have SX : Below wr.heap.size wr Vca := to_call SX bD
                  have HX := HX.later bD
                  clear bD
                  refine ⟨SX, ?_⟩
                  try simp only [Act.put, List.setIfInBounds_toArray, List.set_cons_zero, List.set_cons_succ]
                  refine wpAnyP_ready (rs := [12]) (by kernel_rfl) (by simp) ?_
                  refine consP _ rfl ?_ AllReadyP.nil
                  · refine hopAJ 13 rfl rfl rfl 24 rfl #[.slice none 0 0, .slice none 0 0] allocRT fun D13 Vcab hD13 lD13 bD => ?_
                    have q13 : wr.heap.size ≤ D13 := Nat.le_trans SX.size lD13
                    have SX : Below wr.heap.size wr Vcab := to_call SX bD
                    have hneD : D12 ≠ D13 := by have := blk_lt hD12; omega
                    have hD12 := kept bD hD12
                    have HX := HX.later bD
                    clear bD
                    refine ⟨SX, ?_⟩
                    try simp only [Act.put, List.setIfInBounds_toArray, List.set_cons_zero, List.set_cons_succ]
                    refine wpAnyP_ready (rs := [13]) (by kernel_rfl) (by simp) ?_
                    refine consPs _ rfl (by kernel_rfl) (hopL rfl (wpList_store_row (by rfl) 24 _ _ (by rfl) w w.heap.size D12 #[.slice a1 N N, .slice a2 N N] _ (by kernel_rfl) (by kernel_rfl) hD12 (to_call P2.out.1 SX) (by have := P2.out.1.size; omega) 2 Try.szRT rfl rfl (one_rg _ _ _ _ _ _) fun W5 e5 b5 s5 o5 => ?_)) AllReadyP.nil
                    refine ⟨trivial, ?_⟩
                    try simp only [Act.put, List.setIfInBounds_toArray, List.set_cons_zero, List.set_cons_succ]
                    refine wpAnyP_ready (rs := [14]) (by kernel_rfl) (by simp) ?_
                    refine consPs _ rfl (by kernel_rfl) (hopL rfl (wpList_store_row (by rfl) 24 _ _ (by rfl) w w.heap.size D13 #[.slice a3 N N, .slice a4 N N] _ (by kernel_rfl) (by kernel_rfl) ((o5 D13 (Ne.symm hneD)).trans hD13) b5 (by have := P2.out.1.size; omega) 2 Try.szRT rfl rfl (one_rg _ _ _ _ _ _) fun W6 e6 b6 s6 o6 => ?_)) AllReadyP.nil
                    refine ⟨trivial, ?_⟩
                    try simp only [Act.put, List.setIfInBounds_toArray, List.set_cons_zero, List.set_cons_succ]
                    refine takeP0 14 (i := 15) (v := ?_) rfl rfl (by kernel_rfl) (by kernel_rfl) (by kernel_rfl) rfl (fun _ _ _ h => h) (Or.inl ⟨by kernel_rfl, ?_⟩) (fun h => Bool.noConfusion (h : true = false)) ?_
                    rotate_left
                    · intro w' hSw; skip; go_simp; try with_reducible rfl
                    try simp only [Act.put, List.setIfInBounds_toArray, List.set_cons_zero, List.set_cons_succ]
                    refine wpAnyP_done (by kernel_rfl) ?_ _
                    refine NoPanic.normal ?_
                    try simp only [Act.put, List.setIfInBounds_toArray, List.set_cons_zero, List.set_cons_succ]
                    have hpw : P9 < wr.heap.size := blk_lt P2.out.2.v
                    exact key D12 D13 a1 a2 a3 a4 N W6 ⟨b6, ((P2.out.2.later SX).stored hD12 (by omega) o5).stored ((o5 D13 (Ne.symm hneD)).trans hD13) (by omega) o6, (o6 D12 hneD).trans e5, e6, (HX.stored hD12 o5).stored ((o5 D13 (Ne.symm hneD)).trans hD13) o6, by omega, by omega⟩
                · refine hopAJ 13 rfl rfl rfl 24 rfl #[.slice none 0 0, .slice none 0 0] allocRT fun D13 Vcb hD13 lD13 bD => ?_
                  have q13 : wr.heap.size ≤ D13 := Nat.le_trans SX.size lD13
                  have SX : Below wr.heap.size wr Vcb := to_call SX bD
                  have HX := HX.later bD
                  clear bD
                  refine ⟨SX, ?_⟩
                  try simp only [Act.put, List.setIfInBounds_toArray, List.set_cons_zero, List.set_cons_succ]
                  refine wpAnyP_ready (rs := [11]) (by kernel_rfl) (by simp) ?_
                  refine consP _ rfl ?_ AllReadyP.nil
                  · refine hopAJ 12 rfl rfl rfl 24 rfl #[.slice none 0 0, .slice none 0 0] allocRT fun D12 Vcba hD12 lD12 bD => ?_
                    have q12 : wr.heap.size ≤ D12 := Nat.le_trans SX.size lD12
                    have SX : Below wr.heap.size wr Vcba := to_call SX bD
                    have hneD : D12 ≠ D13 := by have := blk_lt hD13; omega
                    have hD13 := kept bD hD13
                    have HX := HX.later bD
                    clear bD
                    refine ⟨SX, ?_⟩
                    try simp only [Act.put, List.setIfInBounds_toArray, List.set_cons_zero, List.set_cons_succ]
                    refine wpAnyP_ready (rs := [13]) (by kernel_rfl) (by simp) ?_
                    refine consPs _ rfl (by kernel_rfl) (hopL rfl (wpList_store_row (by rfl) 24 _ _ (by rfl) w w.heap.size D12 #[.slice a1 N N, .slice a2 N N] _ (by kernel_rfl) (by kernel_rfl) hD12 (to_call P2.out.1 SX) (by have := P2.out.1.size; omega) 2 Try.szRT rfl rfl (one_rg _ _ _ _ _ _) fun W5 e5 b5 s5 o5 => ?_)) AllReadyP.nil
                    refine ⟨trivial, ?_⟩
                    try simp only [Act.put, List.setIfInBounds_toArray, List.set_cons_zero, List.set_cons_succ]
                    refine wpAnyP_ready (rs := [14]) (by kernel_rfl) (by simp) ?_
                    refine consPs _ rfl (by kernel_rfl) (hopL rfl (wpList_store_row (by rfl) 24 _ _ (by rfl) w w.heap.size D13 #[.slice a3 N N, .slice a4 N N] _ (by kernel_rfl) (by kernel_rfl) ((o5 D13 (Ne.symm hneD)).trans hD13) b5 (by have := P2.out.1.size; omega) 2 Try.szRT rfl rfl (one_rg _ _ _ _ _ _) fun W6 e6 b6 s6 o6 => ?_)) AllReadyP.nil
                    refine ⟨trivial, ?_⟩
                    try simp only [Act.put, List.setIfInBounds_toArray, List.set_cons_zero, List.set_cons_succ]
                    refine takeP0 14 (i := 15) (v := ?_) rfl rfl (by kernel_rfl) (by kernel_rfl) (by kernel_rfl) rfl (fun _ _ _ h => h) (Or.inl ⟨by kernel_rfl, ?_⟩) (fun h => Bool.noConfusion (h : true = false)) ?_
                    rotate_left
                    · intro w' hSw; skip; go_simp; try with_reducible rfl
                    try simp only [Act.put, List.setIfInBounds_toArray, List.set_cons_zero, List.set_cons_succ]
                    refine wpAnyP_done (by kernel_rfl) ?_ _
                    refine NoPanic.normal ?_
                    try simp only [Act.put, List.setIfInBounds_toArray, List.set_cons_zero, List.set_cons_succ]
                    have hpw : P9 < wr.heap.size := blk_lt P2.out.2.v
                    exact key D12 D13 a1 a2 a3 a4 N W6 ⟨b6, ((P2.out.2.later SX).stored hD12 (by omega) o5).stored ((o5 D13 (Ne.symm hneD)).trans hD13) (by omega) o6, (o6 D12 hneD).trans e5, e6, (HX.stored hD12 o5).stored ((o5 D13 (Ne.symm hneD)).trans hD13) o6, by omega, by omega⟩
              · refine hopAJ 12 rfl rfl rfl 24 rfl #[.slice none 0 0, .slice none 0 0] allocRT fun D12 Va hD12 lD12 bD => ?_
                have q12 : wr.heap.size ≤ D12 := Nat.le_trans SX.size lD12
                have SX : Below wr.heap.size wr Va := to_call SX bD
                clear bD
                refine ⟨SX, ?_⟩
                try simp only [Act.put, List.setIfInBounds_toArray, List.set_cons_zero, List.set_cons_succ]
                refine wpAnyP_ready (rs := [6, 12]) (by kernel_rfl) (by simp) ?_
                refine consP _ rfl ?_ (consP _ rfl ?_ AllReadyP.nil)
                · refine hopCd 51 rfl (by kernel_rfl) rfl (by kernel_rfl) (Calls.mono (halveU _ _ n n n n ls bs sy _ (P2.out.2.rl.later SX) (P2.out.2.ra.later SX)) ?_)
                  rintro e Vac ⟨⟨a1, a2, a3, a4, N, rfl, HX⟩, bb⟩
                  have HX := HX.mono (Nat.le_trans P2.out.1.size SX.size)
                  have SX : Below wr.heap.size wr Vac := to_call SX bb
                  have hD12 := kept bb hD12
                  clear bb
                  refine ⟨_, rfl, SX, ?_⟩
                  try simp only [Act.put, List.setIfInBounds_toArray, List.set_cons_zero, List.set_cons_succ]
                  refine takeP 44 (i := 7) (v := ?_) rfl rfl (by kernel_rfl) (by kernel_rfl) (by kernel_rfl) (by kernel_rfl) rfl (by kernel_rfl) (fun _ _ _ h => h) (Or.inl ⟨by kernel_rfl, ?_⟩) SX ?_
                  rotate_left
                  · intro w' hSw; skip; go_simp; try with_reducible rfl
                  try simp only [Act.put, List.setIfInBounds_toArray, List.set_cons_zero, List.set_cons_succ]
                  refine takeP 52 (i := 8) (v := ?_) rfl rfl (by kernel_rfl) (by kernel_rfl) (by kernel_rfl) (by kernel_rfl) rfl (by kernel_rfl) (fun _ _ _ h => h) (Or.inl ⟨by kernel_rfl, ?_⟩) SX ?_
                  rotate_left
                  · intro w' hSw; skip; go_simp; try with_reducible rfl
                  try simp only [Act.put, List.setIfInBounds_toArray, List.set_cons_zero, List.set_cons_succ]
                  refine takeP0 53 (i := 9) (v := ?_) rfl rfl (by kernel_rfl) (by kernel_rfl) (by kernel_rfl) rfl (fun _ _ _ h => h) (Or.inl ⟨by kernel_rfl, ?_⟩) (fun _ => SX) ?_
                  rotate_left
                  · intro w' hSw; skip; go_simp; try with_reducible rfl
                  try simp only [Act.put, List.setIfInBounds_toArray, List.set_cons_zero, List.set_cons_succ]
                  refine takeP0 54 (i := 10) (v := ?_) rfl rfl (by kernel_rfl) (by kernel_rfl) (by kernel_rfl) rfl (fun _ _ _ h => h) (Or.inl ⟨by kernel_rfl, ?_⟩) (fun _ => SX) ?_
                  rotate_left
                  · intro w' hSw; skip; go_simp; try with_reducible rfl
                  try simp only [Act.put, List.setIfInBounds_toArray, List.set_cons_zero, List.set_cons_succ]
                  refine wpAnyP_ready (rs := [12]) (by kernel_rfl) (by simp) ?_
                  refine consP _ rfl ?_ AllReadyP.nil
                  · refine hopAJ 13 rfl rfl rfl 24 rfl #[.slice none 0 0, .slice none 0 0] allocRT fun D13 Vacb hD13 lD13 bD => ?_
                    have q13 : wr.heap.size ≤ D13 := Nat.le_trans SX.size lD13
                    have SX : Below wr.heap.size wr Vacb := to_call SX bD
                    have hneD : D12 ≠ D13 := by have := blk_lt hD12; omega
                    have hD12 := kept bD hD12
                    have HX := HX.later bD
                    clear bD
                    refine ⟨SX, ?_⟩
                    try simp only [Act.put, List.setIfInBounds_toArray, List.set_cons_zero, List.set_cons_succ]
                    refine wpAnyP_ready (rs := [13]) (by kernel_rfl) (by simp) ?_
                    refine consPs _ rfl (by kernel_rfl) (hopL rfl (wpList_store_row (by rfl) 24 _ _ (by rfl) w w.heap.size D12 #[.slice a1 N N, .slice a2 N N] _ (by kernel_rfl) (by kernel_rfl) hD12 (to_call P2.out.1 SX) (by have := P2.out.1.size; omega) 2 Try.szRT rfl rfl (one_rg _ _ _ _ _ _) fun W5 e5 b5 s5 o5 => ?_)) AllReadyP.nil
                    refine ⟨trivial, ?_⟩
                    try simp only [Act.put, List.setIfInBounds_toArray, List.set_cons_zero, List.set_cons_succ]
                    refine wpAnyP_ready (rs := [14]) (by kernel_rfl) (by simp) ?_
                    refine consPs _ rfl (by kernel_rfl) (hopL rfl (wpList_store_row (by rfl) 24 _ _ (by rfl) w w.heap.size D13 #[.slice a3 N N, .slice a4 N N] _ (by kernel_rfl) (by kernel_rfl) ((o5 D13 (Ne.symm hneD)).trans hD13) b5 (by have := P2.out.1.size; omega) 2 Try.szRT rfl rfl (one_rg _ _ _ _ _ _) fun W6 e6 b6 s6 o6 => ?_)) AllReadyP.nil
                    refine ⟨trivial, ?_⟩
                    try simp only [Act.put, List.setIfInBounds_toArray, List.set_cons_zero, List.set_cons_succ]
                    refine takeP0 14 (i := 15) (v := ?_) rfl rfl (by kernel_rfl) (by kernel_rfl) (by kernel_rfl) rfl (fun _ _ _ h => h) (Or.inl ⟨by kernel_rfl, ?_⟩) (fun h => Bool.noConfusion (h : true = false)) ?_
                    rotate_left
                    · intro w' hSw; skip; go_simp; try with_reducible rfl
                    try simp only [Act.put, List.setIfInBounds_toArray, List.set_cons_zero, List.set_cons_succ]
                    refine wpAnyP_done (by kernel_rfl) ?_ _
                    refine NoPanic.normal ?_
                    try simp only [Act.put, List.setIfInBounds_toArray, List.set_cons_zero, List.set_cons_succ]
                    have hpw : P9 < wr.heap.size := blk_lt P2.out.2.v
                    exact key D12 D13 a1 a2 a3 a4 N W6 ⟨b6, ((P2.out.2.later SX).stored hD12 (by omega) o5).stored ((o5 D13 (Ne.symm hneD)).trans hD13) (by omega) o6, (o6 D12 hneD).trans e5, e6, (HX.stored hD12 o5).stored ((o5 D13 (Ne.symm hneD)).trans hD13) o6, by omega, by omega⟩
                · refine hopAJ 13 rfl rfl rfl 24 rfl #[.slice none 0 0, .slice none 0 0] allocRT fun D13 Vab hD13 lD13 bD => ?_
                  have q13 : wr.heap.size ≤ D13 := Nat.le_trans SX.size lD13
                  have SX : Below wr.heap.size wr Vab := to_call SX bD
                  have hneD : D12 ≠ D13 := by have := blk_lt hD12; omega
                  have hD12 := kept bD hD12
                  clear bD
                  refine ⟨SX, ?_⟩
                  try simp only [Act.put, List.setIfInBounds_toArray, List.set_cons_zero, List.set_cons_succ]
                  refine wpAnyP_ready (rs := [6]) (by kernel_rfl) (by simp) ?_
                  refine consP _ rfl ?_ AllReadyP.nil
                  · refine hopCd 51 rfl (by kernel_rfl) rfl (by kernel_rfl) (Calls.mono (halveU _ _ n n n n ls bs sy _ (P2.out.2.rl.later SX) (P2.out.2.ra.later SX)) ?_)
                    rintro e Vabc ⟨⟨a1, a2, a3, a4, N, rfl, HX⟩, bb⟩
                    have HX := HX.mono (Nat.le_trans P2.out.1.size SX.size)
                    have SX : Below wr.heap.size wr Vabc := to_call SX bb
                    have hD12 := kept bb hD12
                    have hD13 := kept bb hD13
                    clear bb
                    refine ⟨_, rfl, SX, ?_⟩
                    try simp only [Act.put, List.setIfInBounds_toArray, List.set_cons_zero, List.set_cons_succ]
                    refine takeP 44 (i := 7) (v := ?_) rfl rfl (by kernel_rfl) (by kernel_rfl) (by kernel_rfl) (by kernel_rfl) rfl (by kernel_rfl) (fun _ _ _ h => h) (Or.inl ⟨by kernel_rfl, ?_⟩) SX ?_
                    rotate_left
                    · intro w' hSw; skip; go_simp; try with_reducible rfl
                    try simp only [Act.put, List.setIfInBounds_toArray, List.set_cons_zero, List.set_cons_succ]
                    refine takeP 52 (i := 8) (v := ?_) rfl rfl (by kernel_rfl) (by kernel_rfl) (by kernel_rfl) (by kernel_rfl) rfl (by kernel_rfl) (fun _ _ _ h => h) (Or.inl ⟨by kernel_rfl, ?_⟩) SX ?_
                    rotate_left
                    · intro w' hSw; skip; go_simp; try with_reducible rfl
                    try simp only [Act.put, List.setIfInBounds_toArray, List.set_cons_zero, List.set_cons_succ]
                    refine takeP0 53 (i := 9) (v := ?_) rfl rfl (by kernel_rfl) (by kernel_rfl) (by kernel_rfl) rfl (fun _ _ _ h => h) (Or.inl ⟨by kernel_rfl, ?_⟩) (fun _ => SX) ?_
                    rotate_left
                    · intro w' hSw; skip; go_simp; try with_reducible rfl
                    try simp only [Act.put, List.setIfInBounds_toArray, List.set_cons_zero, List.set_cons_succ]
                    refine takeP0 54 (i := 10) (v := ?_) rfl rfl (by kernel_rfl) (by kernel_rfl) (by kernel_rfl) rfl (fun _ _ _ h => h) (Or.inl ⟨by kernel_rfl, ?_⟩) (fun _ => SX) ?_
                    rotate_left
                    · intro w' hSw; skip; go_simp; try with_reducible rfl
                    try simp only [Act.put, List.setIfInBounds_toArray, List.set_cons_zero, List.set_cons_succ]
                    refine wpAnyP_ready (rs := [13]) (by kernel_rfl) (by simp) ?_
                    refine consPs _ rfl (by kernel_rfl) (hopL rfl (wpList_store_row (by rfl) 24 _ _ (by rfl) w w.heap.size D12 #[.slice a1 N N, .slice a2 N N] _ (by kernel_rfl) (by kernel_rfl) hD12 (to_call P2.out.1 SX) (by have := P2.out.1.size; omega) 2 Try.szRT rfl rfl (one_rg _ _ _ _ _ _) fun W5 e5 b5 s5 o5 => ?_)) AllReadyP.nil
                    refine ⟨trivial, ?_⟩
                    try simp only [Act.put, List.setIfInBounds_toArray, List.set_cons_zero, List.set_cons_succ]
                    refine wpAnyP_ready (rs := [14]) (by kernel_rfl) (by simp) ?_
                    refine consPs _ rfl (by kernel_rfl) (hopL rfl (wpList_store_row (by rfl) 24 _ _ (by rfl) w w.heap.size D13 #[.slice a3 N N, .slice a4 N N] _ (by kernel_rfl) (by kernel_rfl) ((o5 D13 (Ne.symm hneD)).trans hD13) b5 (by have := P2.out.1.size; omega) 2 Try.szRT rfl rfl (one_rg _ _ _ _ _ _) fun W6 e6 b6 s6 o6 => ?_)) AllReadyP.nil
                    refine ⟨trivial, ?_⟩
                    try simp only [Act.put, List.setIfInBounds_toArray, List.set_cons_zero, List.set_cons_succ]
                    refine takeP0 14 (i := 15) (v := ?_) rfl rfl (by kernel_rfl) (by kernel_rfl) (by kernel_rfl) rfl (fun _ _ _ h => h) (Or.inl ⟨by kernel_rfl, ?_⟩) (fun h => Bool.noConfusion (h : true = false)) ?_
                    rotate_left
                    · intro w' hSw; skip; go_simp; try with_reducible rfl
                    try simp only [Act.put, List.setIfInBounds_toArray, List.set_cons_zero, List.set_cons_succ]
                    refine wpAnyP_done (by kernel_rfl) ?_ _
                    refine NoPanic.normal ?_
                    try simp only [Act.put, List.setIfInBounds_toArray, List.set_cons_zero, List.set_cons_succ]
                    have hpw : P9 < wr.heap.size := blk_lt P2.out.2.v
                    exact key D12 D13 a1 a2 a3 a4 N W6 ⟨b6, ((P2.out.2.later SX).stored hD12 (by omega) o5).stored ((o5 D13 (Ne.symm hneD)).trans hD13) (by omega) o6, (o6 D12 hneD).trans e5, e6, (HX.stored hD12 o5).stored ((o5 D13 (Ne.symm hneD)).trans hD13) o6, by omega, by omega⟩
              · refine hopAJ 13 rfl rfl rfl 24 rfl #[.slice none 0 0, .slice none 0 0] allocRT fun D13 Vb hD13 lD13 bD => ?_
                have q13 : wr.heap.size ≤ D13 := Nat.le_trans SX.size lD13
                have SX : Below wr.heap.size wr Vb := to_call SX bD
                clear bD
                refine ⟨SX, ?_⟩
                try simp only [Act.put, List.setIfInBounds_toArray, List.set_cons_zero, List.set_cons_succ]
                refine wpAnyP_ready (rs := [6, 11]) (by kernel_rfl) (by simp) ?_
                refine consP _ rfl ?_ (consP _ rfl ?_ AllReadyP.nil)
                · refine hopCd 51 rfl (by kernel_rfl) rfl (by kernel_rfl) (Calls.mono (halveU _ _ n n n n ls bs sy _ (P2.out.2.rl.later SX) (P2.out.2.ra.later SX)) ?_)
                  rintro e Vbc ⟨⟨a1, a2, a3, a4, N, rfl, HX⟩, bb⟩
                  have HX := HX.mono (Nat.le_trans P2.out.1.size SX.size)
                  have SX : Below wr.heap.size wr Vbc := to_call SX bb
                  have hD13 := kept bb hD13
                  clear bb
                  refine ⟨_, rfl, SX, ?_⟩
                  try simp only [Act.put, List.setIfInBounds_toArray, List.set_cons_zero, List.set_cons_succ]
                  refine takeP 44 (i := 7) (v := ?_) rfl rfl (by kernel_rfl) (by kernel_rfl) (by kernel_rfl) (by kernel_rfl) rfl (by kernel_rfl) (fun _ _ _ h => h) (Or.inl ⟨by kernel_rfl, ?_⟩) SX ?_
                  rotate_left
                  · intro w' hSw; skip; go_simp; try with_reducible rfl
                  try simp only [Act.put, List.setIfInBounds_toArray, List.set_cons_zero, List.set_cons_succ]
                  refine takeP 52 (i := 8) (v := ?_) rfl rfl (by kernel_rfl) (by kernel_rfl) (by kernel_rfl) (by kernel_rfl) rfl (by kernel_rfl) (fun _ _ _ h => h) (Or.inl ⟨by kernel_rfl, ?_⟩) SX ?_
                  rotate_left
                  · intro w' hSw; skip; go_simp; try with_reducible rfl
                  try simp only [Act.put, List.setIfInBounds_toArray, List.set_cons_zero, List.set_cons_succ]
                  refine takeP0 53 (i := 9) (v := ?_) rfl rfl (by kernel_rfl) (by kernel_rfl) (by kernel_rfl) rfl (fun _ _ _ h => h) (Or.inl ⟨by kernel_rfl, ?_⟩) (fun _ => SX) ?_
                  rotate_left
                  · intro w' hSw; skip; go_simp; try with_reducible rfl
                  try simp only [Act.put, List.setIfInBounds_toArray, List.set_cons_zero, List.set_cons_succ]
                  refine takeP0 54 (i := 10) (v := ?_) rfl rfl (by kernel_rfl) (by kernel_rfl) (by kernel_rfl) rfl (fun _ _ _ h => h) (Or.inl ⟨by kernel_rfl, ?_⟩) (fun _ => SX) ?_
                  rotate_left
                  · intro w' hSw; skip; go_simp; try with_reducible rfl
                  try simp only [Act.put, List.setIfInBounds_toArray, List.set_cons_zero, List.set_cons_succ]
                  refine wpAnyP_ready (rs := [11]) (by kernel_rfl) (by simp) ?_
                  refine consP _ rfl ?_ AllReadyP.nil
                  · refine hopAJ 12 rfl rfl rfl 24 rfl #[.slice none 0 0, .slice none 0 0] allocRT fun D12 Vbca hD12 lD12 bD => ?_
                    have q12 : wr.heap.size ≤ D12 := Nat.le_trans SX.size lD12
                    have SX : Below wr.heap.size wr Vbca := to_call SX bD
                    have hneD : D12 ≠ D13 := by have := blk_lt hD13; omega
                    have hD13 := kept bD hD13
                    have HX := HX.later bD
                    clear bD
                    refine ⟨SX, ?_⟩
                    try simp only [Act.put, List.setIfInBounds_toArray, List.set_cons_zero, List.set_cons_succ]
                    refine wpAnyP_ready (rs := [13]) (by kernel_rfl) (by simp) ?_
                    refine consPs _ rfl (by kernel_rfl) (hopL rfl (wpList_store_row (by rfl) 24 _ _ (by rfl) w w.heap.size D12 #[.slice a1 N N, .slice a2 N N] _ (by kernel_rfl) (by kernel_rfl) hD12 (to_call P2.out.1 SX) (by have := P2.out.1.size; omega) 2 Try.szRT rfl rfl (one_rg _ _ _ _ _ _) fun W5 e5 b5 s5 o5 => ?_)) AllReadyP.nil
                    refine ⟨trivial, ?_⟩
                    try simp only [Act.put, List.setIfInBounds_toArray, List.set_cons_zero, List.set_cons_succ]
                    refine wpAnyP_ready (rs := [14]) (by kernel_rfl) (by simp) ?_
                    refine consPs _ rfl (by kernel_rfl) (hopL rfl (wpList_store_row (by rfl) 24 _ _ (by rfl) w w.heap.size D13 #[.slice a3 N N, .slice a4 N N] _ (by kernel_rfl) (by kernel_rfl) ((o5 D13 (Ne.symm hneD)).trans hD13) b5 (by have := P2.out.1.size; omega) 2 Try.szRT rfl rfl (one_rg _ _ _ _ _ _) fun W6 e6 b6 s6 o6 => ?_)) AllReadyP.nil
                    refine ⟨trivial, ?_⟩
                    try simp only [Act.put, List.setIfInBounds_toArray, List.set_cons_zero, List.set_cons_succ]
                    refine takeP0 14 (i := 15) (v := ?_) rfl rfl (by kernel_rfl) (by kernel_rfl) (by kernel_rfl) rfl (fun _ _ _ h => h) (Or.inl ⟨by kernel_rfl, ?_⟩) (fun h => Bool.noConfusion (h : true = false)) ?_
                    rotate_left
                    · intro w' hSw; skip; go_simp; try with_reducible rfl
                    try simp only [Act.put, List.setIfInBounds_toArray, List.set_cons_zero, List.set_cons_succ]
                    refine wpAnyP_done (by kernel_rfl) ?_ _
                    refine NoPanic.normal ?_
                    try simp only [Act.put, List.setIfInBounds_toArray, List.set_cons_zero, List.set_cons_succ]
                    have hpw : P9 < wr.heap.size := blk_lt P2.out.2.v
                    exact key D12 D13 a1 a2 a3 a4 N W6 ⟨b6, ((P2.out.2.later SX).stored hD12 (by omega) o5).stored ((o5 D13 (Ne.symm hneD)).trans hD13) (by omega) o6, (o6 D12 hneD).trans e5, e6, (HX.stored hD12 o5).stored ((o5 D13 (Ne.symm hneD)).trans hD13) o6, by omega, by omega⟩
                · refine hopAJ 12 rfl rfl rfl 24 rfl #[.slice none 0 0, .slice none 0 0] allocRT fun D12 Vba hD12 lD12 bD => ?_
                  have q12 : wr.heap.size ≤ D12 := Nat.le_trans SX.size lD12
                  have SX : Below wr.heap.size wr Vba := to_call SX bD
                  have hneD : D12 ≠ D13 := by have := blk_lt hD13; omega
                  have hD13 := kept bD hD13
                  clear bD
                  refine ⟨SX, ?_⟩
                  try simp only [Act.put, List.setIfInBounds_toArray, List.set_cons_zero, List.set_cons_succ]
                  refine wpAnyP_ready (rs := [6]) (by kernel_rfl) (by simp) ?_
                  refine consP _ rfl ?_ AllReadyP.nil
                  · refine hopCd 51 rfl (by kernel_rfl) rfl (by kernel_rfl) (Calls.mono (halveU _ _ n n n n ls bs sy _ (P2.out.2.rl.later SX) (P2.out.2.ra.later SX)) ?_)
                    rintro e Vbac ⟨⟨a1, a2, a3, a4, N, rfl, HX⟩, bb⟩
                    have HX := HX.mono (Nat.le_trans P2.out.1.size SX.size)
                    have SX : Below wr.heap.size wr Vbac := to_call SX bb
                    have hD13 := kept bb hD13
                    have hD12 := kept bb hD12
                    clear bb
                    refine ⟨_, rfl, SX, ?_⟩
                    try simp only [Act.put, List.setIfInBounds_toArray, List.set_cons_zero, List.set_cons_succ]
                    refine takeP 44 (i := 7) (v := ?_) rfl rfl (by kernel_rfl) (by kernel_rfl) (by kernel_rfl) (by kernel_rfl) rfl (by kernel_rfl) (fun _ _ _ h => h) (Or.inl ⟨by kernel_rfl, ?_⟩) SX ?_
                    rotate_left
                    · intro w' hSw; skip; go_simp; try with_reducible rfl
                    try simp only [Act.put, List.setIfInBounds_toArray, List.set_cons_zero, List.set_cons_succ]
                    refine takeP 52 (i := 8) (v := ?_) rfl rfl (by kernel_rfl) (by kernel_rfl) (by kernel_rfl) (by kernel_rfl) rfl (by kernel_rfl) (fun _ _ _ h => h) (Or.inl ⟨by kernel_rfl, ?_⟩) SX ?_
                    rotate_left
                    · intro w' hSw; skip; go_simp; try with_reducible rfl
                    try simp only [Act.put, List.setIfInBounds_toArray, List.set_cons_zero, List.set_cons_succ]
                    refine takeP0 53 (i := 9) (v := ?_) rfl rfl (by kernel_rfl) (by kernel_rfl) (by kernel_rfl) rfl (fun _ _ _ h => h) (Or.inl ⟨by kernel_rfl, ?_⟩) (fun _ => SX) ?_
                    rotate_left
                    · intro w' hSw; skip; go_simp; try with_reducible rfl
                    try simp only [Act.put, List.setIfInBounds_toArray, List.set_cons_zero, List.set_cons_succ]
                    refine takeP0 54 (i := 10) (v := ?_) rfl rfl (by kernel_rfl) (by kernel_rfl) (by kernel_rfl) rfl (fun _ _ _ h => h) (Or.inl ⟨by kernel_rfl, ?_⟩) (fun _ => SX) ?_
                    rotate_left
                    · intro w' hSw; skip; go_simp; try with_reducible rfl
                    try simp only [Act.put, List.setIfInBounds_toArray, List.set_cons_zero, List.set_cons_succ]
                    refine wpAnyP_ready (rs := [13]) (by kernel_rfl) (by simp) ?_
                    refine consPs _ rfl (by kernel_rfl) (hopL rfl (wpList_store_row (by rfl) 24 _ _ (by rfl) w w.heap.size D12 #[.slice a1 N N, .slice a2 N N] _ (by kernel_rfl) (by kernel_rfl) hD12 (to_call P2.out.1 SX) (by have := P2.out.1.size; omega) 2 Try.szRT rfl rfl (one_rg _ _ _ _ _ _) fun W5 e5 b5 s5 o5 => ?_)) AllReadyP.nil
                    refine ⟨trivial, ?_⟩
                    try simp only [Act.put, List.setIfInBounds_toArray, List.set_cons_zero, List.set_cons_succ]
                    refine wpAnyP_ready (rs := [14]) (by kernel_rfl) (by simp) ?_
                    refine consPs _ rfl (by kernel_rfl) (hopL rfl (wpList_store_row (by rfl) 24 _ _ (by rfl) w w.heap.size D13 #[.slice a3 N N, .slice a4 N N] _ (by kernel_rfl) (by kernel_rfl) ((o5 D13 (Ne.symm hneD)).trans hD13) b5 (by have := P2.out.1.size; omega) 2 Try.szRT rfl rfl (one_rg _ _ _ _ _ _) fun W6 e6 b6 s6 o6 => ?_)) AllReadyP.nil
                    refine ⟨trivial, ?_⟩
                    try simp only [Act.put, List.setIfInBounds_toArray, List.set_cons_zero, List.set_cons_succ]
                    refine takeP0 14 (i := 15) (v := ?_) rfl rfl (by kernel_rfl) (by kernel_rfl) (by kernel_rfl) rfl (fun _ _ _ h => h) (Or.inl ⟨by kernel_rfl, ?_⟩) (fun h => Bool.noConfusion (h : true = false)) ?_
                    rotate_left
                    · intro w' hSw; skip; go_simp; try with_reducible rfl
                    try simp only [Act.put, List.setIfInBounds_toArray, List.set_cons_zero, List.set_cons_succ]
                    refine wpAnyP_done (by kernel_rfl) ?_ _
                    refine NoPanic.normal ?_
                    try simp only [Act.put, List.setIfInBounds_toArray, List.set_cons_zero, List.set_cons_succ]
                    have hpw : P9 < wr.heap.size := blk_lt P2.out.2.v
                    exact key D12 D13 a1 a2 a3 a4 N W6 ⟨b6, ((P2.out.2.later SX).stored hD12 (by omega) o5).stored ((o5 D13 (Ne.symm hneD)).trans hD13) (by omega) o6, (o6 D12 hneD).trans e5, e6, (HX.stored hD12 o5).stored ((o5 D13 (Ne.symm hneD)).trans hD13) o6, by omega, by omega⟩
            case pf =>
              intro b12 b13 a1 a2 a3 a4 N W PF
              have CU : W.cell? ⟨tb, tf + j * 2 + 1, none⟩ = some (.bool up) := by
                rcases (HT.out _ PF.out.1).cells with h0 | ⟨tb', tf', htt, hct⟩
                · omega
                injection htt with htt
                injection htt with e1 e2
                subst e1 e2
                have h3 := (hct j ht1).2
                rcases (HT.out _ P2.out.1).cells with h0 | ⟨tb', tf', htt, hct2⟩
                · omega
                injection htt with htt
                injection htt with e1 e2
                subst e1 e2
                have h4 := (hct2 j ht1).2
                rw [CT1.out] at h4
                injection h4 with h4
                injection h4 with h4
                rw [h4]
                exact h3
              obtain ⟨er, her⟩ : ∃ er, HvE ls bs n sy = er := ⟨_, rfl⟩
              have HER : Hid (HvE ls bs n sy = er) := her
              rw [her]
              clear her CT0 CT1 HBW P2
              by_cases he : er = 0
              · subst he
                obtain ⟨rfl, D1, D2, C1, C2, rfl, rfl, rfl, rfl, r1, r2, -⟩ := PF.out.2.2.2.2.1.ok HER.out
                obtain ⟨hrg, s0, sN, s8⟩ := HvE_zero HER.out
                have hlen := PF.out.2.1.len
                have k1 := regB_half hrg (s := sy.toNat) (by omega) s8 0 (.inl rfl)
                have k2 := regB_half hrg (s := sy.toNat) (by omega) s8 1 (.inr rfl)
                rw [Int.add_zero] at k1
                have HRR : Hid (RgO W w.heap.size D1 D2 (ls.set sy.toNat (ls[sy.toNat]?.getD 0 + 1)) (bs.set sy.toNat (2 * bs[sy.toNat]?.getD 0)) ∧ RgO W w.heap.size C1 C2 (ls.set sy.toNat (ls[sy.toNat]?.getD 0 + 1)) (bs.set sy.toNat (2 * bs[sy.toNat]?.getD 0 + 1)) ∧ regB (ls.set sy.toNat (ls[sy.toNat]?.getD 0 + 1)) (bs.set sy.toNat (2 * bs[sy.toNat]?.getD 0)) N = true ∧ regB (ls.set sy.toNat (ls[sy.toNat]?.getD 0 + 1)) (bs.set sy.toNat (2 * bs[sy.toNat]?.getD 0 + 1)) N = true) := ⟨r1, r2, k1, k2⟩
                clear r1 r2 k1 k2 hrg s0 sN s8 hlen HER
                cases up with
                | true =>
                  go_wp2_with (first | (refine wpList_load_row (by rfl) 24 _ (by rfl) b13 #[.slice (some ⟨C1, 0, none⟩) N N, .slice (some ⟨C2, 0, none⟩) N N] (by rfl) PF.out.2.2.2.1 _ Try.underlying24 rfl 2 Try.szRT (by rfl) ?_) | (refine wpList_store_row (by rfl) 24 _ _ (by rfl) w w.heap.size P9 #[.slice (some ⟨C1, 0, none⟩) N N, .slice (some ⟨C2, 0, none⟩) N N] _ (by rfl) (by rfl) PF.out.2.1.v PF.out.1 (by omega) 2 Try.szRT rfl rfl (one_rg _ _ _ _ _ _) ?_; intro W7 e7 b7 s7 o7))
                  have P6 : Hid (∃ B1 B2 ls bs, (Below w.heap.size w W7 ∧ RgV W7 w.heap.size P9 N B1 B2 ls bs)) := ⟨C1, C2, _, _, b7, e7, HRR.out.2.1.stored PF.out.2.1.v o7, HRR.out.2.2.2⟩
                  clear PF HRR CU e7 b7 s7 o7
                  go_roundg q
                  case measure => omega
                  case rel => exact ⟨j + 1, by go_num, by have := HIG.out; omega, P6⟩
                | false =>
                  go_wp2_with (first | (refine wpList_load_row (by rfl) 24 _ (by rfl) b12 #[.slice (some ⟨D1, 0, none⟩) N N, .slice (some ⟨D2, 0, none⟩) N N] (by rfl) PF.out.2.2.1 _ Try.underlying24 rfl 2 Try.szRT (by rfl) ?_) | (refine wpList_store_row (by rfl) 24 _ _ (by rfl) w w.heap.size P9 #[.slice (some ⟨D1, 0, none⟩) N N, .slice (some ⟨D2, 0, none⟩) N N] _ (by rfl) (by rfl) PF.out.2.1.v PF.out.1 (by omega) 2 Try.szRT rfl rfl (one_rg _ _ _ _ _ _) ?_; intro W7 e7 b7 s7 o7))
                  have P6 : Hid (∃ B1 B2 ls bs, (Below w.heap.size w W7 ∧ RgV W7 w.heap.size P9 N B1 B2 ls bs)) := ⟨D1, D2, _, _, b7, e7, HRR.out.1.stored PF.out.2.1.v o7, HRR.out.2.2.1⟩
                  clear PF HRR CU e7 b7 s7 o7
                  go_roundg q
                  case measure => omega
                  case rel => exact ⟨j + 1, by go_num, by have := HIG.out; omega, P6⟩
              · have hne : (er == 0) = false := by simpa using he
                have P6 : Hid (∃ B1 B2 ls bs, (Below w.heap.size w W ∧ RgV W w.heap.size P9 n B1 B2 ls bs)) := ⟨B1, B2, ls, bs, PF.out.1, PF.out.2.1⟩
                clear PF CU HER he
                go_wp2_with fail
                go_roundg q
                case measure => omega
                case rel => exact ⟨j + 1, by go_num, by have := HIG.out; omega, P6⟩
          · have e2 : decide ((j : Int) < 40) = false := decide_eq_false (by omega)
            have e3 : decide (j < 40) = false := decide_eq_false ht2
            clear hj ht2
            go_wp2_with (first | (refine wpList_load_row (by rfl) 24 _ (by rfl) P9 #[.slice (some ⟨B1, 0, none⟩) n n, .slice (some ⟨B2, 0, none⟩) n n] (by rfl) P2.out.2.v _ Try.underlying24 rfl 2 Try.szRT (by rfl) ?_))
            refine Calls.mono (ends_any _ _ so n n n n sn sc ls bs ss DI _ P2.out.2.rl P2.out.2.ra (HS.out _ P2.out.1)) ?_
            rintro e' x1 ⟨⟨v, rfl, hx1, hx2⟩, bx1⟩
            have Q1 : Hid (Below w.heap.size w x1 ∧ RgV x1 w.heap.size P9 n B1 B2 ls bs) := ⟨to_call P2.out.1 bx1, P2.out.2.later bx1⟩
            have HX1 : Hid ((EnE ls bs ss n sn DI = 0 → ∃ B, v = .slice (some ⟨B, 0, none⟩) n n ∧ wr.heap.size ≤ B ∧ x1.heap[B]? = some (.cells (inC (enL (ls.zip bs) ss DI.toNat)) 3)) ∧ (EnE ls bs ss n sn DI ≠ 0 → v = .slice none 0 0)) := ⟨hx1, hx2⟩
            clear hx1 hx2 bx1 P2
            obtain ⟨er, her⟩ : ∃ er, EnE ls bs ss n sn DI = er := ⟨_, rfl⟩
            have HER : Hid (EnE ls bs ss n sn DI = er) := her
            rw [her]
            clear her
            by_cases he : er = 0
            · subst he
              obtain ⟨EB, rfl, -, hEB⟩ := HX1.out.1 HER.out
              obtain ⟨hrg, hsn, hmb⟩ := EnE_zero HER.out
              subst hsn
              obtain ⟨D0, D8, -⟩ := mayB_at hmb
              obtain ⟨D, rfl⟩ : ∃ D : Nat, DI = D := ⟨DI.toNat, by omega⟩
              have hD8 : D ≤ 8 := by omega
              rw [Int.toNat_natCast] at hEB
              have HEB : Hid (x1.heap[EB]? = some (.cells (inC (enL (ls.zip bs) ss D)) 3)) := hEB
              have HMB : Hid (regB ls bs sn = true ∧ mayB (ls.zip bs) ss D = true) := ⟨hrg, hmb⟩
              clear hEB hrg hmb HX1 HER
              go_wp2_with (first | (refine wpList_load_row (by rfl) 24 _ (by rfl) P9 #[.slice (some ⟨B1, 0, none⟩) sn sn, .slice (some ⟨B2, 0, none⟩) sn sn] (by rfl) Q1.out.2.v _ Try.underlying24 rfl 2 Try.szRT (by rfl) ?_))
              refine Calls.mono (ends_any _ _ so sn sn sn sn sn sc ls bs ss 8 _ Q1.out.2.rl Q1.out.2.ra (HS.out _ Q1.out.1)) ?_
              rintro e' x2 ⟨⟨v, rfl, hx1, -⟩, bx2⟩
              have he8 : EnE ls bs ss sn sn 8 = 0 := EnE_ok HMB.out.1 rfl (mayB_deep HMB.out.2)
              obtain ⟨MB, rfl, -, hMB⟩ := hx1 he8
              rw [he8]
              have Q2 : Hid (Below w.heap.size w x2 ∧ RgV x2 w.heap.size P9 sn B1 B2 ls bs ∧ x2.heap[EB]? = some (.cells (inC (enL (ls.zip bs) ss D)) 3) ∧ x2.heap[MB]? = some (.cells (inC (enL (ls.zip bs) ss 8)) 3)) := ⟨to_call Q1.out.1 bx2, Q1.out.2.later bx2, kept bx2 HEB.out, hMB⟩
              have hzl := (zip_low HMB.out.1).1
              have HWI : Hid (Calls Try.prog 22 #[.agg #[.slice (some ⟨B1, 0, none⟩) sn sn, .slice (some ⟨B2, 0, none⟩) sn sn], .slice (some ⟨EB, 0, none⟩) sn sn, .int .i64 (D : Int)] x2 fun e w' => e = .returned (.bool true) ∧ Below x2.heap.size x2 w') := by
                have h := within_any _ _ (some ⟨EB, 0, none⟩) sn sn sn sn sn sn ls bs (enL (ls.zip bs) ss D) D x2 Q2.out.2.1.rl Q2.out.2.1.ra (by have h := inC_rd Q2.out.2.2.1 (Nat.le_trans (m := 256) (by rw [enL_len, hzl]; omega) (by decide)); rw [enL_len, hzl] at h; exact h)
                have hw : WiV ls bs (enL (ls.zip bs) ss D) sn sn D = true := by
                  unfold WiV
                  rw [HMB.out.1, decide_eq_true rfl, decide_eq_true (p := (0 : Int) ≤ D) (by omega), decide_eq_true (p := (D : Int) ≤ 62) (by omega), Int.toNat_natCast, wiB_ends HMB.out.2 (fun i hi => ((zip_low HMB.out.1).2 i hi).1)]
                  rfl
                rw [hw] at h
                exact h
              have f1 : decide ((D : Int) < 0) = false := decide_eq_false (by omega)
              have f2 : decide ((D : Int) > 8) = false := decide_eq_false (by omega)
              have f3 : ((sn : Int) != (sn : Int)) = false := by simp
              clear hMB hx1 he8 bx2 Q1 HEB
              go_wp2_with (first | (refine wpList_load_rowG (by rfl) 24 _ (by rfl) P9 #[.slice (some ⟨B1, 0, none⟩) sn sn, .slice (some ⟨B2, 0, none⟩) sn sn] (by rfl) Q2.out.2.1.v _ Try.underlying24 rfl 2 Try.szRT (by rfl) ?_))
              refine Calls.mono HWI.out ?_
              rintro e' x3 ⟨rfl, bx3⟩
              have Q3 : Hid (Below w.heap.size w x3 ∧ x3.heap[EB]? = some (.cells (inC (enL (ls.zip bs) ss D)) 3) ∧ x3.heap[MB]? = some (.cells (inC (enL (ls.zip bs) ss 8)) 3)) := ⟨to_call Q2.out.1 bx3, kept bx3 Q2.out.2.2.1, kept bx3 Q2.out.2.2.2⟩
              clear Q2 HWI bx3
              go_wp2_with fail
              clear f1 f2 f3
              go_loopg [19] sn (fun g iv wx => ∃ j : Nat, iv = .int .i64 j ∧ j + g = sn ∧ Hid (Below w.heap.size w wx ∧ wx.heap[EB]? = some (.cells (inC (enL (ls.zip bs) ss D)) 3) ∧ wx.heap[MB]? = some (.cells (inC (enL (ls.zip bs) ss 8)) 3)))
              case atStart => exact ⟨0, rfl, by omega, Q3⟩
              case round =>
                clear Q3
                obtain ⟨j, rfl, hj, Q3⟩ := hrel
                by_cases hlt : j < sn
                · have e1 : decide ((j : Int) < (sn : Int)) = true := decide_eq_true (by omega)
                  obtain ⟨q, rfl⟩ : ∃ q, gk = q + 1 := ⟨gk - 1, by omega⟩
                  have HIG : Hid (j + (q + 1) = sn) := hj
                  have hlt' : (j : Int) < (sn : Int) := by omega
                  have c1 := cellAtJ Q3.out.2.1 j _ (inC_at _ j (by rw [enL_len, hzl]; exact hlt))
                  have c2 := cellAtJ Q3.out.2.2 j _ (inC_at _ j (by rw [enL_len, hzl]; exact hlt))
                  rw [enL_at _ _ _ _ (by rw [hzl]; exact hlt)] at c1 c2
                  obtain ⟨x, hx⟩ : ∃ x, enV ((ls.zip bs)[j]?.getD (0, 0)) (ss[j]?.getD 0) D = x := ⟨_, rfl⟩
                  obtain ⟨y, hy⟩ : ∃ y, enV ((ls.zip bs)[j]?.getD (0, 0)) (ss[j]?.getD 0) 8 = y := ⟨_, rfl⟩
                  have hlo := (zip_low HMB.out.1).2 j (by rw [hzl]; exact hlt)
                  have hma := (mayB_at HMB.out.2).2.2 j (by rw [hzl]; exact hlt)
                  have hxy : x * 2 ^ (8 - D) = y := by rw [← hx, ← hy]; exact enV_deep _ _ _ (by omega) hD8
                  have hyb : -1000000 ≤ y ∧ y ≤ 1000000 := by
                    rw [← hy]
                    unfold enV
                    generalize (ls.zip bs)[j]?.getD (0, 0) = p at hlo hma
                    have h5 := pow8 (n := 8 - p.1.toNat) (by omega)
                    generalize (2 : Int) ^ (8 - p.1.toNat) = r at h5
                    have h6 : -1000 * r ≤ (2 * p.2 + 1 + ss[j]?.getD 0) * r := Int.mul_le_mul_of_nonneg_right (by omega) (by omega)
                    have h7 : (2 * p.2 + 1 + ss[j]?.getD 0) * r ≤ 1000 * r := Int.mul_le_mul_of_nonneg_right (by omega) (by omega)
                    generalize (2 * p.2 + 1 + ss[j]?.getD 0) * r = z at h6 h7 ⊢
                    have h8 : (2 : Int) ^ 8 = 256 := by decide
                    omega
                  have w1 : wrap64 (x * 2 ^ (8 - D)) = y := by rw [hxy]; exact wrap64_inS _ (by omega)
                  have f4 : (y != y) = false := by simp
                  have g8 : (0 : Int) ≤ 8 - (D : Int) := by omega
                  have g9 : (D : Int) ≤ 8 := by omega
                  simp only [Option.getD_some] at c1 c2
                  rw [hx] at c1
                  rw [hy] at c2
                  clear hx hy hlo hma hxy hyb hj
                  go_upto_region 23 with fail
                  go_quiet (fail)
                  go_wp2_with fail
                  have Q4 : Hid (Below w.heap.size w (wr.drewN nq) ∧ (wr.drewN nq).heap[EB]? = some (.cells (inC (enL (ls.zip bs) ss D)) 3) ∧ (wr.drewN nq).heap[MB]? = some (.cells (inC (enL (ls.zip bs) ss 8)) 3)) := ⟨below_drewN Q3.out.1 _, Q3.out.2.1, Q3.out.2.2⟩
                  clear Q3 c1 c2 w1
                  go_roundg q
                  case measure => omega
                  case rel => exact ⟨j + 1, by go_num, by have := HIG.out; omega, Q4⟩
                · have e1 : decide ((j : Int) < (sn : Int)) = false := decide_eq_false (by omega)
                  have e2 : decide (j < sn) = false := decide_eq_false hlt
                  clear hj
                  go_wp2_with fail
                  refine Calls.mono (awake_any _) ?_
                  rintro e' wz ⟨rfl, bbz⟩
                  go_wp2_with fail
                  go_ret
                  exact ⟨rfl, to_call Q3.out.1 bbz⟩
            · have hne : (er != 0) = true := by simpa using he
              obtain rfl := HX1.out.2 (by rw [HER.out]; exact he)
              clear HX1 HER he
              go_wp2_with fail
              refine Calls.mono (awake_any _) ?_
              rintro e' wz ⟨rfl, bbz⟩
              go_wp2_with fail
              go_ret
              exact ⟨rfl, to_call Q1.out.1 bbz⟩
        · have e1 : decide ((j : Int) < (tn : Int)) = false := decide_eq_false (by omega)
          have e2 : decide (j < tn) = false := decide_eq_false ht1
          clear hj ht1
          go_wp2_with (first | (refine wpList_load_row (by rfl) 24 _ (by rfl) P9 #[.slice (some ⟨B1, 0, none⟩) n n, .slice (some ⟨B2, 0, none⟩) n n] (by rfl) P2.out.2.v _ Try.underlying24 rfl 2 Try.szRT (by rfl) ?_))
          refine Calls.mono (ends_any _ _ so n n n n sn sc ls bs ss DI _ P2.out.2.rl P2.out.2.ra (HS.out _ P2.out.1)) ?_
          rintro e' x1 ⟨⟨v, rfl, hx1, hx2⟩, bx1⟩
          have Q1 : Hid (Below w.heap.size w x1 ∧ RgV x1 w.heap.size P9 n B1 B2 ls bs) := ⟨to_call P2.out.1 bx1, P2.out.2.later bx1⟩
          have HX1 : Hid ((EnE ls bs ss n sn DI = 0 → ∃ B, v = .slice (some ⟨B, 0, none⟩) n n ∧ wr.heap.size ≤ B ∧ x1.heap[B]? = some (.cells (inC (enL (ls.zip bs) ss DI.toNat)) 3)) ∧ (EnE ls bs ss n sn DI ≠ 0 → v = .slice none 0 0)) := ⟨hx1, hx2⟩
          clear hx1 hx2 bx1 P2
          obtain ⟨er, her⟩ : ∃ er, EnE ls bs ss n sn DI = er := ⟨_, rfl⟩
          have HER : Hid (EnE ls bs ss n sn DI = er) := her
          rw [her]
          clear her
          by_cases he : er = 0
          · subst he
            obtain ⟨EB, rfl, -, hEB⟩ := HX1.out.1 HER.out
            obtain ⟨hrg, hsn, hmb⟩ := EnE_zero HER.out
            subst hsn
            obtain ⟨D0, D8, -⟩ := mayB_at hmb
            obtain ⟨D, rfl⟩ : ∃ D : Nat, DI = D := ⟨DI.toNat, by omega⟩
            have hD8 : D ≤ 8 := by omega
            rw [Int.toNat_natCast] at hEB
            have HEB : Hid (x1.heap[EB]? = some (.cells (inC (enL (ls.zip bs) ss D)) 3)) := hEB
            have HMB : Hid (regB ls bs sn = true ∧ mayB (ls.zip bs) ss D = true) := ⟨hrg, hmb⟩
            clear hEB hrg hmb HX1 HER
            go_wp2_with (first | (refine wpList_load_row (by rfl) 24 _ (by rfl) P9 #[.slice (some ⟨B1, 0, none⟩) sn sn, .slice (some ⟨B2, 0, none⟩) sn sn] (by rfl) Q1.out.2.v _ Try.underlying24 rfl 2 Try.szRT (by rfl) ?_))
            refine Calls.mono (ends_any _ _ so sn sn sn sn sn sc ls bs ss 8 _ Q1.out.2.rl Q1.out.2.ra (HS.out _ Q1.out.1)) ?_
            rintro e' x2 ⟨⟨v, rfl, hx1, -⟩, bx2⟩
            have he8 : EnE ls bs ss sn sn 8 = 0 := EnE_ok HMB.out.1 rfl (mayB_deep HMB.out.2)
            obtain ⟨MB, rfl, -, hMB⟩ := hx1 he8
            rw [he8]
            have Q2 : Hid (Below w.heap.size w x2 ∧ RgV x2 w.heap.size P9 sn B1 B2 ls bs ∧ x2.heap[EB]? = some (.cells (inC (enL (ls.zip bs) ss D)) 3) ∧ x2.heap[MB]? = some (.cells (inC (enL (ls.zip bs) ss 8)) 3)) := ⟨to_call Q1.out.1 bx2, Q1.out.2.later bx2, kept bx2 HEB.out, hMB⟩
            have hzl := (zip_low HMB.out.1).1
            have HWI : Hid (Calls Try.prog 22 #[.agg #[.slice (some ⟨B1, 0, none⟩) sn sn, .slice (some ⟨B2, 0, none⟩) sn sn], .slice (some ⟨EB, 0, none⟩) sn sn, .int .i64 (D : Int)] x2 fun e w' => e = .returned (.bool true) ∧ Below x2.heap.size x2 w') := by
              have h := within_any _ _ (some ⟨EB, 0, none⟩) sn sn sn sn sn sn ls bs (enL (ls.zip bs) ss D) D x2 Q2.out.2.1.rl Q2.out.2.1.ra (by have h := inC_rd Q2.out.2.2.1 (Nat.le_trans (m := 256) (by rw [enL_len, hzl]; omega) (by decide)); rw [enL_len, hzl] at h; exact h)
              have hw : WiV ls bs (enL (ls.zip bs) ss D) sn sn D = true := by
                unfold WiV
                rw [HMB.out.1, decide_eq_true rfl, decide_eq_true (p := (0 : Int) ≤ D) (by omega), decide_eq_true (p := (D : Int) ≤ 62) (by omega), Int.toNat_natCast, wiB_ends HMB.out.2 (fun i hi => ((zip_low HMB.out.1).2 i hi).1)]
                rfl
              rw [hw] at h
              exact h
            have f1 : decide ((D : Int) < 0) = false := decide_eq_false (by omega)
            have f2 : decide ((D : Int) > 8) = false := decide_eq_false (by omega)
            have f3 : ((sn : Int) != (sn : Int)) = false := by simp
            clear hMB hx1 he8 bx2 Q1 HEB
            go_wp2_with (first | (refine wpList_load_rowG (by rfl) 24 _ (by rfl) P9 #[.slice (some ⟨B1, 0, none⟩) sn sn, .slice (some ⟨B2, 0, none⟩) sn sn] (by rfl) Q2.out.2.1.v _ Try.underlying24 rfl 2 Try.szRT (by rfl) ?_))
            refine Calls.mono HWI.out ?_
            rintro e' x3 ⟨rfl, bx3⟩
            have Q3 : Hid (Below w.heap.size w x3 ∧ x3.heap[EB]? = some (.cells (inC (enL (ls.zip bs) ss D)) 3) ∧ x3.heap[MB]? = some (.cells (inC (enL (ls.zip bs) ss 8)) 3)) := ⟨to_call Q2.out.1 bx3, kept bx3 Q2.out.2.2.1, kept bx3 Q2.out.2.2.2⟩
            clear Q2 HWI bx3
            go_wp2_with fail
            clear f1 f2 f3
            go_loopg [19] sn (fun g iv wx => ∃ j : Nat, iv = .int .i64 j ∧ j + g = sn ∧ Hid (Below w.heap.size w wx ∧ wx.heap[EB]? = some (.cells (inC (enL (ls.zip bs) ss D)) 3) ∧ wx.heap[MB]? = some (.cells (inC (enL (ls.zip bs) ss 8)) 3)))
            case atStart => exact ⟨0, rfl, by omega, Q3⟩
            case round =>
              clear Q3
              obtain ⟨j, rfl, hj, Q3⟩ := hrel
              by_cases hlt : j < sn
              · have e1 : decide ((j : Int) < (sn : Int)) = true := decide_eq_true (by omega)
                obtain ⟨q, rfl⟩ : ∃ q, gk = q + 1 := ⟨gk - 1, by omega⟩
                have HIG : Hid (j + (q + 1) = sn) := hj
                have hlt' : (j : Int) < (sn : Int) := by omega
                have c1 := cellAtJ Q3.out.2.1 j _ (inC_at _ j (by rw [enL_len, hzl]; exact hlt))
                have c2 := cellAtJ Q3.out.2.2 j _ (inC_at _ j (by rw [enL_len, hzl]; exact hlt))
                rw [enL_at _ _ _ _ (by rw [hzl]; exact hlt)] at c1 c2
                obtain ⟨x, hx⟩ : ∃ x, enV ((ls.zip bs)[j]?.getD (0, 0)) (ss[j]?.getD 0) D = x := ⟨_, rfl⟩
                obtain ⟨y, hy⟩ : ∃ y, enV ((ls.zip bs)[j]?.getD (0, 0)) (ss[j]?.getD 0) 8 = y := ⟨_, rfl⟩
                have hlo := (zip_low HMB.out.1).2 j (by rw [hzl]; exact hlt)
                have hma := (mayB_at HMB.out.2).2.2 j (by rw [hzl]; exact hlt)
                have hxy : x * 2 ^ (8 - D) = y := by rw [← hx, ← hy]; exact enV_deep _ _ _ (by omega) hD8
                have hyb : -1000000 ≤ y ∧ y ≤ 1000000 := by
                  rw [← hy]
                  unfold enV
                  generalize (ls.zip bs)[j]?.getD (0, 0) = p at hlo hma
                  have h5 := pow8 (n := 8 - p.1.toNat) (by omega)
                  generalize (2 : Int) ^ (8 - p.1.toNat) = r at h5
                  have h6 : -1000 * r ≤ (2 * p.2 + 1 + ss[j]?.getD 0) * r := Int.mul_le_mul_of_nonneg_right (by omega) (by omega)
                  have h7 : (2 * p.2 + 1 + ss[j]?.getD 0) * r ≤ 1000 * r := Int.mul_le_mul_of_nonneg_right (by omega) (by omega)
                  generalize (2 * p.2 + 1 + ss[j]?.getD 0) * r = z at h6 h7 ⊢
                  have h8 : (2 : Int) ^ 8 = 256 := by decide
                  omega
                have w1 : wrap64 (x * 2 ^ (8 - D)) = y := by rw [hxy]; exact wrap64_inS _ (by omega)
                have f4 : (y != y) = false := by simp
                have g8 : (0 : Int) ≤ 8 - (D : Int) := by omega
                have g9 : (D : Int) ≤ 8 := by omega
                simp only [Option.getD_some] at c1 c2
                rw [hx] at c1
                rw [hy] at c2
                clear hx hy hlo hma hxy hyb hj
                go_upto_region 23 with fail
                go_quiet (fail)
                go_wp2_with fail
                have Q4 : Hid (Below w.heap.size w (wr.drewN nq) ∧ (wr.drewN nq).heap[EB]? = some (.cells (inC (enL (ls.zip bs) ss D)) 3) ∧ (wr.drewN nq).heap[MB]? = some (.cells (inC (enL (ls.zip bs) ss 8)) 3)) := ⟨below_drewN Q3.out.1 _, Q3.out.2.1, Q3.out.2.2⟩
                clear Q3 c1 c2 w1
                go_roundg q
                case measure => omega
                case rel => exact ⟨j + 1, by go_num, by have := HIG.out; omega, Q4⟩
              · have e1 : decide ((j : Int) < (sn : Int)) = false := decide_eq_false (by omega)
                have e2 : decide (j < sn) = false := decide_eq_false hlt
                clear hj
                go_wp2_with fail
                refine Calls.mono (awake_any _) ?_
                rintro e' wz ⟨rfl, bbz⟩
                go_wp2_with fail
                go_ret
                exact ⟨rfl, to_call Q3.out.1 bbz⟩
          · have hne : (er != 0) = true := by simpa using he
            obtain rfl := HX1.out.2 (by rw [HER.out]; exact he)
            clear HX1 HER he
            go_wp2_with fail
            refine Calls.mono (awake_any _) ?_
            rintro e' wz ⟨rfl, bbz⟩
            go_wp2_with fail
            go_ret
            exact ⟨rfl, to_call Q1.out.1 bbz⟩
end Go.Proofs.Ytckecegkepanjaa
