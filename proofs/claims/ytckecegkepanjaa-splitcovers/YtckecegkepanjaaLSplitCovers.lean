import Derived.Test.YtckecegkepanjaaSPs
namespace Go.Proofs.Ytckecegkepanjaa
open Go.RowKit
set_option linter.unusedVariables false
set_option linter.unusedSimpArgs false
theorem quiet_len {C : World → Prop} {K : Act → Prop} {a : Act} {o : Oper} (x : Operand) (h : o.op = .call { callee := .builtin .len, args := #[x], argTypes := #[22] }) (ao : Option Addr) (n c : Nat) (hx : a.eval x = .slice ao n c) (hk : K (a.put o.dst (.int .i64 (n : Int)))) : o.quiet Try.prog a C K := by
  refine ⟨.int .i64 (n : Int), fun w _ => ?_, hk⟩
  unfold Oper.quietAt
  have key : ∀ ρ : Operand → Value, ρ x = .slice ao n c → (execOp ρ o).run Try.prog w = .ok (.value (.int .i64 (n : Int))) w := by
    intro ρ hρ
    unfold execOp
    rw [h]
    simp [go_sem, hρ, Builtin.len_]
  have this := key a.eval hx
  rw [this]
  exact ⟨rfl, rfl⟩
set_option maxRecDepth 100000 in
set_option maxHeartbeats 4000000 in
theorem splitCovers_walk (k : Int) (tq : Option Addr) (tn tc : Nat) (F : Nat → Int × Bool) (eo : Option Addr) (en ec : Nat) (es : List Int) (DI : Int) (w : World) (ht : RdTu w tq tn tc F) (he : RdIs w eo en ec es) :
    Calls Try.prog 6 #[.int .i64 k, .slice tq tn tc, .slice eo en ec, .int .i64 DI] w fun e w' => e = .returned (.bool true) ∧ Below w.heap.size w w' := by
  have HS : Hid (∀ W', Below w.heap.size w W' → RdIs W' eo en ec es) := fun W' hb => he.later hb
  have HT : Hid (∀ W', Below w.heap.size w W' → RdTu W' tq tn tc F) := fun W' hb => ht.later hb
  have htm : tn ≤ 9223372036854775807 := Nat.le_trans ht.max maxLen_le
  clear he ht
  by_cases h1 : k < 1
  · have d1 : decide (k < 1) = true := decide_eq_true h1
    go_enter Try.func6, Try.ntmps6
    go_wp2_with fail
    refine Calls.mono (awake_any _) ?_
    rintro e' wz ⟨rfl, bbz⟩
    go_wp2_with fail
    go_ret
    exact ⟨rfl, to_call (Below.refl _ _) bbz⟩
  have d1 : decide (k < 1) = false := decide_eq_false h1
  by_cases h2 : k > 40
  · have d2 : decide (k > 40) = true := decide_eq_true h2
    go_enter Try.func6, Try.ntmps6
    go_wp2_with fail
    refine Calls.mono (awake_any _) ?_
    rintro e' wz ⟨rfl, bbz⟩
    go_wp2_with fail
    go_ret
    exact ⟨rfl, to_call (Below.refl _ _) bbz⟩
  have d2 : decide (k > 40) = false := decide_eq_false h2
  obtain ⟨n, rfl⟩ : ∃ n : Nat, k = n := ⟨k.toNat, by omega⟩
  have hn : n ≤ 40 := by omega
  by_cases h3 : ¬ en = n
  · have d3 : ((en : Int) != (n : Int)) = true := by simp; omega
    go_enter Try.func6, Try.ntmps6
    go_wp2_with fail
    refine Calls.mono (awake_any _) ?_
    rintro e' wz ⟨rfl, bbz⟩
    go_wp2_with fail
    go_ret
    exact ⟨rfl, to_call (Below.refl _ _) bbz⟩
  have h3 : n = en := by omega
  subst h3
  have d3 : ((n : Int) != (n : Int)) = false := by simp
  by_cases h4 : DI < 0
  · have d4 : decide (DI < 0) = true := decide_eq_true h4
    go_enter Try.func6, Try.ntmps6
    go_wp2_with fail
    refine Calls.mono (awake_any _) ?_
    rintro e' wz ⟨rfl, bbz⟩
    go_wp2_with fail
    go_ret
    exact ⟨rfl, to_call (Below.refl _ _) bbz⟩
  have d4 : decide (DI < 0) = false := decide_eq_false h4
  by_cases h5 : DI > 40
  · have d5 : decide (DI > 40) = true := decide_eq_true h5
    go_enter Try.func6, Try.ntmps6
    go_wp2_with fail
    refine Calls.mono (awake_any _) ?_
    rintro e' wz ⟨rfl, bbz⟩
    go_wp2_with fail
    go_ret
    exact ⟨rfl, to_call (Below.refl _ _) bbz⟩
  have d5 : decide (DI > 40) = false := decide_eq_false h5
  obtain ⟨D, rfl⟩ : ∃ D : Nat, DI = D := ⟨DI.toNat, by omega⟩
  have hD : D ≤ 40 := by omega
  have hD' : (D : Int) ≤ 40 := by omega
  obtain ⟨p, hp⟩ : ∃ p : Int, (2 : Int) ^ D = p := ⟨_, rfl⟩
  have HP : Hid ((2 : Int) ^ D = p) := hp
  have hpb : 1 ≤ p ∧ p ≤ 1099511627776 := by
    rw [← hp]
    have h := pow_le (a := D) (b := 40) hD
    have h0 := pow_pos2 D
    have h9 : (2 : Int) ^ 40 = 1099511627776 := by decide
    omega
  obtain ⟨pb1, pb2⟩ := hpb
  have q1 : wrap64 (-2 ^ D) = -p := by rw [hp]; exact wrap64_inS _ (by omega)
  have q2 : wrap64 (2 ^ D) = p := by rw [hp]; exact wrap64_inS _ (by omega)
  clear hp h1 h2 h4 h5
  go_enter Try.func6, Try.ntmps6
  go_wp2_with fail
  clear d1 d2 d3 d4 d5
  go_loopg [9] n (fun g iv wx => ∃ j : Nat, iv = .int .i64 j ∧ j + g = n ∧ Hid (Below w.heap.size w wx ∧ ∀ i, i < j → -p ≤ es[i]?.getD 0 ∧ es[i]?.getD 0 ≤ p))
  case atStart => exact ⟨0, rfl, by omega, Below.refl _ _, fun i hi => absurd hi (Nat.not_lt_zero _)⟩
  case round =>
    obtain ⟨j, rfl, hj, P1⟩ := hrel
    by_cases hlt : j < n
    · have e1 : decide ((j : Int) < (n : Int)) = true := decide_eq_true (by omega)
      obtain ⟨q, rfl⟩ : ∃ q, gk = q + 1 := ⟨gk - 1, by omega⟩
      have HIG : Hid (j + (q + 1) = n) := hj
      have hlt' : (j : Int) < (n : Int) := by omega
      rcases (HS.out _ P1.out.1).cells with h0 | ⟨eb, ef, rfl, hce⟩
      · omega
      have ge := hce j hlt
      obtain ⟨x, hx⟩ : ∃ x, es[j]?.getD 0 = x := ⟨_, rfl⟩
      rw [hx] at ge
      have HXE : Hid (es[j]?.getD 0 = x) := hx
      clear hx hce hj
      go_upto_region 6 with fail
      by_cases c1 : x < -p
      · have d6 : decide (x < -p) = true := decide_eq_true c1
        go_quiet (fail)
        go_wp2_with fail
        refine Calls.mono (awake_any _) ?_
        rintro e' wz ⟨rfl, bbz⟩
        go_wp2_with fail
        go_ret
        exact ⟨rfl, to_call (below_drewN P1.out.1 _) bbz⟩
      · have d6 : decide (x < -p) = false := decide_eq_false c1
        by_cases c2 : x > p
        · have d7 : decide (x > p) = true := decide_eq_true c2
          go_quiet (fail)
          go_wp2_with fail
          refine Calls.mono (awake_any _) ?_
          rintro e' wz ⟨rfl, bbz⟩
          go_wp2_with fail
          go_ret
          exact ⟨rfl, to_call (below_drewN P1.out.1 _) bbz⟩
        · have d7 : decide (x > p) = false := decide_eq_false c2
          go_quiet (fail)
          have P4 : Hid (Below w.heap.size w (wr.drewN nq) ∧ ∀ i, i < j + 1 → -p ≤ es[i]?.getD 0 ∧ es[i]?.getD 0 ≤ p) := by
            refine ⟨below_drewN P1.out.1 _, fun i hi => ?_⟩
            rcases Nat.lt_or_ge i j with h | h
            · exact P1.out.2 i h
            · obtain rfl : i = j := by omega
              rw [HXE.out]; exact ⟨by omega, by omega⟩
          clear P1 ge
          go_wp2_with fail
          go_roundg q
          case measure => omega
          case rel => exact ⟨j + 1, by go_num, by have := HIG.out; omega, P4⟩
    · have e1 : decide ((j : Int) < (n : Int)) = false := decide_eq_false (by omega)
      have e2 : decide (j < n) = false := decide_eq_false hlt
      have HIN : Hid (regB (List.replicate n 0) (List.replicate n 0) n = true ∧ WiV (List.replicate n 0) (List.replicate n 0) es n n D = true) := whole_in (by omega) (by omega) (fun i hi => by rw [HP.out]; exact P1.out.2 i (by omega))
      have P0 : Hid (Below w.heap.size w wr) := P1.out.1
      have HEB : Hid (∀ i, i < n → -p ≤ es[i]?.getD 0 ∧ es[i]?.getD 0 ≤ p) := fun i hi => P1.out.2 i (by omega)
      clear hj hlt P1
      have HW : Hid (∀ W, Calls Try.prog 9 #[.int .i64 (n : Int)] W fun e w' => (∃ B1 B2, e = .returned (.tuple #[.agg #[.slice (some ⟨B1, 0, none⟩) n n, .slice (some ⟨B2, 0, none⟩) n n], .int .i64 0]) ∧ RgO w' W.heap.size B1 B2 (List.replicate n 0) (List.replicate n 0)) ∧ Below W.heap.size W w') := fun W => (whole_any n W).mono fun e w' ⟨h, hb⟩ => ⟨by have := h.1 ⟨by omega, by omega⟩; rw [Int.toNat_natCast] at this; exact this, hb⟩
      go_wp2_with fail
      refine Calls.mono (HW.out _) ?_
      rintro e' w1 ⟨⟨B1, B2, rfl, hr⟩, bb1⟩
      go_upto_region 9 with fail
      have A1 : Below w1.heap.size w1 (w1.alloc (.cells #[.slice (some ⟨B1, 0, none⟩) n n, .slice (some ⟨B2, 0, none⟩) n n] 24)) := (Below.refl _ w1).alloc (Nat.le_refl _) _
      have Y1 : (w1.alloc (.cells #[.slice (some ⟨B1, 0, none⟩) n n, .slice (some ⟨B2, 0, none⟩) n n] 24)).heap[w1.heap.size]? = some (.cells #[.slice (some ⟨B1, 0, none⟩) n n, .slice (some ⟨B2, 0, none⟩) n n] 24) := heap_alloc_new w1 _
      obtain ⟨V1, hV1⟩ : ∃ V, (w1.alloc (.cells #[.slice (some ⟨B1, 0, none⟩) n n, .slice (some ⟨B2, 0, none⟩) n n] 24)) = V := ⟨_, rfl⟩
      obtain ⟨P9, hP9⟩ : ∃ p, w1.heap.size = p := ⟨_, rfl⟩
      have hp9 : w.heap.size ≤ P9 := by rw [← hP9]; exact (to_call P0.out bb1).size
      rw [hV1] at A1 Y1 ⊢
      rw [hP9] at Y1 ⊢
      have Q0 : Hid (Below w.heap.size w V1 ∧ RgV V1 w.heap.size P9 n B1 B2 (List.replicate n 0) (List.replicate n 0)) := ⟨to_call (to_call P0.out bb1) A1, Y1, (hr.later A1).mono P0.out.size, HIN.out.1⟩
      clear hV1 hP9 A1 Y1 hr bb1 HW P0 q1 q2
      go_wp2_with (first | (refine wpList_load_rowG (by rfl) 24 _ (by rfl) P9 #[.slice (some ⟨B1, 0, none⟩) n n, .slice (some ⟨B2, 0, none⟩) n n] (by rfl) Q0.out.2.v _ Try.underlying24 rfl 2 Try.szRT (by rfl) ?_))
      refine Calls.mono (HIN.out.2 ▸ within_any _ _ eo n n n n n ec _ _ es D V1 Q0.out.2.rl Q0.out.2.ra (HS.out _ Q0.out.1)) ?_
      rintro e' x1 ⟨rfl, bx1⟩
      have P1 : Hid (∃ B1 B2 ls bs, (Below w.heap.size w x1 ∧ RgV x1 w.heap.size P9 n B1 B2 ls bs ∧ ls.sum = 0)) := ⟨B1, B2, _, _, to_call Q0.out.1 bx1, Q0.out.2.later bx1, by simp⟩
      clear Q0 bx1 HIN e1 e2
      go_wp2_with fail
      go_loopg [12, 13] 40 (fun g v12 iv wx => ∃ (j : Nat) (c : Int), v12 = .int .i64 c ∧ iv = .int .i64 j ∧ j + g = 40 ∧ Hid (0 ≤ c ∧ c ≤ j) ∧ Hid (∃ B1 B2 ls bs, (Below w.heap.size w wx ∧ RgV wx w.heap.size P9 n B1 B2 ls bs ∧ ls.sum = c)))
      case atStart => exact ⟨0, 0, rfl, rfl, by omega, ⟨by omega, by omega⟩, P1⟩
      case round =>
        clear P1
        obtain ⟨j, c, rfl, rfl, hj, HC, PZ⟩ := hrel
        obtain ⟨B1, B2, ls, bs, PZ'⟩ := PZ.out
        have P2 : Hid (Below w.heap.size w wr ∧ RgV wr w.heap.size P9 n B1 B2 ls bs ∧ ls.sum = c) := PZ'
        clear PZ PZ'
        by_cases ht1 : j < tn
        · have e1 : decide ((j : Int) < (tn : Int)) = true := decide_eq_true (by omega)
          by_cases ht2 : j < 40
          · have e2 : decide ((j : Int) < 40) = true := decide_eq_true (by omega)
            obtain ⟨q, rfl⟩ : ∃ q, gk = q + 1 := ⟨gk - 1, by omega⟩
            have HIG : Hid (j + (q + 1) = 40) := hj
            have ht1' : (j : Int) < (tn : Int) := by omega
            rcases (HT.out _ P2.out.1).cells with h0 | ⟨tb, tf, rfl, hct⟩
            · omega
            have HCT : Hid (∀ W', Below w.heap.size w W' → W'.cell? ⟨tb, tf + j * 2, none⟩ = some (.int .i64 (F j).1) ∧ W'.cell? ⟨tb, tf + j * 2 + 1, none⟩ = some (.bool (F j).2)) := by
              intro W' hb
              rcases (HT.out _ hb).cells with h0 | ⟨tb', tf', htt, hct⟩
              · omega
              injection htt with htt
              injection htt with e1 e2
              subst e1 e2
              exact hct j ht1
            obtain ⟨⟨sy, up⟩, hF⟩ : ∃ x, F j = x := ⟨_, rfl⟩
            rw [hF] at HCT
            have HCU : Hid (∀ W', Below w.heap.size w W' → W'.cell? ⟨tb, tf + j * 2 + 1, none⟩ = some (.bool up)) := fun W' hb => (HCT.out W' hb).2
            have ct := (HCT.out _ P2.out.1).1
            obtain ⟨hc1, hc2⟩ := HC.out
            clear hct hF hj
            go_upto_region 16 with fail
            clear ct
            go_wp2_with (first | (refine wpList_load_row (by rfl) 24 _ (by rfl) P9 #[.slice (some ⟨B1, 0, none⟩) n n, .slice (some ⟨B2, 0, none⟩) n n] (by rfl) P2.out.2.1.v _ Try.underlying24 rfl 2 Try.szRT (by rfl) ?_))
            refine Calls.mono (halveU _ _ n n n n ls bs sy _ P2.out.2.1.rl P2.out.2.1.ra) ?_
            rintro e' w2 ⟨⟨a1, a2, a3, a4, N, rfl, HX⟩, bb2⟩
            have HX := HX.mono P2.out.1.size
            obtain ⟨er, her⟩ : ∃ er, HvE ls bs n sy = er := ⟨_, rfl⟩
            have HER : Hid (HvE ls bs n sy = er) := her
            rw [her]
            clear her
            go_upto_region 17 with fail
            have A3 : Below w2.heap.size w2 ((w2.alloc (.cells #[.slice a1 N N, .slice a2 N N] 24)).alloc (.cells #[.slice a3 N N, .slice a4 N N] 24)) := below_al (below_al (Below.refl _ w2) _) _
            have Z15 : ((w2.alloc (.cells #[.slice a1 N N, .slice a2 N N] 24)).alloc (.cells #[.slice a3 N N, .slice a4 N N] 24)).heap[w2.heap.size]? = some (.cells #[.slice a1 N N, .slice a2 N N] 24) := alloc_kept (heap_alloc_new w2 _) _
            have Z16 : ((w2.alloc (.cells #[.slice a1 N N, .slice a2 N N] 24)).alloc (.cells #[.slice a3 N N, .slice a4 N N] 24)).heap[w2.heap.size + 1]? = some (.cells #[.slice a3 N N, .slice a4 N N] 24) := alloc_at _ _ _ (by simp)
            obtain ⟨V3, hV3⟩ : ∃ V3, ((w2.alloc (.cells #[.slice a1 N N, .slice a2 N N] 24)).alloc (.cells #[.slice a3 N N, .slice a4 N N] 24)) = V3 := ⟨_, rfl⟩
            obtain ⟨b15, hb15⟩ : ∃ b, w2.heap.size = b := ⟨_, rfl⟩
            obtain ⟨b16, hb16⟩ : ∃ b, b15 + 1 = b := ⟨_, rfl⟩
            have h915 : P9 < b15 := by rw [← hb15]; exact blk_lt (kept bb2 P2.out.2.1.v)
            rw [hV3] at A3 Z15 Z16 ⊢
            rw [hb15] at Z15 Z16 ⊢
            rw [hb16] at Z16 ⊢
            have P3 : Hid ((Below w.heap.size w V3 ∧ RgV V3 w.heap.size P9 n B1 B2 ls bs ∧ ls.sum = c) ∧ V3.heap[b15]? = some (.cells #[.slice a1 N N, .slice a2 N N] 24) ∧ V3.heap[b16]? = some (.cells #[.slice a3 N N, .slice a4 N N] 24) ∧ HvX V3 w.heap.size n ls bs sy a1 a2 a3 a4 N) := ⟨⟨to_call (to_call P2.out.1 bb2) A3, (P2.out.2.1.later bb2).later A3, P2.out.2.2⟩, Z15, Z16, HX.later A3⟩
            clear hV3 hb15 A3 Z15 Z16 bb2 P2 HX HCT
            by_cases he : er = 0
            · subst he
              obtain ⟨rfl, D1, D2, C1, C2, rfl, rfl, rfl, rfl, r1, r2, -⟩ := P3.out.2.2.2.ok HER.out
              obtain ⟨hrg, s0, sN, s8⟩ := HvE_zero HER.out
              have hlen := P3.out.1.2.1.len
              obtain ⟨s, rfl⟩ : ∃ s : Nat, sy = s := ⟨sy.toNat, by omega⟩
              rw [Int.toNat_natCast] at r1 r2 s8
              have hs : s < N := by omega
              have hs' : (s : Int) < (N : Int) := by omega
              have k1 := regB_half hrg (s := s) (by omega) s8 0 (.inl rfl)
              have k2 := regB_half hrg (s := s) (by omega) s8 1 (.inr rfl)
              rw [Int.add_zero] at k1
              have HCV0 := covers (es := es) hrg (D := D) (by omega) hs s8
              have hlv := regB_level hrg s (by omega)
              have hsu : (ls.set s (ls[s]?.getD 0 + 1)).sum = c + 1 := by rw [sum_set (by omega), P3.out.1.2.2]; omega
              obtain ⟨l1, hl1⟩ : ∃ l1, ls.set s (ls[s]?.getD 0 + 1) = l1 := ⟨_, rfl⟩
              obtain ⟨bl, hbl⟩ : ∃ bl, bs.set s (2 * bs[s]?.getD 0) = bl := ⟨_, rfl⟩
              obtain ⟨bh, hbh⟩ : ∃ bh, bs.set s (2 * bs[s]?.getD 0 + 1) = bh := ⟨_, rfl⟩
              rw [hl1, hbl] at r1 k1
              rw [hl1, hbh] at r2 k2
              rw [hl1, hbl, hbh] at HCV0
              rw [hl1] at hsu
              have Q3 : Hid (Below w.heap.size w V3 ∧ RgV V3 w.heap.size P9 N B1 B2 ls bs ∧ V3.heap[b15]? = some (.cells #[.slice (some ⟨D1, 0, none⟩) N N, .slice (some ⟨D2, 0, none⟩) N N] 24) ∧ V3.heap[b16]? = some (.cells #[.slice (some ⟨C1, 0, none⟩) N N, .slice (some ⟨C2, 0, none⟩) N N] 24) ∧ RgO V3 w.heap.size D1 D2 l1 bl ∧ RgO V3 w.heap.size C1 C2 l1 bh) := ⟨P3.out.1.1, P3.out.1.2.1, P3.out.2.1, P3.out.2.2.1, r1, r2⟩
              have KR1 : Hid (regB l1 bl N = true) := k1
              have KR2 : Hid (regB l1 bh N = true) := k2
              have HSU : Hid (l1.sum = c + 1) := hsu
              have HGR : Hid (regB ls bs N = true) := hrg
              have HWY : Hid (∀ (W : World) (E1 E2 : Nat) (cs : List Int), RgV W w.heap.size P9 N E1 E2 l1 cs → Calls Try.prog 17 #[.agg #[.slice (some ⟨E1, 0, none⟩) N N, .slice (some ⟨E2, 0, none⟩) N N]] W fun e w' => e = .returned (.tuple #[.int .i64 (c + 1), .int .i64 0]) ∧ Below W.heap.size W w') := by
                intro W E1 E2 cs h
                have h1 := way_any _ _ N N N N l1 cs W h.rl h.ra
                have h2 : WyV l1 cs N = c + 1 := by unfold WyV; rw [h.g, if_pos rfl]; exact HSU.out
                have h3 : WyE l1 cs N = 0 := by unfold WyE; rw [h.g, if_pos rfl]
                rw [h2, h3] at h1
                exact h1
              clear P3 r1 r2 k1 k2 hsu hl1 hbl hbh HER s0 sN hlen
              obtain ⟨lo, hlo⟩ : ∃ b, WiV l1 bl es N N D = b := ⟨_, rfl⟩
              obtain ⟨hi, hhi⟩ : ∃ b, WiV l1 bh es N N D = b := ⟨_, rfl⟩
              obtain ⟨iv, hiv⟩ : ∃ b, WiV ls bs es N N D = b := ⟨_, rfl⟩
              rw [hlo, hhi, hiv] at HCV0
              have HCV : Hid (iv = (lo || hi) ∧ (lo && hi) = (iv && decide (enV (ls[s]?.getD 0, bs[s]?.getD 0) 0 8 * 2 ^ D = es[s]?.getD 0 * 2 ^ 8))) := HCV0
              have HI0 : Hid (WiV ls bs es N N D = iv) := hiv
              have HI1 : Hid (WiV l1 bl es N N D = lo) := hlo
              have HI2 : Hid (WiV l1 bh es N N D = hi) := hhi
              clear HCV0 hlo hhi hiv
              go_wp2_with (first | (refine wpList_load_row (by rfl) 24 _ (by rfl) P9 #[.slice (some ⟨B1, 0, none⟩) N N, .slice (some ⟨B2, 0, none⟩) N N] (by rfl) Q3.out.2.1.v _ Try.underlying24 rfl 2 Try.szRT (by rfl) ?_))
              refine Calls.mono (HI0.out ▸ within_any _ _ eo N N N N N ec _ _ es D V3 Q3.out.2.1.rl Q3.out.2.1.ra (HS.out _ Q3.out.1)) ?_
              rintro e' x1 ⟨rfl, bx1⟩
              have Q4 : Hid (Below w.heap.size w x1 ∧ RgV x1 w.heap.size P9 N B1 B2 ls bs ∧ x1.heap[b15]? = some (.cells #[.slice (some ⟨D1, 0, none⟩) N N, .slice (some ⟨D2, 0, none⟩) N N] 24) ∧ x1.heap[b16]? = some (.cells #[.slice (some ⟨C1, 0, none⟩) N N, .slice (some ⟨C2, 0, none⟩) N N] 24) ∧ RgO x1 w.heap.size D1 D2 l1 bl ∧ RgO x1 w.heap.size C1 C2 l1 bh) := ⟨to_call Q3.out.1 bx1, Q3.out.2.1.later bx1, kept bx1 Q3.out.2.2.1, kept bx1 Q3.out.2.2.2.1, Q3.out.2.2.2.2.1.later bx1, Q3.out.2.2.2.2.2.later bx1⟩
              clear Q3 bx1
              have HL1 : Hid (l1.length = N ∧ bl.length = N ∧ bh.length = N) := by have := regB_len KR1.out; have := regB_len KR2.out; exact ⟨by omega, by omega, by omega⟩
              go_wp2_with (first | (refine wpList_load_row (by rfl) 24 _ (by rfl) b15 #[.slice (some ⟨D1, 0, none⟩) N N, .slice (some ⟨D2, 0, none⟩) N N] (by rfl) Q4.out.2.2.1 _ Try.underlying24 rfl 2 Try.szRT (by rfl) ?_))
              refine Calls.mono (HI1.out ▸ within_any _ _ eo N N N N N ec _ _ es D x1 (Q4.out.2.2.2.2.1.rl HL1.out.1 (by omega)) (Q4.out.2.2.2.2.1.ra HL1.out.2.1 (by omega)) (HS.out _ Q4.out.1)) ?_
              rintro e' x2 ⟨rfl, bx2⟩
              have Q5 : Hid (Below w.heap.size w x2 ∧ RgV x2 w.heap.size P9 N B1 B2 ls bs ∧ x2.heap[b15]? = some (.cells #[.slice (some ⟨D1, 0, none⟩) N N, .slice (some ⟨D2, 0, none⟩) N N] 24) ∧ x2.heap[b16]? = some (.cells #[.slice (some ⟨C1, 0, none⟩) N N, .slice (some ⟨C2, 0, none⟩) N N] 24) ∧ RgO x2 w.heap.size D1 D2 l1 bl ∧ RgO x2 w.heap.size C1 C2 l1 bh) := ⟨to_call Q4.out.1 bx2, Q4.out.2.1.later bx2, kept bx2 Q4.out.2.2.1, kept bx2 Q4.out.2.2.2.1, Q4.out.2.2.2.2.1.later bx2, Q4.out.2.2.2.2.2.later bx2⟩
              clear Q4 bx2
              go_wp2_with (first | (refine wpList_load_row (by rfl) 24 _ (by rfl) b16 #[.slice (some ⟨C1, 0, none⟩) N N, .slice (some ⟨C2, 0, none⟩) N N] (by rfl) Q5.out.2.2.2.1 _ Try.underlying24 rfl 2 Try.szRT (by rfl) ?_))
              refine Calls.mono (HI2.out ▸ within_any _ _ eo N N N N N ec _ _ es D x2 (Q5.out.2.2.2.2.2.rl HL1.out.1 (by omega)) (Q5.out.2.2.2.2.2.ra HL1.out.2.2 (by omega)) (HS.out _ Q5.out.1)) ?_
              rintro e' W ⟨rfl, bx3⟩
              have Q4 : Hid (Below w.heap.size w W ∧ RgV W w.heap.size P9 N B1 B2 ls bs ∧ W.heap[b15]? = some (.cells #[.slice (some ⟨D1, 0, none⟩) N N, .slice (some ⟨D2, 0, none⟩) N N] 24) ∧ W.heap[b16]? = some (.cells #[.slice (some ⟨C1, 0, none⟩) N N, .slice (some ⟨C2, 0, none⟩) N N] 24) ∧ RgO W w.heap.size D1 D2 l1 bl ∧ RgO W w.heap.size C1 C2 l1 bh) := ⟨to_call Q5.out.1 bx3, Q5.out.2.1.later bx3, kept bx3 Q5.out.2.2.1, kept bx3 Q5.out.2.2.2.1, Q5.out.2.2.2.2.1.later bx3, Q5.out.2.2.2.2.2.later bx3⟩
              clear Q5 bx3 HI0 HI1 HI2
              have HE8 : Hid (EnE ls bs (List.replicate N 0) N N 8 = 0) := by
                refine EnE_ok HGR.out rfl ?_
                unfold mayB
                simp only [Bool.and_eq_true, decide_eq_true_eq, List.all_eq_true, List.mem_range]
                refine ⟨⟨by decide, by decide⟩, fun i hi => ⟨⟨?_, ?_⟩, ((zip_low HGR.out).2 i hi).2.1⟩⟩
                · rw [(zip_low HGR.out).1] at hi
                  rw [List.getElem?_replicate, if_pos hi]; decide
                · rw [(zip_low HGR.out).1] at hi
                  rw [List.getElem?_replicate, if_pos hi]; decide
              go_upto_region 24 with fail
              refine wp_region_noPanic ?_
              have SX : Below W.heap.size W W.drew := (Below.refl _ _).drew
              refine wp_region_held_drew (S := (fun V => Below W.heap.size W V)) (by kernel_rfl) SX (fun _ => ?_)
              refine takeH 143 (i := 0) (v := .agg #[.slice (some ⟨B1, 0, none⟩) N N, .slice (some ⟨B2, 0, none⟩) N N]) rfl rfl (by kernel_rfl) (by kernel_rfl) (by kernel_rfl) (fun _ _ _ h => h) (Or.inl ⟨by kernel_rfl, fun w' hSw => ex_loadRN _ 24 _ rfl P9 (by kernel_rfl) w' _ (kept hSw Q4.out.2.1.v) _ Try.underlying24 rfl 2 Try.szRT rfl⟩) SX ?_
              try simp only [Act.put, List.setIfInBounds_toArray, List.set_cons_zero, List.set_cons_succ]
              refine takeH 144 (i := 1) (v := ?_) rfl rfl (by kernel_rfl) (by kernel_rfl) (by kernel_rfl) (fun _ _ _ h => h) (Or.inl ⟨by kernel_rfl, ?_⟩) SX ?_
              rotate_left
              · intro w' hSw; skip; go_simp; try with_reducible rfl
              try simp only [Act.put, List.setIfInBounds_toArray, List.set_cons_zero, List.set_cons_succ]
              refine wpAnyH_ready (rs := [2]) (by kernel_rfl) (by simp) ?_
              refine consH _ rfl ?_ AllReadyH.nil
              refine hopMT 145 rfl rfl rfl 22 3 _ _ N rfl (by kernel_rfl) (by kernel_rfl) (inC (List.replicate N 0)) (makeIM N (by omega)) fun ZB V5 hZB lZB bZB => ?_
              have SX : Below W.heap.size W V5 := to_call SX bZB
              refine ⟨SX, ?_⟩
              try simp only [Act.put, List.setIfInBounds_toArray, List.set_cons_zero, List.set_cons_succ]
              refine wpAnyH_ready (rs := [3]) (by kernel_rfl) (by simp) ?_
              refine consH _ rfl (hopCd 146 rfl (by kernel_rfl) rfl (by kernel_rfl) (Calls.mono (ends_any _ _ (some ⟨ZB, 0, none⟩) N N N N N N ls bs (List.replicate N 0) 8 _ (Q4.out.2.1.rl.later SX) (Q4.out.2.1.ra.later SX) (by have h := inC_rd hZB (Nat.le_trans (m := 256) (by rw [List.length_replicate]; omega) (by decide)); rw [List.length_replicate] at h; exact h)) ?_)) AllReadyH.nil
              rintro e V6 ⟨⟨v, rfl, hx1, -⟩, bb6⟩
              obtain ⟨AB, rfl, -, hAB⟩ := hx1 HE8.out
              rw [HE8.out]
              have SX : Below W.heap.size W V6 := to_call SX bb6
              refine ⟨_, rfl, SX, ?_⟩
              try simp only [Act.put, List.setIfInBounds_toArray, List.set_cons_zero, List.set_cons_succ]
              refine takeH 142 (i := 4) (v := ?_) rfl rfl (by kernel_rfl) (by kernel_rfl) (by kernel_rfl) (fun _ _ _ h => h) (Or.inl ⟨by kernel_rfl, ?_⟩) SX ?_
              rotate_left
              · intro w' hSw; skip; go_simp; try with_reducible rfl
              try simp only [Act.put, List.setIfInBounds_toArray, List.set_cons_zero, List.set_cons_succ]
              refine takeH 147 (i := 5) (v := ?_) rfl rfl (by kernel_rfl) (by kernel_rfl) (by kernel_rfl) (fun _ _ _ h => h) (Or.inl ⟨by kernel_rfl, ?_⟩) SX ?_
              rotate_left
              · intro w' hSw; skip; go_simp; try with_reducible rfl
              try simp only [Act.put, List.setIfInBounds_toArray, List.set_cons_zero, List.set_cons_succ]
              refine takeH 148 (i := 6) (v := ?_) rfl rfl (by kernel_rfl) (by kernel_rfl) (by kernel_rfl) (fun _ _ _ h => h) (Or.inl ⟨by kernel_rfl, ?_⟩) SX ?_
              rotate_left
              · intro w' hSw; skip; go_simp; try with_reducible rfl
              try simp only [Act.put, List.setIfInBounds_toArray, List.set_cons_zero, List.set_cons_succ]
              refine takeH 21 (i := 7) (v := ?_) rfl rfl (by kernel_rfl) (by kernel_rfl) (by kernel_rfl) (fun _ _ _ h => h) (Or.inl ⟨by kernel_rfl, ?_⟩) SX ?_
              rotate_left
              · intro w' hSw; skip; go_simp; try with_reducible rfl
              try simp only [Act.put, List.setIfInBounds_toArray, List.set_cons_zero, List.set_cons_succ]
              refine takeH 22 (i := 8) (v := ?_) rfl rfl (by kernel_rfl) (by kernel_rfl) (by kernel_rfl) (fun _ _ _ h => h) (Or.inl ⟨by kernel_rfl, ?_⟩) SX ?_
              rotate_left
              · intro w' hSw; skip; go_simp; try with_reducible rfl
              try simp only [Act.put, List.setIfInBounds_toArray, List.set_cons_zero, List.set_cons_succ]
              refine wpAnyH_done (by kernel_rfl) ?_ _
              refine NoPanic.normal ?_
              try simp only [Act.put, List.setIfInBounds_toArray, List.set_cons_zero, List.set_cons_succ]
              have Q5 : Hid (Below w.heap.size w V6 ∧ RgV V6 w.heap.size P9 N B1 B2 ls bs ∧ V6.heap[b15]? = some (.cells #[.slice (some ⟨D1, 0, none⟩) N N, .slice (some ⟨D2, 0, none⟩) N N] 24) ∧ V6.heap[b16]? = some (.cells #[.slice (some ⟨C1, 0, none⟩) N N, .slice (some ⟨C2, 0, none⟩) N N] 24) ∧ RgO V6 w.heap.size D1 D2 l1 bl ∧ RgO V6 w.heap.size C1 C2 l1 bh) := ⟨to_call Q4.out.1 SX, Q4.out.2.1.later SX, kept SX Q4.out.2.2.1, kept SX Q4.out.2.2.2.1, Q4.out.2.2.2.2.1.later SX, Q4.out.2.2.2.2.2.later SX⟩
              have hzl := (zip_low HGR.out).1
              have ca := cellAtJ hAB s _ (inC_at _ s (by rw [enL_len, hzl]; exact hs))
              have hxa : (enL (ls.zip bs) (List.replicate N 0) (8 : Int).toNat)[s]?.getD 0 = enV (ls[s]?.getD 0, bs[s]?.getD 0) 0 8 := by
                have hl := regB_len HGR.out
                rw [enL_at _ _ _ _ (by rw [hzl]; exact hs), zip_at (n := N) (by omega) (by omega) hs, List.getElem?_replicate, if_pos hs]
                rfl
              rw [hxa] at ca
              rcases (HS.out _ Q5.out.1).cells with h0 | ⟨eb, ef, rfl, hce⟩
              · omega
              have ce := hce s hs
              obtain ⟨x, hx⟩ : ∃ x, enV (ls[s]?.getD 0, bs[s]?.getD 0) 0 8 = x := ⟨_, rfl⟩
              obtain ⟨y, hy⟩ : ∃ y, es[s]?.getD 0 = y := ⟨_, rfl⟩
              rw [hx] at ca
              rw [hy] at ce
              have hyb := HEB.out s hs
              rw [hy] at hyb
              have hxb : -1000000 ≤ x ∧ x ≤ 1000000 := by
                rw [← hx]
                unfold enV
                have h5 := pow8 (n := 8 - (ls[s]?.getD 0).toNat) (by omega)
                have h9 := pow8 (n := (ls[s]?.getD 0).toNat) (by omega)
                show -1000000 ≤ -2 ^ 8 + (2 * bs[s]?.getD 0 + 1 + 0) * 2 ^ (8 - (ls[s]?.getD 0).toNat) ∧ -2 ^ 8 + (2 * bs[s]?.getD 0 + 1 + 0) * 2 ^ (8 - (ls[s]?.getD 0).toNat) ≤ 1000000
                generalize (2 : Int) ^ (8 - (ls[s]?.getD 0).toNat) = r at h5
                have h6 : -1000 * r ≤ (2 * bs[s]?.getD 0 + 1 + 0) * r := Int.mul_le_mul_of_nonneg_right (by omega) (by omega)
                have h7 : (2 * bs[s]?.getD 0 + 1 + 0) * r ≤ 1000 * r := Int.mul_le_mul_of_nonneg_right (by omega) (by omega)
                generalize (2 * bs[s]?.getD 0 + 1 + 0) * r = z at h6 h7 ⊢
                have h8 : (2 : Int) ^ 8 = 256 := by decide
                omega
              obtain ⟨X8, hX8⟩ : ∃ X8, x * 2 ^ D = X8 := ⟨_, rfl⟩
              obtain ⟨Y8, hY8⟩ : ∃ Y8, y * 2 ^ 8 = Y8 := ⟨_, rfl⟩
              have hY9 : y * 256 = Y8 := hY8
              have hXb : -1000000 * p ≤ X8 ∧ X8 ≤ 1000000 * p := by
                rw [← hX8, HP.out]
                exact ⟨Int.mul_le_mul_of_nonneg_right hxb.1 (by omega), Int.mul_le_mul_of_nonneg_right hxb.2 (by omega)⟩
              have w3 : wrap64 (x * 2 ^ D) = X8 := by rw [hX8]; exact wrap64_inS _ (by omega)
              have w4 : wrap64 (y * 2 ^ 8) = Y8 := by rw [hY8]; exact wrap64_inS _ (by omega)
              have w4b : wrap64 (y * 256) = Y8 := by rw [hY9]; exact wrap64_inS _ (by omega)
              have f3 : ((N : Int) != (N : Int)) = false := by simp
              rw [hx, hy, hX8, hY8] at HCV
              clear hxa hx hy hyb hxb hX8 hY8 hY9 hXb hce hAB SX hx1 bb6 hZB lZB bZB Q4 hzl HE8 hlv s8
              go_upto_region 25 with fail
              cases lo <;> cases hi
              · obtain ⟨rfl, hcv⟩ : iv = false ∧ (false && false) = (iv && decide (X8 = Y8)) := HCV.out
                clear hcv HCV
                refine wp_region_quiet_lit (by kernel_rfl) (by kernel_rfl) ?_
                go_big_quiet_step (fail)
                go_big_quiet_step (fail)
                go_big_quiet_step (fail)
                go_big_quiet_step (fail)
                go_big_quiet_want
                refine quiet_len _ rfl _ N _ rfl ?_
                try simp only [Act.put, List.setIfInBounds_toArray, List.set_cons_zero, List.set_cons_succ]
                go_big_quiet_on
                repeat (go_big_quiet_step (fail))
                refine wpQuiet_nil ?_
                intro _ hw'
                obtain ⟨nq, hw''⟩ := hw'
                subst hw''
                have Q6 : Hid (Below w.heap.size w ((V6.drewN nq)) ∧ RgV ((V6.drewN nq)) w.heap.size P9 N B1 B2 ls bs ∧ ((V6.drewN nq)).heap[b15]? = some (.cells #[.slice (some ⟨D1, 0, none⟩) N N, .slice (some ⟨D2, 0, none⟩) N N] 24) ∧ ((V6.drewN nq)).heap[b16]? = some (.cells #[.slice (some ⟨C1, 0, none⟩) N N, .slice (some ⟨C2, 0, none⟩) N N] 24) ∧ RgO ((V6.drewN nq)) w.heap.size D1 D2 l1 bl ∧ RgO ((V6.drewN nq)) w.heap.size C1 C2 l1 bh) := ⟨below_drewN Q5.out.1 _, ⟨Q5.out.2.1.v, ⟨Q5.out.2.1.r.b1, Q5.out.2.1.r.b2, Q5.out.2.1.r.ne, Q5.out.2.1.r.l, Q5.out.2.1.r.a⟩, Q5.out.2.1.g⟩, Q5.out.2.2.1, Q5.out.2.2.2.1, ⟨Q5.out.2.2.2.2.1.b1, Q5.out.2.2.2.2.1.b2, Q5.out.2.2.2.2.1.ne, Q5.out.2.2.2.2.1.l, Q5.out.2.2.2.2.1.a⟩, ⟨Q5.out.2.2.2.2.2.b1, Q5.out.2.2.2.2.2.b2, Q5.out.2.2.2.2.2.ne, Q5.out.2.2.2.2.2.l, Q5.out.2.2.2.2.2.a⟩⟩
                clear Q5 ca ce w3 w4 w4b
                cases up with
                | true =>
                  go_upto_region 28 with (first | (refine wpList_load_row (by rfl) 24 _ (by rfl) b15 #[.slice (some ⟨D1, 0, none⟩) N N, .slice (some ⟨D2, 0, none⟩) N N] (by rfl) Q6.out.2.2.1 _ Try.underlying24 rfl 2 Try.szRT (by rfl) ?_) | (refine wpList_store_row (by rfl) 24 _ _ (by rfl) w w.heap.size P9 #[.slice (some ⟨D1, 0, none⟩) N N, .slice (some ⟨D2, 0, none⟩) N N] _ (by rfl) (by rfl) Q6.out.2.1.v Q6.out.1 (by omega) 2 Try.szRT rfl rfl (one_rg _ _ _ _ _ _) ?_; intro W7 e7 b7 s7 o7))
                  have cu7 := HCU.out _ b7
                  go_upto_region 30 with (first | (refine wpList_load_row (by rfl) 24 _ (by rfl) b16 #[.slice (some ⟨C1, 0, none⟩) N N, .slice (some ⟨C2, 0, none⟩) N N] (by rfl) ((o7 b16 (by omega)).trans Q6.out.2.2.2.1) _ Try.underlying24 rfl 2 Try.szRT (by rfl) ?_) | (refine wpList_store_row (by rfl) 24 _ _ (by rfl) w w.heap.size P9 #[.slice (some ⟨C1, 0, none⟩) N N, .slice (some ⟨C2, 0, none⟩) N N] _ (by rfl) (by rfl) e7 b7 (by omega) 2 Try.szRT rfl rfl (one_rg _ _ _ _ _ _) ?_; intro W8 e8 b8 s8 o8))
                  have P6 : Hid (Below w.heap.size w W8 ∧ RgV W8 w.heap.size P9 N C1 C2 l1 bh) := ⟨b8, e8, (Q6.out.2.2.2.2.2.stored Q6.out.2.1.v o7).stored e7 o8, KR2.out⟩
                  clear e8 b8 s8 o8
                  clear cu7 e7 b7 s7 o7 Q6
                  go_wp2_with (first | (refine wpList_load_row (by rfl) 24 _ (by rfl) P9 #[.slice (some ⟨C1, 0, none⟩) N N, .slice (some ⟨C2, 0, none⟩) N N] (by rfl) P6.out.2.v _ Try.underlying24 rfl 2 Try.szRT (by rfl) ?_))
                  refine Calls.mono (HWY.out _ _ _ _ P6.out.2) ?_
                  rintro e' wy ⟨rfl, bby⟩
                  have P7 : Hid (∃ B1 B2 ls bs, (Below w.heap.size w wy ∧ RgV wy w.heap.size P9 N B1 B2 ls bs ∧ ls.sum = (c + 1))) := ⟨C1, C2, _, _, to_call P6.out.1 bby, P6.out.2.later bby, HSU.out⟩
                  have fc : ((c + 1 : Int) != c + 1) = false := by simp
                  clear P6 bby
                  go_wp2_with fail
                  go_roundg q
                  case measure => omega
                  case rel => exact ⟨j + 1, c + 1, rfl, by go_num, by have := HIG.out; omega, ⟨by omega, by omega⟩, P7⟩
                | false =>
                  go_upto_region 28 with (first | (refine wpList_load_row (by rfl) 24 _ (by rfl) b15 #[.slice (some ⟨D1, 0, none⟩) N N, .slice (some ⟨D2, 0, none⟩) N N] (by rfl) Q6.out.2.2.1 _ Try.underlying24 rfl 2 Try.szRT (by rfl) ?_) | (refine wpList_store_row (by rfl) 24 _ _ (by rfl) w w.heap.size P9 #[.slice (some ⟨D1, 0, none⟩) N N, .slice (some ⟨D2, 0, none⟩) N N] _ (by rfl) (by rfl) Q6.out.2.1.v Q6.out.1 (by omega) 2 Try.szRT rfl rfl (one_rg _ _ _ _ _ _) ?_; intro W7 e7 b7 s7 o7))
                  have cu7 := HCU.out _ b7
                  go_upto_region 30 with fail
                  have P6 : Hid (Below w.heap.size w W7 ∧ RgV W7 w.heap.size P9 N D1 D2 l1 bl) := ⟨b7, e7, Q6.out.2.2.2.2.1.stored Q6.out.2.1.v o7, KR1.out⟩
                  clear cu7 e7 b7 s7 o7 Q6
                  go_wp2_with (first | (refine wpList_load_row (by rfl) 24 _ (by rfl) P9 #[.slice (some ⟨D1, 0, none⟩) N N, .slice (some ⟨D2, 0, none⟩) N N] (by rfl) P6.out.2.v _ Try.underlying24 rfl 2 Try.szRT (by rfl) ?_))
                  refine Calls.mono (HWY.out _ _ _ _ P6.out.2) ?_
                  rintro e' wy ⟨rfl, bby⟩
                  have P7 : Hid (∃ B1 B2 ls bs, (Below w.heap.size w wy ∧ RgV wy w.heap.size P9 N B1 B2 ls bs ∧ ls.sum = (c + 1))) := ⟨D1, D2, _, _, to_call P6.out.1 bby, P6.out.2.later bby, HSU.out⟩
                  have fc : ((c + 1 : Int) != c + 1) = false := by simp
                  clear P6 bby
                  go_wp2_with fail
                  go_roundg q
                  case measure => omega
                  case rel => exact ⟨j + 1, c + 1, rfl, by go_num, by have := HIG.out; omega, ⟨by omega, by omega⟩, P7⟩
              · obtain ⟨rfl, hcv⟩ : iv = true ∧ (false && true) = (iv && decide (X8 = Y8)) := HCV.out
                have fe : (X8 == Y8) = false := by simpa using hcv.symm
                clear hcv HCV
                refine wp_region_quiet_lit (by kernel_rfl) (by kernel_rfl) ?_
                go_big_quiet_step (fail)
                go_big_quiet_step (fail)
                go_big_quiet_step (fail)
                go_big_quiet_step (fail)
                go_big_quiet_want
                refine quiet_len _ rfl _ N _ rfl ?_
                try simp only [Act.put, List.setIfInBounds_toArray, List.set_cons_zero, List.set_cons_succ]
                go_big_quiet_on
                repeat (go_big_quiet_step (fail))
                refine wpQuiet_nil ?_
                intro _ hw'
                obtain ⟨nq, hw''⟩ := hw'
                subst hw''
                have Q6 : Hid (Below w.heap.size w ((V6.drewN nq)) ∧ RgV ((V6.drewN nq)) w.heap.size P9 N B1 B2 ls bs ∧ ((V6.drewN nq)).heap[b15]? = some (.cells #[.slice (some ⟨D1, 0, none⟩) N N, .slice (some ⟨D2, 0, none⟩) N N] 24) ∧ ((V6.drewN nq)).heap[b16]? = some (.cells #[.slice (some ⟨C1, 0, none⟩) N N, .slice (some ⟨C2, 0, none⟩) N N] 24) ∧ RgO ((V6.drewN nq)) w.heap.size D1 D2 l1 bl ∧ RgO ((V6.drewN nq)) w.heap.size C1 C2 l1 bh) := ⟨below_drewN Q5.out.1 _, ⟨Q5.out.2.1.v, ⟨Q5.out.2.1.r.b1, Q5.out.2.1.r.b2, Q5.out.2.1.r.ne, Q5.out.2.1.r.l, Q5.out.2.1.r.a⟩, Q5.out.2.1.g⟩, Q5.out.2.2.1, Q5.out.2.2.2.1, ⟨Q5.out.2.2.2.2.1.b1, Q5.out.2.2.2.2.1.b2, Q5.out.2.2.2.2.1.ne, Q5.out.2.2.2.2.1.l, Q5.out.2.2.2.2.1.a⟩, ⟨Q5.out.2.2.2.2.2.b1, Q5.out.2.2.2.2.2.b2, Q5.out.2.2.2.2.2.ne, Q5.out.2.2.2.2.2.l, Q5.out.2.2.2.2.2.a⟩⟩
                clear Q5 ca ce w3 w4 w4b
                cases up with
                | true =>
                  go_upto_region 28 with (first | (refine wpList_load_row (by rfl) 24 _ (by rfl) b15 #[.slice (some ⟨D1, 0, none⟩) N N, .slice (some ⟨D2, 0, none⟩) N N] (by rfl) Q6.out.2.2.1 _ Try.underlying24 rfl 2 Try.szRT (by rfl) ?_) | (refine wpList_store_row (by rfl) 24 _ _ (by rfl) w w.heap.size P9 #[.slice (some ⟨D1, 0, none⟩) N N, .slice (some ⟨D2, 0, none⟩) N N] _ (by rfl) (by rfl) Q6.out.2.1.v Q6.out.1 (by omega) 2 Try.szRT rfl rfl (one_rg _ _ _ _ _ _) ?_; intro W7 e7 b7 s7 o7))
                  have cu7 := HCU.out _ b7
                  go_upto_region 30 with (first | (refine wpList_load_row (by rfl) 24 _ (by rfl) b16 #[.slice (some ⟨C1, 0, none⟩) N N, .slice (some ⟨C2, 0, none⟩) N N] (by rfl) ((o7 b16 (by omega)).trans Q6.out.2.2.2.1) _ Try.underlying24 rfl 2 Try.szRT (by rfl) ?_) | (refine wpList_store_row (by rfl) 24 _ _ (by rfl) w w.heap.size P9 #[.slice (some ⟨C1, 0, none⟩) N N, .slice (some ⟨C2, 0, none⟩) N N] _ (by rfl) (by rfl) e7 b7 (by omega) 2 Try.szRT rfl rfl (one_rg _ _ _ _ _ _) ?_; intro W8 e8 b8 s8 o8))
                  have P6 : Hid (Below w.heap.size w W8 ∧ RgV W8 w.heap.size P9 N C1 C2 l1 bh) := ⟨b8, e8, (Q6.out.2.2.2.2.2.stored Q6.out.2.1.v o7).stored e7 o8, KR2.out⟩
                  clear e8 b8 s8 o8
                  clear cu7 e7 b7 s7 o7 Q6
                  go_wp2_with (first | (refine wpList_load_row (by rfl) 24 _ (by rfl) P9 #[.slice (some ⟨C1, 0, none⟩) N N, .slice (some ⟨C2, 0, none⟩) N N] (by rfl) P6.out.2.v _ Try.underlying24 rfl 2 Try.szRT (by rfl) ?_))
                  refine Calls.mono (HWY.out _ _ _ _ P6.out.2) ?_
                  rintro e' wy ⟨rfl, bby⟩
                  have P7 : Hid (∃ B1 B2 ls bs, (Below w.heap.size w wy ∧ RgV wy w.heap.size P9 N B1 B2 ls bs ∧ ls.sum = (c + 1))) := ⟨C1, C2, _, _, to_call P6.out.1 bby, P6.out.2.later bby, HSU.out⟩
                  have fc : ((c + 1 : Int) != c + 1) = false := by simp
                  clear P6 bby
                  go_wp2_with fail
                  go_roundg q
                  case measure => omega
                  case rel => exact ⟨j + 1, c + 1, rfl, by go_num, by have := HIG.out; omega, ⟨by omega, by omega⟩, P7⟩
                | false =>
                  go_upto_region 28 with (first | (refine wpList_load_row (by rfl) 24 _ (by rfl) b15 #[.slice (some ⟨D1, 0, none⟩) N N, .slice (some ⟨D2, 0, none⟩) N N] (by rfl) Q6.out.2.2.1 _ Try.underlying24 rfl 2 Try.szRT (by rfl) ?_) | (refine wpList_store_row (by rfl) 24 _ _ (by rfl) w w.heap.size P9 #[.slice (some ⟨D1, 0, none⟩) N N, .slice (some ⟨D2, 0, none⟩) N N] _ (by rfl) (by rfl) Q6.out.2.1.v Q6.out.1 (by omega) 2 Try.szRT rfl rfl (one_rg _ _ _ _ _ _) ?_; intro W7 e7 b7 s7 o7))
                  have cu7 := HCU.out _ b7
                  go_upto_region 30 with fail
                  have P6 : Hid (Below w.heap.size w W7 ∧ RgV W7 w.heap.size P9 N D1 D2 l1 bl) := ⟨b7, e7, Q6.out.2.2.2.2.1.stored Q6.out.2.1.v o7, KR1.out⟩
                  clear cu7 e7 b7 s7 o7 Q6
                  go_wp2_with (first | (refine wpList_load_row (by rfl) 24 _ (by rfl) P9 #[.slice (some ⟨D1, 0, none⟩) N N, .slice (some ⟨D2, 0, none⟩) N N] (by rfl) P6.out.2.v _ Try.underlying24 rfl 2 Try.szRT (by rfl) ?_))
                  refine Calls.mono (HWY.out _ _ _ _ P6.out.2) ?_
                  rintro e' wy ⟨rfl, bby⟩
                  have P7 : Hid (∃ B1 B2 ls bs, (Below w.heap.size w wy ∧ RgV wy w.heap.size P9 N B1 B2 ls bs ∧ ls.sum = (c + 1))) := ⟨D1, D2, _, _, to_call P6.out.1 bby, P6.out.2.later bby, HSU.out⟩
                  have fc : ((c + 1 : Int) != c + 1) = false := by simp
                  clear P6 bby
                  go_wp2_with fail
                  go_roundg q
                  case measure => omega
                  case rel => exact ⟨j + 1, c + 1, rfl, by go_num, by have := HIG.out; omega, ⟨by omega, by omega⟩, P7⟩
              · obtain ⟨rfl, hcv⟩ : iv = true ∧ (true && false) = (iv && decide (X8 = Y8)) := HCV.out
                have fe : (X8 == Y8) = false := by simpa using hcv.symm
                clear hcv HCV
                refine wp_region_quiet_lit (by kernel_rfl) (by kernel_rfl) ?_
                go_big_quiet_step (fail)
                go_big_quiet_step (fail)
                go_big_quiet_step (fail)
                go_big_quiet_step (fail)
                go_big_quiet_want
                refine quiet_len _ rfl _ N _ rfl ?_
                try simp only [Act.put, List.setIfInBounds_toArray, List.set_cons_zero, List.set_cons_succ]
                go_big_quiet_on
                repeat (go_big_quiet_step (fail))
                refine wpQuiet_nil ?_
                intro _ hw'
                obtain ⟨nq, hw''⟩ := hw'
                subst hw''
                have Q6 : Hid (Below w.heap.size w ((V6.drewN nq)) ∧ RgV ((V6.drewN nq)) w.heap.size P9 N B1 B2 ls bs ∧ ((V6.drewN nq)).heap[b15]? = some (.cells #[.slice (some ⟨D1, 0, none⟩) N N, .slice (some ⟨D2, 0, none⟩) N N] 24) ∧ ((V6.drewN nq)).heap[b16]? = some (.cells #[.slice (some ⟨C1, 0, none⟩) N N, .slice (some ⟨C2, 0, none⟩) N N] 24) ∧ RgO ((V6.drewN nq)) w.heap.size D1 D2 l1 bl ∧ RgO ((V6.drewN nq)) w.heap.size C1 C2 l1 bh) := ⟨below_drewN Q5.out.1 _, ⟨Q5.out.2.1.v, ⟨Q5.out.2.1.r.b1, Q5.out.2.1.r.b2, Q5.out.2.1.r.ne, Q5.out.2.1.r.l, Q5.out.2.1.r.a⟩, Q5.out.2.1.g⟩, Q5.out.2.2.1, Q5.out.2.2.2.1, ⟨Q5.out.2.2.2.2.1.b1, Q5.out.2.2.2.2.1.b2, Q5.out.2.2.2.2.1.ne, Q5.out.2.2.2.2.1.l, Q5.out.2.2.2.2.1.a⟩, ⟨Q5.out.2.2.2.2.2.b1, Q5.out.2.2.2.2.2.b2, Q5.out.2.2.2.2.2.ne, Q5.out.2.2.2.2.2.l, Q5.out.2.2.2.2.2.a⟩⟩
                clear Q5 ca ce w3 w4 w4b
                cases up with
                | true =>
                  go_upto_region 28 with (first | (refine wpList_load_row (by rfl) 24 _ (by rfl) b15 #[.slice (some ⟨D1, 0, none⟩) N N, .slice (some ⟨D2, 0, none⟩) N N] (by rfl) Q6.out.2.2.1 _ Try.underlying24 rfl 2 Try.szRT (by rfl) ?_) | (refine wpList_store_row (by rfl) 24 _ _ (by rfl) w w.heap.size P9 #[.slice (some ⟨D1, 0, none⟩) N N, .slice (some ⟨D2, 0, none⟩) N N] _ (by rfl) (by rfl) Q6.out.2.1.v Q6.out.1 (by omega) 2 Try.szRT rfl rfl (one_rg _ _ _ _ _ _) ?_; intro W7 e7 b7 s7 o7))
                  have cu7 := HCU.out _ b7
                  go_upto_region 30 with (first | (refine wpList_load_row (by rfl) 24 _ (by rfl) b16 #[.slice (some ⟨C1, 0, none⟩) N N, .slice (some ⟨C2, 0, none⟩) N N] (by rfl) ((o7 b16 (by omega)).trans Q6.out.2.2.2.1) _ Try.underlying24 rfl 2 Try.szRT (by rfl) ?_) | (refine wpList_store_row (by rfl) 24 _ _ (by rfl) w w.heap.size P9 #[.slice (some ⟨C1, 0, none⟩) N N, .slice (some ⟨C2, 0, none⟩) N N] _ (by rfl) (by rfl) e7 b7 (by omega) 2 Try.szRT rfl rfl (one_rg _ _ _ _ _ _) ?_; intro W8 e8 b8 s8 o8))
                  have P6 : Hid (Below w.heap.size w W8 ∧ RgV W8 w.heap.size P9 N C1 C2 l1 bh) := ⟨b8, e8, (Q6.out.2.2.2.2.2.stored Q6.out.2.1.v o7).stored e7 o8, KR2.out⟩
                  clear e8 b8 s8 o8
                  clear cu7 e7 b7 s7 o7 Q6
                  go_wp2_with (first | (refine wpList_load_row (by rfl) 24 _ (by rfl) P9 #[.slice (some ⟨C1, 0, none⟩) N N, .slice (some ⟨C2, 0, none⟩) N N] (by rfl) P6.out.2.v _ Try.underlying24 rfl 2 Try.szRT (by rfl) ?_))
                  refine Calls.mono (HWY.out _ _ _ _ P6.out.2) ?_
                  rintro e' wy ⟨rfl, bby⟩
                  have P7 : Hid (∃ B1 B2 ls bs, (Below w.heap.size w wy ∧ RgV wy w.heap.size P9 N B1 B2 ls bs ∧ ls.sum = (c + 1))) := ⟨C1, C2, _, _, to_call P6.out.1 bby, P6.out.2.later bby, HSU.out⟩
                  have fc : ((c + 1 : Int) != c + 1) = false := by simp
                  clear P6 bby
                  go_wp2_with fail
                  go_roundg q
                  case measure => omega
                  case rel => exact ⟨j + 1, c + 1, rfl, by go_num, by have := HIG.out; omega, ⟨by omega, by omega⟩, P7⟩
                | false =>
                  go_upto_region 28 with (first | (refine wpList_load_row (by rfl) 24 _ (by rfl) b15 #[.slice (some ⟨D1, 0, none⟩) N N, .slice (some ⟨D2, 0, none⟩) N N] (by rfl) Q6.out.2.2.1 _ Try.underlying24 rfl 2 Try.szRT (by rfl) ?_) | (refine wpList_store_row (by rfl) 24 _ _ (by rfl) w w.heap.size P9 #[.slice (some ⟨D1, 0, none⟩) N N, .slice (some ⟨D2, 0, none⟩) N N] _ (by rfl) (by rfl) Q6.out.2.1.v Q6.out.1 (by omega) 2 Try.szRT rfl rfl (one_rg _ _ _ _ _ _) ?_; intro W7 e7 b7 s7 o7))
                  have cu7 := HCU.out _ b7
                  go_upto_region 30 with fail
                  have P6 : Hid (Below w.heap.size w W7 ∧ RgV W7 w.heap.size P9 N D1 D2 l1 bl) := ⟨b7, e7, Q6.out.2.2.2.2.1.stored Q6.out.2.1.v o7, KR1.out⟩
                  clear cu7 e7 b7 s7 o7 Q6
                  go_wp2_with (first | (refine wpList_load_row (by rfl) 24 _ (by rfl) P9 #[.slice (some ⟨D1, 0, none⟩) N N, .slice (some ⟨D2, 0, none⟩) N N] (by rfl) P6.out.2.v _ Try.underlying24 rfl 2 Try.szRT (by rfl) ?_))
                  refine Calls.mono (HWY.out _ _ _ _ P6.out.2) ?_
                  rintro e' wy ⟨rfl, bby⟩
                  have P7 : Hid (∃ B1 B2 ls bs, (Below w.heap.size w wy ∧ RgV wy w.heap.size P9 N B1 B2 ls bs ∧ ls.sum = (c + 1))) := ⟨D1, D2, _, _, to_call P6.out.1 bby, P6.out.2.later bby, HSU.out⟩
                  have fc : ((c + 1 : Int) != c + 1) = false := by simp
                  clear P6 bby
                  go_wp2_with fail
                  go_roundg q
                  case measure => omega
                  case rel => exact ⟨j + 1, c + 1, rfl, by go_num, by have := HIG.out; omega, ⟨by omega, by omega⟩, P7⟩
              · obtain ⟨rfl, hcv⟩ : iv = true ∧ (true && true) = (iv && decide (X8 = Y8)) := HCV.out
                have fe : (X8 == Y8) = true := by simpa using hcv
                clear hcv HCV
                refine wp_region_quiet_lit (by kernel_rfl) (by kernel_rfl) ?_
                go_big_quiet_step (fail)
                go_big_quiet_step (fail)
                go_big_quiet_step (fail)
                go_big_quiet_step (fail)
                go_big_quiet_want
                refine quiet_len _ rfl _ N _ rfl ?_
                try simp only [Act.put, List.setIfInBounds_toArray, List.set_cons_zero, List.set_cons_succ]
                go_big_quiet_on
                repeat (go_big_quiet_step (fail))
                refine wpQuiet_nil ?_
                intro _ hw'
                obtain ⟨nq, hw''⟩ := hw'
                subst hw''
                have Q6 : Hid (Below w.heap.size w ((V6.drewN nq)) ∧ RgV ((V6.drewN nq)) w.heap.size P9 N B1 B2 ls bs ∧ ((V6.drewN nq)).heap[b15]? = some (.cells #[.slice (some ⟨D1, 0, none⟩) N N, .slice (some ⟨D2, 0, none⟩) N N] 24) ∧ ((V6.drewN nq)).heap[b16]? = some (.cells #[.slice (some ⟨C1, 0, none⟩) N N, .slice (some ⟨C2, 0, none⟩) N N] 24) ∧ RgO ((V6.drewN nq)) w.heap.size D1 D2 l1 bl ∧ RgO ((V6.drewN nq)) w.heap.size C1 C2 l1 bh) := ⟨below_drewN Q5.out.1 _, ⟨Q5.out.2.1.v, ⟨Q5.out.2.1.r.b1, Q5.out.2.1.r.b2, Q5.out.2.1.r.ne, Q5.out.2.1.r.l, Q5.out.2.1.r.a⟩, Q5.out.2.1.g⟩, Q5.out.2.2.1, Q5.out.2.2.2.1, ⟨Q5.out.2.2.2.2.1.b1, Q5.out.2.2.2.2.1.b2, Q5.out.2.2.2.2.1.ne, Q5.out.2.2.2.2.1.l, Q5.out.2.2.2.2.1.a⟩, ⟨Q5.out.2.2.2.2.2.b1, Q5.out.2.2.2.2.2.b2, Q5.out.2.2.2.2.2.ne, Q5.out.2.2.2.2.2.l, Q5.out.2.2.2.2.2.a⟩⟩
                clear Q5 ca ce w3 w4 w4b
                cases up with
                | true =>
                  go_upto_region 28 with (first | (refine wpList_load_row (by rfl) 24 _ (by rfl) b15 #[.slice (some ⟨D1, 0, none⟩) N N, .slice (some ⟨D2, 0, none⟩) N N] (by rfl) Q6.out.2.2.1 _ Try.underlying24 rfl 2 Try.szRT (by rfl) ?_) | (refine wpList_store_row (by rfl) 24 _ _ (by rfl) w w.heap.size P9 #[.slice (some ⟨D1, 0, none⟩) N N, .slice (some ⟨D2, 0, none⟩) N N] _ (by rfl) (by rfl) Q6.out.2.1.v Q6.out.1 (by omega) 2 Try.szRT rfl rfl (one_rg _ _ _ _ _ _) ?_; intro W7 e7 b7 s7 o7))
                  have cu7 := HCU.out _ b7
                  go_upto_region 30 with (first | (refine wpList_load_row (by rfl) 24 _ (by rfl) b16 #[.slice (some ⟨C1, 0, none⟩) N N, .slice (some ⟨C2, 0, none⟩) N N] (by rfl) ((o7 b16 (by omega)).trans Q6.out.2.2.2.1) _ Try.underlying24 rfl 2 Try.szRT (by rfl) ?_) | (refine wpList_store_row (by rfl) 24 _ _ (by rfl) w w.heap.size P9 #[.slice (some ⟨C1, 0, none⟩) N N, .slice (some ⟨C2, 0, none⟩) N N] _ (by rfl) (by rfl) e7 b7 (by omega) 2 Try.szRT rfl rfl (one_rg _ _ _ _ _ _) ?_; intro W8 e8 b8 s8 o8))
                  have P6 : Hid (Below w.heap.size w W8 ∧ RgV W8 w.heap.size P9 N C1 C2 l1 bh) := ⟨b8, e8, (Q6.out.2.2.2.2.2.stored Q6.out.2.1.v o7).stored e7 o8, KR2.out⟩
                  clear e8 b8 s8 o8
                  clear cu7 e7 b7 s7 o7 Q6
                  go_wp2_with (first | (refine wpList_load_row (by rfl) 24 _ (by rfl) P9 #[.slice (some ⟨C1, 0, none⟩) N N, .slice (some ⟨C2, 0, none⟩) N N] (by rfl) P6.out.2.v _ Try.underlying24 rfl 2 Try.szRT (by rfl) ?_))
                  refine Calls.mono (HWY.out _ _ _ _ P6.out.2) ?_
                  rintro e' wy ⟨rfl, bby⟩
                  have P7 : Hid (∃ B1 B2 ls bs, (Below w.heap.size w wy ∧ RgV wy w.heap.size P9 N B1 B2 ls bs ∧ ls.sum = (c + 1))) := ⟨C1, C2, _, _, to_call P6.out.1 bby, P6.out.2.later bby, HSU.out⟩
                  have fc : ((c + 1 : Int) != c + 1) = false := by simp
                  clear P6 bby
                  go_wp2_with fail
                  go_roundg q
                  case measure => omega
                  case rel => exact ⟨j + 1, c + 1, rfl, by go_num, by have := HIG.out; omega, ⟨by omega, by omega⟩, P7⟩
                | false =>
                  go_upto_region 28 with (first | (refine wpList_load_row (by rfl) 24 _ (by rfl) b15 #[.slice (some ⟨D1, 0, none⟩) N N, .slice (some ⟨D2, 0, none⟩) N N] (by rfl) Q6.out.2.2.1 _ Try.underlying24 rfl 2 Try.szRT (by rfl) ?_) | (refine wpList_store_row (by rfl) 24 _ _ (by rfl) w w.heap.size P9 #[.slice (some ⟨D1, 0, none⟩) N N, .slice (some ⟨D2, 0, none⟩) N N] _ (by rfl) (by rfl) Q6.out.2.1.v Q6.out.1 (by omega) 2 Try.szRT rfl rfl (one_rg _ _ _ _ _ _) ?_; intro W7 e7 b7 s7 o7))
                  have cu7 := HCU.out _ b7
                  go_upto_region 30 with fail
                  have P6 : Hid (Below w.heap.size w W7 ∧ RgV W7 w.heap.size P9 N D1 D2 l1 bl) := ⟨b7, e7, Q6.out.2.2.2.2.1.stored Q6.out.2.1.v o7, KR1.out⟩
                  clear cu7 e7 b7 s7 o7 Q6
                  go_wp2_with (first | (refine wpList_load_row (by rfl) 24 _ (by rfl) P9 #[.slice (some ⟨D1, 0, none⟩) N N, .slice (some ⟨D2, 0, none⟩) N N] (by rfl) P6.out.2.v _ Try.underlying24 rfl 2 Try.szRT (by rfl) ?_))
                  refine Calls.mono (HWY.out _ _ _ _ P6.out.2) ?_
                  rintro e' wy ⟨rfl, bby⟩
                  have P7 : Hid (∃ B1 B2 ls bs, (Below w.heap.size w wy ∧ RgV wy w.heap.size P9 N B1 B2 ls bs ∧ ls.sum = (c + 1))) := ⟨D1, D2, _, _, to_call P6.out.1 bby, P6.out.2.later bby, HSU.out⟩
                  have fc : ((c + 1 : Int) != c + 1) = false := by simp
                  clear P6 bby
                  go_wp2_with fail
                  go_roundg q
                  case measure => omega
                  case rel => exact ⟨j + 1, c + 1, rfl, by go_num, by have := HIG.out; omega, ⟨by omega, by omega⟩, P7⟩
            · have hdum := 0
              have hne : (er != 0) = true := by simpa using he
              have hrg := P3.out.1.2.1.g
              have hcs : sy < 0 ∨ (n : Int) ≤ sy ∨ ls[sy.toNat]?.getD 0 = 8 := by
                have h := HER.out
                unfold HvE at h
                rw [if_pos hrg] at h
                by_cases hc : sy < 0 ∨ (n : Int) ≤ sy ∨ ls[sy.toNat]?.getD 0 = 8
                · exact hc
                · rw [if_neg hc] at h; exact absurd h.symm he
              have hlen := P3.out.1.2.1.len
              have P6 : Hid (∃ B1 B2 ls bs, (Below w.heap.size w V3 ∧ RgV V3 w.heap.size P9 n B1 B2 ls bs ∧ ls.sum = c)) := ⟨B1, B2, ls, bs, P3.out.1⟩
              have c0 := cellAtJ P3.out.1.2.1.v 0 _ rfl
              by_cases g1 : sy < 0
              · have d1 : decide (sy ≥ 0) = false := decide_eq_false (by omega)
                clear P3 HER he hrg hcs hlen c0
                go_wp2_with fail
                go_roundg q
                case measure => omega
                case rel => exact ⟨j + 1, c, rfl, by go_num, by have := HIG.out; omega, ⟨by omega, by omega⟩, P6⟩
              · have d1 : decide (sy ≥ 0) = true := decide_eq_true (by omega)
                by_cases g2 : (n : Int) ≤ sy
                · have d2 : decide (sy < (n : Int)) = false := decide_eq_false (by omega)
                  clear P3 HER he hrg hcs hlen c0
                  go_wp2_with fail
                  go_roundg q
                  case measure => omega
                  case rel => exact ⟨j + 1, c, rfl, by go_num, by have := HIG.out; omega, ⟨by omega, by omega⟩, P6⟩
                · have d2 : decide (sy < (n : Int)) = true := decide_eq_true (by omega)
                  obtain ⟨s, rfl⟩ : ∃ s : Nat, sy = s := ⟨sy.toNat, by omega⟩
                  have h8 : ls[s]?.getD 0 = 8 := by rcases hcs with h | h | h; (· omega); (· omega); (· rw [Int.toNat_natCast] at h; exact h)
                  have c2 := cellAtJ P3.out.1.2.1.r.l s _ (inC_at _ s (by omega))
                  rw [h8] at c2
                  have hs' : (s : Int) < (n : Int) := by omega
                  clear P3 HER he hrg hcs hlen h8
                  go_wp2_with fail
                  go_roundg q
                  case measure => omega
                  case rel => exact ⟨j + 1, c, rfl, by go_num, by have := HIG.out; omega, ⟨by omega, by omega⟩, P6⟩
          · have e2 : decide ((j : Int) < 40) = false := decide_eq_false (by omega)
            have e3 : decide (j < 40) = false := decide_eq_false ht2
            clear hj ht2
            go_wp2_with fail
            refine Calls.mono (awake_any _) ?_
            rintro e' wz ⟨rfl, bbz⟩
            go_wp2_with fail
            go_ret
            exact ⟨rfl, to_call P2.out.1 bbz⟩
        · have e1 : decide ((j : Int) < (tn : Int)) = false := decide_eq_false (by omega)
          have e2 : decide (j < tn) = false := decide_eq_false ht1
          clear hj ht1
          go_wp2_with fail
          refine Calls.mono (awake_any _) ?_
          rintro e' wz ⟨rfl, bbz⟩
          go_wp2_with fail
          go_ret
          exact ⟨rfl, to_call P2.out.1 bbz⟩
end Go.Proofs.Ytckecegkepanjaa
