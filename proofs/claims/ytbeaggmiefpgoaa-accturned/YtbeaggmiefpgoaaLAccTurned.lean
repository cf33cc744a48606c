import Derived.Test.YtbeaggmiefpgoaaWO
namespace Go.Proofs.Ytbeaggmiefpgoaa
open Go.RowKit
set_option linter.unusedVariables false

set_option maxRecDepth 100000 in
set_option maxHeartbeats 4000000 in
theorem accTurned_walk (u : Nat) (hu : u < 18446744073709551616) (ao : Option Addr) (len cap : Nat) (xs : List Nat) (w : World) (hr : RdU w ao len cap xs) :
    Calls Try.prog 7 #[.int .u64 (u : Int), .slice ao len cap] w fun e w' => e = .returned (.bool true) ∧ Below w.heap.size w w' := by
  have HR : Hid _ := hr
  have hmx := hr.max
  have hle := hr.le
  unfold maxLen at hmx
  clear hr
  go_enter Try.func7, Try.ntmps7
  go_wp2_with fail
  refine (begun_any _).mono ?_
  rintro e w1 ⟨rfl, h1⟩
  have H1 : Hid (Below w.heap.size w w1) := h1
  have HR1 : Hid (RdU w1 ao len cap xs) := HR.out.later h1
  clear h1
  go_upto_if 19 with fail
  go_cut [1] (fun v wx => ∃ ao' len' ys, v = .slice ao' len' cap ∧ len' ≤ 500 ∧ Hid (RdU w1 ao' len' cap ys) ∧ wx = w1)
  case first =>
    by_cases hl : 500 < len
    · obtain ⟨ao', hsl, hrd⟩ := cutU HR1.out 500 (by omega)
      have HRD : Hid _ := hrd
      clear hrd
      have hsl' : ∀ w, (Instr.slice 41 (.slice ao len cap) none (some (.int .i64 500)) none).run Try.prog w = .ok (.slice ao' 500 cap) w := hsl
      clear hsl
      go_wp2_with fail
      go_meet
      exact ⟨ao', 500, _, rfl, by omega, HRD, rfl⟩
    · have hd : decide ((500 : Int) < (len : Int)) = false := decide_eq_false (by omega)
      go_wp2_with fail
      go_meet
      exact ⟨ao, len, xs, rfl, by omega, HR1, rfl⟩
  case rest =>
  obtain ⟨ao', m, ys, rfl, hm, HY, rfl⟩ := hcut
  clear HR HR1 hmx hle
  have hcf := float_int
  go_wp2_with fail
  go_loopw [5, 6, 7] (fun fv gv iv wr => ∃ k : Nat, k ≤ m ∧ iv = .int .i64 k ∧ Hid (OwnF wr wc.heap.size fv (ys.take k)) ∧ Hid (OwnF wr wc.heap.size gv ((ys.take k).map fopp)) ∧ Hid (∀ k, gv.ownBlock = some k → fv.ownBlock ≠ some k) ∧ Hid (Below wc.heap.size wc wr)) (fun _ _ iv _ => m - (intOf iv).toNat)
  case atStart => exact ⟨0, by omega, rfl, OwnF.nil _ _, OwnF.nil _ _, (fun k hk => by cases hk), Below.refl _ _⟩
  case round =>
    obtain ⟨k, hk, rfl, K1, K2, K3, K4⟩ := hrel
    by_cases hlt : k < m
    · have hd : decide ((k : Int) < (m : Int)) = true := decide_eq_true (by omega)
      have hr := HY.out.later K4.out
      rcases hr.cells with h0 | ⟨b, off, rfl, hc⟩
      · omega
      · have g0 := hc k hlt
        have hbb := World.block_lt_of_cell? _ _ (show wc.cell? ⟨b, off + k, none⟩ = some _ from by
          rcases HY.out.cells with h0 | ⟨b2, off2, e2, hc2⟩
          · omega
          · cases e2; exact hc2 k hlt)
        have HTK : Hid (ys.take (k + 1) = ys.take k ++ [ys[k]?.getD 0]) := take_snocD (by rw [HY.out.length]; exact hlt)
        have HTL : Hid ((ys.take k).length ≤ 500) := by unfold Hid; rw [List.length_take]; omega
        obtain ⟨y, hy⟩ : ∃ y, ys[k]?.getD 0 = y := ⟨_, rfl⟩
        rw [hy] at g0 HTK
        have HBS : Hid (wc.heap.size ≤ wr.heap.size) := K4.out.size
        have HB : Hid (b < wc.heap.size) := hbb
        clear hr hc hy hbb
        have hng := run_neg y
        go_wp2_with (first | (go_at_call 31; refine (hcf _ _).mono ?_; rintro e w' ⟨rfl, rfl⟩) | (at_builtin; refine appendF _ (by rfl) (.tmp 28) (.tmp 34) (by rfl) wc.heap.size _ (ys.take k) (by rfl) K1.out y (by rfl) (by have := HTL.out; omega) HBS.out ?_; intro v4 w4 hO4 hkp hb4; obtain ⟨hG, hS⟩ := hkp _ _ K2.out K3.out; have g1 : w4.cell? ⟨b, off + k, none⟩ = some (.int .u64 (y : Int)) := (by rw [hb4.cell (p := ⟨b, off + k, none⟩) HB.out]; exact g0); have HO4 : Hid _ := hO4; have HG : Hid _ := hG; have HS : Hid _ := hS; have HB4 : Hid _ := hb4; clear hO4 hkp hG hS hb4) | (at_builtin; refine appendF _ (by rfl) (.tmp 36) (.tmp 43) (by rfl) wc.heap.size _ ((ys.take k).map fopp) (by rfl) HG.out (fopp y) (by rfl) (by have := HTL.out; rw [List.length_map]; omega) (Nat.le_trans HBS.out HB4.out.size) ?_; intro v5 w5 hO5 hkp hb5; obtain ⟨hF, hS2⟩ := hkp _ _ HO4.out (fun k h1 h2 => HS.out k h2 h1); have HO5 : Hid _ := hO5; have HF : Hid _ := hF; have HS2 : Hid _ := hS2; have HB5 : Hid _ := hb5; clear hO5 hkp hF hS2 hb5))
        go_roundw
        case rel =>
          refine ⟨k + 1, by omega, by go_num, ?_, ?_, fun k h1 h2 => HS2.out k h2 h1, (K4.out.trans HB4.out).trans HB5.out⟩
          · unfold Hid; rw [HTK.out]; exact HF.out
          · unfold Hid; rw [HTK.out, List.map_append]; exact HO5.out
        case measure => simp [intOf]; omega
    · have hkm : k = m := by omega
      have hd : decide ((k : Int) < (m : Int)) = false := decide_eq_false (by omega)
      have hyt : ys.take k = ys := by rw [hkm, ← HY.out.length, List.take_length]
      rw [hyt] at K1 K2
      clear hyt hkm
      have HYL : Hid (∀ v ∈ ys, v < 18446744073709551616) := HY.out.lt
      have HLN : Hid (ys.length ≤ 500) := by unfold Hid; rw [HY.out.length]; exact hm
      clear HY
      go_wp2_with fail
      go_loopw [8] (fun iv wx => ∃ d : Nat, d ≤ 3 ∧ iv = .int .i64 d ∧ Hid (Below wr.heap.size wr wx)) (fun iv _ => 3 - (intOf iv).toNat)
      case atStart => exact ⟨0, by omega, rfl, Below.refl _ _⟩
      case round =>
        obtain ⟨d, hd3, rfl, L1⟩ := hrel
        by_cases hlt : d < 3
        · have hdd : decide ((d : Int) < 3) = true := decide_eq_true (by omega)
          go_wp2_with (first | (go_at_call 31; refine (hcf _ _).mono ?_; rintro e wx ⟨rfl, rfl⟩))
          have hrd := rdF_new wx [u] #[Value.float FloatKind.f64 u] 44 1 rfl (by omega) rfl (by simpa using hu)
          have L2 : Hid (Below wr.heap.size wr (wx.alloc (.cells #[Value.float FloatKind.f64 u] 44))) := L1.out.alloc L1.out.size _
          refine (sum_any d _ 1 1 [u] _ hrd).mono ?_
          rintro e w5 ⟨x, b, rfl, r1, r2⟩
          have L3 : Hid (Below wr.heap.size wr w5) := L2.out.trans (r2.mono L2.out.size)
          obtain ⟨q1, q2, q3, q4⟩ := rndO_single hu (by omega) r1
          have hx63 : ((x : Int) == 9223372036854775808) = false := by simp; omega
          clear r1 r2 hrd L1 L2 q4
          by_cases hf : Fin u
          · have hfd : decide (Fin u) = true := decide_eq_true hf
            rw [hfd] at q1
            subst q1
            have hcmp := q3 rfl
            clear q2 q3 hf
            go_wp2_with (first | (go_at_call 31; refine (hcf _ _).mono ?_; rintro e w' ⟨rfl, rfl⟩) | (go_at_call 35; refine (bits_any _ _).mono ?_; rintro e w' ⟨rfl, rfl⟩) | (go_at_call 36; refine (refNumber_any u hu _).mono ?_; rintro e w' ⟨rfl, rfl⟩))
            go_roundw
            case rel => exact ⟨d + 1, by omega, by go_num, L3⟩
            case measure => simp [intOf]; omega
          · have hfd : decide (Fin u) = false := decide_eq_false hf
            rw [hfd] at q1
            subst q1
            obtain rfl := q2 rfl
            clear q2 q3 hf
            go_wp2_with (first | (go_at_call 31; refine (hcf _ _).mono ?_; rintro e w' ⟨rfl, rfl⟩) | (go_at_call 35; refine (bits_any _ _).mono ?_; rintro e w' ⟨rfl, rfl⟩) | (go_at_call 36; refine (refNumber_any u hu _).mono ?_; rintro e w' ⟨rfl, rfl⟩))
            go_roundw
            case rel => exact ⟨d + 1, by omega, by go_num, L3⟩
            case measure => simp [intOf]; omega
        · have hdd : decide ((d : Int) < 3) = false := decide_eq_false (by omega)
          obtain ⟨fo, fc, rfl, _, hF⟩ := (K1.out.later L1.out).form HYL.out (by have := HLN.out; omega)
          obtain ⟨go, gc, hgv, _, hG⟩ := (K2.out.later L1.out).form (fun v hv => by
            obtain ⟨t, ht, rfl⟩ := List.mem_map.1 hv
            exact (fopp_parts (HYL.out t ht)).2.2) (by have := HLN.out; rw [List.length_map]; omega)
          rw [List.length_map] at hgv hG
          subst hgv
          have HF : Hid _ := hF
          have HG : Hid _ := hG
          have HBA : Hid (Below w.heap.size w wr) := (H1.out.trans (K4.out.mono H1.out.size)).trans (L1.out.mono (Nat.le_trans H1.out.size K4.out.size))
          clear hF hG L1
          go_wp2_with fail
          refine (sum_any 1 fo ys.length fc ys _ HF.out).mono ?_
          rintro e w6 ⟨p, b, rfl, r1, r2⟩
          have R1 : Hid _ := r1
          have HB6 : Hid (Below w.heap.size w w6) := HBA.out.trans (r2.mono HBA.out.size)
          have HG6 : Hid _ := HG.out.later r2
          clear r1 r2
          go_wp2_with fail
          refine (sum_any 2 go ys.length gc (ys.map fopp) _ HG6.out).mono ?_
          rintro e w7 ⟨q, c, rfl, r1, r2⟩
          rw [sumO_fopp0 ys HYL.out] at r1
          have HB7 : Hid (Below w.heap.size w w7) := HB6.out.trans (r2.mono HB6.out.size)
          obtain ⟨rfl, hcmp⟩ := rndO_opp R1.out r1
          have hp := RndO.num R1.out
          have hq := RndO.num r1
          have hp63 : ((p : Int) != 9223372036854775808) = true := by have := hp.2.2; simp; omega
          have hq63 : ((q : Int) != 9223372036854775808) = true := by have := hq.2.2; simp; omega
          have hng := run_neg q
          obtain ⟨nq, hnq⟩ : ∃ nq, fopp q = nq := ⟨_, rfl⟩
          rw [hnq] at hng hcmp
          clear r1 r2 hp hq R1 hnq HG HG6 HF HBA HB6 K1 K2 K3 K4 HYL HLN hcf H1
          go_wp2_with (first | (go_at_call 35; refine (bits_any _ _).mono ?_; rintro e w' ⟨rfl, rfl⟩))
          go_ret
          exact ⟨rfl, HB7.out⟩
end Go.Proofs.Ytbeaggmiefpgoaa
