import Derived.Test.YtbeaggmiefpgoaaXF
namespace Go.Proofs.Ytbeaggmiefpgoaa
open Go.RowKit
set_option linter.unusedVariables false

set_option maxRecDepth 100000 in
theorem same3_any (u : Nat) (b : Bool) (w : World) : Calls Try.prog 18 #[.float .f64 u, .bool b, .int .u64 (u : Int), .bool b] w fun e w' => e = .returned (.bool true) ∧ w' = w := by
  cases b
  all_goals
    go_enter Try.func18, Try.ntmps18
    go_wp2_with (first | (go_at_call 35; refine (bits_any _ _).mono ?_; rintro e w' ⟨rfl, rfl⟩))
    go_ret
    exact ⟨rfl, rfl⟩
set_option maxRecDepth 100000 in
set_option maxHeartbeats 2000000 in
theorem stand_any (g len cp : Nat) (ao : Option Addr) (cap : Nat) (xs : List Nat) (w : World) (h : FlM w g len cp xs) (h' : RdU w ao len cap xs) (hm : len ≤ 2000) :
    Calls Try.prog 19 #[.slice (some ⟨g, 0, none⟩) len cp, .slice ao len cap] w fun e w' => e = .returned (.bool true) ∧ Below w.heap.size w w' := by
  have HF : Hid (FlM w g len cp xs) := h
  have HR : Hid (RdU w ao len cap xs) := h'
  have hrm := h.room
  have hcm := h.max
  unfold maxLen at hcm
  have g0 := h.mark
  clear h h'
  have hsl := slice_head g len cp (len + 1) hrm w (by omega)
  have hsl' : (Instr.slice 42 (.slice (some ⟨g, 0, none⟩) len cp) none (some (.int .i64 ((len : Int) + 1))) none).run Try.prog w = .ok (.slice (some ⟨g, 0, none⟩) (len + 1) cp) w := hsl
  clear hsl
  have o1 : (FloatKind.f64.format.order 13873417816952012800 13873417816952012800 != some .eq) = false := by decide
  have i1 : (len : Int) < ((len + 1 : Nat) : Int) := by omega
  go_enter Try.func19, Try.ntmps19
  go_wp2_with fail
  go_loopw [5] (fun iv wr => ∃ k : Nat, k ≤ len ∧ iv = .int .i64 k ∧ Hid (Below w.heap.size w wr)) (fun iv _ => len - (intOf iv).toNat)
  case atStart => exact ⟨0, by omega, rfl, Below.refl _ _⟩
  case round =>
    obtain ⟨k, hk, rfl, K4⟩ := hrel
    by_cases hlt : k < len
    · have hd : decide ((k : Int) < (len : Int)) = true := decide_eq_true (by omega)
      have hr := HR.out.later K4.out
      have hf := (HF.out.later K4.out).rd
      rcases hr.cells with h0 | ⟨b, off, rfl, hc⟩
      · omega
      · rcases hf.cells with h0 | ⟨b', off', e', hc'⟩
        · omega
        · cases e'
          have g2 := hc k hlt
          have g3 := hc' k hlt
          obtain ⟨y, hy⟩ : ∃ y, xs[k]?.getD 0 = y := ⟨_, rfl⟩
          rw [hy] at g2 g3
          rw [Nat.zero_add] at g3
          have j0 : (0 : Int) ≤ (k : Int) := by omega
          have j1 : (k : Int) < (len : Int) := by omega
          have K5 : Hid (Below w.heap.size w wr.drew) := K4.out.drew
          clear hr hc hf hc' hy
          go_wp2_with fail
          go_region_with ((go_at_call 35; refine (bits_any _ _).mono ?_; rintro e w' ⟨rfl, rfl⟩))
          all_goals
            go_wp2_with fail
            go_roundw
            case rel => exact ⟨k + 1, by omega, by go_num, K5⟩
            case measure => simp [intOf]; omega
    · have hd : decide ((k : Int) < (len : Int)) = false := decide_eq_false (by omega)
      go_wp2_with fail
      go_ret
      exact ⟨rfl, K4.out⟩
set_option maxRecDepth 100000 in
set_option maxHeartbeats 4000000 in
theorem accSums_walk (d : Int) (hd0 : -9223372036854775808 ≤ d) (hd1 : d ≤ 9223372036854775807) (ao : Option Addr) (len cap : Nat) (xs : List Nat) (bo : Option Addr) (blen bcap : Nat) (ys : List Nat) (w : World) (hr : RdU w ao len cap xs) (hq : RdU w bo blen bcap ys) :
    Calls Try.prog 4 #[.int .i64 d, .slice ao len cap, .slice bo blen bcap] w fun e w' => e = .returned (.bool true) ∧ Below w.heap.size w w' := by
  have HR : Hid (RdU w ao len cap xs) := hr
  have HQ : Hid (RdU w bo blen bcap ys) := hq
  have hmx := hr.max
  have hle := hr.le
  have hmx' := hq.max
  have hle' := hq.le
  unfold maxLen at hmx hmx'
  clear hr hq
  go_enter Try.func4, Try.ntmps4
  go_wp2_with fail
  refine (begun_any _).mono ?_
  rintro e w1 ⟨rfl, h1⟩
  have H1 : Hid (Below w.heap.size w w1) := h1
  have HR1 : Hid (RdU w1 ao len cap xs) := HR.out.later h1
  have HQ1 : Hid (RdU w1 bo blen bcap ys) := HQ.out.later h1
  clear h1 HR HQ
  go_upto_if 21 with fail
  go_cut [1] (fun v wx => ∃ ao' len' ys, v = .slice ao' len' cap ∧ len' ≤ 2000 ∧ Hid (RdU w1 ao' len' cap ys) ∧ wx = w1)
  case first =>
    by_cases hl : 2000 < len
    · obtain ⟨ao', hsl, hrd⟩ := cutU HR1.out 2000 (by omega)
      have HRD : Hid _ := hrd
      clear hrd
      have hsl' : ∀ w, (Instr.slice 41 (.slice ao len cap) none (some (.int .i64 2000)) none).run Try.prog w = .ok (.slice ao' 2000 cap) w := hsl
      clear hsl
      go_wp2_with fail
      go_meet
      exact ⟨ao', 2000, _, rfl, by omega, HRD, rfl⟩
    · have hd : decide ((2000 : Int) < (len : Int)) = false := decide_eq_false (by omega)
      go_wp2_with fail
      go_meet
      exact ⟨ao, len, xs, rfl, by omega, HR1, rfl⟩
  case rest =>
  obtain ⟨ao1, n, us, rfl, hn, HU, hw⟩ := hcut
  subst hw
  go_upto_if 26 with fail
  go_cut [2] (fun v wx => ∃ ao' len' ys, v = .slice ao' len' bcap ∧ len' ≤ 2000 ∧ Hid (RdU wc ao' len' bcap ys) ∧ wx = wc)
  case first =>
    by_cases hl : 2000 < blen
    · obtain ⟨ao', hsl, hrd⟩ := cutU HQ1.out 2000 (by omega)
      have HRD : Hid _ := hrd
      clear hrd
      have hsl' : ∀ w, (Instr.slice 41 (.slice bo blen bcap) none (some (.int .i64 2000)) none).run Try.prog w = .ok (.slice ao' 2000 bcap) w := hsl
      clear hsl
      go_wp2_with fail
      go_meet
      exact ⟨ao', 2000, _, rfl, by omega, HRD, rfl⟩
    · have hd : decide ((2000 : Int) < (blen : Int)) = false := decide_eq_false (by omega)
      go_wp2_with fail
      go_meet
      exact ⟨bo, blen, ys, rfl, by omega, HQ1, rfl⟩
  case rest =>
  obtain ⟨bo1, m, vs, rfl, hm, HV, hw⟩ := hcut
  subst hw
  clear HR1 HQ1 hmx hle hmx' hle'
  have HU0 := HU
  go_wp2_with fail
  refine (floats_any ao1 n cap us _ HU.out hn).mono ?_
  rintro e w2 ⟨g, gc, rfl, f2, b2⟩
  have F2 : Hid (FlM w2 g n gc us) := f2
  have B2 : Hid (Below w.heap.size w w2) := H1.out.trans (b2.mono H1.out.size)
  have HU2 : Hid (RdU w2 ao1 n cap us) := HU.out.later b2
  have HV2 : Hid (RdU w2 bo1 m bcap vs) := HV.out.later b2
  clear f2 b2 HU HV HU0 H1
  go_wp2_with fail
  refine (floats_any bo1 m bcap vs _ HV2.out hm).mono ?_
  rintro e w3 ⟨h, hc, rfl, f3, b3⟩
  have F3 : Hid (FlM w3 g n gc us) := F2.out.later b3
  have G3 : Hid (FlM w3 h m hc vs) := f3
  have B3 : Hid (Below w.heap.size w w3) := B2.out.trans (b3.mono B2.out.size)
  have HU3 : Hid (RdU w3 ao1 n cap us) := HU2.out.later b3
  have HV3 : Hid (RdU w3 bo1 m bcap vs) := HV2.out.later b3
  clear f3 b3 F2 B2 HU2 HV2
  go_wp2_with fail
  refine (sum_any d _ n gc us _ F3.out.rd).mono ?_
  rintro e w4 ⟨x, ok, rfl, r4, b4⟩
  have R4 : Hid (RndO d (sumO (some 0) us) x ok) := r4
  have F4 : Hid (FlM w4 g n gc us) := F3.out.later b4
  have G4 : Hid (FlM w4 h m hc vs) := G3.out.later b4
  have B4 : Hid (Below w.heap.size w w4) := B3.out.trans (b4.mono B3.out.size)
  have HU4 : Hid (RdU w4 ao1 n cap us) := HU3.out.later b4
  have HV4 : Hid (RdU w4 bo1 m bcap vs) := HV3.out.later b4
  clear r4 b4 F3 G3 B3 HU3 HV3
  go_wp2_with fail
  refine (refSum_any d hd0 hd1 ao1 n cap us _ HU4.out (by omega)).mono ?_
  rintro e w5 ⟨x', ok', rfl, r5, b5⟩
  obtain ⟨rfl, rfl⟩ := RndO.uniq R4.out r5
  have F5 : Hid (FlM w5 g n gc us) := F4.out.later b5
  have G5 : Hid (FlM w5 h m hc vs) := G4.out.later b5
  have B5 : Hid (Below w.heap.size w w5) := B4.out.trans (b5.mono B4.out.size)
  have HU5 : Hid (RdU w5 ao1 n cap us) := HU4.out.later b5
  have HV5 : Hid (RdU w5 bo1 m bcap vs) := HV4.out.later b5
  clear r5 b5 R4 F4 G4 B4 HU4 HV4
  go_wp2_with fail
  refine (dot_any d _ _ n gc m hc us vs _ F5.out.rd G5.out.rd).mono ?_
  rintro e w6 ⟨y, fine, rfl, r6, b6⟩
  have R6 : Hid (RndO d (dotP n m us vs) y fine) := r6
  have F6 : Hid (FlM w6 g n gc us) := F5.out.later b6
  have G6 : Hid (FlM w6 h m hc vs) := G5.out.later b6
  have B6 : Hid (Below w.heap.size w w6) := B5.out.trans (b6.mono B5.out.size)
  have HU6 : Hid (RdU w6 ao1 n cap us) := HU5.out.later b6
  have HV6 : Hid (RdU w6 bo1 m bcap vs) := HV5.out.later b6
  clear r6 b6 F5 G5 B5 HU5 HV5
  go_wp2_with fail
  refine (refDot_any d hd0 hd1 ao1 bo1 n cap m bcap us vs _ HU6.out HV6.out (by omega) (by omega)).mono ?_
  rintro e w7 ⟨y', fine', rfl, r7, b7⟩
  obtain ⟨rfl, rfl⟩ := RndO.uniq R6.out r7
  have F7 : Hid (FlM w7 g n gc us) := F6.out.later b7
  have G7 : Hid (FlM w7 h m hc vs) := G6.out.later b7
  have B7 : Hid (Below w.heap.size w w7) := B6.out.trans (b7.mono B6.out.size)
  have HU7 : Hid (RdU w7 ao1 n cap us) := HU6.out.later b7
  have HV7 : Hid (RdU w7 bo1 m bcap vs) := HV6.out.later b7
  clear r7 b7 R6 F6 G6 B6 HU6 HV6
  go_wp2_with fail
  refine (same3_any x ok _).mono ?_
  rintro e w8 ⟨rfl, rfl⟩
  go_wp2_with fail
  refine (same3_any y fine _).mono ?_
  rintro e w8 ⟨rfl, rfl⟩
  go_wp2_with fail
  refine (stand_any g n gc ao1 cap us _ F7.out HU7.out hn).mono ?_
  rintro e w9 ⟨rfl, b9⟩
  have G9 : Hid (FlM w9 h m hc vs) := G7.out.later b9
  have HV9 : Hid (RdU w9 bo1 m bcap vs) := HV7.out.later b9
  have B9 : Hid (Below w.heap.size w w9) := B7.out.trans (b9.mono B7.out.size)
  clear b9
  go_wp2_with fail
  refine (stand_any h m hc bo1 bcap vs _ G9.out HV9.out hm).mono ?_
  rintro e wa ⟨rfl, ba⟩
  have BA : Hid (Below w.heap.size w wa) := B9.out.trans (ba.mono B9.out.size)
  clear ba
  go_wp2_with fail
  go_ret
  exact ⟨rfl, BA.out⟩
end Go.Proofs.Ytbeaggmiefpgoaa
