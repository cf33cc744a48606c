import Derived.Test.YtkbafeghlfajhaaXG
namespace Go.Proofs.Ytkbafeghlfajhaa
open Go.RowKit
set_option linter.unusedVariables false

theorem and4095 (n : Int) : ∃ N : Nat, bits .and .i64 n 4095 = (N : Int) ∧ N ≤ 4095 := by
  have h1 : (BitVec.ofInt 64 4095).toNat = 2 ^ 12 - 1 := by decide
  have h2 : (BitVec.ofInt 64 n &&& BitVec.ofInt 64 4095).toNat = (BitVec.ofInt 64 n).toNat % 2 ^ 12 := by
    rw [BitVec.toNat_and, h1, Nat.and_two_pow_sub_one_eq_mod]
  have h3 : (BitVec.ofInt 64 n).toNat % 2 ^ 12 < 4096 := Nat.mod_lt _ (by decide)
  refine ⟨(BitVec.ofInt 64 n).toNat % 2 ^ 12, ?_, by omega⟩
  show IntKind.i64.wrap ((BitVec.ofInt 64 n &&& BitVec.ofInt 64 4095).toNat : Nat) = _
  rw [h2, IntKind.wrap_i64]
  omega
theorem twice_zero {u : Nat} (hu : u < 18446744073709551616) : (IntKind.u64.wrap ((u : Int) * 2) == 0) = decide (frung u = 0) := by
  rw [IntKind.wrap_u64]
  unfold frung
  by_cases h : u % 9223372036854775808 = 0
  · rw [decide_eq_true h]; simp; omega
  · rw [decide_eq_false h]; simp; omega
set_option maxRecDepth 100000 in
set_option maxHeartbeats 4000000 in
theorem accDoubles_walk (u : Nat) (hu : u < 18446744073709551616) (n : Int) (hn0 : -9223372036854775808 ≤ n) (hn1 : n ≤ 9223372036854775807) (w : World) :
    Calls Try.prog 4 #[.int .u64 (u : Int), .int .i64 n] w fun e w' => e = .returned (.bool true) ∧ Below w.heap.size w w' := by
  obtain ⟨N, hN, hN1⟩ := and4095 n
  have htw := twice_zero hu
  go_enter Try.func4, Try.ntmps4
  go_upto_region 1 with fail
  go_cut [23] (fun v wx => v = .bool (!decide (Fin u) || decide (frung u = 0)) ∧ wx = w)
  case first =>
    by_cases hf : Fin u
    · have hfd : decide (Fin u) = true := decide_eq_true hf
      go_wp2_with (first | (go_at_call 9; refine (numberRef_any u hu _).mono ?_; rintro e w' ⟨rfl, rfl⟩; rw [hfd]))
      go_meet
      exact ⟨by rw [hfd]; rfl, rfl⟩
    · have hfd : decide (Fin u) = false := decide_eq_false hf
      go_wp2_with (first | (go_at_call 9; refine (numberRef_any u hu _).mono ?_; rintro e w' ⟨rfl, rfl⟩; rw [hfd]))
      go_meet
      exact ⟨by rw [hfd]; rfl, rfl⟩
  case rest =>
  obtain ⟨rfl, hw⟩ := hcut
  subst hw
  clear htw
  go_upto_if 23 with fail
  go_cut [0] (fun v wx => ∃ u' : Nat, v = .int .u64 (u' : Int) ∧ u' < 18446744073709551616 ∧ Hid (Fin u' ∧ frung u' ≠ 0) ∧ wx = wc)
  case first =>
    by_cases hb : (!decide (Fin u) || decide (frung u = 0)) = true
    · rw [hb]
      go_wp2_with fail
      go_meet
      exact ⟨1, rfl, by decide, ⟨by decide, by decide⟩, rfl⟩
    · have hb' : (!decide (Fin u) || decide (frung u = 0)) = false := by simpa using hb
      rw [hb']
      go_wp2_with fail
      go_meet
      refine ⟨u, rfl, hu, ?_, rfl⟩
      simp only [Bool.or_eq_false_iff, Bool.not_eq_false', decide_eq_true_eq, decide_eq_false_iff_not] at hb'
      exact hb'
  case rest =>
  obtain ⟨x, rfl, hx, HX, hw⟩ := hcut
  subst hw
  obtain ⟨hpm0, hpe, hpt, hpz, hprm⟩ := fin_parts hx HX.out.1 HX.out.2 rfl rfl
  have HZ0 : Hid (prodO (some 0) x 4607182418800017408 0 = dblO (fneg x) (ofM x) (ofE x) 0) := by
    unfold Hid
    have h1 := sumO_single (u := x)
    rw [if_pos HX.out.1] at h1
    have h2 : sumO (some 0) [x] = prodO (some 0) x 4607182418800017408 0 := rfl
    rw [← h2, h1]
    unfold dblO
    rw [if_pos (by omega), ← hpz]
    congr 1
    simp
  have HPP : Hid (ofM x ≠ 0 ∧ -1074 ≤ ofE x ∧ (bl (ofM x) : Int) + ofE x ≤ 1024) := ⟨hpm0, hpe, hpt⟩
  have HOE : Hid (ofE x ≤ 971 ∧ bl (ofM x) ≤ 53) := by obtain ⟨h1, h2, h3, h4, h5⟩ := ofM_val HX.out.1; exact ⟨h3, h4⟩
  clear hpm0 hpe hpt hpz hprm hu
  have hcf := float_int
  go_wp2_with fail
  refine (new_any _).mono ?_
  rintro e w1 ⟨rfl, a1, b1, s1⟩
  have A1 : Hid (AccO w1 wc.heap.size (some 0)) := a1
  have B1 : Hid (Below wc.heap.size wc w1) := b1
  clear a1 b1 s1
  go_wp2_with fail
  refine (begun_any _).mono ?_
  rintro e w2 ⟨rfl, b2⟩
  have A2 : Hid (AccO w2 wc.heap.size (some 0)) := A1.out.below b2 A1.out.block
  have B2 : Hid (Below wc.heap.size wc w2) := B1.out.trans (b2.mono B1.out.size)
  clear b2 A1 B1
  go_wp2_with (first | (go_at_call 11; refine (hcf _ _).mono ?_; rintro e w2 ⟨rfl, rfl⟩))
  refine (accAdd_any wc.heap.size (some 0) x hx _ A2.out).mono ?_
  rintro e w3 ⟨rfl, a3, b3⟩
  rw [HZ0.out] at a3
  have A3 : Hid (AccO w3 wc.heap.size (dblO (fneg x) (ofM x) (ofE x) 0)) := a3
  have B3 : Hid (Below wc.heap.size wc w3) := B2.out.trans b3.below
  clear a3 b3 A2 B2
  go_wp2_with fail
  refine (of_any x hx _).mono ?_
  rintro e w4 ⟨v, rfl, ⟨neg, e4, hN4, h4, h5⟩, b4⟩
  rw [if_pos HX.out.1] at hN4
  obtain ⟨rfl, rfl⟩ := h4 HX.out.1 HX.out.2
  have A4 : Hid (AccO w4 wc.heap.size (dblO (fneg x) (ofM x) (ofE x) 0)) := A3.out.below b4 A3.out.block
  have B4 : Hid (Below wc.heap.size wc w4) := B3.out.trans (b4.mono B3.out.size)
  have N4 : Hid (NumV w4 v (fneg x) (ofM x) (ofE x)) := hN4
  obtain ⟨vo, vl, vc, vx, rfl, _⟩ := hN4
  clear h4 h5 b4 A3 B3
  generalize hfd : decide (Fin x) = fd
  generalize fneg x = ng at *
  generalize ofM x = m at *
  generalize ofE x = ev at *
  have hev : -1074 ≤ ev ∧ ev ≤ 971 := ⟨HPP.out.2.1, HOE.out.1⟩
  have B5 : Hid (Below w4.heap.size w4 (w4.alloc (.cells #[.bool ng, .slice vo vl vc, .int .i64 ev] 27))) := (Below.refl _ w4).alloc (Nat.le_refl _) _
  have C5 : Hid _ := heap_alloc_new w4 (.cells #[.bool ng, .slice vo vl vc, .int .i64 ev] 27)
  clear hfd HZ0 hcf
  go_wp2_with fail
  generalize w4.alloc (.cells #[.bool ng, .slice vo vl vc, .int .i64 ev] 27) = w5 at B5 C5 ⊢
  have A5 : Hid (AccO w5 wc.heap.size (dblO ng m ev 0)) := A4.out.below B5.out A4.out.block
  have N5 : Hid (NumV w5 (.agg #[.bool ng, .slice vo vl vc, .int .i64 ev]) ng m ev) := NumV.later N4.out B5.out
  have BB5 : Hid (Below wc.heap.size wc w5) := B4.out.trans (B5.out.mono B4.out.size)
  have V5 : Hid (wc.heap.size < w4.heap.size) := A4.out.block
  clear A4 N4 B4 B5
  refine (accCopy_any wc.heap.size _ _ A5.out).mono ?_
  rintro e w6 ⟨rfl, a6, b6, s6⟩
  have HB6 : Hid (Below wc.heap.size wc w6) := BB5.out.trans (b6.mono BB5.out.size)
  have X6 : Hid (AccO w6 wc.heap.size (dblO ng m ev 0)) := A5.out.below b6 A5.out.block
  have Y6 : Hid (AccO w6 w5.heap.size (dblO ng m ev 0)) := a6
  have C6 : Hid (w6.heap[w4.heap.size]? = some (.cells #[.bool ng, .slice vo vl vc, .int .i64 ev] 27)) := (b6.block _ (Array.getElem?_eq_some_iff.1 C5.out).1).trans C5.out
  have N6 : Hid (NumV w6 (.agg #[.bool ng, .slice vo vl vc, .int .i64 ev]) ng m ev) := NumV.later N5.out b6
  have V6 : Hid (w4.heap.size < w5.heap.size) := (Array.getElem?_eq_some_iff.1 C5.out).1
  clear a6 b6 s6 A5 C5 N5 BB5
  go_wp2_with fail
  obtain ⟨K, hK⟩ : ∃ K : Nat, (K : Int) = 2560 - ((bl m : Int) + ev) := ⟨(2560 - ((bl m : Int) + ev)).toNat, by have := HPP.out.2.2; omega⟩
  have HKK : Hid _ := hK
  clear hK
  go_loopw [9, 10] (fun kv iv wr => ∃ (i k : Nat), i ≤ N ∧ iv = .int .i64 i ∧ kv = .int .i64 k ∧ k ≤ 4095 ∧ Hid (k = min i K) ∧ Hid (AccO wr wc.heap.size (dblO ng m ev i)) ∧ Hid (AccO wr w5.heap.size (dblO ng m ev k)) ∧ Hid (Below wc.heap.size wc wr) ∧ Hid (wr.heap[w4.heap.size]? = some (.cells #[.bool ng, .slice vo vl vc, .int .i64 ev] 27)) ∧ Hid (NumV wr (.agg #[.bool ng, .slice vo vl vc, .int .i64 ev]) ng m ev)) (fun _ iv _ => 4095 - (intOf iv).toNat)
  case atStart => exact ⟨0, 0, by omega, rfl, rfl, by omega, by unfold Hid; omega, X6, Y6, HB6, C6, N6⟩
  case round =>
    obtain ⟨i, k, hi, rfl, rfl, hk, HK, K1, K2, K3, K4, K5⟩ := hrel
    by_cases hlt : i < N
    · have hd : decide ((i : Int) < (N : Int)) = true := decide_eq_true (by omega)
      have HJ : Hid _ := dbl_join (neg := ng) (m := m) (e := ev) (by omega) HPP.out.1 i
      go_wp2_with fail
      refine (accJoin_any wc.heap.size wc.heap.size _ _ false _ K1.out K1.out).mono ?_
      rintro e w7 ⟨rfl, a7, c7⟩
      rw [HJ.out] at a7
      have A7 : Hid (AccO w7 wc.heap.size (dblO ng m ev (i + 1))) := a7
      have Y7 : Hid (AccO w7 w5.heap.size (dblO ng m ev k)) := K2.out.chg c7 (by have h1 := V5.out; have h2 := V6.out; omega)
      have B7 : Hid (Below wc.heap.size wc w7) := K3.out.trans c7.below
      have C7 : Hid (w7.heap[w4.heap.size]? = some (.cells #[.bool ng, .slice vo vl vc, .int .i64 ev] 27)) := (c7.other _ (Array.getElem?_eq_some_iff.1 K4.out).1 (by have h1 := V5.out; omega)).trans K4.out
      have N7 : Hid (NumV w7 (.agg #[.bool ng, .slice vo vl vc, .int .i64 ev]) ng m ev) := numV_chg K1.out c7 K5.out
      clear a7 c7 K1 K2 K3 K4 K5 HJ hd
      have hwi : IntKind.i64.wrap ((i : Int) + 1) = ((i + 1 : Nat) : Int) := by rw [IntKind.wrap_i64]; omega
      have hwk : IntKind.i64.wrap ((k : Int) + 1) = ((k + 1 : Nat) : Int) := by rw [IntKind.wrap_i64]; omega
      by_cases hc : (bl m : Int) + ev + ((i + 1 : Nat) : Int) ≤ 2560
      · have hiN : (dblO ng m ev (i + 1)).isNone = false := by unfold dblO; rw [if_pos hc]; rfl
        have HKi : Hid (k = i ∧ i + 1 ≤ K) := ⟨by have h1 := HK.out; have h2 := HKK.out; omega, by have h2 := HKK.out; omega⟩
        have HC : Hid _ := hc
        clear hc
        have HJ : Hid _ := dbl_join (neg := ng) (m := m) (e := ev) (by omega) HPP.out.1 k
        go_wp2_with fail
        refine (bad_any wc.heap.size _ _ A7.out).mono ?_
        rintro e w7 ⟨rfl, rfl⟩
        rw [hiN]
        go_wp2_with fail
        refine (accJoin_any w5.heap.size w5.heap.size _ _ false _ Y7.out Y7.out).mono ?_
        rintro e w8 ⟨rfl, a8, c8⟩
        rw [HJ.out] at a8
        have Y8 : Hid (AccO w8 w5.heap.size (dblO ng m ev (k + 1))) := a8
        have A8 : Hid (AccO w8 wc.heap.size (dblO ng m ev (i + 1))) := A7.out.chg c8 (by have h1 := V5.out; have h2 := V6.out; omega)
        have B8 : Hid (Below wc.heap.size wc w8) := B7.out.trans (c8.below.mono (by have h1 := V5.out; have h2 := V6.out; omega))
        have C8 : Hid (w8.heap[w4.heap.size]? = some (.cells #[.bool ng, .slice vo vl vc, .int .i64 ev] 27)) := (c8.other _ (Array.getElem?_eq_some_iff.1 C7.out).1 (by have h1 := V6.out; omega)).trans C7.out
        have N8 : Hid (NumV w8 (.agg #[.bool ng, .slice vo vl vc, .int .i64 ev]) ng m ev) := numV_chg Y7.out c8 N7.out
        clear a8 c8 Y7 A7 B7 C7 N7 HJ hiN
        go_wp2_with fail
        go_round
        · exact ⟨i + 1, k + 1, by omega, rfl, rfl, by have h1 := HKi.out; omega, by unfold Hid; have h1 := HKi.out; omega, A8, Y8, B8, C8, N8⟩
        · simp only [intOf]; omega
      · have hiN : (dblO ng m ev (i + 1)).isNone = true := by unfold dblO; rw [if_neg hc]; rfl
        have HKi : Hid (k = K ∧ K ≤ i) := ⟨by have h1 := HK.out; have h2 := HKK.out; omega, by have h2 := HKK.out; omega⟩
        clear hc
        go_wp2_with fail
        refine (bad_any wc.heap.size _ _ A7.out).mono ?_
        rintro e w7 ⟨rfl, rfl⟩
        rw [hiN]
        go_wp2_with fail
        go_round
        · exact ⟨i + 1, k, by omega, rfl, rfl, by omega, by unfold Hid; have h1 := HKi.out; omega, A7, Y7, B7, C7, N7⟩
        · simp only [intOf]; omega
    · have hd : decide ((i : Int) < (N : Int)) = false := decide_eq_false (by omega)
      have hiN : i = N := by omega
      subst hiN
      go_upto_region 18 with fail
      have KN : Hid (NumV wr.drew (.agg #[.bool ng, .slice vo vl vc, .int .i64 ev]) ng m ev) := NumV.later K5.out (Below.refl _ wr).drew
      obtain ⟨c0, c1, c2⟩ := three_cells K4.out
      obtain ⟨bm, hbm⟩ : ∃ bm : Int, (bl m : Int) = bm := ⟨_, rfl⟩
      have HLEN : Hid (Calls Try.prog 16 #[.agg #[.bool ng, .slice vo vl vc, .int .i64 ev]] wr.drew fun e' w' => e' = .returned (.int .i64 bm) ∧ Below wr.drew.heap.size wr.drew w') := by rw [← hbm]; exact lengthD_any _ ng m ev _ KN.out (by have := HOE.out; omega)
      have hbm0 : 0 ≤ bm ∧ bm ≤ 53 := by have := HOE.out; omega
      have vb : IntKind.i64.wrap (bm + ev) = bm + ev := by rw [IntKind.wrap_i64]; omega
      have HSZ : Hid (w4.heap.size < wr.heap.size) := (Array.getElem?_eq_some_iff.1 K4.out).1
      go_region_held3 (fun w' => w'.cell? ⟨w4.heap.size, 0, none⟩ = some (.bool ng) ∧ w'.cell? ⟨w4.heap.size, 1, none⟩ = some (.slice vo vl vc) ∧ w'.cell? ⟨w4.heap.size, 2, none⟩ = some (.int .i64 ev)) (go_keep) ((go_at_call 16; refine Calls.mono HLEN.out ?_; rintro e1 w8 ⟨rfl, hb3⟩; have k0 : w8.cell? ⟨w4.heap.size, 0, none⟩ = some (.bool ng) := (by rw [hb3.cell (p := ⟨w4.heap.size, 0, none⟩) HSZ.out]; exact c0); have k1 : w8.cell? ⟨w4.heap.size, 1, none⟩ = some (.slice vo vl vc) := (by rw [hb3.cell (p := ⟨w4.heap.size, 1, none⟩) HSZ.out]; exact c1); have k2 : w8.cell? ⟨w4.heap.size, 2, none⟩ = some (.int .i64 ev) := (by rw [hb3.cell (p := ⟨w4.heap.size, 2, none⟩) HSZ.out]; exact c2)))
      have A8 : Hid (AccO w8.drew wc.heap.size (dblO ng m ev i)) := (K1.out.drew.below hb3 K1.out.drew.block).drew
      have Y8 : Hid (AccO w8.drew w5.heap.size (dblO ng m ev k)) := (K2.out.drew.below hb3 K2.out.drew.block).drew
      have B8 : Hid (Below wc.heap.size wc w8.drew) := (K3.out.drew.trans (hb3.mono K3.out.drew.size)).drew
      have C8 : Hid (w8.drew.heap[w4.heap.size]? = some (.cells #[.bool ng, .slice vo vl vc, .int .i64 ev] 27)) := (hb3.block _ HSZ.out).trans K4.out
      have N8 : Hid (NumV w8.drew (.agg #[.bool ng, .slice vo vl vc, .int .i64 ev]) ng m ev) := NumV.later KN.out hb3.drew
      have Z8 : Hid (w4.heap.size < w8.heap.size) := Nat.lt_of_lt_of_le HSZ.out hb3.size
      have HBM : Hid _ := hbm
      clear hb3 c0 c1 c2 K1 K2 K3 K4 K5 KN HLEN hbm HSZ
      have vs : IntKind.i64.wrap (2560 - (bm + ev)) = (K : Int) := by rw [IntKind.wrap_i64]; have h1 := HKK.out; have h2 := HBM.out; omega
      obtain ⟨bx, hbx, hgt⟩ : ∃ bx : Bool, (dblO ng m ev i).isNone = bx ∧ decide ((k : Int) < (i : Int)) = bx := by
        refine ⟨_, rfl, ?_⟩
        have h1 := HK.out
        have h2 := HKK.out
        unfold dblO
        by_cases hc : (bl m : Int) + ev + i ≤ 2560
        · rw [if_pos hc, decide_eq_false (by omega)]; rfl
        · rw [if_neg hc, decide_eq_true (by omega)]; rfl
      have hgn : decide (k < i) = bx := by rw [← hgt]; simp
      have hby : (dblO ng m ev k).isNone = false := by
        have h1 := HK.out
        have h2 := HKK.out
        unfold dblO
        rw [if_pos (by omega)]; rfl
      obtain ⟨sg, hsg⟩ : ∃ sg : Int, (if ng then (-1 : Int) else 1) = sg := ⟨_, rfl⟩
      have hsy : signO (dblO ng m ev k) = sg := by
        have h1 := HK.out
        have h2 := HKK.out
        have h3 : 0 < m * 2 ^ (ev + k + ((2240 : Nat) : Int)).toNat := Nat.mul_pos (Nat.pos_of_ne_zero HPP.out.1) (Nat.two_pow_pos _)
        have h4 := zv_abs 2240 ng m (ev + k)
        unfold dblO
        rw [if_pos (by omega), ← hsg]
        show sgi (zv 2240 ng m (ev + k)) = _
        rw [sgi_zv, if_neg HPP.out.1]
      have HXB : Hid (Calls Try.prog 15 #[.pointer (some ⟨wc.heap.size, 0, none⟩)] w8.drew fun e w' => e = .returned (.bool bx) ∧ w' = w8.drew) := by rw [← hbx]; exact bad_any _ _ _ A8.out
      have HYB : Hid (Calls Try.prog 15 #[.pointer (some ⟨w5.heap.size, 0, none⟩)] w8.drew fun e w' => e = .returned (.bool false) ∧ w' = w8.drew) := by rw [← hby]; exact bad_any _ _ _ Y8.out
      have HYS : Hid (Calls Try.prog 17 #[.pointer (some ⟨w5.heap.size, 0, none⟩)] w8.drew fun e w' => e = .returned (.int .i64 sg) ∧ w' = w8.drew) := by rw [← hsy]; exact accSign_any _ _ _ Y8.out
      have HRS : Hid (Calls Try.prog 18 #[.agg #[.bool ng, .slice vo vl vc, .int .i64 ev]] w8.drew fun e w' => e = .returned (.int .i64 sg) ∧ Below w8.drew.heap.size w8.drew w') := by rw [← hsg]; exact signD_any _ _ _ _ _ N8.out HPP.out.1
      have HSB : Hid _ := hbx
      clear hbx hby hsy hsg
      have hmn : min (i : Int) (K : Int) = (k : Int) := by have := HK.out; omega
      have hmn2 : (if decide ((K : Int) < (i : Int)) = true then (K : Int) else (i : Int)) = (k : Int) := by have := HK.out; by_cases h : K < i <;> simp [h] <;> omega
      cases bx
      · go_upto_region 19 with fail
        go_region_held3 (fun w' => w'.cell? ⟨w4.heap.size, 0, none⟩ = some (.bool ng) ∧ w'.cell? ⟨w4.heap.size, 1, none⟩ = some (.slice vo vl vc) ∧ w'.cell? ⟨w4.heap.size, 2, none⟩ = some (.int .i64 ev)) (go_keep)
          (first
            | (go_at_call_of 15 (Value.pointer (some ⟨wc.heap.size, 0, none⟩)); refine Calls.mono HXB.out ?_; rintro e1 w' ⟨rfl, rfl⟩)
            | (go_at_call_of 15 (Value.pointer (some ⟨w5.heap.size, 0, none⟩)); refine Calls.mono HYB.out ?_; rintro e1 w' ⟨rfl, rfl⟩)
            | (go_at_call 17; refine Calls.mono HYS.out ?_; rintro e1 w' ⟨rfl, rfl⟩)
            | (go_at_call 18; refine Calls.mono HRS.out ?_; rintro e1 w9 ⟨rfl, hb9⟩; have C9 : Hid (w9.heap[w4.heap.size]? = some (.cells #[.bool ng, .slice vo vl vc, .int .i64 ev] 27)) := (hb9.block _ Z8.out).trans C8.out; obtain ⟨m0, m1, m2⟩ := three_cells C9.out))
        have HRZ : Hid (dblO ng m ev k = some (zv 2240 ng m (ev + k))) := by unfold Hid; have h1 := HK.out; have h2 := HKK.out; unfold dblO; rw [if_pos (by omega)]
        have Y9 : Hid (AccO w9 w5.heap.size (dblO ng m ev k)) := Y8.out.below hb9 Y8.out.block
        have A9 : Hid (AccO w9 wc.heap.size (dblO ng m ev i)) := A8.out.below hb9 A8.out.block
        have B9 : Hid (Below wc.heap.size wc w9) := B8.out.trans (hb9.mono B8.out.size)
        have N9 : Hid (NumV w9 (.agg #[.bool ng, .slice vo vl vc, .int .i64 ev]) ng m ev) := NumV.later N8.out hb9
        clear hb9 m0 m1 m2 A8 B8 C8 N8 Y8 Z8 HXB HYB HYS HRS k0 k1 k2
        go_wp2_with fail
        refine (accRound_any 0 w5.heap.size _ _ Y9.out).mono ?_
        rintro e1 w10 ⟨ua, ba, rfl, hr10, hb10⟩
        rw [HRZ.out] at hr10
        have R10 : Hid _ := hr10
        have A10 : Hid (AccO w10 wc.heap.size (dblO ng m ev i)) := A9.out.below hb10 A9.out.block
        have B10 : Hid (Below wc.heap.size wc w10) := B9.out.trans (hb10.mono B9.out.size)
        have C10 : Hid (w10.heap[w4.heap.size]? = some (.cells #[.bool ng, .slice vo vl vc, .int .i64 ev] 27)) := (hb10.block _ (Array.getElem?_eq_some_iff.1 C9.out).1).trans C9.out
        have N10 : Hid (NumV w10 (.agg #[.bool ng, .slice vo vl vc, .int .i64 ev]) ng m ev) := NumV.later N9.out hb10
        clear hr10 hb10 A9 B9 N9 Y9 C9
        obtain ⟨m0, m1, m2⟩ := three_cells C10.out
        go_wp2_with fail
        refine (moved_any _ ng m ev (k : Int) (by omega) (by omega) _ N10.out).mono ?_
        rintro e1 w11 ⟨v11, rfl, n11, hb11⟩
        rw [if_neg HPP.out.1] at n11
        have N11 : Hid _ := n11
        have A11 : Hid (AccO w11 wc.heap.size (dblO ng m ev i)) := A10.out.below hb11 A10.out.block
        have B11 : Hid (Below wc.heap.size wc w11) := B10.out.trans (hb11.mono B10.out.size)
        clear n11 hb11 A10 B10 C10 N10 m0 m1 m2
        go_wp2_with fail
        refine (round_any 0 v11 ng m (ev + k) _ N11.out (by omega) (by have := HOE.out; omega) (by omega) (by omega)).mono ?_
        rintro e1 w12 ⟨ub, bb, rfl, hr12, hb12⟩
        obtain ⟨rfl, rfl⟩ := dbl_round (u := 0) HPP.out.1 (by omega) R10.out hr12
        have A12 : Hid (AccO w12 wc.heap.size (dblO ng m ev i)) := A11.out.below hb12 A11.out.block
        have B12 : Hid (Below wc.heap.size wc w12) := B11.out.trans (hb12.mono B11.out.size)
        clear hr12 hb12 A11 B11 R10 N11
        go_upto_region 23 with fail
        have hik : i = k := by have h1 := HK.out; have h2 : ¬ (k < i) := of_decide_eq_false hgn; omega
        have e1 : ((i : Int) == (k : Int)) = true := by rw [hik]; simp
        have e2 : (i == k) = true := by rw [hik]; simp
        have e3 : decide (i = k) = true := decide_eq_true hik
        go_wp2_with (first | (go_at_call 22; refine (bits_any _ _).mono ?_; rintro e w' ⟨rfl, rfl⟩))
        all_goals (go_ret; exact ⟨rfl, by first | exact B12.out | exact B12.out.drew⟩)
      · go_upto_region 19 with fail
        go_region_held3 (fun w' => w'.cell? ⟨w4.heap.size, 0, none⟩ = some (.bool ng) ∧ w'.cell? ⟨w4.heap.size, 1, none⟩ = some (.slice vo vl vc) ∧ w'.cell? ⟨w4.heap.size, 2, none⟩ = some (.int .i64 ev)) (go_keep)
          (first
            | (go_at_call_of 15 (Value.pointer (some ⟨wc.heap.size, 0, none⟩)); refine Calls.mono HXB.out ?_; rintro e1 w' ⟨rfl, rfl⟩)
            | (go_at_call_of 15 (Value.pointer (some ⟨w5.heap.size, 0, none⟩)); refine Calls.mono HYB.out ?_; rintro e1 w' ⟨rfl, rfl⟩)
            | (go_at_call 17; refine Calls.mono HYS.out ?_; rintro e1 w' ⟨rfl, rfl⟩)
            | (go_at_call 18; refine Calls.mono HRS.out ?_; rintro e1 w9 ⟨rfl, hb9⟩; have C9 : Hid (w9.heap[w4.heap.size]? = some (.cells #[.bool ng, .slice vo vl vc, .int .i64 ev] 27)) := (hb9.block _ Z8.out).trans C8.out; obtain ⟨m0, m1, m2⟩ := three_cells C9.out))
        have HRZ : Hid (dblO ng m ev k = some (zv 2240 ng m (ev + k))) := by unfold Hid; have h1 := HK.out; have h2 := HKK.out; unfold dblO; rw [if_pos (by omega)]
        have Y9 : Hid (AccO w9 w5.heap.size (dblO ng m ev k)) := Y8.out.below hb9 Y8.out.block
        have A9 : Hid (AccO w9 wc.heap.size (dblO ng m ev i)) := A8.out.below hb9 A8.out.block
        have B9 : Hid (Below wc.heap.size wc w9) := B8.out.trans (hb9.mono B8.out.size)
        have N9 : Hid (NumV w9 (.agg #[.bool ng, .slice vo vl vc, .int .i64 ev]) ng m ev) := NumV.later N8.out hb9
        clear hb9 m0 m1 m2 A8 B8 C8 N8 Y8 Z8 HXB HYB HYS HRS k0 k1 k2
        go_wp2_with fail
        refine (accRound_any 0 w5.heap.size _ _ Y9.out).mono ?_
        rintro e1 w10 ⟨ua, ba, rfl, hr10, hb10⟩
        rw [HRZ.out] at hr10
        have R10 : Hid _ := hr10
        have A10 : Hid (AccO w10 wc.heap.size (dblO ng m ev i)) := A9.out.below hb10 A9.out.block
        have B10 : Hid (Below wc.heap.size wc w10) := B9.out.trans (hb10.mono B9.out.size)
        have C10 : Hid (w10.heap[w4.heap.size]? = some (.cells #[.bool ng, .slice vo vl vc, .int .i64 ev] 27)) := (hb10.block _ (Array.getElem?_eq_some_iff.1 C9.out).1).trans C9.out
        have N10 : Hid (NumV w10 (.agg #[.bool ng, .slice vo vl vc, .int .i64 ev]) ng m ev) := NumV.later N9.out hb10
        clear hr10 hb10 A9 B9 N9 Y9 C9
        obtain ⟨m0, m1, m2⟩ := three_cells C10.out
        go_wp2_with fail
        refine (moved_any _ ng m ev (k : Int) (by omega) (by omega) _ N10.out).mono ?_
        rintro e1 w11 ⟨v11, rfl, n11, hb11⟩
        rw [if_neg HPP.out.1] at n11
        have N11 : Hid _ := n11
        have A11 : Hid (AccO w11 wc.heap.size (dblO ng m ev i)) := A10.out.below hb11 A10.out.block
        have B11 : Hid (Below wc.heap.size wc w11) := B10.out.trans (hb11.mono B10.out.size)
        clear n11 hb11 A10 B10 C10 N10 m0 m1 m2
        go_wp2_with fail
        refine (round_any 0 v11 ng m (ev + k) _ N11.out (by omega) (by have := HOE.out; omega) (by omega) (by omega)).mono ?_
        rintro e1 w12 ⟨ub, bb, rfl, hr12, hb12⟩
        obtain ⟨rfl, rfl⟩ := dbl_round (u := 0) HPP.out.1 (by omega) R10.out hr12
        have A12 : Hid (AccO w12 wc.heap.size (dblO ng m ev i)) := A11.out.below hb12 A11.out.block
        have B12 : Hid (Below wc.heap.size wc w12) := B11.out.trans (hb12.mono B11.out.size)
        clear hr12 hb12 A11 B11 R10 N11
        go_upto_region 23 with fail
        have hik : ¬ (i = k) := by have h2 : k < i := of_decide_eq_true hgn; omega
        have e1 : ((i : Int) == (k : Int)) = false := by rw [beq_eq_false_iff_ne]; omega
        have e2 : (i == k) = false := by rw [beq_eq_false_iff_ne]; exact hik
        have e3 : decide (i = k) = false := decide_eq_false hik
        have HNO : Hid (dblO ng m ev i = none) := by unfold Hid; have h1 := HSB.out; revert h1; cases dblO ng m ev i <;> simp
        have S12 : Hid (∀ w', AccO w' wc.heap.size (dblO ng m ev i) → Calls Try.prog 17 #[.pointer (some ⟨wc.heap.size, 0, none⟩)] w' fun e w'' => e = .returned (.int .i64 0) ∧ w'' = w') := fun w' h => by
          have h1 := accSign_any _ _ _ h
          rw [HNO.out] at h1
          exact h1
        have A12d : Hid (AccO w12.drew wc.heap.size (dblO ng m ev i)) := A12.out.drew
        go_wp2_with (first | (go_at_call 22; refine (bits_any _ _).mono ?_; rintro e w' ⟨rfl, rfl⟩) | (go_at_call 17; refine Calls.mono (S12.out _ A12.out) ?_; rintro e w' ⟨rfl, rfl⟩))
        all_goals (go_ret; exact ⟨rfl, by first | exact B12.out | exact B12.out.drew⟩)
end Go.Proofs.Ytkbafeghlfajhaa
