import Derived.Test.YtkbafeghlfajhaaWC
import Derived.Test.YtkbafeghlfajhaaNG
namespace Go.Proofs.Ytkbafeghlfajhaa
open Go.RowKit
set_option linter.unusedVariables false

def oppD (d : Int) : Int := if d = 1 then 2 else if d = 2 then 1 else d
theorem opposite_any (d : Int) (w : World) : Calls Try.prog 71 #[.int .i64 d] w fun e w' => e = .returned (.int .i64 (oppD d)) ∧ w' = w := by
  by_cases h1 : d = 1
  · subst h1
    go_enter Try.func71, Try.ntmps71
    go_wp2
    go_ret
    exact ⟨rfl, rfl⟩
  · by_cases h2 : d = 2
    · subst h2
      go_enter Try.func71, Try.ntmps71
      go_wp2
      go_ret
      exact ⟨rfl, rfl⟩
    · have HO : Hid (oppD d = d) := by unfold Hid oppD; rw [if_neg h1, if_neg h2]
      go_enter Try.func71, Try.ntmps71
      go_wp2
      go_ret
      exact ⟨by rw [HO.out]; first | rfl | simp [h1, h2], rfl⟩
theorem bitLen_log : ∀ (f x : Nat), x < 2 ^ f → x ≠ 0 → ∃ L, Lib.bitLenAux f x = L + 1 ∧ 2 ^ L ≤ x ∧ x < 2 ^ (L + 1)
  | 0, x, h, h0 => by simp at h; omega
  | f + 1, x, h, h0 => by
    unfold Lib.bitLenAux
    rw [if_neg h0]
    by_cases h1 : x / 2 = 0
    · refine ⟨0, ?_, by simp; omega, by simp; omega⟩
      rw [h1]
      cases f <;> simp [Lib.bitLenAux]
    · obtain ⟨L, e, a, b⟩ := bitLen_log f (x / 2) (by rw [Nat.pow_succ] at h; omega) h1
      refine ⟨L + 1, by omega, ?_, ?_⟩
      · rw [Nat.pow_succ]; omega
      · rw [Nat.pow_succ]; omega
theorem bitLen_spec {x : Nat} (h : x < 18446744073709551616) (h0 : x ≠ 0) : ∃ L, Lib.bitLen x = L + 1 ∧ 2 ^ L ≤ x ∧ x < 2 ^ (L + 1) ∧ L < 64 := by
  obtain ⟨L, e, a, b⟩ := bitLen_log 64 x h h0
  refine ⟨L, e, a, b, ?_⟩
  apply Classical.byContradiction
  intro c
  have := Nat.pow_le_pow_right (n := 2) (by omega) (show 64 ≤ L by omega)
  omega
theorem len64_any (x L : Nat) (hx : x < 18446744073709551616) (hL : Lib.bitLen x = L + 1) (w : World) : Calls Try.prog 70 #[.int .u64 (x : Int)] w fun e w' => e = .returned (.int .i64 ((L : Int) + 1)) ∧ w' = w := by
  have h := Try.bits_Len64 (x : Int) w (by omega) (by omega)
  rw [Int.toNat_natCast, hL] at h
  exact h
theorem zeros64_any (x L : Nat) (hx : x < 18446744073709551616) (hL : Lib.bitLen x = L + 1) (w : World) : Calls Try.prog 69 #[.int .u64 (x : Int)] w fun e w' => e = .returned (.int .i64 (63 - (L : Int))) ∧ w' = w := by
  have h := Try.bits_LeadingZeros64 (x : Int) w (by omega) (by omega)
  rw [Int.toNat_natCast, hL, show (64 : Int) - ((L + 1 : Nat) : Int) = 63 - L by omega] at h
  exact h
theorem mask_low (x m : Nat) (hx : x < 18446744073709551616) (hm : m < 64) : bits .and .u64 (x : Int) (IntKind.u64.wrap (IntKind.u64.wrap (2 ^ m) - 1)) = ((x % 2 ^ m : Nat) : Int) := by
  have hp : (2 : Nat) ^ m < 18446744073709551616 := by
    have := Nat.pow_lt_pow_right (a := 2) (by omega) hm
    exact this
  have hpp := Nat.two_pow_pos m
  have e1 : IntKind.u64.wrap (2 ^ m) = ((2 ^ m : Nat) : Int) := by
    rw [IntKind.wrap_u64, show (2 : Int) ^ m = ((2 ^ m : Nat) : Int) by simp]; omega
  have e2 : IntKind.u64.wrap (((2 ^ m : Nat) : Int) - 1) = ((2 ^ m - 1 : Nat) : Int) := by rw [IntKind.wrap_u64]; omega
  rw [e1, e2, u64_and_nat x (2 ^ m - 1) hx (by omega), Nat.and_two_pow_sub_one_eq_mod]
theorem ne_zero_cast (x : Nat) : (((x : Nat) : Int) != 0) = decide (x ≠ 0) := by
  by_cases h : x = 0
  · subst h; rfl
  · have : ((x : Int) != 0) = true := by simp; omega
    rw [this]; simp [h]
theorem mask_all (x : Nat) (hx : x < 18446744073709551616) (h0 : x ≠ 0) : (bits .and .u64 (x : Int) (IntKind.u64.wrap (IntKind.u64.wrap 18446744073709551616 - 1)) != 0) = true := by
  have e1 : IntKind.u64.wrap (IntKind.u64.wrap 18446744073709551616 - 1) = ((2 ^ 64 - 1 : Nat) : Int) := by rw [IntKind.wrap_u64, IntKind.wrap_u64]; rfl
  rw [e1, u64_and_nat x (2 ^ 64 - 1) hx (by decide), Nat.and_two_pow_sub_one_eq_mod, Nat.mod_eq_of_lt hx, ne_zero_cast]
  exact decide_eq_true h0
theorem ldexp_whole (Q e : Nat) (n : Int) (hQ : Q ≤ 9007199254740992) (hf : e = 0 ∨ 4503599627370496 ≤ Q) (he : n = (e : Int) - 1074) (hn : -1000000 ≤ n ∧ n ≤ 1000000) : ∃ x, FloatKind.f64.nearest (Q : Int) = x ∧
    ∀ w, Calls Try.prog 72 #[.float .f64 x, .int .i64 n] w fun e' w' => e' = .returned (.float .f64 (Ieee.double.word false (min (e * 4503599627370496 + Q) infK))) ∧ w' = w := by
  obtain ⟨k, hk, hki, hm⟩ := nearest_small hQ
  have e1 : FloatKind.f64.nearest (Q : Int) = Ieee.double.nearest false Q 0 := by
    unfold FloatKind.nearest FloatKind.encode
    rw [f64_fmt, show decide ((Q : Int) < 0) = false from decide_eq_false (by omega), Int.natAbs_natCast]; rfl
  obtain ⟨w1, w2, w3⟩ := word_rung false (Nat.lt_trans hki inf_lt_word)
  obtain ⟨r, h1, h2, h3, h4⟩ := ldexp_any (Ieee.double.word false k) n w3 hn (by rw [w1]; omega)
  refine ⟨Ieee.double.word false k, by rw [e1, hk], fun w => ?_⟩
  have := pow_small_whole hki hm hQ hf he (h1 (by unfold Fin; rw [w1]; exact hki))
  rw [← this]
  exact h4 w
theorem gt_max (K : Nat) : (Ieee.double.order (Ieee.double.word false (min K infK)) 9218868437227405311 == some .gt) = decide (infK ≤ K) := by
  have hm : min K infK ≤ infK := Nat.min_le_right _ _
  obtain ⟨w1, w2, w3⟩ := word_rung false (show min K infK < 9223372036854775808 from Nat.lt_of_le_of_lt hm (by decide))
  rw [ord_gt (by rw [w1]; exact hm) (by decide)]
  have e1 : srung (Ieee.double.word false (min K infK)) = (min K infK : Nat) := by unfold srung; rw [w1, w2]; simp
  have e2 : srung 9218868437227405311 = 9218868437227405311 := by decide
  rw [e1, e2]
  have : infK = 9218868437227405312 := rfl
  rw [this] at *
  by_cases h : 9218868437227405312 ≤ K
  · rw [decide_eq_true h]; exact decide_eq_true (by omega)
  · rw [decide_eq_false h]; exact decide_eq_false (by omega)
theorem odd_cases (a b : Bool) (k : Nat) : a = false ∨ (a = true ∧ b = true) ∨ (a = true ∧ b = false ∧ k % 2 = 1) ∨ (a = true ∧ b = false ∧ ¬ k % 2 = 1) := by
  by_cases h : k % 2 = 1 <;> cases a <;> cases b <;> simp [h]
theorem or_cases (a b : Bool) : a = true ∨ (a = false ∧ b = true) ∨ (a = false ∧ b = false) := by cases a <;> cases b <;> simp
set_option maxRecDepth 100000 in
set_option maxHeartbeats 40000000 in
theorem told_frt (d : Int) (neg : Bool) (whole : Nat) (power : Int) (more : Bool) (N D : Nat) (h : Frt N D whole power more) (hD : 0 < D) (hpw : -50000 ≤ power ∧ power ≤ 50000) (w : World) :
    Calls Try.prog 47 #[.int .i64 d, .bool neg, .int .u64 (whole : Int), .int .i64 power, .bool more] w fun e w' => ∃ u b, e = .returned (.tuple #[.float .f64 u, .bool b]) ∧ Rnd d neg N D (u, b) ∧ w' = w.drew := by
  have hwl := h.lt
  have hwb := h.big
  obtain ⟨L, hL, hL1, hL2, hL3⟩ := bitLen_spec hwl (by omega)
  have hL4 : 53 ≤ L := by
    apply Classical.byContradiction
    intro c
    have := Nat.pow_le_pow_right (n := 2) (by omega) (show L + 1 ≤ 53 by omega)
    omega
  obtain ⟨drop, hdrop⟩ : ∃ drop : Nat, (drop : Int) = max (max ((L : Int) + 1 - 53) (-1074 - power)) 1 := ⟨(max (max ((L : Int) + 1 - 53) (-1074 - power)) 1).toNat, by omega⟩
  have HL : Hid _ := hL
  have HW : Hid _ := And.intro hL1 hL2
  have HH : Hid _ := h
  clear hL hL1 hL2 h
  go_enter Try.func47, Try.ntmps47
  go_upto_region 1 with fail
  go_cut [12] (fun v wx => v = .int .i64 (drop : Int) ∧ wx = w)
  case first =>
    go_wp2_with (go_at_call 70; refine (len64_any whole L hwl HL.out _).mono ?_; rintro e w1 ⟨rfl, rfl⟩)
    all_goals
      go_meet
      exact ⟨by rw [hdrop]; congr 1; omega, rfl⟩
  case rest =>
  obtain ⟨rfl, rfl⟩ := hcut
  have hdp : 1 ≤ drop := by omega
  have hdr1 : drop ≤ 60000 := by omega
  have HDR : Hid _ := hdrop
  clear hdrop
  obtain ⟨kp, hkp⟩ : ∃ kp, whole / 2 ^ drop = kp := ⟨_, rfl⟩
  obtain ⟨hv, hhv⟩ : ∃ hv, whole / 2 ^ (drop - 1) = hv := ⟨_, rfl⟩
  have hvl : hv < 18446744073709551616 := by rw [← hhv]; exact Nat.lt_of_le_of_lt (Nat.div_le_self _ _) hwl
  have hb := odd_bit hv hvl
  have sK := div_cast whole drop
  have sH := div_cast whole (drop - 1)
  rw [hkp] at sK
  rw [hhv] at sH
  obtain ⟨hf, hhf⟩ : ∃ hf, decide (hv % 2 = 1) = hf := ⟨_, rfl⟩
  rw [hhf] at hb
  have HK : Hid _ := And.intro hkp (And.intro hhv hhf)
  clear hkp hhv hhf
  have HBIG : Hid (64 ≤ drop → kp = 0) := by
    intro c
    rw [← HK.out.1]
    exact Nat.div_eq_of_lt (Nat.lt_of_lt_of_le hwl (by have := Nat.pow_le_pow_right (n := 2) (by omega) c; omega))
  have HBIG2 : Hid (65 ≤ drop → hv = 0) := by
    intro c
    rw [← HK.out.2.1]
    exact Nat.div_eq_of_lt (Nat.lt_of_lt_of_le hwl (by have := Nat.pow_le_pow_right (n := 2) (by omega) (show 64 ≤ drop - 1 by omega); omega))
  go_upto_region 2 with fail
  go_cut [13, 14] (fun v13 v14 wx => v13 = .int .u64 (kp : Int) ∧ v14 = .bool hf ∧ wx = wc.drew)
  case first =>
    by_cases hd64 : drop < 64
    · go_region
      go_wp2_with fail
      go_meet
      exact ⟨rfl, rfl, rfl⟩
    · by_cases hd65 : drop = 64
      · subst hd65
        have k0 := HBIG.out (by omega)
        subst k0
        have sH' : (whole : Int) / 9223372036854775808 = (hv : Int) := sH
        have z0 : (whole : Int) / 18446744073709551616 = 0 := by omega
        go_region
        go_wp2_with fail
        go_meet
        exact ⟨rfl, rfl, rfl⟩
      · have k0 := HBIG.out (by omega)
        have k1 := HBIG2.out (by omega)
        subst k0 k1
        have z0 : (whole : Int) / 18446744073709551616 = 0 := by omega
        clear sK sH HK HBIG HBIG2
        obtain ⟨d', hd'⟩ : ∃ d', drop = d' + 1 := ⟨drop - 1, by omega⟩
        have hd64' : 64 ≤ d' := by omega
        have e1 : (drop : Int) - 1 = (d' : Int) := by omega
        have e2 : IntKind.i64.wrap ((drop : Int) - 1) = (d' : Int) := by rw [IntKind.wrap_i64]; omega
        clear hd'
        go_region
        go_wp2_with fail
        go_meet
        exact ⟨by rw [Nat.min_eq_right (show 64 ≤ drop by omega)]; exact congrArg (Value.int .u64) z0, by rw [← hb]; rfl, rfl⟩
  case rest =>
  obtain ⟨rfl, rfl, rfl⟩ := hcut
  clear hb sK sH
  obtain ⟨rs, hrs⟩ : ∃ rs, (more || decide (whole % 2 ^ (drop - 1) ≠ 0)) = rs := ⟨_, rfl⟩
  go_upto_region 3 with fail
  go_cut [4] (fun v4 wx => v4 = .bool rs ∧ wx = wc.drew)
  case first =>
    cases more
    · rw [Bool.false_or] at hrs
      by_cases hd64 : drop ≤ 64
      · have HX : Hid ((bits .and .u64 (whole : Int) (IntKind.u64.wrap (IntKind.u64.wrap (2 ^ (drop - 1)) - 1)) != 0) = rs) := by
          unfold Hid
          rw [mask_low whole (drop - 1) hwl (by omega), ne_zero_cast]; exact hrs
        clear hrs
        go_wp2_with fail
        go_meet
        exact ⟨congrArg Value.bool HX.out, rfl⟩
      · have h0 : whole % 2 ^ (drop - 1) = whole := Nat.mod_eq_of_lt (Nat.lt_of_lt_of_le hwl (by have := Nat.pow_le_pow_right (n := 2) (by omega) (show 64 ≤ drop - 1 by omega); omega))
        obtain ⟨d', hd'⟩ : ∃ d', drop = d' + 1 := ⟨drop - 1, by omega⟩
        have hd64' : 64 ≤ d' := by omega
        have e1 : (drop : Int) - 1 = (d' : Int) := by omega
        have HX : Hid (rs = true) := by unfold Hid; rw [← hrs, h0]; exact decide_eq_true (by omega)
        clear hd' hrs h0
        have HY : Hid _ := mask_all whole hwl (by omega)
        go_wp2_with fail
        go_meet
        exact ⟨by rw [HX.out]; exact congrArg Value.bool HY.out, rfl⟩
    · rw [Bool.true_or] at hrs
      subst hrs
      go_wp2_with fail
      go_meet
      exact ⟨rfl, rfl⟩
  case rest =>
  obtain ⟨rfl, rfl⟩ := hcut
  by_cases hd : d = 0 ∨ d = 1 ∨ d = 2
  · have hD2 := HDR.out
    obtain ⟨e, he⟩ : ∃ e : Nat, (e : Int) = power + drop + 1074 := ⟨(power + drop + 1074).toNat, by omega⟩
    have hlo : e = 0 ∨ 2 ^ (drop + 52) ≤ whole := by
      by_cases c : e = 0
      · exact .inl c
      · right
        have := Nat.pow_le_pow_right (n := 2) (by omega) (show drop + 52 ≤ L by omega)
        have := HW.out.1
        omega
    have hhi : whole < 2 ^ (drop + 53) := by
      have := Nat.pow_le_pow_right (n := 2) (by omega) (show L + 1 ≤ drop + 53 by omega)
      have := HW.out.2
      omega
    obtain ⟨t1, t2, t3, t4⟩ := HH.out.tells hD neg hd hdp he hlo hhi
    rw [HK.out.2.1, HK.out.1] at t2
    rw [HK.out.2.1, hrs, t2] at t1
    rw [HK.out.1] at t3 t4
    obtain ⟨Q, hQ⟩ : ∃ Q, kp + (incB d neg hv rs).toNat = Q := ⟨_, rfl⟩
    rw [hQ] at t1
    have hq1 : Q ≤ 9007199254740992 := by have := Bool.toNat_le (incB d neg hv rs); omega
    have hq2 : e = 0 ∨ 4503599627370496 ≤ Q := by omega
    obtain ⟨x, hx, hld⟩ := ldexp_whole Q e (power + drop) hq1 hq2 (by omega) (by omega)
    have hgt := gt_max (e * 4503599627370496 + Q)
    have hpd : -60000 ≤ power + drop ∧ power + drop ≤ 120000 := by omega
    have hkb := odd_bit kp (by omega)
    have hvk : hv / 2 = kp := t2
    have hhf := HK.out.2.2
    obtain ⟨K, hK⟩ : ∃ K, e * 4503599627370496 + Q = K := ⟨_, rfl⟩
    rw [hK] at t1 hgt hld
    have T1 : Hid _ := t1
    have HLD : Hid _ := hld
    have hcv : ∀ w, (convert 36 44 (.int .u64 (Q : Int))).run Try.prog w = .ok (.float .f64 x) w := fun w => by rw [← hx]; kernel_rfl
    obtain ⟨r, hr⟩ : ∃ r, Ieee.double.word false (min K infK) = r := ⟨_, rfl⟩
    rw [hr] at hgt HLD
    have hgt' : (FloatKind.f64.format.order r 9218868437227405311 == some .gt) = decide (infK ≤ K) := hgt
    clear hgt t1 hld he hlo hhi hD2 HBIG HBIG2 HDR HW HL t4 hK hwb hL3 hL4 hx
    have HQ : Hid (∀ c : Bool, incB d neg hv rs = c → kp + c.toNat = Q) := fun c hc => by rw [← hc]; exact hQ
    have HV : Hid (hv / 2 = kp ∧ decide (hv % 2 = 1) = hf) := ⟨hvk, hhf⟩
    have o0 : oppD 0 = 0 := rfl
    have o1 : oppD 1 = 2 := rfl
    have o2 : oppD 2 = 1 := rfl
    clear hQ hvk hhf t2 hvl HK hrs HH
    -- what is told, by the cases
    obtain ⟨s1, hs1⟩ : ∃ s1, sgnK neg K = s1 := ⟨_, rfl⟩
    obtain ⟨s2, hs2⟩ : ∃ s2, sgnK neg (infK - 1) = s2 := ⟨_, rfl⟩
    obtain ⟨bg, hbg⟩ : ∃ bg, decide (infK ≤ K) = bg := ⟨_, rfl⟩
    rw [hbg] at hgt'
    have HT : Hid (Rnd d neg N D (if bg = false then (s1, true) else if d = 0 ∨ d = 1 ∧ neg = false ∨ d = 2 ∧ neg = true then (0, false) else (s2, true))) := by
      have h := T1.out
      unfold toldK at h
      rw [hs1, hs2] at h
      unfold Hid
      cases bg
      · rw [if_pos rfl]; rw [if_pos (by have := of_decide_eq_false hbg; omega)] at h; exact h
      · rw [if_neg (by simp)]; rw [if_neg (by have := of_decide_eq_true hbg; omega)] at h; exact h
    have HS1 : Hid (bg = false → neg = false → r = s1) := by
      intro h1 h2
      have h3 := of_decide_eq_false (hbg.trans h1)
      rw [← hr, ← hs1, h2, Nat.min_eq_left (by omega)]; simp [sgnK, Ieee.Format.word]
    have HS2 : Hid (neg = false → 9218868437227405311 = s2) := by
      intro h2
      rw [← hs2, h2]; decide
    have HS3 : Hid (bg = false → neg = true → ∀ t w, (binOp .sub t (.float .f64 0) (.float .f64 r)).run Try.prog w = .ok (.float .f64 s1) w) := by
      intro h1 h2
      have h3 := of_decide_eq_false (hbg.trans h1)
      rw [← hs1, h2]
      refine run_sub ?_
      rw [← hr, Nat.min_eq_left (by omega)]
      exact sub_word (by omega)
    have HS4 : Hid (neg = true → ∀ t w, (binOp .sub t (.float .f64 0) (.float .f64 9218868437227405311)).run Try.prog w = .ok (.float .f64 s2) w) := by
      intro h2
      rw [← hs2, h2]
      refine run_sub ?_
      rw [← sub_word (k := infK - 1) (by decide)]; rfl
    clear T1 hr hs1 hs2 hbg
    rcases hd with rfl | rfl | rfl <;> cases neg <;> cases bg
    · -- 0 false false
      have hres := HT.out
      simp only [if_true] at hres
      have HR : Hid _ := hres
      clear hres HT
      have HE : Hid (r = s1) := HS1.out rfl rfl
      clear HS1 HS2 HS3 HS4
      rcases odd_cases hf rs kp with rfl | ⟨rfl, rfl⟩ | ⟨rfl, rfl, hko⟩ | ⟨rfl, rfl, hko⟩
      all_goals
        have hQ := HQ.out _ rfl
        first | simp [incB, HV.out.1, HV.out.2, hko] at hQ | simp [incB, HV.out.1, HV.out.2] at hQ
        first | simp only [hko, decide_true, decide_false] at hkb | skip
        first | (have hqi : (kp : Int) + 1 = (Q : Int) := (by omega); clear hQ) | subst hQ
        clear HQ HV
        go_wp2_with (first | (go_at_call 71; refine (opposite_any _ _).mono ?_; rintro e' w' ⟨rfl, rfl⟩) | (go_at_call 72; refine (HLD.out _).mono ?_; rintro e' w' ⟨rfl, rfl⟩))
        go_ret2
        first | exact ⟨_, _, rfl, HR.out, rfl⟩ | exact ⟨_, _, rfl, (by rw [HE.out]; exact HR.out), rfl⟩
    · -- 0 false true
      have hres := HT.out
      simp at hres
      have HR : Hid _ := hres
      clear hres HT
      have HE : Hid (9218868437227405311 = s2) := HS2.out rfl
      clear HS1 HS2 HS3 HS4
      rcases odd_cases hf rs kp with rfl | ⟨rfl, rfl⟩ | ⟨rfl, rfl, hko⟩ | ⟨rfl, rfl, hko⟩
      all_goals
        have hQ := HQ.out _ rfl
        first | simp [incB, HV.out.1, HV.out.2, hko] at hQ | simp [incB, HV.out.1, HV.out.2] at hQ
        first | simp only [hko, decide_true, decide_false] at hkb | skip
        first | (have hqi : (kp : Int) + 1 = (Q : Int) := (by omega); clear hQ) | subst hQ
        clear HQ HV
        go_wp2_with (first | (go_at_call 71; refine (opposite_any _ _).mono ?_; rintro e' w' ⟨rfl, rfl⟩) | (go_at_call 72; refine (HLD.out _).mono ?_; rintro e' w' ⟨rfl, rfl⟩))
        go_ret2
        first | exact ⟨_, _, rfl, HR.out, rfl⟩ | exact ⟨_, _, rfl, (by rw [HE.out]; exact HR.out), rfl⟩
    · -- 0 true false
      have hres := HT.out
      simp only [if_true] at hres
      have HR : Hid _ := hres
      clear hres HT
      have hsb := HS3.out rfl rfl
      clear HS1 HS2 HS3 HS4
      rcases odd_cases hf rs kp with rfl | ⟨rfl, rfl⟩ | ⟨rfl, rfl, hko⟩ | ⟨rfl, rfl, hko⟩
      all_goals
        have hQ := HQ.out _ rfl
        first | simp [incB, HV.out.1, HV.out.2, hko] at hQ | simp [incB, HV.out.1, HV.out.2] at hQ
        first | simp only [hko, decide_true, decide_false] at hkb | skip
        first | (have hqi : (kp : Int) + 1 = (Q : Int) := (by omega); clear hQ) | subst hQ
        clear HQ HV
        go_wp2_with (first | (go_at_call 71; refine (opposite_any _ _).mono ?_; rintro e' w' ⟨rfl, rfl⟩) | (go_at_call 72; refine (HLD.out _).mono ?_; rintro e' w' ⟨rfl, rfl⟩))
        go_ret2
        first | exact ⟨_, _, rfl, HR.out, rfl⟩ | exact ⟨_, _, rfl, (by rw [HE.out]; exact HR.out), rfl⟩
    · -- 0 true true
      have hres := HT.out
      simp at hres
      have HR : Hid _ := hres
      clear hres HT
      have hsb := HS4.out rfl
      clear HS1 HS2 HS3 HS4
      rcases odd_cases hf rs kp with rfl | ⟨rfl, rfl⟩ | ⟨rfl, rfl, hko⟩ | ⟨rfl, rfl, hko⟩
      all_goals
        have hQ := HQ.out _ rfl
        first | simp [incB, HV.out.1, HV.out.2, hko] at hQ | simp [incB, HV.out.1, HV.out.2] at hQ
        first | simp only [hko, decide_true, decide_false] at hkb | skip
        first | (have hqi : (kp : Int) + 1 = (Q : Int) := (by omega); clear hQ) | subst hQ
        clear HQ HV
        go_wp2_with (first | (go_at_call 71; refine (opposite_any _ _).mono ?_; rintro e' w' ⟨rfl, rfl⟩) | (go_at_call 72; refine (HLD.out _).mono ?_; rintro e' w' ⟨rfl, rfl⟩))
        go_ret2
        first | exact ⟨_, _, rfl, HR.out, rfl⟩ | exact ⟨_, _, rfl, (by rw [HE.out]; exact HR.out), rfl⟩
    · -- 1 false false
      have hres := HT.out
      simp only [if_true] at hres
      have HR : Hid _ := hres
      clear hres HT
      have HE : Hid (r = s1) := HS1.out rfl rfl
      clear HS1 HS2 HS3 HS4
      rcases or_cases hf rs with rfl | ⟨rfl, rfl⟩ | ⟨rfl, rfl⟩
      all_goals
        have hQ := HQ.out _ rfl
        simp [incB, HV.out.2] at hQ
        first | (have hqi : (kp : Int) + 1 = (Q : Int) := (by omega); clear hQ) | subst hQ
        clear HQ HV
        go_wp2_with (first | (go_at_call 71; refine (opposite_any _ _).mono ?_; rintro e' w' ⟨rfl, rfl⟩) | (go_at_call 72; refine (HLD.out _).mono ?_; rintro e' w' ⟨rfl, rfl⟩))
        go_ret2
        first | exact ⟨_, _, rfl, HR.out, rfl⟩ | exact ⟨_, _, rfl, (by rw [HE.out]; exact HR.out), rfl⟩
    · -- 1 false true
      have hres := HT.out
      simp at hres
      have HR : Hid _ := hres
      clear hres HT
      have HE : Hid (9218868437227405311 = s2) := HS2.out rfl
      clear HS1 HS2 HS3 HS4
      rcases or_cases hf rs with rfl | ⟨rfl, rfl⟩ | ⟨rfl, rfl⟩
      all_goals
        have hQ := HQ.out _ rfl
        simp [incB, HV.out.2] at hQ
        first | (have hqi : (kp : Int) + 1 = (Q : Int) := (by omega); clear hQ) | subst hQ
        clear HQ HV
        go_wp2_with (first | (go_at_call 71; refine (opposite_any _ _).mono ?_; rintro e' w' ⟨rfl, rfl⟩) | (go_at_call 72; refine (HLD.out _).mono ?_; rintro e' w' ⟨rfl, rfl⟩))
        go_ret2
        first | exact ⟨_, _, rfl, HR.out, rfl⟩ | exact ⟨_, _, rfl, (by rw [HE.out]; exact HR.out), rfl⟩
    · -- 1 true false
      have hres := HT.out
      simp only [if_true] at hres
      have HR : Hid _ := hres
      clear hres HT
      have hsb := HS3.out rfl rfl
      clear HS1 HS2 HS3 HS4
      all_goals
        have hQ := HQ.out _ rfl
        simp [incB] at hQ
        first | (have hqi : (kp : Int) + 1 = (Q : Int) := (by omega); clear hQ) | subst hQ
        clear HQ HV
        go_wp2_with (first | (go_at_call 71; refine (opposite_any _ _).mono ?_; rintro e' w' ⟨rfl, rfl⟩) | (go_at_call 72; refine (HLD.out _).mono ?_; rintro e' w' ⟨rfl, rfl⟩))
        go_ret2
        first | exact ⟨_, _, rfl, HR.out, rfl⟩ | exact ⟨_, _, rfl, (by rw [HE.out]; exact HR.out), rfl⟩
    · -- 1 true true
      have hres := HT.out
      simp at hres
      have HR : Hid _ := hres
      clear hres HT
      have hsb := HS4.out rfl
      clear HS1 HS2 HS3 HS4
      all_goals
        have hQ := HQ.out _ rfl
        simp [incB] at hQ
        first | (have hqi : (kp : Int) + 1 = (Q : Int) := (by omega); clear hQ) | subst hQ
        clear HQ HV
        go_wp2_with (first | (go_at_call 71; refine (opposite_any _ _).mono ?_; rintro e' w' ⟨rfl, rfl⟩) | (go_at_call 72; refine (HLD.out _).mono ?_; rintro e' w' ⟨rfl, rfl⟩))
        go_ret2
        first | exact ⟨_, _, rfl, HR.out, rfl⟩ | exact ⟨_, _, rfl, (by rw [HE.out]; exact HR.out), rfl⟩
    · -- 2 false false
      have hres := HT.out
      simp only [if_true] at hres
      have HR : Hid _ := hres
      clear hres HT
      have HE : Hid (r = s1) := HS1.out rfl rfl
      clear HS1 HS2 HS3 HS4
      all_goals
        have hQ := HQ.out _ rfl
        simp [incB] at hQ
        first | (have hqi : (kp : Int) + 1 = (Q : Int) := (by omega); clear hQ) | subst hQ
        clear HQ HV
        go_wp2_with (first | (go_at_call 71; refine (opposite_any _ _).mono ?_; rintro e' w' ⟨rfl, rfl⟩) | (go_at_call 72; refine (HLD.out _).mono ?_; rintro e' w' ⟨rfl, rfl⟩))
        go_ret2
        first | exact ⟨_, _, rfl, HR.out, rfl⟩ | exact ⟨_, _, rfl, (by rw [HE.out]; exact HR.out), rfl⟩
    · -- 2 false true
      have hres := HT.out
      simp at hres
      have HR : Hid _ := hres
      clear hres HT
      have HE : Hid (9218868437227405311 = s2) := HS2.out rfl
      clear HS1 HS2 HS3 HS4
      all_goals
        have hQ := HQ.out _ rfl
        simp [incB] at hQ
        first | (have hqi : (kp : Int) + 1 = (Q : Int) := (by omega); clear hQ) | subst hQ
        clear HQ HV
        go_wp2_with (first | (go_at_call 71; refine (opposite_any _ _).mono ?_; rintro e' w' ⟨rfl, rfl⟩) | (go_at_call 72; refine (HLD.out _).mono ?_; rintro e' w' ⟨rfl, rfl⟩))
        go_ret2
        first | exact ⟨_, _, rfl, HR.out, rfl⟩ | exact ⟨_, _, rfl, (by rw [HE.out]; exact HR.out), rfl⟩
    · -- 2 true false
      have hres := HT.out
      simp only [if_true] at hres
      have HR : Hid _ := hres
      clear hres HT
      have hsb := HS3.out rfl rfl
      clear HS1 HS2 HS3 HS4
      rcases or_cases hf rs with rfl | ⟨rfl, rfl⟩ | ⟨rfl, rfl⟩
      all_goals
        have hQ := HQ.out _ rfl
        simp [incB, HV.out.2] at hQ
        first | (have hqi : (kp : Int) + 1 = (Q : Int) := (by omega); clear hQ) | subst hQ
        clear HQ HV
        go_wp2_with (first | (go_at_call 71; refine (opposite_any _ _).mono ?_; rintro e' w' ⟨rfl, rfl⟩) | (go_at_call 72; refine (HLD.out _).mono ?_; rintro e' w' ⟨rfl, rfl⟩))
        go_ret2
        first | exact ⟨_, _, rfl, HR.out, rfl⟩ | exact ⟨_, _, rfl, (by rw [HE.out]; exact HR.out), rfl⟩
    · -- 2 true true
      have hres := HT.out
      simp at hres
      have HR : Hid _ := hres
      clear hres HT
      have hsb := HS4.out rfl
      clear HS1 HS2 HS3 HS4
      rcases or_cases hf rs with rfl | ⟨rfl, rfl⟩ | ⟨rfl, rfl⟩
      all_goals
        have hQ := HQ.out _ rfl
        simp [incB, HV.out.2] at hQ
        first | (have hqi : (kp : Int) + 1 = (Q : Int) := (by omega); clear hQ) | subst hQ
        clear HQ HV
        go_wp2_with (first | (go_at_call 71; refine (opposite_any _ _).mono ?_; rintro e' w' ⟨rfl, rfl⟩) | (go_at_call 72; refine (HLD.out _).mono ?_; rintro e' w' ⟨rfl, rfl⟩))
        go_ret2
        first | exact ⟨_, _, rfl, HR.out, rfl⟩ | exact ⟨_, _, rfl, (by rw [HE.out]; exact HR.out), rfl⟩
  · have HR : Hid (Rnd d neg N D (0, false)) := rnd_none d neg N D hD hd
    have n0 : (d == 0) = false := by simp; omega
    have n1 : (d == 1) = false := by simp; omega
    have n2 : (d == 2) = false := by simp; omega
    have o0 : oppD d = d := by unfold oppD; rw [if_neg (by omega), if_neg (by omega)]
    cases neg
    all_goals
      go_wp2_with (first | (go_at_call 71; refine (opposite_any _ _).mono ?_; rintro e' w' ⟨rfl, rfl⟩))
      go_ret2
      exact ⟨_, _, rfl, HR.out, rfl⟩
end Go.Proofs.Ytkbafeghlfajhaa
