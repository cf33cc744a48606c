import Derived.Test.YtgjdmenmegnacabPrs
namespace Go.Proofs.Ytgjdmenmegnacab
open Ieee
set_option linter.unusedVariables false

set_option maxHeartbeats 4000000 in
theorem prod_rest {a b fa fb s p p' : Nat} {A B ea eb : Int} (hfa : Fin a) (hfb : Fin b) (Fa : Frx a fa A ea) (Fb : Frx b fb B eb) (hs : ∀ E, E = 1074 → Sc E 134217729 s) {E : Nat} (hE : E = 1074)
    (h : RndZ 0 (fval a * fval b) (2 ^ E) (p, true)) (hpow : Pow p (-(ea + eb)) p') :
    ∃ high low d r, Prd fa fb s high low ∧ double.sub high p' = some d ∧ frung d ≤ infK ∧ r = (if srung d = 0 then low else d) ∧ Fin r ∧ r < 18446744073709551616 ∧
      ∀ e bk, Pow r (ea + eb) e → (Fin e → Pow e (-(ea + eb)) bk) → (frung e = infK → bk = e) → frung bk ≤ infK ∧ e < 18446744073709551616 ∧ Fin e ∧ (srung bk = srung r → Rest (fval a * fval b) (2 ^ E) p (plainM e) true) ∧ (srung bk ≠ srung r → Rest (fval a * fval b) (2 ^ E) 0 0 false) := by
  obtain ⟨c, hc⟩ : ∃ c : Nat, c = 1021 := ⟨_, rfl⟩
  obtain ⟨b', hb'⟩ : ∃ c : Nat, c = 968 := ⟨_, rfl⟩
  obtain ⟨high, low, H, hPrd, hH, hL, hRh⟩ := prd_all hE (by omega) (by omega) (show c + c = b' + E by omega) (by omega) (Fa.sc c hc) (Fb.sc c hc) Fa.full Fb.full (hs E hE)
  rw [Fa.sgn, Fb.sgn] at hRh
  have hsg := mul_sign Fa.sign Fb.sign
  obtain ⟨R', hR', hq1, hq2, -⟩ := hRh.rung
  rw [abs_scaled] at hR' hq1
  have hhf : frung high < infK := hH.1
  have hh0 : nearK ((A * B).natAbs * 2 ^ b') 1 R' < infK := by rw [hq1] at hhf; omega
  rw [Nat.min_eq_left (Nat.le_of_lt hh0)] at hq1
  obtain ⟨g, hg⟩ : ∃ g, (fneg a ^^ fneg b) = g := ⟨_, rfl⟩
  rw [hg] at hsg hq2
  have hDp := Nat.two_pow_pos E
  -- the product's own magnitude
  have hz : fval a * fval b = sgz g ((rmag (frung a) * rmag (frung b) : Nat) : Int) := by
    rw [fval_sgz a, fval_sgz b, sgz_xor, hg, Int.natCast_mul]
  obtain ⟨N, hN⟩ : ∃ N, rmag (frung a) * rmag (frung b) = N := ⟨_, rfl⟩
  have hrel := prod_rel Fa Fb
  rw [hN] at hrel hz
  obtain ⟨n, hn⟩ : ∃ n, ea + eb = n := ⟨_, rfl⟩
  have la := Fa.lo
  have lb := Fb.lo
  rw [hn] at hrel hpow
  rw [hn]
  obtain ⟨X, hX⟩ : ∃ X, (A * B).natAbs * 2 ^ b' = X := ⟨_, rfl⟩
  rw [hX] at hR' hq1 hh0
  have hrelX : N * 2 ^ (-n).toNat = X * 2 ^ n.toNat * 2 ^ E := by
    refine Nat.eq_of_mul_eq_mul_right (show 0 < 2 ^ 104 by decide) ?_
    rw [Nat.mul_right_comm, hrel, ← hX, Nat.mul_assoc, Nat.mul_assoc, Nat.mul_assoc, Nat.mul_assoc, ← Nat.pow_add, ← Nat.pow_add, ← Nat.pow_add, ← Nat.pow_add]
    congr 2; omega
  have hX0 : X = 0 ∨ 2 ^ b' * 4503599627370496 ≤ X := by
    by_cases hab : A * B = 0
    · left; rw [← hX, hab, Int.natAbs_zero, Nat.zero_mul]
    · right
      have hA : 4503599627370496 ≤ A.natAbs := by
        rcases Fa.full with h | h
        · exact absurd (by rw [h, Int.zero_mul]) hab
        · exact h.1
      have hB : 4503599627370496 ≤ B.natAbs := by
        rcases Fb.full with h | h
        · exact absurd (by rw [h, Int.mul_zero]) hab
        · exact h.1
      have h2 : 4503599627370496 * 1 ≤ A.natAbs * B.natAbs := Nat.mul_le_mul hA (by omega)
      rw [← hX, Int.natAbs_mul, Nat.mul_comm (2 ^ b')]
      exact Nat.mul_le_mul_right _ (by omega)
  have hXs : X < 9007199254740992 * 2 ^ (b' + 53) := by
    have hAb : A.natAbs < 9007199254740992 := by rcases Fa.full with h | h <;> omega
    have hBb : B.natAbs < 9007199254740992 := by rcases Fb.full with h | h <;> omega
    have h5 : A.natAbs * B.natAbs < 9007199254740992 * 9007199254740992 := Nat.mul_lt_mul_of_lt_of_lt hAb hBb
    rw [← hX, Int.natAbs_mul, Nat.pow_add, Nat.mul_comm (2 ^ b'), ← Nat.mul_assoc, show (2 : Nat) ^ 53 = 9007199254740992 by decide]
    exact Nat.mul_lt_mul_of_pos_right h5 (Nat.two_pow_pos _)
  -- what is told
  have hzN : (fval a * fval b).natAbs = N := by rw [hz, sgz_abs, Int.natAbs_natCast]
  obtain ⟨R, hR, hp⟩ := id h
  rw [hzN] at hR hp
  have hKp : nearK N (2 ^ E) R < infK ∧ p = sgnK (decide (fval a * fval b < 0)) (nearK N (2 ^ E) R) := by
    unfold tellK at hp
    rw [if_pos rfl] at hp
    by_cases hb : nearK N (2 ^ E) R < infK
    · rw [if_pos hb] at hp; simp only [Prod.mk.injEq, and_true] at hp; exact ⟨hb, hp⟩
    · rw [if_neg hb] at hp; simp at hp
  obtain ⟨hK, hpK⟩ := hKp
  obtain ⟨j, hj, hjh⟩ := prod_rungs hDp (by rcases hX0 with h0 | h0
                                            · exact .inl h0
                                            · right; have := Nat.mul_le_mul_right 4503599627370496 (Nat.two_pow_pos b'); omega) hrelX hR hR' hK
  obtain ⟨K, hKe⟩ : ∃ K, nearK N (2 ^ E) R = K := ⟨_, rfl⟩
  obtain ⟨h0, hh0e⟩ : ∃ h0, nearK X 1 R' = h0 := ⟨_, rfl⟩
  have hps := sgn_parts (decide (fval a * fval b < 0)) hK
  rw [← hpK] at hps
  have hpl := hps.2.1
  have hpf : frung p = K := by rw [hps.1, hKe]
  have hpn : K ≠ 0 → fneg p = g := by
    intro h1
    rw [hps.2.2.1 (by omega)]
    have hN0 : N ≠ 0 := by
      rintro rfl
      have := fl_zero hR
      subst this
      rw [nearK_exact (by rw [rmag_zero, Nat.zero_mul]) hDp] at hKe
      exact h1 hKe.symm
    rw [hz]; unfold sgz; cases g
    · simp only [Bool.false_eq_true, if_false]; exact decide_eq_false (by omega)
    · simp only [if_true]; exact decide_eq_true (by omega)
  have hfp : fval p = sgz g (rmag K : Int) := by
    rw [fval_sgz, hpf]
    by_cases h1 : K = 0
    · rw [h1, rmag_zero]; unfold sgz; split <;> split <;> rfl
    · rw [hpn h1]
  rw [hKe] at hj
  rw [hh0e] at hjh
  have hp1 := Nat.two_pow_pos n.toNat
  have hp2 := Nat.two_pow_pos (-n).toNat
  -- p', the copy's rung
  have hjf : j < infK := by
    have h2 := near_two hR
    rw [hKe] at h2
    have h3 : rmag j ≤ 2 * X := by
      refine Nat.le_of_mul_le_mul_right (c := 2 ^ n.toNat * 2 ^ E) ?_ (Nat.mul_pos hp1 hDp)
      rw [← Nat.mul_assoc, hj, Nat.mul_right_comm]
      have h4 := Nat.mul_le_mul_right (2 ^ (-n).toNat) h2
      rw [Nat.mul_assoc 2, hrelX] at h4
      rw [Nat.mul_assoc 2, ← Nat.mul_assoc X]; exact h4
    refine lt_inf (t := b' + 60) ?_ (by omega)
    have h7 : 2 ^ (b' + 53) * 2 ≤ 2 ^ (b' + 60) := by rw [← Nat.pow_succ]; exact Nat.pow_le_pow_right (by omega) (by omega)
    have h8 := Nat.mul_le_mul_left 9007199254740992 h7
    rw [← Nat.mul_assoc] at h8
    omega
  have hp'r : frung p' = j ∧ fneg p' = fneg p := by
    unfold Pow at hpow
    rw [hpf, show (- -n).toNat = n.toNat by rw [Int.neg_neg], ← hj] at hpow
    obtain ⟨Rj, hRj, e1, e2, -⟩ := Rn.rung hpow
    rw [(near_rung hRj).2, Nat.min_eq_left (Nat.le_of_lt hjf)] at e1
    exact ⟨e1, e2⟩
  have hjK : K = 0 → j = 0 := by
    intro h1; rw [h1, rmag_zero, Nat.zero_mul] at hj
    rcases Nat.mul_eq_zero.1 hj with h2 | h2
    · have := le_rmag j; omega
    · omega
  have hfp' : fval p' = sgz g (rmag j : Int) := by
    rw [fval_sgz, hp'r.1, hp'r.2]
    by_cases h1 : K = 0
    · rw [hjK h1, rmag_zero]; unfold sgz; split <;> split <;> rfl
    · rw [hpn h1]
  have hfh : fval high = sgz g (rmag h0 : Int) := by rw [fval_sgz, hq1, hq2, hh0e]
  have hfl : fval low = sgz g ((X : Int) - rmag h0) := by
    rw [hL.2.2, Int.sub_mul, ← hH.2.2, hfh]
    have : A * B * 2 ^ b' = sgz g (X : Int) := by
      rw [sgz_of hsg, ← hX, sgz_mul, Int.natCast_mul, Int.natCast_pow]; rfl
    rw [this, sgz_sub]
  have hfin' : Fin p' := by unfold Fin; rw [hp'r.1]; exact hjf
  obtain ⟨d, hd, gd, hgd, hsd⟩ := sub_fin hH.1 hfin'
  have hV : (fval high - fval p').natAbs = ((rmag h0 : Int) - rmag j).natAbs := by rw [hfh, hfp', sgz_sub, sgz_abs]
  rw [hV] at hgd
  obtain ⟨Rd, hRd, hd1, hd2, hdl⟩ := hgd.rung
  have hdi : frung d ≤ infK := by rw [hd1]; exact Nat.min_le_right ..
  by_cases hM : rmag h0 = rmag j
  · have hM0 : ((rmag h0 : Int) - rmag j).natAbs = 0 := by omega
    rw [hM0] at hRd hd1
    have e0 := fl_zero hRd
    subst e0
    rw [nearK_exact (by rw [rmag_zero]) (by decide), Nat.zero_min] at hd1
    have hd0 : srung d = 0 := by unfold srung; rw [hd1]; split <;> rfl
    refine ⟨high, low, d, low, hPrd, hd, hdi, by rw [if_pos hd0], hL.1, hL.2.1, fun e bk he hb1 hb2 => ?_⟩
    have hN2 := hR.2
    have hRK : R < infK := by rcases nearK_cases N (2 ^ E) R with h1 | h1 <;> omega
    refine rest_scaled hDp h hL.1 hL.2.1 ?_ ?_ he hb1 hb2
    · have e1 : (z : Int) → z * ((2 ^ E : Nat) : Int) * ((2 ^ (-n).toNat : Nat) : Int) = z * ((2 ^ (-n).toNat : Nat) : Int) * ((2 ^ E : Nat) : Int) := fun z => Int.mul_right_comm ..
      rw [Int.sub_mul, e1, hz, hfp, hfl, sgz_mul, sgz_mul, sgz_mul, sgz_sub, sgz_mul, sgz_mul]
      congr 1
      rw [← Int.natCast_mul, hrelX, ← Int.natCast_mul, ← hj, Int.natCast_mul, Int.natCast_mul, Int.natCast_mul, ← hM]
      rw [← Int.sub_mul, ← Int.sub_mul]
    · rw [hz, hfp, sgz_mul, sgz_sub, sgz_abs]
      have h1 : rmag (R + 1) * 2 ^ E ≤ rmag infK * 2 ^ E := Nat.mul_le_mul_right _ (rmag_le (by omega))
      have h2 : rmag K * 2 ^ E < rmag infK * 2 ^ E := Nat.mul_lt_mul_of_pos_right (rmag_lt (by omega)) hDp
      rw [← Int.natCast_mul]
      omega
  · rcases hjh with hjh | ⟨hn0, hRs, hXn⟩
    · exact absurd hjh hM
    obtain ⟨t, ht⟩ : ∃ t : Nat, (-n).toNat = t := ⟨_, rfl⟩
    have hz0 : n.toNat = 0 := by omega
    have hp2' := Nat.two_pow_pos t
    rw [ht, hz0, Nat.pow_zero, Nat.mul_one] at hj hrelX
    have hsm := fl_small hRs
    have hX1 : 2 ^ b' * 4503599627370496 ≤ X := by rcases hX0 with h1 | h1 <;> omega
    have hN1 := hR.1
    have hN2 := hR.2
    rw [hsm.1] at hN1
    rw [hsm.2] at hN2
    -- K and N
    have hKR : K = R ∨ K = R + 1 := by rw [← hKe]; exact nearK_cases N (2 ^ E) R
    have hrK : rmag K = K := by
      rcases hKR with h1 | h1
      · rw [h1]; exact hsm.1
      · rw [h1]; exact hsm.2
    have hhalf : 2 * ((N : Int) - (K * 2 ^ E : Nat)).natAbs ≤ 2 ^ E := by
      rw [← hKe]; unfold nearK
      rw [hsm.1, hsm.2]
      have e1 : (R + (R + 1)) * 2 ^ E = 2 * (R * 2 ^ E) + 2 ^ E := by rw [Nat.add_mul, Nat.add_mul]; omega
      have e2 : (R + 1) * 2 ^ E = R * 2 ^ E + 2 ^ E := by rw [Nat.add_mul, Nat.one_mul]
      rw [e1]
      rw [e2] at hN2
      split
      · omega
      · rw [e2]; omega
    have hjX : 2 * ((X : Int) - rmag j).natAbs ≤ 2 ^ t := by
      refine Nat.le_of_mul_le_mul_right (c := 2 ^ E) ?_ hDp
      have e3 : ((X : Int) - rmag j).natAbs * 2 ^ E = ((N : Int) - (K * 2 ^ E : Nat)).natAbs * 2 ^ t := by
        have : ((X : Int) - rmag j) * ((2 ^ E : Nat) : Int) = ((N : Int) - (K * 2 ^ E : Nat)) * ((2 ^ t : Nat) : Int) := by
          rw [Int.sub_mul, Int.sub_mul, ← Int.natCast_mul, ← hrelX, ← Int.natCast_mul, ← Int.natCast_mul, ← Int.natCast_mul, hj, hrK]
          congr 2
          exact Nat.mul_right_comm ..
        have := congrArg Int.natAbs this
        rw [Int.natAbs_mul, Int.natAbs_mul, Int.natAbs_natCast, Int.natAbs_natCast] at this
        exact this
      have h9 := Nat.mul_le_mul_right (2 ^ t) hhalf
      rw [Nat.mul_assoc] at h9
      rw [Nat.mul_assoc, e3, Nat.mul_comm (2 ^ t)]
      exact h9
    have hXlt : X < 4503599627370496 * 2 ^ t := by
      refine Nat.lt_of_mul_lt_mul_right (a := 2 ^ E) ?_
      rw [← hrelX, Nat.mul_right_comm]
      refine Nat.mul_lt_mul_of_pos_right ?_ hp2'
      have : (R + 1) * 2 ^ E ≤ 4503599627370496 * 2 ^ E := Nat.mul_le_mul_right _ (by omega)
      omega
    have hR52 : 4503599627370496 ≤ R' := by
      have h1 : rmag 4503599627370496 = 4503599627370496 := (fl_small (R := 4503599627370495) (by omega)).2
      have h2 := hR'.2
      rw [Nat.mul_one] at h2
      have h3 := Nat.mul_le_mul_right 4503599627370496 (Nat.two_pow_pos b')
      have := lt_of_rmag (show rmag 4503599627370496 < rmag (R' + 1) by omega)
      omega
    have hhX := near_half hR' hR52 hXlt
    rw [hh0e] at hhX
    have htt : 2 ≤ t := by
      rcases Nat.lt_or_ge t 2 with h1 | h1
      · exfalso
        have h2 : 2 ^ t ≤ 2 ^ 2 := Nat.pow_le_pow_right (by omega) (by omega)
        have h3 : 2 ^ 3 ≤ 2 ^ b' := Nat.pow_le_pow_right (by omega) (by omega)
        have h4 := Nat.mul_le_mul_right 4503599627370496 h3
        have h5 := Nat.mul_le_mul_left 4503599627370496 h2
        omega
      · exact h1
    obtain ⟨u, hu⟩ : ∃ u, t = u + 2 := ⟨t - 2, by omega⟩
    have hpu : 2 ^ t = 4 * 2 ^ u := by rw [hu, Nat.pow_add]; omega
    have hMb : ((rmag h0 : Int) - rmag j).natAbs ≤ 3 * 2 ^ u := by rw [hpu] at hhX hjX; omega
    have hM1 : 1 ≤ ((rmag h0 : Int) - rmag j).natAbs := by omega
    obtain ⟨J, hJ⟩ := rung_some 3 u (by omega)
    have hdJ : nearK ((rmag h0 : Int) - rmag j).natAbs 1 Rd ≤ J := nearK_le hRd (by rw [Nat.mul_one, hJ]; exact hMb)
    have hdm : nearK ((rmag h0 : Int) - rmag j).natAbs 1 Rd < infK := by
      have hmx : nearK ((rmag h0 : Int) - rmag j).natAbs 1 Rd ≤ max h0 j := by
        refine nearK_le hRd ?_
        have h1 : rmag h0 ≤ rmag (max h0 j) := rmag_le (by omega)
        have h2 : rmag j ≤ rmag (max h0 j) := rmag_le (by omega)
        rw [Nat.mul_one]; omega
      omega
    rw [Nat.min_eq_left (Nat.le_of_lt hdm)] at hd1
    have hd1' : 1 ≤ frung d := by
      rw [hd1]; exact le_nearK hRd (by rw [Nat.mul_one, show rmag 1 = 1 by decide]; exact hM1)
    have hdlt : rmag (frung d) < 2 ^ t := by
      have h1 : rmag (frung d) ≤ rmag J := by rw [hd1]; exact rmag_le hdJ
      rw [hJ] at h1; omega
    have hd0 : srung d ≠ 0 := by unfold srung; split <;> omega
    have hdf : Fin d := by unfold Fin; rw [hd1]; exact hdm
    refine ⟨high, low, d, d, hPrd, hd, hdi, by rw [if_neg hd0], hdf, hdl, fun e bk he hb1 hb2 => ?_⟩
    unfold Pow at he
    rw [ht, hz0, Nat.pow_zero, Nat.mul_one] at he
    obtain ⟨Re, hRe, he1, he2, hel⟩ := Rn.rung he
    have hRe0 : Re = 0 := by
      have h1 : Fl (rmag (frung d)) (2 ^ t) 0 := ⟨by rw [rmag_zero, Nat.zero_mul]; omega, by rw [show rmag (0 + 1) = 1 by decide, Nat.one_mul]; exact hdlt⟩
      exact hRe.uniq h1
    subst hRe0
    have hi1 : 1 < infK := by decide
    have hek : frung e = 0 ∨ frung e = 1 := by
      rcases nearK_cases (rmag (frung d)) (2 ^ t) 0 with h1 | h1 <;> rw [h1] at he1 <;> omega
    have hfe : Fin e := by unfold Fin; rcases hek with h1 | h1 <;> omega
    have hpb := hb1 hfe
    unfold Pow at hpb
    rw [ht, show (- -n).toNat = 0 by omega, Nat.pow_zero] at hpb
    obtain ⟨k, hk⟩ := rung_up (frung e) t
    rw [← hk, ← Nat.mul_one (rmag k)] at hpb
    obtain ⟨Rb, hRb, hb3, hb4, -⟩ := Rn.rung hpb
    rw [(near_rung hRb).2] at hb3
    have hne : frung bk ≠ frung d := by
      rcases hek with h1 | h1
      · rw [h1, rmag_zero, Nat.zero_mul] at hk
        have : k = 0 := by have := le_rmag k; omega
        omega
      · rw [h1, show rmag 1 = 1 by decide, Nat.one_mul] at hk
        have : frung d < k := lt_of_rmag (by omega)
        have hfi : frung d < infK := hdf
        omega
    refine ⟨by rw [hb3]; exact Nat.min_le_right .., hel, hfe, fun hs => ?_, fun _ => ?_⟩
    · exfalso
      apply hne
      unfold srung at hs; rw [hb4, he2] at hs; split at hs <;> omega
    · refine Rest.none hDp h (fun k' hk' => ?_)
      rw [hz, hfp, hrK, sgz_mul, sgz_sub, sgz_abs, ← Int.natCast_mul] at hk'
      rcases Nat.eq_zero_or_pos k' with h1 | h1
      · rw [h1, rmag_zero, Nat.zero_mul] at hk'
        apply hM
        have hNK : N = K * 2 ^ E := by omega
        have h2 : X * 2 ^ E = rmag j * 2 ^ E := by rw [← hrelX, hNK, hj, hrK, Nat.mul_right_comm]
        have h3 : X = rmag j := Nat.eq_of_mul_eq_mul_right hDp h2
        have h4 := near_one hR' h3.symm
        rw [hh0e] at h4
        omega
      · have h2 : 1 ≤ rmag k' := by have := le_rmag k'; omega
        have h3 := Nat.mul_le_mul_right (2 ^ E) h2
        rw [← hk'] at h3
        omega
end Go.Proofs.Ytgjdmenmegnacab
