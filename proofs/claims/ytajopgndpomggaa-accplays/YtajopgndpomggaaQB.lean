import Derived.Test.YtajopgndpomggaaMW
import Derived.Test.YtajopgndpomggaaQA
namespace Go.Proofs.Ytajopgndpomggaa
open Go.RowKit
set_option linter.unusedVariables false
set_option linter.unusedSimpArgs false

theorem and32 (u : Nat) (hu : u < 18446744073709551616) : bits .and .u64 (u : Int) 4294967295 = ((u % 4294967296 : Nat) : Int) := by
  have h1 : (BitVec.ofInt 64 4294967295).toNat = 2 ^ 32 - 1 := by decide
  have h2 : (BitVec.ofInt 64 (u : Int)).toNat = u := by
    rw [BitVec.toNat_ofInt]; show ((u : Int) % (18446744073709551616 : Int)).toNat = u; omega
  show IntKind.u64.wrap ((BitVec.ofInt 64 (u : Int) &&& BitVec.ofInt 64 4294967295).toNat : Nat) = _
  rw [BitVec.toNat_and, h1, h2, Nat.and_two_pow_sub_one_eq_mod, IntKind.wrap_u64]
  have := Nat.mod_lt u (show 0 < 2 ^ 32 by omega)
  omega
theorem or_zero64 (u : Nat) (hu : u < 18446744073709551616) : bits .or .u64 (u : Int) 0 = (u : Int) := by
  have := u64_or_nat u 0 hu (by decide)
  rw [Nat.or_zero] at this
  exact this
set_option maxRecDepth 100000 in
set_option maxHeartbeats 4000000 in
theorem div64_any (hi lo y : Nat) (hy : 9223372036854775808 ≤ y) (hy2 : y < 18446744073709551616) (hh : hi < y) (h0 : 0 < hi) (hl : lo < 18446744073709551616) (w : World) :
    Calls Try.prog 71 #[.int .u64 (hi : Int), .int .u64 (lo : Int), .int .u64 (y : Int)] w fun e w' => ∃ q r : Nat, e = .returned (.tuple #[.int .u64 (q : Int), .int .u64 (r : Int)]) ∧ q * y ≤ hi * 18446744073709551616 + lo ∧ hi * 18446744073709551616 + lo < (q + 1) * y ∧ w' = w := by
  have e1 : ((y : Int) == 0) = false := by rw [beq_eq_false_iff_ne]; omega
  have e2 : decide ((y : Int) ≤ (hi : Int)) = false := decide_eq_false (by omega)
  have e3 : ((hi : Int) == 0) = false := by rw [beq_eq_false_iff_ne]; omega
  have hL : Lib.bitLen y = 63 + 1 := by
    obtain ⟨L, hL, hL1, hL2, hL3⟩ := bitLen_spec hy2 (by omega)
    have : L = 63 := by
      rcases Nat.lt_or_ge L 63 with h | h
      · exfalso
        have := Nat.pow_le_pow_right (n := 2) (by omega) (show L + 1 ≤ 63 by omega)
        have h63 : (2 : Nat) ^ 63 = 9223372036854775808 := by decide
        omega
      · omega
    rw [hL, this]
  have HL : Hid (Lib.bitLen y = 63 + 1) := hL
  clear hL
  obtain ⟨y1, hy1⟩ : ∃ y1, y / 4294967296 = y1 := ⟨_, rfl⟩
  obtain ⟨y0, hy0e⟩ : ∃ y0, y % 4294967296 = y0 := ⟨_, rfl⟩
  obtain ⟨d1, hd1e⟩ : ∃ d1, lo / 4294967296 = d1 := ⟨_, rfl⟩
  obtain ⟨d0, hd0e⟩ : ∃ d0, lo % 4294967296 = d0 := ⟨_, rfl⟩
  have hy0 : y0 < 4294967296 := by omega
  have hy1b : 2147483648 ≤ y1 ∧ y1 < 4294967296 := by omega
  have hdd1 : d1 < 4294967296 := by omega
  have hdd0 : d0 < 4294967296 := by omega
  have HYE : Hid (y = y1 * 4294967296 + y0) := by unfold Hid; omega
  have HLE : Hid (lo / 4294967296 = d1 ∧ lo % 4294967296 = d0) := ⟨hd1e, hd0e⟩
  have r1 : (y : Int) / 4294967296 = (y1 : Int) := by omega
  have r2 : bits .and .u64 (y : Int) 4294967295 = (y0 : Int) := by rw [and32 y hy2, hy0e]
  have r3 : (lo : Int) / 18446744073709551616 = 0 := by omega
  have r4 : bits .or .u64 (hi : Int) 0 = (hi : Int) := or_zero64 hi (by omega)
  have r5 : (lo : Int) / 4294967296 = (d1 : Int) := by omega
  have r6 : bits .and .u64 (lo : Int) 4294967295 = (d0 : Int) := by rw [and32 lo hl, hd0e]
  have Hhi : Hid (hi < y1 * 4294967296 + y0) := by unfold Hid; omega
  obtain ⟨a1, ha1⟩ : ∃ a1, hi / y1 = a1 := ⟨_, rfl⟩
  obtain ⟨m1, hm1⟩ : ∃ m1, a1 * y1 = m1 := ⟨_, rfl⟩
  have I1 : DvI hi d1 y1 y0 a1 (hi - m1) := by rw [← hm1, ← ha1]; exact DvI.init hy1b.1 hy0 hdd1 Hhi.out
  have hm1l : m1 ≤ hi := by rw [← hm1, ← ha1]; exact Nat.div_mul_le_self _ _
  have hb1l : hi - m1 < 4294967296 := by
    have h1 := Nat.div_add_mod hi y1
    have h2 := Nat.mod_lt hi (show 0 < y1 by omega)
    rw [ha1, Nat.mul_comm, hm1] at h1
    omega
  have r7 : IntKind.u64.wrap ((hi : Int).tdiv (y1 : Int)) = (a1 : Int) := by
    have e : (hi : Int).tdiv (y1 : Int) = (a1 : Int) := by rw [← ha1]; rfl
    rw [e, IntKind.wrap_u64]; have := I1.le; omega
  have r7' : IntKind.u64.wrap ((hi : Int) / (y1 : Int)) = (a1 : Int) := by
    have e : (hi : Int) / (y1 : Int) = (a1 : Int) := by rw [← ha1]; rfl
    rw [e, IntKind.wrap_u64]; have := I1.le; omega
  have r8 : IntKind.u64.wrap ((a1 : Int) * (y1 : Int)) = (m1 : Int) := by
    have e : (a1 : Int) * (y1 : Int) = (m1 : Int) := by rw [← hm1]; simp
    rw [e, IntKind.wrap_u64]; omega
  obtain ⟨b1, hb1⟩ : ∃ b1, hi - m1 = b1 := ⟨_, rfl⟩
  have r9 : IntKind.u64.wrap ((hi : Int) - (m1 : Int)) = (b1 : Int) := by rw [IntKind.wrap_u64]; omega
  rw [hb1] at I1 hb1l
  have HI1 : Hid _ := I1
  have hy1z : ((y1 : Int) == 0) = false := by rw [beq_eq_false_iff_ne]; omega
  have hy1n : (y1 : Int) ≠ 0 := by omega
  have hhb : hi < 18446744073709551616 := by omega
  clear hy1 hy0e hd1e hd0e ha1 hm1 hm1l hb1 I1
  go_enter Try.func71, Try.ntmps71
  go_wp2_with (first
    | (go_at_call 85; refine (zeros64_any y 63 hy2 HL.out _).mono ?_; rintro e w1 ⟨rfl, rfl⟩))
  have JA : Hid (DvI hi d1 y1 y0 a1 b1) := HI1
  go_loopg [15, 16] 3 (fun g qv rv wr => ∃ q r : Nat, qv = .int .u64 (q : Int) ∧ rv = .int .u64 (r : Int) ∧ Hid (wr = w1) ∧ Hid (DvI hi d1 y1 y0 q r) ∧ q ≤ 4294967297 ∧ r < 4294967296 ∧ 6442450944 ≤ r + g * 2147483648)
  case atStart => exact ⟨a1, b1, rfl, rfl, (rfl : w1 = w1), JA, JA.out.le, by omega, by omega⟩
  case round =>
    obtain ⟨q, r, rfl, rfl, HE, K, hq, hr, hg⟩ := hrel
    by_cases hqb : 4294967296 ≤ q
    · have hd : decide ((4294967296 : Int) ≤ (q : Int)) = true := decide_eq_true (by omega)
      obtain ⟨k1, k2, k3⟩ := K.out.dec Hhi.out hdd1 (.inl hqb)
      have HQB : Hid True := trivial
      clear hqb
      obtain ⟨q', hq'⟩ : ∃ q', q - 1 = q' := ⟨_, rfl⟩
      rw [hq'] at k1 k3
      have K1 : Hid _ := k1
      have t1 : IntKind.u64.wrap ((q : Int) - 1) = (q' : Int) := by rw [IntKind.wrap_u64]; omega
      clear k1 k2 hq' HQB
      obtain ⟨r', hr'⟩ : ∃ r', r + y1 = r' := ⟨_, rfl⟩
      have t2 : IntKind.u64.wrap ((r : Int) + (y1 : Int)) = (r' : Int) := by rw [IntKind.wrap_u64]; omega
      rw [hr'] at K1
      by_cases hbr : 4294967296 ≤ r'
      · have hd3 : decide ((4294967296 : Int) ≤ (r' : Int)) = true := decide_eq_true (by omega)
        have eA : Hid (q' * (y1 * 4294967296 + y0) ≤ hi * 4294967296 + d1 ∧ hi * 4294967296 + d1 < (q' + 1) * (y1 * 4294967296 + y0)) := ⟨K1.out.brk hy0 k3 hbr, K1.out.up⟩
        clear k3 hbr hr' hq hr hg
        obtain ⟨qz, hqz⟩ : ∃ qz, qz = q' := ⟨_, rfl⟩
        subst hqz
        obtain ⟨qA, hqA⟩ : ∃ qA, qA = qz := ⟨_, rfl⟩
        subst hqA
        obtain ⟨X, hX⟩ : ∃ X, qA * y = X := ⟨_, rfl⟩
        have eX : X ≤ hi * 4294967296 + d1 ∧ hi * 4294967296 + d1 < X + y := by rw [← hX]; have h := eA.out; rw [← HYE.out, Nat.add_mul, Nat.one_mul] at h; exact h
        have HQA : Hid (qA < 4294967296) := DvI.lt Hhi.out hdd1 eA.out.1
        obtain ⟨u2, hu2⟩ : ∃ u2, hi * 4294967296 + d1 - X = u2 := ⟨_, rfl⟩
        have Hu2 : Hid (u2 < y1 * 4294967296 + y0) := by have := HYE.out; unfold Hid; omega
        have HXU : Hid (X = qA * y ∧ X ≤ hi * 4294967296 + d1 ∧ u2 = hi * 4294967296 + d1 - X) := ⟨hX.symm, eX.1, hu2.symm⟩
        obtain ⟨h32, hh32⟩ : ∃ z, hi * 4294967296 % 18446744073709551616 = z := ⟨_, rfl⟩
        obtain ⟨h33, hh33⟩ : ∃ z, (h32 + d1) % 18446744073709551616 = z := ⟨_, rfl⟩
        obtain ⟨p3, hp3⟩ : ∃ z, X % 18446744073709551616 = z := ⟨_, rfl⟩
        have n1 : IntKind.u64.wrap ((hi : Int) * 4294967296) = (h32 : Int) := by rw [IntKind.wrap_u64]; omega
        have n2 : IntKind.u64.wrap ((h32 : Int) + (d1 : Int)) = (h33 : Int) := by rw [IntKind.wrap_u64]; omega
        have n3 : IntKind.u64.wrap ((qA : Int) * (y : Int)) = (p3 : Int) := by have e : (qA : Int) * (y : Int) = (X : Int) := (by rw [← hX]; simp); rw [e, IntKind.wrap_u64]; omega
        have n4 : IntKind.u64.wrap ((h33 : Int) - (p3 : Int)) = (u2 : Int) := by rw [IntKind.wrap_u64]; omega
        have hu2l : u2 < 18446744073709551616 := by omega
        clear hh32 hh33 hp3 eX hX hu2
        obtain ⟨a2, ha2⟩ : ∃ a2, u2 / y1 = a2 := ⟨_, rfl⟩
        obtain ⟨m2, hm2⟩ : ∃ m2, a2 * y1 = m2 := ⟨_, rfl⟩
        have I2 : DvI u2 d0 y1 y0 a2 (u2 - m2) := by rw [← hm2, ← ha2]; exact DvI.init hy1b.1 hy0 hdd0 Hu2.out
        have hm2l : m2 ≤ u2 := by rw [← hm2, ← ha2]; exact Nat.div_mul_le_self _ _
        have hb2l : u2 - m2 < 4294967296 := by
          have h1 := Nat.div_add_mod u2 y1
          have h2 := Nat.mod_lt u2 (show 0 < y1 by omega)
          rw [ha2, Nat.mul_comm, hm2] at h1
          omega
        have v7 : IntKind.u64.wrap ((u2 : Int) / (y1 : Int)) = (a2 : Int) := by
          have e : (u2 : Int) / (y1 : Int) = (a2 : Int) := (by rw [← ha2]; rfl)
          rw [e, IntKind.wrap_u64]; have := I2.le; omega
        have v7' : IntKind.u64.wrap ((u2 : Int).tdiv (y1 : Int)) = (a2 : Int) := by
          have e : (u2 : Int).tdiv (y1 : Int) = (a2 : Int) := (by rw [← ha2]; rfl)
          rw [e, IntKind.wrap_u64]; have := I2.le; omega
        have v8 : IntKind.u64.wrap ((a2 : Int) * (y1 : Int)) = (m2 : Int) := by
          have e : (a2 : Int) * (y1 : Int) = (m2 : Int) := (by rw [← hm2]; simp)
          rw [e, IntKind.wrap_u64]; omega
        obtain ⟨b2, hb2⟩ : ∃ b2, u2 - m2 = b2 := ⟨_, rfl⟩
        have v9 : IntKind.u64.wrap ((u2 : Int) - (m2 : Int)) = (b2 : Int) := by rw [IntKind.wrap_u64]; omega
        rw [hb2] at I2 hb2l
        have HI2 : Hid _ := I2
        have HW1 : Hid (wr = w1) := HE
        clear ha2 hm2 hm2l hb2 I2
        go_wp2_with fail
        have JB : Hid (DvI u2 d0 y1 y0 a2 b2) := HI2
        go_loopg [18, 16] 3 (fun g qv rv wr => ∃ q r : Nat, qv = .int .u64 (q : Int) ∧ rv = .int .u64 (r : Int) ∧ Hid (wr = w1) ∧ Hid (DvI u2 d0 y1 y0 q r) ∧ q ≤ 4294967297 ∧ r < 4294967296 ∧ 6442450944 ≤ r + g * 2147483648)
        case atStart => exact ⟨a2, b2, rfl, rfl, HW1, JB, JB.out.le, by omega, by omega⟩
        case round =>
          obtain ⟨q, r, rfl, rfl, HE, K, hq, hr, hg⟩ := hrel
          by_cases hqb : 4294967296 ≤ q
          · have hd : decide ((4294967296 : Int) ≤ (q : Int)) = true := decide_eq_true (by omega)
            obtain ⟨k1, k2, k3⟩ := K.out.dec Hu2.out hdd0 (.inl hqb)
            have HQB : Hid True := trivial
            clear hqb
            obtain ⟨q', hq'⟩ : ∃ q', q - 1 = q' := ⟨_, rfl⟩
            rw [hq'] at k1 k3
            have K1 : Hid _ := k1
            have t1 : IntKind.u64.wrap ((q : Int) - 1) = (q' : Int) := by rw [IntKind.wrap_u64]; omega
            clear k1 k2 hq' HQB
            obtain ⟨r', hr'⟩ : ∃ r', r + y1 = r' := ⟨_, rfl⟩
            have t2 : IntKind.u64.wrap ((r : Int) + (y1 : Int)) = (r' : Int) := by rw [IntKind.wrap_u64]; omega
            rw [hr'] at K1
            by_cases hbr : 4294967296 ≤ r'
            · have hd3 : decide ((4294967296 : Int) ≤ (r' : Int)) = true := decide_eq_true (by omega)
              have eB : Hid (q' * (y1 * 4294967296 + y0) ≤ u2 * 4294967296 + d0 ∧ u2 * 4294967296 + d0 < (q' + 1) * (y1 * 4294967296 + y0)) := ⟨K1.out.brk hy0 k3 hbr, K1.out.up⟩
              clear k3 hbr hr' hq hr hg
              obtain ⟨qz, hqz⟩ : ∃ qz, qz = q' := ⟨_, rfl⟩
              subst hqz
              obtain ⟨qB, hqB⟩ : ∃ qB, qB = qz := ⟨_, rfl⟩
              subst hqB
              have HQB2 : Hid (qB < 4294967296) := DvI.lt Hu2.out hdd0 eB.out.1
              obtain ⟨Y, hY⟩ : ∃ Y, qB * y = Y := ⟨_, rfl⟩
              obtain ⟨g1, hg1⟩ : ∃ z, u2 * 4294967296 % 18446744073709551616 = z := ⟨_, rfl⟩
              obtain ⟨g2, hg2⟩ : ∃ z, (g1 + d0) % 18446744073709551616 = z := ⟨_, rfl⟩
              obtain ⟨g3, hg3⟩ : ∃ z, Y % 18446744073709551616 = z := ⟨_, rfl⟩
              obtain ⟨g4, hg4⟩ : ∃ z, (g2 + 18446744073709551616 - g3) % 18446744073709551616 = z := ⟨_, rfl⟩
              have o1 : IntKind.u64.wrap ((u2 : Int) * 4294967296) = (g1 : Int) := by rw [IntKind.wrap_u64]; omega
              have o2 : IntKind.u64.wrap ((g1 : Int) + (d0 : Int)) = (g2 : Int) := by rw [IntKind.wrap_u64]; omega
              have o3 : IntKind.u64.wrap ((qB : Int) * (y : Int)) = (g3 : Int) := by have e : (qB : Int) * (y : Int) = (Y : Int) := (by rw [← hY]; simp); rw [e, IntKind.wrap_u64]; omega
              have o4 : IntKind.u64.wrap ((g2 : Int) - (g3 : Int)) = (g4 : Int) := by rw [IntKind.wrap_u64]; omega
              obtain ⟨Q, hQ⟩ : ∃ Q, qA * 4294967296 = Q := ⟨_, rfl⟩
              have o5 : IntKind.u64.wrap ((qA : Int) * 4294967296) = (Q : Int) := by have := HQA.out; rw [IntKind.wrap_u64]; omega
              obtain ⟨R, hR⟩ : ∃ R, Q + qB = R := ⟨_, rfl⟩
              have o6 : IntKind.u64.wrap ((Q : Int) + (qB : Int)) = (R : Int) := by have := HQA.out; have := HQB2.out; rw [IntKind.wrap_u64]; omega
              have hg4l : g4 < 18446744073709551616 := by omega
              have HRes : Hid (R * y ≤ hi * 18446744073709551616 + lo ∧ hi * 18446744073709551616 + lo < (R + 1) * y) := by
                have h := eB.out
                rw [← HYE.out] at h
                unfold Hid
                rw [← hR, ← hQ]
                refine dv_join (u := u2) ?_ ?_ ?_ ?_
                · rw [HLE.out.1, ← HXU.out.1]; exact HXU.out.2.1
                · rw [HLE.out.1, ← HXU.out.1]; exact HXU.out.2.2
                · rw [HLE.out.2]; exact h.1
                · rw [HLE.out.2]; exact h.2
              clear hY hg1 hg2 hg3 hg4 hQ hR
              go_wp2_with fail
              go_ret2
              exact ⟨R, g4, rfl, HRes.out.1, HRes.out.2, HE.out⟩
            · have hd3 : decide ((4294967296 : Int) ≤ (r' : Int)) = false := decide_eq_false (by omega)
              obtain ⟨g, rfl⟩ : ∃ g, gk = g + 1 := ⟨gk - 1, by omega⟩
              go_wp2_with fail
              go_roundg g
              case measure => omega
              case rel => exact ⟨q', r', rfl, rfl, HE, K1, by omega, by omega, by omega⟩
          · have hd : decide ((4294967296 : Int) ≤ (q : Int)) = false := decide_eq_false (by omega)
            obtain ⟨pq, hpq⟩ : ∃ pq, q * y0 = pq := ⟨_, rfl⟩
            have hpl : pq < 18446744073709551616 := by rw [← hpq]; have h1 : q * y0 ≤ 4294967295 * 4294967295 := Nat.mul_le_mul (by omega) (by omega); omega
            have hpi : (q : Int) * (y0 : Int) = (pq : Int) := by rw [← hpq]; simp
            have s1 : IntKind.u64.wrap ((q : Int) * (y0 : Int)) = (pq : Int) := by rw [hpi, IntKind.wrap_u64]; omega
            obtain ⟨rr, hrr⟩ : ∃ rr, 4294967296 * r = rr := ⟨_, rfl⟩
            have s2 : IntKind.u64.wrap ((4294967296 : Int) * (r : Int)) = (rr : Int) := by rw [IntKind.wrap_u64]; omega
            obtain ⟨ss, hss⟩ : ∃ ss, rr + d0 = ss := ⟨_, rfl⟩
            have s3 : IntKind.u64.wrap ((rr : Int) + (d0 : Int)) = (ss : Int) := by rw [IntKind.wrap_u64]; omega
            clear hpi
            by_cases hgt : ss < pq
            · have hd2 : decide (ss < pq) = true := decide_eq_true hgt
              obtain ⟨k1, k2, k3⟩ := K.out.dec Hu2.out hdd0 (.inr (by rw [hpq, hrr, hss]; exact hgt))
              have HQB : Hid (¬ 4294967296 ≤ q) := hqb
              clear hqb hpq hrr hss
              obtain ⟨q', hq'⟩ : ∃ q', q - 1 = q' := ⟨_, rfl⟩
              rw [hq'] at k1 k3
              have K1 : Hid _ := k1
              have t1 : IntKind.u64.wrap ((q : Int) - 1) = (q' : Int) := by rw [IntKind.wrap_u64]; omega
              clear k1 k2 hq' HQB
              obtain ⟨r', hr'⟩ : ∃ r', r + y1 = r' := ⟨_, rfl⟩
              have t2 : IntKind.u64.wrap ((r : Int) + (y1 : Int)) = (r' : Int) := by rw [IntKind.wrap_u64]; omega
              rw [hr'] at K1
              by_cases hbr : 4294967296 ≤ r'
              · have hd3 : decide ((4294967296 : Int) ≤ (r' : Int)) = true := decide_eq_true (by omega)
                have eB : Hid (q' * (y1 * 4294967296 + y0) ≤ u2 * 4294967296 + d0 ∧ u2 * 4294967296 + d0 < (q' + 1) * (y1 * 4294967296 + y0)) := ⟨K1.out.brk hy0 k3 hbr, K1.out.up⟩
                clear k3 hbr hr' hq hr hg
                obtain ⟨qz, hqz⟩ : ∃ qz, qz = q' := ⟨_, rfl⟩
                subst hqz
                obtain ⟨qB, hqB⟩ : ∃ qB, qB = qz := ⟨_, rfl⟩
                subst hqB
                have HQB2 : Hid (qB < 4294967296) := DvI.lt Hu2.out hdd0 eB.out.1
                obtain ⟨Y, hY⟩ : ∃ Y, qB * y = Y := ⟨_, rfl⟩
                obtain ⟨g1, hg1⟩ : ∃ z, u2 * 4294967296 % 18446744073709551616 = z := ⟨_, rfl⟩
                obtain ⟨g2, hg2⟩ : ∃ z, (g1 + d0) % 18446744073709551616 = z := ⟨_, rfl⟩
                obtain ⟨g3, hg3⟩ : ∃ z, Y % 18446744073709551616 = z := ⟨_, rfl⟩
                obtain ⟨g4, hg4⟩ : ∃ z, (g2 + 18446744073709551616 - g3) % 18446744073709551616 = z := ⟨_, rfl⟩
                have o1 : IntKind.u64.wrap ((u2 : Int) * 4294967296) = (g1 : Int) := by rw [IntKind.wrap_u64]; omega
                have o2 : IntKind.u64.wrap ((g1 : Int) + (d0 : Int)) = (g2 : Int) := by rw [IntKind.wrap_u64]; omega
                have o3 : IntKind.u64.wrap ((qB : Int) * (y : Int)) = (g3 : Int) := by have e : (qB : Int) * (y : Int) = (Y : Int) := (by rw [← hY]; simp); rw [e, IntKind.wrap_u64]; omega
                have o4 : IntKind.u64.wrap ((g2 : Int) - (g3 : Int)) = (g4 : Int) := by rw [IntKind.wrap_u64]; omega
                obtain ⟨Q, hQ⟩ : ∃ Q, qA * 4294967296 = Q := ⟨_, rfl⟩
                have o5 : IntKind.u64.wrap ((qA : Int) * 4294967296) = (Q : Int) := by have := HQA.out; rw [IntKind.wrap_u64]; omega
                obtain ⟨R, hR⟩ : ∃ R, Q + qB = R := ⟨_, rfl⟩
                have o6 : IntKind.u64.wrap ((Q : Int) + (qB : Int)) = (R : Int) := by have := HQA.out; have := HQB2.out; rw [IntKind.wrap_u64]; omega
                have hg4l : g4 < 18446744073709551616 := by omega
                have HRes : Hid (R * y ≤ hi * 18446744073709551616 + lo ∧ hi * 18446744073709551616 + lo < (R + 1) * y) := by
                  have h := eB.out
                  rw [← HYE.out] at h
                  unfold Hid
                  rw [← hR, ← hQ]
                  refine dv_join (u := u2) ?_ ?_ ?_ ?_
                  · rw [HLE.out.1, ← HXU.out.1]; exact HXU.out.2.1
                  · rw [HLE.out.1, ← HXU.out.1]; exact HXU.out.2.2
                  · rw [HLE.out.2]; exact h.1
                  · rw [HLE.out.2]; exact h.2
                clear hY hg1 hg2 hg3 hg4 hQ hR
                go_wp2_with fail
                go_ret2
                exact ⟨R, g4, rfl, HRes.out.1, HRes.out.2, HE.out⟩
              · have hd3 : decide ((4294967296 : Int) ≤ (r' : Int)) = false := decide_eq_false (by omega)
                obtain ⟨g, rfl⟩ : ∃ g, gk = g + 1 := ⟨gk - 1, by omega⟩
                go_wp2_with fail
                go_roundg g
                case measure => omega
                case rel => exact ⟨q', r', rfl, rfl, HE, K1, by omega, by omega, by omega⟩
            · have hd2 : decide (ss < pq) = false := decide_eq_false hgt
              have HD1 : Hid (decide ((4294967296 : Int) ≤ (q : Int)) = false) := hd
              have HD2 : Hid (decide (ss < pq) = false) := hd2
              have HS1 : Hid (IntKind.u64.wrap ((q : Int) * (y0 : Int)) = (pq : Int)) := s1
              have HS2 : Hid (IntKind.u64.wrap ((4294967296 : Int) * (r : Int)) = (rr : Int)) := s2
              have HS3 : Hid (IntKind.u64.wrap ((rr : Int) + (d0 : Int)) = (ss : Int)) := s3
              have eB : Hid (q * (y1 * 4294967296 + y0) ≤ u2 * 4294967296 + d0 ∧ u2 * 4294967296 + d0 < (q + 1) * (y1 * 4294967296 + y0)) := ⟨K.out.fin (by rw [hpq, hrr, hss]; omega), K.out.up⟩
              clear hpq hrr hss hqb hgt
              go_upto_region 28 with fail
              clear hpl s1 s2 s3 hd hd2 hq hr hg K HD1 HD2 HS1 HS2 HS3
              obtain ⟨qz, hqz⟩ : ∃ qz, qz = q := ⟨_, rfl⟩
              subst hqz
              obtain ⟨qB, hqB⟩ : ∃ qB, qB = qz := ⟨_, rfl⟩
              subst hqB
              have HQB2 : Hid (qB < 4294967296) := DvI.lt Hu2.out hdd0 eB.out.1
              obtain ⟨Y, hY⟩ : ∃ Y, qB * y = Y := ⟨_, rfl⟩
              obtain ⟨g1, hg1⟩ : ∃ z, u2 * 4294967296 % 18446744073709551616 = z := ⟨_, rfl⟩
              obtain ⟨g2, hg2⟩ : ∃ z, (g1 + d0) % 18446744073709551616 = z := ⟨_, rfl⟩
              obtain ⟨g3, hg3⟩ : ∃ z, Y % 18446744073709551616 = z := ⟨_, rfl⟩
              obtain ⟨g4, hg4⟩ : ∃ z, (g2 + 18446744073709551616 - g3) % 18446744073709551616 = z := ⟨_, rfl⟩
              have o1 : IntKind.u64.wrap ((u2 : Int) * 4294967296) = (g1 : Int) := by rw [IntKind.wrap_u64]; omega
              have o2 : IntKind.u64.wrap ((g1 : Int) + (d0 : Int)) = (g2 : Int) := by rw [IntKind.wrap_u64]; omega
              have o3 : IntKind.u64.wrap ((qB : Int) * (y : Int)) = (g3 : Int) := by have e : (qB : Int) * (y : Int) = (Y : Int) := (by rw [← hY]; simp); rw [e, IntKind.wrap_u64]; omega
              have o4 : IntKind.u64.wrap ((g2 : Int) - (g3 : Int)) = (g4 : Int) := by rw [IntKind.wrap_u64]; omega
              obtain ⟨Q, hQ⟩ : ∃ Q, qA * 4294967296 = Q := ⟨_, rfl⟩
              have o5 : IntKind.u64.wrap ((qA : Int) * 4294967296) = (Q : Int) := by have := HQA.out; rw [IntKind.wrap_u64]; omega
              obtain ⟨R, hR⟩ : ∃ R, Q + qB = R := ⟨_, rfl⟩
              have o6 : IntKind.u64.wrap ((Q : Int) + (qB : Int)) = (R : Int) := by have := HQA.out; have := HQB2.out; rw [IntKind.wrap_u64]; omega
              have hg4l : g4 < 18446744073709551616 := by omega
              have HRes : Hid (R * y ≤ hi * 18446744073709551616 + lo ∧ hi * 18446744073709551616 + lo < (R + 1) * y) := by
                have h := eB.out
                rw [← HYE.out] at h
                unfold Hid
                rw [← hR, ← hQ]
                refine dv_join (u := u2) ?_ ?_ ?_ ?_
                · rw [HLE.out.1, ← HXU.out.1]; exact HXU.out.2.1
                · rw [HLE.out.1, ← HXU.out.1]; exact HXU.out.2.2
                · rw [HLE.out.2]; exact h.1
                · rw [HLE.out.2]; exact h.2
              clear hY hg1 hg2 hg3 hg4 hQ hR
              go_wp2_with fail
              go_ret2
              exact ⟨R, g4, rfl, HRes.out.1, HRes.out.2, HE.out⟩
      · have hd3 : decide ((4294967296 : Int) ≤ (r' : Int)) = false := decide_eq_false (by omega)
        obtain ⟨g, rfl⟩ : ∃ g, gk = g + 1 := ⟨gk - 1, by omega⟩
        go_wp2_with fail
        go_roundg g
        case measure => omega
        case rel => exact ⟨q', r', rfl, rfl, HE, K1, by omega, by omega, by omega⟩
    · have hd : decide ((4294967296 : Int) ≤ (q : Int)) = false := decide_eq_false (by omega)
      obtain ⟨pq, hpq⟩ : ∃ pq, q * y0 = pq := ⟨_, rfl⟩
      have hpl : pq < 18446744073709551616 := by rw [← hpq]; have h1 : q * y0 ≤ 4294967295 * 4294967295 := Nat.mul_le_mul (by omega) (by omega); omega
      have hpi : (q : Int) * (y0 : Int) = (pq : Int) := by rw [← hpq]; simp
      have s1 : IntKind.u64.wrap ((q : Int) * (y0 : Int)) = (pq : Int) := by rw [hpi, IntKind.wrap_u64]; omega
      obtain ⟨rr, hrr⟩ : ∃ rr, 4294967296 * r = rr := ⟨_, rfl⟩
      have s2 : IntKind.u64.wrap ((4294967296 : Int) * (r : Int)) = (rr : Int) := by rw [IntKind.wrap_u64]; omega
      obtain ⟨ss, hss⟩ : ∃ ss, rr + d1 = ss := ⟨_, rfl⟩
      have s3 : IntKind.u64.wrap ((rr : Int) + (d1 : Int)) = (ss : Int) := by rw [IntKind.wrap_u64]; omega
      clear hpi
      by_cases hgt : ss < pq
      · have hd2 : decide (ss < pq) = true := decide_eq_true hgt
        obtain ⟨k1, k2, k3⟩ := K.out.dec Hhi.out hdd1 (.inr (by rw [hpq, hrr, hss]; exact hgt))
        have HQB : Hid (¬ 4294967296 ≤ q) := hqb
        clear hqb hpq hrr hss
        obtain ⟨q', hq'⟩ : ∃ q', q - 1 = q' := ⟨_, rfl⟩
        rw [hq'] at k1 k3
        have K1 : Hid _ := k1
        have t1 : IntKind.u64.wrap ((q : Int) - 1) = (q' : Int) := by rw [IntKind.wrap_u64]; omega
        clear k1 k2 hq' HQB
        obtain ⟨r', hr'⟩ : ∃ r', r + y1 = r' := ⟨_, rfl⟩
        have t2 : IntKind.u64.wrap ((r : Int) + (y1 : Int)) = (r' : Int) := by rw [IntKind.wrap_u64]; omega
        rw [hr'] at K1
        by_cases hbr : 4294967296 ≤ r'
        · have hd3 : decide ((4294967296 : Int) ≤ (r' : Int)) = true := decide_eq_true (by omega)
          have eA : Hid (q' * (y1 * 4294967296 + y0) ≤ hi * 4294967296 + d1 ∧ hi * 4294967296 + d1 < (q' + 1) * (y1 * 4294967296 + y0)) := ⟨K1.out.brk hy0 k3 hbr, K1.out.up⟩
          clear k3 hbr hr' hq hr hg
          obtain ⟨qz, hqz⟩ : ∃ qz, qz = q' := ⟨_, rfl⟩
          subst hqz
          obtain ⟨qA, hqA⟩ : ∃ qA, qA = qz := ⟨_, rfl⟩
          subst hqA
          obtain ⟨X, hX⟩ : ∃ X, qA * y = X := ⟨_, rfl⟩
          have eX : X ≤ hi * 4294967296 + d1 ∧ hi * 4294967296 + d1 < X + y := by rw [← hX]; have h := eA.out; rw [← HYE.out, Nat.add_mul, Nat.one_mul] at h; exact h
          have HQA : Hid (qA < 4294967296) := DvI.lt Hhi.out hdd1 eA.out.1
          obtain ⟨u2, hu2⟩ : ∃ u2, hi * 4294967296 + d1 - X = u2 := ⟨_, rfl⟩
          have Hu2 : Hid (u2 < y1 * 4294967296 + y0) := by have := HYE.out; unfold Hid; omega
          have HXU : Hid (X = qA * y ∧ X ≤ hi * 4294967296 + d1 ∧ u2 = hi * 4294967296 + d1 - X) := ⟨hX.symm, eX.1, hu2.symm⟩
          obtain ⟨h32, hh32⟩ : ∃ z, hi * 4294967296 % 18446744073709551616 = z := ⟨_, rfl⟩
          obtain ⟨h33, hh33⟩ : ∃ z, (h32 + d1) % 18446744073709551616 = z := ⟨_, rfl⟩
          obtain ⟨p3, hp3⟩ : ∃ z, X % 18446744073709551616 = z := ⟨_, rfl⟩
          have n1 : IntKind.u64.wrap ((hi : Int) * 4294967296) = (h32 : Int) := by rw [IntKind.wrap_u64]; omega
          have n2 : IntKind.u64.wrap ((h32 : Int) + (d1 : Int)) = (h33 : Int) := by rw [IntKind.wrap_u64]; omega
          have n3 : IntKind.u64.wrap ((qA : Int) * (y : Int)) = (p3 : Int) := by have e : (qA : Int) * (y : Int) = (X : Int) := (by rw [← hX]; simp); rw [e, IntKind.wrap_u64]; omega
          have n4 : IntKind.u64.wrap ((h33 : Int) - (p3 : Int)) = (u2 : Int) := by rw [IntKind.wrap_u64]; omega
          have hu2l : u2 < 18446744073709551616 := by omega
          clear hh32 hh33 hp3 eX hX hu2
          obtain ⟨a2, ha2⟩ : ∃ a2, u2 / y1 = a2 := ⟨_, rfl⟩
          obtain ⟨m2, hm2⟩ : ∃ m2, a2 * y1 = m2 := ⟨_, rfl⟩
          have I2 : DvI u2 d0 y1 y0 a2 (u2 - m2) := by rw [← hm2, ← ha2]; exact DvI.init hy1b.1 hy0 hdd0 Hu2.out
          have hm2l : m2 ≤ u2 := by rw [← hm2, ← ha2]; exact Nat.div_mul_le_self _ _
          have hb2l : u2 - m2 < 4294967296 := by
            have h1 := Nat.div_add_mod u2 y1
            have h2 := Nat.mod_lt u2 (show 0 < y1 by omega)
            rw [ha2, Nat.mul_comm, hm2] at h1
            omega
          have v7 : IntKind.u64.wrap ((u2 : Int) / (y1 : Int)) = (a2 : Int) := by
            have e : (u2 : Int) / (y1 : Int) = (a2 : Int) := (by rw [← ha2]; rfl)
            rw [e, IntKind.wrap_u64]; have := I2.le; omega
          have v7' : IntKind.u64.wrap ((u2 : Int).tdiv (y1 : Int)) = (a2 : Int) := by
            have e : (u2 : Int).tdiv (y1 : Int) = (a2 : Int) := (by rw [← ha2]; rfl)
            rw [e, IntKind.wrap_u64]; have := I2.le; omega
          have v8 : IntKind.u64.wrap ((a2 : Int) * (y1 : Int)) = (m2 : Int) := by
            have e : (a2 : Int) * (y1 : Int) = (m2 : Int) := (by rw [← hm2]; simp)
            rw [e, IntKind.wrap_u64]; omega
          obtain ⟨b2, hb2⟩ : ∃ b2, u2 - m2 = b2 := ⟨_, rfl⟩
          have v9 : IntKind.u64.wrap ((u2 : Int) - (m2 : Int)) = (b2 : Int) := by rw [IntKind.wrap_u64]; omega
          rw [hb2] at I2 hb2l
          have HI2 : Hid _ := I2
          have HW1 : Hid (wr = w1) := HE
          clear ha2 hm2 hm2l hb2 I2
          go_wp2_with fail
          have JB : Hid (DvI u2 d0 y1 y0 a2 b2) := HI2
          go_loopg [18, 16] 3 (fun g qv rv wr => ∃ q r : Nat, qv = .int .u64 (q : Int) ∧ rv = .int .u64 (r : Int) ∧ Hid (wr = w1) ∧ Hid (DvI u2 d0 y1 y0 q r) ∧ q ≤ 4294967297 ∧ r < 4294967296 ∧ 6442450944 ≤ r + g * 2147483648)
          case atStart => exact ⟨a2, b2, rfl, rfl, HW1, JB, JB.out.le, by omega, by omega⟩
          case round =>
            obtain ⟨q, r, rfl, rfl, HE, K, hq, hr, hg⟩ := hrel
            by_cases hqb : 4294967296 ≤ q
            · have hd : decide ((4294967296 : Int) ≤ (q : Int)) = true := decide_eq_true (by omega)
              obtain ⟨k1, k2, k3⟩ := K.out.dec Hu2.out hdd0 (.inl hqb)
              have HQB : Hid True := trivial
              clear hqb
              obtain ⟨q', hq'⟩ : ∃ q', q - 1 = q' := ⟨_, rfl⟩
              rw [hq'] at k1 k3
              have K1 : Hid _ := k1
              have t1 : IntKind.u64.wrap ((q : Int) - 1) = (q' : Int) := by rw [IntKind.wrap_u64]; omega
              clear k1 k2 hq' HQB
              obtain ⟨r', hr'⟩ : ∃ r', r + y1 = r' := ⟨_, rfl⟩
              have t2 : IntKind.u64.wrap ((r : Int) + (y1 : Int)) = (r' : Int) := by rw [IntKind.wrap_u64]; omega
              rw [hr'] at K1
              by_cases hbr : 4294967296 ≤ r'
              · have hd3 : decide ((4294967296 : Int) ≤ (r' : Int)) = true := decide_eq_true (by omega)
                have eB : Hid (q' * (y1 * 4294967296 + y0) ≤ u2 * 4294967296 + d0 ∧ u2 * 4294967296 + d0 < (q' + 1) * (y1 * 4294967296 + y0)) := ⟨K1.out.brk hy0 k3 hbr, K1.out.up⟩
                clear k3 hbr hr' hq hr hg
                obtain ⟨qz, hqz⟩ : ∃ qz, qz = q' := ⟨_, rfl⟩
                subst hqz
                obtain ⟨qB, hqB⟩ : ∃ qB, qB = qz := ⟨_, rfl⟩
                subst hqB
                have HQB2 : Hid (qB < 4294967296) := DvI.lt Hu2.out hdd0 eB.out.1
                obtain ⟨Y, hY⟩ : ∃ Y, qB * y = Y := ⟨_, rfl⟩
                obtain ⟨g1, hg1⟩ : ∃ z, u2 * 4294967296 % 18446744073709551616 = z := ⟨_, rfl⟩
                obtain ⟨g2, hg2⟩ : ∃ z, (g1 + d0) % 18446744073709551616 = z := ⟨_, rfl⟩
                obtain ⟨g3, hg3⟩ : ∃ z, Y % 18446744073709551616 = z := ⟨_, rfl⟩
                obtain ⟨g4, hg4⟩ : ∃ z, (g2 + 18446744073709551616 - g3) % 18446744073709551616 = z := ⟨_, rfl⟩
                have o1 : IntKind.u64.wrap ((u2 : Int) * 4294967296) = (g1 : Int) := by rw [IntKind.wrap_u64]; omega
                have o2 : IntKind.u64.wrap ((g1 : Int) + (d0 : Int)) = (g2 : Int) := by rw [IntKind.wrap_u64]; omega
                have o3 : IntKind.u64.wrap ((qB : Int) * (y : Int)) = (g3 : Int) := by have e : (qB : Int) * (y : Int) = (Y : Int) := (by rw [← hY]; simp); rw [e, IntKind.wrap_u64]; omega
                have o4 : IntKind.u64.wrap ((g2 : Int) - (g3 : Int)) = (g4 : Int) := by rw [IntKind.wrap_u64]; omega
                obtain ⟨Q, hQ⟩ : ∃ Q, qA * 4294967296 = Q := ⟨_, rfl⟩
                have o5 : IntKind.u64.wrap ((qA : Int) * 4294967296) = (Q : Int) := by have := HQA.out; rw [IntKind.wrap_u64]; omega
                obtain ⟨R, hR⟩ : ∃ R, Q + qB = R := ⟨_, rfl⟩
                have o6 : IntKind.u64.wrap ((Q : Int) + (qB : Int)) = (R : Int) := by have := HQA.out; have := HQB2.out; rw [IntKind.wrap_u64]; omega
                have hg4l : g4 < 18446744073709551616 := by omega
                have HRes : Hid (R * y ≤ hi * 18446744073709551616 + lo ∧ hi * 18446744073709551616 + lo < (R + 1) * y) := by
                  have h := eB.out
                  rw [← HYE.out] at h
                  unfold Hid
                  rw [← hR, ← hQ]
                  refine dv_join (u := u2) ?_ ?_ ?_ ?_
                  · rw [HLE.out.1, ← HXU.out.1]; exact HXU.out.2.1
                  · rw [HLE.out.1, ← HXU.out.1]; exact HXU.out.2.2
                  · rw [HLE.out.2]; exact h.1
                  · rw [HLE.out.2]; exact h.2
                clear hY hg1 hg2 hg3 hg4 hQ hR
                go_wp2_with fail
                go_ret2
                exact ⟨R, g4, rfl, HRes.out.1, HRes.out.2, HE.out⟩
              · have hd3 : decide ((4294967296 : Int) ≤ (r' : Int)) = false := decide_eq_false (by omega)
                obtain ⟨g, rfl⟩ : ∃ g, gk = g + 1 := ⟨gk - 1, by omega⟩
                go_wp2_with fail
                go_roundg g
                case measure => omega
                case rel => exact ⟨q', r', rfl, rfl, HE, K1, by omega, by omega, by omega⟩
            · have hd : decide ((4294967296 : Int) ≤ (q : Int)) = false := decide_eq_false (by omega)
              obtain ⟨pq, hpq⟩ : ∃ pq, q * y0 = pq := ⟨_, rfl⟩
              have hpl : pq < 18446744073709551616 := by rw [← hpq]; have h1 : q * y0 ≤ 4294967295 * 4294967295 := Nat.mul_le_mul (by omega) (by omega); omega
              have hpi : (q : Int) * (y0 : Int) = (pq : Int) := by rw [← hpq]; simp
              have s1 : IntKind.u64.wrap ((q : Int) * (y0 : Int)) = (pq : Int) := by rw [hpi, IntKind.wrap_u64]; omega
              obtain ⟨rr, hrr⟩ : ∃ rr, 4294967296 * r = rr := ⟨_, rfl⟩
              have s2 : IntKind.u64.wrap ((4294967296 : Int) * (r : Int)) = (rr : Int) := by rw [IntKind.wrap_u64]; omega
              obtain ⟨ss, hss⟩ : ∃ ss, rr + d0 = ss := ⟨_, rfl⟩
              have s3 : IntKind.u64.wrap ((rr : Int) + (d0 : Int)) = (ss : Int) := by rw [IntKind.wrap_u64]; omega
              clear hpi
              by_cases hgt : ss < pq
              · have hd2 : decide (ss < pq) = true := decide_eq_true hgt
                obtain ⟨k1, k2, k3⟩ := K.out.dec Hu2.out hdd0 (.inr (by rw [hpq, hrr, hss]; exact hgt))
                have HQB : Hid (¬ 4294967296 ≤ q) := hqb
                clear hqb hpq hrr hss
                obtain ⟨q', hq'⟩ : ∃ q', q - 1 = q' := ⟨_, rfl⟩
                rw [hq'] at k1 k3
                have K1 : Hid _ := k1
                have t1 : IntKind.u64.wrap ((q : Int) - 1) = (q' : Int) := by rw [IntKind.wrap_u64]; omega
                clear k1 k2 hq' HQB
                obtain ⟨r', hr'⟩ : ∃ r', r + y1 = r' := ⟨_, rfl⟩
                have t2 : IntKind.u64.wrap ((r : Int) + (y1 : Int)) = (r' : Int) := by rw [IntKind.wrap_u64]; omega
                rw [hr'] at K1
                by_cases hbr : 4294967296 ≤ r'
                · have hd3 : decide ((4294967296 : Int) ≤ (r' : Int)) = true := decide_eq_true (by omega)
                  have eB : Hid (q' * (y1 * 4294967296 + y0) ≤ u2 * 4294967296 + d0 ∧ u2 * 4294967296 + d0 < (q' + 1) * (y1 * 4294967296 + y0)) := ⟨K1.out.brk hy0 k3 hbr, K1.out.up⟩
                  clear k3 hbr hr' hq hr hg
                  obtain ⟨qz, hqz⟩ : ∃ qz, qz = q' := ⟨_, rfl⟩
                  subst hqz
                  obtain ⟨qB, hqB⟩ : ∃ qB, qB = qz := ⟨_, rfl⟩
                  subst hqB
                  have HQB2 : Hid (qB < 4294967296) := DvI.lt Hu2.out hdd0 eB.out.1
                  obtain ⟨Y, hY⟩ : ∃ Y, qB * y = Y := ⟨_, rfl⟩
                  obtain ⟨g1, hg1⟩ : ∃ z, u2 * 4294967296 % 18446744073709551616 = z := ⟨_, rfl⟩
                  obtain ⟨g2, hg2⟩ : ∃ z, (g1 + d0) % 18446744073709551616 = z := ⟨_, rfl⟩
                  obtain ⟨g3, hg3⟩ : ∃ z, Y % 18446744073709551616 = z := ⟨_, rfl⟩
                  obtain ⟨g4, hg4⟩ : ∃ z, (g2 + 18446744073709551616 - g3) % 18446744073709551616 = z := ⟨_, rfl⟩
                  have o1 : IntKind.u64.wrap ((u2 : Int) * 4294967296) = (g1 : Int) := by rw [IntKind.wrap_u64]; omega
                  have o2 : IntKind.u64.wrap ((g1 : Int) + (d0 : Int)) = (g2 : Int) := by rw [IntKind.wrap_u64]; omega
                  have o3 : IntKind.u64.wrap ((qB : Int) * (y : Int)) = (g3 : Int) := by have e : (qB : Int) * (y : Int) = (Y : Int) := (by rw [← hY]; simp); rw [e, IntKind.wrap_u64]; omega
                  have o4 : IntKind.u64.wrap ((g2 : Int) - (g3 : Int)) = (g4 : Int) := by rw [IntKind.wrap_u64]; omega
                  obtain ⟨Q, hQ⟩ : ∃ Q, qA * 4294967296 = Q := ⟨_, rfl⟩
                  have o5 : IntKind.u64.wrap ((qA : Int) * 4294967296) = (Q : Int) := by have := HQA.out; rw [IntKind.wrap_u64]; omega
                  obtain ⟨R, hR⟩ : ∃ R, Q + qB = R := ⟨_, rfl⟩
                  have o6 : IntKind.u64.wrap ((Q : Int) + (qB : Int)) = (R : Int) := by have := HQA.out; have := HQB2.out; rw [IntKind.wrap_u64]; omega
                  have hg4l : g4 < 18446744073709551616 := by omega
                  have HRes : Hid (R * y ≤ hi * 18446744073709551616 + lo ∧ hi * 18446744073709551616 + lo < (R + 1) * y) := by
                    have h := eB.out
                    rw [← HYE.out] at h
                    unfold Hid
                    rw [← hR, ← hQ]
                    refine dv_join (u := u2) ?_ ?_ ?_ ?_
                    · rw [HLE.out.1, ← HXU.out.1]; exact HXU.out.2.1
                    · rw [HLE.out.1, ← HXU.out.1]; exact HXU.out.2.2
                    · rw [HLE.out.2]; exact h.1
                    · rw [HLE.out.2]; exact h.2
                  clear hY hg1 hg2 hg3 hg4 hQ hR
                  go_wp2_with fail
                  go_ret2
                  exact ⟨R, g4, rfl, HRes.out.1, HRes.out.2, HE.out⟩
                · have hd3 : decide ((4294967296 : Int) ≤ (r' : Int)) = false := decide_eq_false (by omega)
                  obtain ⟨g, rfl⟩ : ∃ g, gk = g + 1 := ⟨gk - 1, by omega⟩
                  go_wp2_with fail
                  go_roundg g
                  case measure => omega
                  case rel => exact ⟨q', r', rfl, rfl, HE, K1, by omega, by omega, by omega⟩
              · have hd2 : decide (ss < pq) = false := decide_eq_false hgt
                have HD1 : Hid (decide ((4294967296 : Int) ≤ (q : Int)) = false) := hd
                have HD2 : Hid (decide (ss < pq) = false) := hd2
                have HS1 : Hid (IntKind.u64.wrap ((q : Int) * (y0 : Int)) = (pq : Int)) := s1
                have HS2 : Hid (IntKind.u64.wrap ((4294967296 : Int) * (r : Int)) = (rr : Int)) := s2
                have HS3 : Hid (IntKind.u64.wrap ((rr : Int) + (d0 : Int)) = (ss : Int)) := s3
                have eB : Hid (q * (y1 * 4294967296 + y0) ≤ u2 * 4294967296 + d0 ∧ u2 * 4294967296 + d0 < (q + 1) * (y1 * 4294967296 + y0)) := ⟨K.out.fin (by rw [hpq, hrr, hss]; omega), K.out.up⟩
                clear hpq hrr hss hqb hgt
                go_upto_region 28 with fail
                clear hpl s1 s2 s3 hd hd2 hq hr hg K HD1 HD2 HS1 HS2 HS3
                obtain ⟨qz, hqz⟩ : ∃ qz, qz = q := ⟨_, rfl⟩
                subst hqz
                obtain ⟨qB, hqB⟩ : ∃ qB, qB = qz := ⟨_, rfl⟩
                subst hqB
                have HQB2 : Hid (qB < 4294967296) := DvI.lt Hu2.out hdd0 eB.out.1
                obtain ⟨Y, hY⟩ : ∃ Y, qB * y = Y := ⟨_, rfl⟩
                obtain ⟨g1, hg1⟩ : ∃ z, u2 * 4294967296 % 18446744073709551616 = z := ⟨_, rfl⟩
                obtain ⟨g2, hg2⟩ : ∃ z, (g1 + d0) % 18446744073709551616 = z := ⟨_, rfl⟩
                obtain ⟨g3, hg3⟩ : ∃ z, Y % 18446744073709551616 = z := ⟨_, rfl⟩
                obtain ⟨g4, hg4⟩ : ∃ z, (g2 + 18446744073709551616 - g3) % 18446744073709551616 = z := ⟨_, rfl⟩
                have o1 : IntKind.u64.wrap ((u2 : Int) * 4294967296) = (g1 : Int) := by rw [IntKind.wrap_u64]; omega
                have o2 : IntKind.u64.wrap ((g1 : Int) + (d0 : Int)) = (g2 : Int) := by rw [IntKind.wrap_u64]; omega
                have o3 : IntKind.u64.wrap ((qB : Int) * (y : Int)) = (g3 : Int) := by have e : (qB : Int) * (y : Int) = (Y : Int) := (by rw [← hY]; simp); rw [e, IntKind.wrap_u64]; omega
                have o4 : IntKind.u64.wrap ((g2 : Int) - (g3 : Int)) = (g4 : Int) := by rw [IntKind.wrap_u64]; omega
                obtain ⟨Q, hQ⟩ : ∃ Q, qA * 4294967296 = Q := ⟨_, rfl⟩
                have o5 : IntKind.u64.wrap ((qA : Int) * 4294967296) = (Q : Int) := by have := HQA.out; rw [IntKind.wrap_u64]; omega
                obtain ⟨R, hR⟩ : ∃ R, Q + qB = R := ⟨_, rfl⟩
                have o6 : IntKind.u64.wrap ((Q : Int) + (qB : Int)) = (R : Int) := by have := HQA.out; have := HQB2.out; rw [IntKind.wrap_u64]; omega
                have hg4l : g4 < 18446744073709551616 := by omega
                have HRes : Hid (R * y ≤ hi * 18446744073709551616 + lo ∧ hi * 18446744073709551616 + lo < (R + 1) * y) := by
                  have h := eB.out
                  rw [← HYE.out] at h
                  unfold Hid
                  rw [← hR, ← hQ]
                  refine dv_join (u := u2) ?_ ?_ ?_ ?_
                  · rw [HLE.out.1, ← HXU.out.1]; exact HXU.out.2.1
                  · rw [HLE.out.1, ← HXU.out.1]; exact HXU.out.2.2
                  · rw [HLE.out.2]; exact h.1
                  · rw [HLE.out.2]; exact h.2
                clear hY hg1 hg2 hg3 hg4 hQ hR
                go_wp2_with fail
                go_ret2
                exact ⟨R, g4, rfl, HRes.out.1, HRes.out.2, HE.out⟩
        · have hd3 : decide ((4294967296 : Int) ≤ (r' : Int)) = false := decide_eq_false (by omega)
          obtain ⟨g, rfl⟩ : ∃ g, gk = g + 1 := ⟨gk - 1, by omega⟩
          go_wp2_with fail
          go_roundg g
          case measure => omega
          case rel => exact ⟨q', r', rfl, rfl, HE, K1, by omega, by omega, by omega⟩
      · have hd2 : decide (ss < pq) = false := decide_eq_false hgt
        have HD1 : Hid (decide ((4294967296 : Int) ≤ (q : Int)) = false) := hd
        have HD2 : Hid (decide (ss < pq) = false) := hd2
        have HS1 : Hid (IntKind.u64.wrap ((q : Int) * (y0 : Int)) = (pq : Int)) := s1
        have HS2 : Hid (IntKind.u64.wrap ((4294967296 : Int) * (r : Int)) = (rr : Int)) := s2
        have HS3 : Hid (IntKind.u64.wrap ((rr : Int) + (d1 : Int)) = (ss : Int)) := s3
        have eA : Hid (q * (y1 * 4294967296 + y0) ≤ hi * 4294967296 + d1 ∧ hi * 4294967296 + d1 < (q + 1) * (y1 * 4294967296 + y0)) := ⟨K.out.fin (by rw [hpq, hrr, hss]; omega), K.out.up⟩
        clear hpq hrr hss hqb hgt
        go_upto_region 21 with fail
        clear hpl s1 s2 s3 hd hd2 hq hr hg K HD1 HD2 HS1 HS2 HS3
        obtain ⟨qz, hqz⟩ : ∃ qz, qz = q := ⟨_, rfl⟩
        subst hqz
        obtain ⟨qA, hqA⟩ : ∃ qA, qA = qz := ⟨_, rfl⟩
        subst hqA
        obtain ⟨X, hX⟩ : ∃ X, qA * y = X := ⟨_, rfl⟩
        have eX : X ≤ hi * 4294967296 + d1 ∧ hi * 4294967296 + d1 < X + y := by rw [← hX]; have h := eA.out; rw [← HYE.out, Nat.add_mul, Nat.one_mul] at h; exact h
        have HQA : Hid (qA < 4294967296) := DvI.lt Hhi.out hdd1 eA.out.1
        obtain ⟨u2, hu2⟩ : ∃ u2, hi * 4294967296 + d1 - X = u2 := ⟨_, rfl⟩
        have Hu2 : Hid (u2 < y1 * 4294967296 + y0) := by have := HYE.out; unfold Hid; omega
        have HXU : Hid (X = qA * y ∧ X ≤ hi * 4294967296 + d1 ∧ u2 = hi * 4294967296 + d1 - X) := ⟨hX.symm, eX.1, hu2.symm⟩
        obtain ⟨h32, hh32⟩ : ∃ z, hi * 4294967296 % 18446744073709551616 = z := ⟨_, rfl⟩
        obtain ⟨h33, hh33⟩ : ∃ z, (h32 + d1) % 18446744073709551616 = z := ⟨_, rfl⟩
        obtain ⟨p3, hp3⟩ : ∃ z, X % 18446744073709551616 = z := ⟨_, rfl⟩
        have n1 : IntKind.u64.wrap ((hi : Int) * 4294967296) = (h32 : Int) := by rw [IntKind.wrap_u64]; omega
        have n2 : IntKind.u64.wrap ((h32 : Int) + (d1 : Int)) = (h33 : Int) := by rw [IntKind.wrap_u64]; omega
        have n3 : IntKind.u64.wrap ((qA : Int) * (y : Int)) = (p3 : Int) := by have e : (qA : Int) * (y : Int) = (X : Int) := (by rw [← hX]; simp); rw [e, IntKind.wrap_u64]; omega
        have n4 : IntKind.u64.wrap ((h33 : Int) - (p3 : Int)) = (u2 : Int) := by rw [IntKind.wrap_u64]; omega
        have hu2l : u2 < 18446744073709551616 := by omega
        clear hh32 hh33 hp3 eX hX hu2
        obtain ⟨a2, ha2⟩ : ∃ a2, u2 / y1 = a2 := ⟨_, rfl⟩
        obtain ⟨m2, hm2⟩ : ∃ m2, a2 * y1 = m2 := ⟨_, rfl⟩
        have I2 : DvI u2 d0 y1 y0 a2 (u2 - m2) := by rw [← hm2, ← ha2]; exact DvI.init hy1b.1 hy0 hdd0 Hu2.out
        have hm2l : m2 ≤ u2 := by rw [← hm2, ← ha2]; exact Nat.div_mul_le_self _ _
        have hb2l : u2 - m2 < 4294967296 := by
          have h1 := Nat.div_add_mod u2 y1
          have h2 := Nat.mod_lt u2 (show 0 < y1 by omega)
          rw [ha2, Nat.mul_comm, hm2] at h1
          omega
        have v7 : IntKind.u64.wrap ((u2 : Int) / (y1 : Int)) = (a2 : Int) := by
          have e : (u2 : Int) / (y1 : Int) = (a2 : Int) := (by rw [← ha2]; rfl)
          rw [e, IntKind.wrap_u64]; have := I2.le; omega
        have v7' : IntKind.u64.wrap ((u2 : Int).tdiv (y1 : Int)) = (a2 : Int) := by
          have e : (u2 : Int).tdiv (y1 : Int) = (a2 : Int) := (by rw [← ha2]; rfl)
          rw [e, IntKind.wrap_u64]; have := I2.le; omega
        have v8 : IntKind.u64.wrap ((a2 : Int) * (y1 : Int)) = (m2 : Int) := by
          have e : (a2 : Int) * (y1 : Int) = (m2 : Int) := (by rw [← hm2]; simp)
          rw [e, IntKind.wrap_u64]; omega
        obtain ⟨b2, hb2⟩ : ∃ b2, u2 - m2 = b2 := ⟨_, rfl⟩
        have v9 : IntKind.u64.wrap ((u2 : Int) - (m2 : Int)) = (b2 : Int) := by rw [IntKind.wrap_u64]; omega
        rw [hb2] at I2 hb2l
        have HI2 : Hid _ := I2
        have HW1 : Hid (wr = w1) := HE
        clear ha2 hm2 hm2l hb2 I2
        go_wp2_with fail
        have JB : Hid (DvI u2 d0 y1 y0 a2 b2) := HI2
        go_loopg [18, 16] 3 (fun g qv rv wr => ∃ q r : Nat, qv = .int .u64 (q : Int) ∧ rv = .int .u64 (r : Int) ∧ Hid (wr = w1) ∧ Hid (DvI u2 d0 y1 y0 q r) ∧ q ≤ 4294967297 ∧ r < 4294967296 ∧ 6442450944 ≤ r + g * 2147483648)
        case atStart => exact ⟨a2, b2, rfl, rfl, HW1, JB, JB.out.le, by omega, by omega⟩
        case round =>
          obtain ⟨q, r, rfl, rfl, HE, K, hq, hr, hg⟩ := hrel
          by_cases hqb : 4294967296 ≤ q
          · have hd : decide ((4294967296 : Int) ≤ (q : Int)) = true := decide_eq_true (by omega)
            obtain ⟨k1, k2, k3⟩ := K.out.dec Hu2.out hdd0 (.inl hqb)
            have HQB : Hid True := trivial
            clear hqb
            obtain ⟨q', hq'⟩ : ∃ q', q - 1 = q' := ⟨_, rfl⟩
            rw [hq'] at k1 k3
            have K1 : Hid _ := k1
            have t1 : IntKind.u64.wrap ((q : Int) - 1) = (q' : Int) := by rw [IntKind.wrap_u64]; omega
            clear k1 k2 hq' HQB
            obtain ⟨r', hr'⟩ : ∃ r', r + y1 = r' := ⟨_, rfl⟩
            have t2 : IntKind.u64.wrap ((r : Int) + (y1 : Int)) = (r' : Int) := by rw [IntKind.wrap_u64]; omega
            rw [hr'] at K1
            by_cases hbr : 4294967296 ≤ r'
            · have hd3 : decide ((4294967296 : Int) ≤ (r' : Int)) = true := decide_eq_true (by omega)
              have eB : Hid (q' * (y1 * 4294967296 + y0) ≤ u2 * 4294967296 + d0 ∧ u2 * 4294967296 + d0 < (q' + 1) * (y1 * 4294967296 + y0)) := ⟨K1.out.brk hy0 k3 hbr, K1.out.up⟩
              clear k3 hbr hr' hq hr hg
              obtain ⟨qz, hqz⟩ : ∃ qz, qz = q' := ⟨_, rfl⟩
              subst hqz
              obtain ⟨qB, hqB⟩ : ∃ qB, qB = qz := ⟨_, rfl⟩
              subst hqB
              have HQB2 : Hid (qB < 4294967296) := DvI.lt Hu2.out hdd0 eB.out.1
              obtain ⟨Y, hY⟩ : ∃ Y, qB * y = Y := ⟨_, rfl⟩
              obtain ⟨g1, hg1⟩ : ∃ z, u2 * 4294967296 % 18446744073709551616 = z := ⟨_, rfl⟩
              obtain ⟨g2, hg2⟩ : ∃ z, (g1 + d0) % 18446744073709551616 = z := ⟨_, rfl⟩
              obtain ⟨g3, hg3⟩ : ∃ z, Y % 18446744073709551616 = z := ⟨_, rfl⟩
              obtain ⟨g4, hg4⟩ : ∃ z, (g2 + 18446744073709551616 - g3) % 18446744073709551616 = z := ⟨_, rfl⟩
              have o1 : IntKind.u64.wrap ((u2 : Int) * 4294967296) = (g1 : Int) := by rw [IntKind.wrap_u64]; omega
              have o2 : IntKind.u64.wrap ((g1 : Int) + (d0 : Int)) = (g2 : Int) := by rw [IntKind.wrap_u64]; omega
              have o3 : IntKind.u64.wrap ((qB : Int) * (y : Int)) = (g3 : Int) := by have e : (qB : Int) * (y : Int) = (Y : Int) := (by rw [← hY]; simp); rw [e, IntKind.wrap_u64]; omega
              have o4 : IntKind.u64.wrap ((g2 : Int) - (g3 : Int)) = (g4 : Int) := by rw [IntKind.wrap_u64]; omega
              obtain ⟨Q, hQ⟩ : ∃ Q, qA * 4294967296 = Q := ⟨_, rfl⟩
              have o5 : IntKind.u64.wrap ((qA : Int) * 4294967296) = (Q : Int) := by have := HQA.out; rw [IntKind.wrap_u64]; omega
              obtain ⟨R, hR⟩ : ∃ R, Q + qB = R := ⟨_, rfl⟩
              have o6 : IntKind.u64.wrap ((Q : Int) + (qB : Int)) = (R : Int) := by have := HQA.out; have := HQB2.out; rw [IntKind.wrap_u64]; omega
              have hg4l : g4 < 18446744073709551616 := by omega
              have HRes : Hid (R * y ≤ hi * 18446744073709551616 + lo ∧ hi * 18446744073709551616 + lo < (R + 1) * y) := by
                have h := eB.out
                rw [← HYE.out] at h
                unfold Hid
                rw [← hR, ← hQ]
                refine dv_join (u := u2) ?_ ?_ ?_ ?_
                · rw [HLE.out.1, ← HXU.out.1]; exact HXU.out.2.1
                · rw [HLE.out.1, ← HXU.out.1]; exact HXU.out.2.2
                · rw [HLE.out.2]; exact h.1
                · rw [HLE.out.2]; exact h.2
              clear hY hg1 hg2 hg3 hg4 hQ hR
              go_wp2_with fail
              go_ret2
              exact ⟨R, g4, rfl, HRes.out.1, HRes.out.2, HE.out⟩
            · have hd3 : decide ((4294967296 : Int) ≤ (r' : Int)) = false := decide_eq_false (by omega)
              obtain ⟨g, rfl⟩ : ∃ g, gk = g + 1 := ⟨gk - 1, by omega⟩
              go_wp2_with fail
              go_roundg g
              case measure => omega
              case rel => exact ⟨q', r', rfl, rfl, HE, K1, by omega, by omega, by omega⟩
          · have hd : decide ((4294967296 : Int) ≤ (q : Int)) = false := decide_eq_false (by omega)
            obtain ⟨pq, hpq⟩ : ∃ pq, q * y0 = pq := ⟨_, rfl⟩
            have hpl : pq < 18446744073709551616 := by rw [← hpq]; have h1 : q * y0 ≤ 4294967295 * 4294967295 := Nat.mul_le_mul (by omega) (by omega); omega
            have hpi : (q : Int) * (y0 : Int) = (pq : Int) := by rw [← hpq]; simp
            have s1 : IntKind.u64.wrap ((q : Int) * (y0 : Int)) = (pq : Int) := by rw [hpi, IntKind.wrap_u64]; omega
            obtain ⟨rr, hrr⟩ : ∃ rr, 4294967296 * r = rr := ⟨_, rfl⟩
            have s2 : IntKind.u64.wrap ((4294967296 : Int) * (r : Int)) = (rr : Int) := by rw [IntKind.wrap_u64]; omega
            obtain ⟨ss, hss⟩ : ∃ ss, rr + d0 = ss := ⟨_, rfl⟩
            have s3 : IntKind.u64.wrap ((rr : Int) + (d0 : Int)) = (ss : Int) := by rw [IntKind.wrap_u64]; omega
            clear hpi
            by_cases hgt : ss < pq
            · have hd2 : decide (ss < pq) = true := decide_eq_true hgt
              obtain ⟨k1, k2, k3⟩ := K.out.dec Hu2.out hdd0 (.inr (by rw [hpq, hrr, hss]; exact hgt))
              have HQB : Hid (¬ 4294967296 ≤ q) := hqb
              clear hqb hpq hrr hss
              obtain ⟨q', hq'⟩ : ∃ q', q - 1 = q' := ⟨_, rfl⟩
              rw [hq'] at k1 k3
              have K1 : Hid _ := k1
              have t1 : IntKind.u64.wrap ((q : Int) - 1) = (q' : Int) := by rw [IntKind.wrap_u64]; omega
              clear k1 k2 hq' HQB
              obtain ⟨r', hr'⟩ : ∃ r', r + y1 = r' := ⟨_, rfl⟩
              have t2 : IntKind.u64.wrap ((r : Int) + (y1 : Int)) = (r' : Int) := by rw [IntKind.wrap_u64]; omega
              rw [hr'] at K1
              by_cases hbr : 4294967296 ≤ r'
              · have hd3 : decide ((4294967296 : Int) ≤ (r' : Int)) = true := decide_eq_true (by omega)
                have eB : Hid (q' * (y1 * 4294967296 + y0) ≤ u2 * 4294967296 + d0 ∧ u2 * 4294967296 + d0 < (q' + 1) * (y1 * 4294967296 + y0)) := ⟨K1.out.brk hy0 k3 hbr, K1.out.up⟩
                clear k3 hbr hr' hq hr hg
                obtain ⟨qz, hqz⟩ : ∃ qz, qz = q' := ⟨_, rfl⟩
                subst hqz
                obtain ⟨qB, hqB⟩ : ∃ qB, qB = qz := ⟨_, rfl⟩
                subst hqB
                have HQB2 : Hid (qB < 4294967296) := DvI.lt Hu2.out hdd0 eB.out.1
                obtain ⟨Y, hY⟩ : ∃ Y, qB * y = Y := ⟨_, rfl⟩
                obtain ⟨g1, hg1⟩ : ∃ z, u2 * 4294967296 % 18446744073709551616 = z := ⟨_, rfl⟩
                obtain ⟨g2, hg2⟩ : ∃ z, (g1 + d0) % 18446744073709551616 = z := ⟨_, rfl⟩
                obtain ⟨g3, hg3⟩ : ∃ z, Y % 18446744073709551616 = z := ⟨_, rfl⟩
                obtain ⟨g4, hg4⟩ : ∃ z, (g2 + 18446744073709551616 - g3) % 18446744073709551616 = z := ⟨_, rfl⟩
                have o1 : IntKind.u64.wrap ((u2 : Int) * 4294967296) = (g1 : Int) := by rw [IntKind.wrap_u64]; omega
                have o2 : IntKind.u64.wrap ((g1 : Int) + (d0 : Int)) = (g2 : Int) := by rw [IntKind.wrap_u64]; omega
                have o3 : IntKind.u64.wrap ((qB : Int) * (y : Int)) = (g3 : Int) := by have e : (qB : Int) * (y : Int) = (Y : Int) := (by rw [← hY]; simp); rw [e, IntKind.wrap_u64]; omega
                have o4 : IntKind.u64.wrap ((g2 : Int) - (g3 : Int)) = (g4 : Int) := by rw [IntKind.wrap_u64]; omega
                obtain ⟨Q, hQ⟩ : ∃ Q, qA * 4294967296 = Q := ⟨_, rfl⟩
                have o5 : IntKind.u64.wrap ((qA : Int) * 4294967296) = (Q : Int) := by have := HQA.out; rw [IntKind.wrap_u64]; omega
                obtain ⟨R, hR⟩ : ∃ R, Q + qB = R := ⟨_, rfl⟩
                have o6 : IntKind.u64.wrap ((Q : Int) + (qB : Int)) = (R : Int) := by have := HQA.out; have := HQB2.out; rw [IntKind.wrap_u64]; omega
                have hg4l : g4 < 18446744073709551616 := by omega
                have HRes : Hid (R * y ≤ hi * 18446744073709551616 + lo ∧ hi * 18446744073709551616 + lo < (R + 1) * y) := by
                  have h := eB.out
                  rw [← HYE.out] at h
                  unfold Hid
                  rw [← hR, ← hQ]
                  refine dv_join (u := u2) ?_ ?_ ?_ ?_
                  · rw [HLE.out.1, ← HXU.out.1]; exact HXU.out.2.1
                  · rw [HLE.out.1, ← HXU.out.1]; exact HXU.out.2.2
                  · rw [HLE.out.2]; exact h.1
                  · rw [HLE.out.2]; exact h.2
                clear hY hg1 hg2 hg3 hg4 hQ hR
                go_wp2_with fail
                go_ret2
                exact ⟨R, g4, rfl, HRes.out.1, HRes.out.2, HE.out⟩
              · have hd3 : decide ((4294967296 : Int) ≤ (r' : Int)) = false := decide_eq_false (by omega)
                obtain ⟨g, rfl⟩ : ∃ g, gk = g + 1 := ⟨gk - 1, by omega⟩
                go_wp2_with fail
                go_roundg g
                case measure => omega
                case rel => exact ⟨q', r', rfl, rfl, HE, K1, by omega, by omega, by omega⟩
            · have hd2 : decide (ss < pq) = false := decide_eq_false hgt
              have HD1 : Hid (decide ((4294967296 : Int) ≤ (q : Int)) = false) := hd
              have HD2 : Hid (decide (ss < pq) = false) := hd2
              have HS1 : Hid (IntKind.u64.wrap ((q : Int) * (y0 : Int)) = (pq : Int)) := s1
              have HS2 : Hid (IntKind.u64.wrap ((4294967296 : Int) * (r : Int)) = (rr : Int)) := s2
              have HS3 : Hid (IntKind.u64.wrap ((rr : Int) + (d0 : Int)) = (ss : Int)) := s3
              have eB : Hid (q * (y1 * 4294967296 + y0) ≤ u2 * 4294967296 + d0 ∧ u2 * 4294967296 + d0 < (q + 1) * (y1 * 4294967296 + y0)) := ⟨K.out.fin (by rw [hpq, hrr, hss]; omega), K.out.up⟩
              clear hpq hrr hss hqb hgt
              go_upto_region 28 with fail
              clear hpl s1 s2 s3 hd hd2 hq hr hg K HD1 HD2 HS1 HS2 HS3
              obtain ⟨qz, hqz⟩ : ∃ qz, qz = q := ⟨_, rfl⟩
              subst hqz
              obtain ⟨qB, hqB⟩ : ∃ qB, qB = qz := ⟨_, rfl⟩
              subst hqB
              have HQB2 : Hid (qB < 4294967296) := DvI.lt Hu2.out hdd0 eB.out.1
              obtain ⟨Y, hY⟩ : ∃ Y, qB * y = Y := ⟨_, rfl⟩
              obtain ⟨g1, hg1⟩ : ∃ z, u2 * 4294967296 % 18446744073709551616 = z := ⟨_, rfl⟩
              obtain ⟨g2, hg2⟩ : ∃ z, (g1 + d0) % 18446744073709551616 = z := ⟨_, rfl⟩
              obtain ⟨g3, hg3⟩ : ∃ z, Y % 18446744073709551616 = z := ⟨_, rfl⟩
              obtain ⟨g4, hg4⟩ : ∃ z, (g2 + 18446744073709551616 - g3) % 18446744073709551616 = z := ⟨_, rfl⟩
              have o1 : IntKind.u64.wrap ((u2 : Int) * 4294967296) = (g1 : Int) := by rw [IntKind.wrap_u64]; omega
              have o2 : IntKind.u64.wrap ((g1 : Int) + (d0 : Int)) = (g2 : Int) := by rw [IntKind.wrap_u64]; omega
              have o3 : IntKind.u64.wrap ((qB : Int) * (y : Int)) = (g3 : Int) := by have e : (qB : Int) * (y : Int) = (Y : Int) := (by rw [← hY]; simp); rw [e, IntKind.wrap_u64]; omega
              have o4 : IntKind.u64.wrap ((g2 : Int) - (g3 : Int)) = (g4 : Int) := by rw [IntKind.wrap_u64]; omega
              obtain ⟨Q, hQ⟩ : ∃ Q, qA * 4294967296 = Q := ⟨_, rfl⟩
              have o5 : IntKind.u64.wrap ((qA : Int) * 4294967296) = (Q : Int) := by have := HQA.out; rw [IntKind.wrap_u64]; omega
              obtain ⟨R, hR⟩ : ∃ R, Q + qB = R := ⟨_, rfl⟩
              have o6 : IntKind.u64.wrap ((Q : Int) + (qB : Int)) = (R : Int) := by have := HQA.out; have := HQB2.out; rw [IntKind.wrap_u64]; omega
              have hg4l : g4 < 18446744073709551616 := by omega
              have HRes : Hid (R * y ≤ hi * 18446744073709551616 + lo ∧ hi * 18446744073709551616 + lo < (R + 1) * y) := by
                have h := eB.out
                rw [← HYE.out] at h
                unfold Hid
                rw [← hR, ← hQ]
                refine dv_join (u := u2) ?_ ?_ ?_ ?_
                · rw [HLE.out.1, ← HXU.out.1]; exact HXU.out.2.1
                · rw [HLE.out.1, ← HXU.out.1]; exact HXU.out.2.2
                · rw [HLE.out.2]; exact h.1
                · rw [HLE.out.2]; exact h.2
              clear hY hg1 hg2 hg3 hg4 hQ hR
              go_wp2_with fail
              go_ret2
              exact ⟨R, g4, rfl, HRes.out.1, HRes.out.2, HE.out⟩
end Go.Proofs.Ytajopgndpomggaa
