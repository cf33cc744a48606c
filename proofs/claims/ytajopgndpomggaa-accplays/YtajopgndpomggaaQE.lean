import Derived.Test.YtajopgndpomggaaQB
import Derived.Test.YtajopgndpomggaaQC
import Derived.Test.YtajopgndpomggaaQD
import Derived.Test.YtajopgndpomggaaQG
namespace Go.Proofs.Ytajopgndpomggaa
open Go.RowKit
set_option linter.unusedVariables false
set_option linter.unusedSimpArgs false

theorem Wds.box (w : World) (f : Nat → Nat) (hl : ∀ j, j < 76 → f j < 18446744073709551616) : Wds (w.alloc (.cells (wda f).toArray 63)) w.heap.size f := by
  refine ⟨fun j hj => ?_, fun j hj => World.frozen?_alloc_new _ _ _ _, hl⟩
  rw [cell_of_row _ _ _ _ _ _ (heap_alloc_new w _), List.getElem?_toArray]
  exact wda_get _ hj
theorem Wds.oth {w w' : World} {B : Nat} {f : Nat → Nat} (h : Wds w B f) (e : w'.heap[B]? = w.heap[B]?) : Wds w' B f :=
  ⟨fun j hj => (World.cell?_of_block (a := ⟨B, j, none⟩) e).trans (h.cells j hj), fun j hj => (World.frozen?_of_block (a := ⟨B, j, none⟩) e).trans (h.frozen j hj), h.lt⟩
theorem Tc.of_nat {f : Nat → Nat} {V : Nat} (hl : ∀ j, j < 76 → f j < 18446744073709551616) (hV : wv f 76 = V) (h : V < 2 ^ 4863) : Tc f (V : Int) :=
  ⟨hl, by have := Nat.two_pow_pos 4863; omega, by exact_mod_cast h, .inl (by rw [hV])⟩
/-- What stays while the guess is lowered: both numbers, and what is left. -/
structure QuS (w wr : World) (R S : Nat) (g : Nat → Nat) (V W q : Nat) (z : Int) : Prop where
  v : ∃ h, Wds wr R h ∧ Tc h z
  w' : Wds wr S g
  bel : Below w.heap.size w wr
  eq : z = (V : Int) - ((q * W : Nat) : Int)
  hi : z < (W : Int)
theorem pow_lt_up {V P Q : Nat} (h : V < 2 ^ P) (hPQ : P ≤ Q) : V < 2 ^ Q := Nat.lt_of_lt_of_le h (Nat.pow_le_pow_right (by omega) hPQ)
theorem pow_lt_4863 {V P : Nat} (hP : P = 4800) (h : V < 2 ^ P) : V < 2 ^ 4863 := by
  obtain ⟨Q, hQ⟩ : ∃ Q : Nat, Q = 4863 := ⟨_, rfl⟩
  have h2 := pow_lt_up h (show P ≤ Q by omega)
  rw [hQ] at h2
  exact h2
theorem raise_at (pl : Int) (place : Nat) (hpl : pl = (place : Int)) (B : Nat) (f : Nat → Nat) (V : Nat) (w : World) (hf : Wds w B f) (hV : wv f 76 = V) (h0 : V ≠ 0) (P : Nat) (hP : P = 4800) (hVP : V < 2 ^ P) (hp1 : 4799 ≤ place) (hp2 : place ≤ 4862) :
    Calls Try.prog 70 #[.pointer (some ⟨B, 0, none⟩), .int .i64 pl] w fun e w' => ∃ (b : Nat) (h : Nat → Nat), e = .returned (.int .i64 (b : Int)) ∧ Wds w' B h ∧ Chg B w w' ∧ wv h 76 = V * 2 ^ b ∧ (2 ^ place ≤ V * 2 ^ b ∧ V * 2 ^ b < 2 ^ (place + 1)) ∧ b ≤ 4862 := by
  subst hpl
  exact raise_any B f V place w hf hV h0 P hP hVP hp1 hp2
theorem Chg.belowN {B N : Nat} {a w w' : World} (h : Chg B w w') (hb : Below N a w) (hB : N ≤ B) : Below N a w' := hb.trans (h.below.mono hB)
/-- The quotient's last step, in numbers. -/
theorem quot_more {V W q : Nat} {z : Int} (eq : z = (V : Int) - ((q * W : Nat) : Int)) (h0 : 0 ≤ z) (hi : z < (W : Int)) : q * W ≤ V ∧ V < (q + 1) * W ∧ ((sgi z != 0) = true ↔ V ≠ q * W) := by
  rw [Nat.add_mul, Nat.one_mul]
  generalize q * W = X at *
  refine ⟨by omega, by omega, ?_⟩
  unfold sgi
  by_cases hz : z = 0
  · subst hz; simp; omega
  · rw [if_neg (by omega), if_neg hz]; simp; omega
/-- What is left lies within two of the divisor. -/
theorem quot_range {V W q K M : Nat} (hM : M = 4736) (hK : K = 2 ^ M) (h1 : V < (q + 1) * W) (h2 : q * W ≤ V + 2 * W) (W2 : W < 2 ^ (4799 + 1)) {z : Int} (hz : z = (V : Int) - ((q * W : Nat) : Int)) : (-((2 ^ 4863 : Nat) : Int) ≤ z ∧ z < ((2 ^ 4863 : Nat) : Int)) ∧ z < (W : Int) ∧ 0 ≤ z + 2 * (W : Int) := by
  obtain ⟨p1, p2, p3, p4, p0⟩ := pows_K hM hK
  rw [show 4799 + 1 = 4800 by omega, p2] at W2
  rw [p4]
  rw [Nat.add_mul, Nat.one_mul] at h1
  clear p1 p2 p3 p4 hK
  generalize q * W = X at *
  subst hz
  omega
theorem quot_pow {W K M : Nat} (hM : M = 4736) (hK : K = 2 ^ M) (W2 : W < 2 ^ (4799 + 1)) : ((W : Int) < ((2 ^ 4863 : Nat) : Int)) ∧ W < 2 ^ 4863 := by
  obtain ⟨p1, p2, p3, p4, p0⟩ := pows_K hM hK
  rw [show 4799 + 1 = 4800 by omega, p2] at W2
  rw [p4]
  clear p1 p2 p3 p4 hK
  omega
set_option maxRecDepth 100000 in
set_option maxHeartbeats 4000000 in
theorem quotient_any (f g : Nat → Nat) (V W : Nat) (w : World) (hf : ∀ j, j < 76 → f j < 18446744073709551616) (hg : ∀ j, j < 76 → g j < 18446744073709551616) (hV : wv f 76 = V) (hW : wv g 76 = W) (P : Nat) (hP : P = 4800) (hVP : V < 2 ^ P) (hWP : W < 2 ^ P) (hW0 : 0 < W) (E : Nat) (hE : E = 1074) :
    Calls Try.prog 47 #[.agg (wda f).toArray, .agg (wda g).toArray] w fun e w' => ∃ (whole : Nat) (power : Int) (more : Bool), e = .returned (.tuple #[.int .u64 (whole : Int), .int .i64 power, .bool more]) ∧ (V = 0 → whole = 0 ∧ power = 0 ∧ more = false) ∧ (V ≠ 0 → ∃ b, Frt (V * 2 ^ b * 2 ^ E) (W * 2 ^ b) whole power more ∧ -5000 ≤ power ∧ power ≤ 5000) ∧ Below w.heap.size w w' := by
  have HV : Hid (wv f 76 = V ∧ V < 2 ^ P) := ⟨hV, hVP⟩
  have HW : Hid (wv g 76 = W ∧ W < 2 ^ P ∧ 0 < W) := ⟨hW, hWP, hW0⟩
  have TV : Hid (Tc f (V : Int)) := Tc.of_nat hf hV (pow_lt_4863 hP hVP)
  have R0 : Hid (Wds ((w.alloc (.cells (wda f).toArray 63)).alloc (.cells (wda g).toArray 63)) w.heap.size f) := (Wds.box w f hf).alloc _
  have S0 : Hid (Wds ((w.alloc (.cells (wda f).toArray 63)).alloc (.cells (wda g).toArray 63)) (w.heap.size + 1) g) := by
    have h := Wds.box (w.alloc (.cells (wda f).toArray 63)) g hg
    rw [show (w.alloc (.cells (wda f).toArray 63)).heap.size = w.heap.size + 1 by simp] at h
    exact h
  have L0 : Hid (Below w.heap.size w ((w.alloc (.cells (wda f).toArray 63)).alloc (.cells (wda g).toArray 63))) := ((Below.refl _ w).alloc (Nat.le_refl _) _).alloc (by simp) _
  clear hf hg hV hW hVP hWP hW0
  go_enter Try.func47, Try.ntmps47
  go_upto_region 1 with fail
  generalize (w.alloc (.cells (wda f).toArray 63)).alloc (.cells (wda g).toArray 63) = W0 at R0 S0 L0 ⊢
  obtain ⟨R, hR⟩ : ∃ R, w.heap.size = R := ⟨_, rfl⟩
  have HRB : Hid (w.heap.size = R) := hR
  rw [hR] at R0 S0 ⊢
  obtain ⟨S, hS⟩ : ∃ S, R + 1 = S := ⟨_, rfl⟩
  have HSR : Hid (R ≠ S ∧ w.heap.size ≤ R ∧ w.heap.size ≤ S) := by unfold Hid; omega
  rw [hS] at S0 ⊢
  clear hR hS
  by_cases h0 : V = 0
  · have hs : sgi (V : Int) = 0 := by rw [h0]; rfl
    have H0 : Hid (V = 0) := h0
    clear h0
    go_wp2_with (first
      | (go_at_call 61; refine (signW_any R f (V : Int) _ R0.out TV.out).mono ?_; rintro e w1 ⟨rfl, rfl⟩))
    go_ret3
    exact ⟨0, 0, false, rfl, fun _ => ⟨rfl, rfl, rfl⟩, fun c => absurd H0.out c, L0.out⟩
  · have hs : sgi (V : Int) = 1 := by unfold sgi; rw [if_neg (by omega), if_neg (by omega)]
    have H0 : Hid (V ≠ 0) := h0
    clear h0
    go_upto_region 4 with (first
      | (go_at_call 61; refine (signW_any R f (V : Int) _ R0.out TV.out).mono ?_; rintro e w1 ⟨rfl, rfl⟩)
      | (go_at_call_of 70 (Value.int IntKind.i64 4799); refine (raise_at 4799 4799 rfl S g W _ S0.out HW.out.1 (by have := HW.out.2.2; omega) P hP HW.out.2.1 (by omega) (by omega)).mono ?_; rintro e w2 ⟨bw, hw, rfl, s1, s2, s3, s4, s5⟩; have S1 : Hid (Wds w2 S hw) := s1; have R1 : Hid (Wds w2 R f) := R0.out.oth (s2.other R R0.out.block HSR.out.1); have L1 : Hid (Below w.heap.size w w2) := s2.belowN L0.out HSR.out.2.2; have EW : Hid (wv hw 76 = W * 2 ^ bw ∧ 2 ^ 4799 ≤ W * 2 ^ bw ∧ W * 2 ^ bw < 2 ^ (4799 + 1)) := ⟨s3, s4.1, s4.2⟩; have hbw : bw ≤ 4862 := s5; clear s1 s2 s3 s4 s5)
      | (go_at_call_of 70 (Value.int IntKind.i64 4862); refine (raise_at 4862 4862 rfl R f V _ R1.out HV.out.1 H0.out P hP HV.out.2 (by omega) (by omega)).mono ?_; rintro e w3 ⟨bv, hv, rfl, s1, s2, s3, s4, s5⟩; have R2 : Hid (Wds w3 R hv) := s1; have S2 : Hid (Wds w3 S hw) := S1.out.oth (s2.other S S1.out.block (Ne.symm HSR.out.1)); have L2 : Hid (Below w.heap.size w w3) := s2.belowN L1.out HSR.out.2.1; have EV : Hid (wv hv 76 = V * 2 ^ bv ∧ 2 ^ 4862 ≤ V * 2 ^ bv ∧ V * 2 ^ bv < 2 ^ (4862 + 1)) := ⟨s3, s4.1, s4.2⟩; have hbv : bv ≤ 4862 := s5; clear s1 s2 s3 s4 s5 R1 S1 L1))
    obtain ⟨M, hM⟩ : ∃ M : Nat, M = 4736 := ⟨_, rfl⟩
    obtain ⟨K, hK⟩ : ∃ K, K = 2 ^ M := ⟨_, rfl⟩
    obtain ⟨V', hV'⟩ : ∃ V', V * 2 ^ bv = V' := ⟨_, rfl⟩
    obtain ⟨W', hW'⟩ : ∃ W', W * 2 ^ bw = W' := ⟨_, rfl⟩
    rw [hV'] at EV
    rw [hW'] at EW
    have HVW : Hid (V * 2 ^ bv = V' ∧ W * 2 ^ bw = W') := ⟨hV', hW'⟩
    have HMK : Hid (M = 4736 ∧ K = 2 ^ M) := ⟨hM, hK⟩
    have fs := firsts hM hK R2.out.lt S2.out.lt EV.out.1 EW.out.1 EV.out.2.1 EV.out.2.2 EW.out.2.1 EW.out.2.2
    clear hM hK hV' hW'
    have c75 := R2.out.cells 75 (by omega)
    have c74 := R2.out.cells 74 (by omega)
    have d74 := S2.out.cells 74 (by omega)
    have l75 := R2.out.lt 75 (by omega)
    have l74 := R2.out.lt 74 (by omega)
    have m74 := S2.out.lt 74 (by omega)
    obtain ⟨a75, ha75⟩ : ∃ x, hv 75 = x := ⟨_, rfl⟩
    obtain ⟨a74, ha74⟩ : ∃ x, hv 74 = x := ⟨_, rfl⟩
    obtain ⟨b74, hb74⟩ : ∃ x, hw 74 = x := ⟨_, rfl⟩
    rw [ha75] at c75 l75 fs
    rw [ha74] at c74 l74 fs
    rw [hb74] at d74 m74 fs
    obtain ⟨f1, f2, f3, f4, f5⟩ := fs
    have FS : Hid (V' = (a75 * 18446744073709551616 + a74) * K + wv hv 74 ∧ wv hv 74 < K ∧ W' = b74 * K + wv hw 74 ∧ wv hw 74 < K) := ⟨f2, f3, f4, f5⟩
    have F1 : Hid (0 < a75 ∧ a75 < b74 ∧ 9223372036854775808 ≤ b74 ∧ a74 < 18446744073709551616 ∧ b74 < 18446744073709551616) := ⟨f1.1, f1.2.1, f1.2.2, l74, m74⟩
    clear ha75 ha74 hb74 f1 f2 f3 f4 f5 l75 l74 m74
    go_upto_region 5 with (first
      | (go_at_call 71; refine (div64_any a75 a74 b74 F1.out.2.2.1 F1.out.2.2.2.2 F1.out.2.1 F1.out.1 F1.out.2.2.2.1 _).mono ?_; rintro e w4 ⟨q, rr, rfl, q1, q2, rfl⟩; have HQ : Hid (q * b74 ≤ a75 * 18446744073709551616 + a74 ∧ a75 * 18446744073709551616 + a74 < (q + 1) * b74) := ⟨q1, q2⟩; clear q1 q2))
    have hql : q < 18446744073709551616 := quot_lt HQ.out.1 (by have := F1.out; omega) (by have := F1.out; omega)
    have kn := knuth FS.out.1 FS.out.2.1 FS.out.2.2.1 FS.out.2.2.2 F1.out.2.2.1 HQ.out.1 HQ.out.2 hql
    obtain ⟨z, hz⟩ : ∃ z : Int, z = (V' : Int) - ((q * W' : Nat) : Int) := ⟨_, rfl⟩
    have RG : Hid _ := quot_range HMK.out.1 HMK.out.2 kn.1 kn.2 EW.out.2.2 hz
    have HZ : Hid (z = (V' : Int) - ((q * W' : Nat) : Int)) := hz
    have TR : Hid (Tc hv (V' : Int)) := Tc.of_nat R2.out.lt EV.out.1 (by have := EV.out.2.2; rw [show 4862 + 1 = 4863 by omega] at this; exact this)
    clear c75 c74 d74 kn hz
    go_wp2_with (first
      | (go_at_call 72; refine (less_any R S hv hw q hql HSR.out.1 _ R2.out S2.out).mono ?_; rintro e w5 ⟨rfl, h, c, k1, k2, k3⟩; rw [show 64 * 76 = 4864 by omega, EW.out.1] at k3; have Q0 : Hid (QuS w w5 R S hw V' W' q z) := ⟨⟨h, k1, Tc.less TR.out k1.lt k3 HZ.out RG.out.1.1 RG.out.1.2⟩, S2.out.oth (k2.other S S2.out.block (Ne.symm HSR.out.1)), L2.out.trans (k2.below.mono HSR.out.2.1), HZ.out, RG.out.2.1⟩; clear k1 k2 k3 R2 S2 L2))
    have G0 : Hid (0 ≤ z + 2 * (W' : Int)) := RG.out.2.2
    have PW : Hid _ := quot_pow HMK.out.1 HMK.out.2 EW.out.2.2
    have TW : Hid (∀ wx, Wds wx S hw → Tc hw (W' : Int)) := fun wx hx => Tc.of_nat hx.lt EW.out.1 PW.out.2
    clear RG TR FS F1 HQ HZ
    go_loopg [4] 2 (fun gg qv wr => ∃ (q : Nat) (z : Int), qv = .int .u64 (q : Int) ∧ q < 18446744073709551616 ∧ Hid (0 ≤ z + (gg : Int) * (W' : Int)) ∧ Hid (QuS w wr R S hw V' W' q z))
    case atStart => exact ⟨q, z, rfl, hql, G0, Q0⟩
    case round =>
      clear Q0 G0 hql
      obtain ⟨q, z, rfl, hql, G1, Q1⟩ := hrel
      obtain ⟨h, k1, k2⟩ := Q1.out.v
      have c75 := k1.cells 75 (by omega)
      have l75 := k1.lt 75 (by omega)
      have hneg := k2.neg_iff
      have K1 : Hid (Wds wr R h) := k1
      have K2 : Hid (Tc h z) := k2
      clear k1 k2
      by_cases hz0 : z < 0
      · have h75 := hneg.1 hz0
        have hw1 : IntKind.i64.wrap ((h 75 : Nat) : Int) = (h 75 : Int) - 18446744073709551616 := by rw [IntKind.wrap_i64]; omega
        have hd : decide ((h 75 : Int) - 18446744073709551616 < 0) = true := decide_eq_true (by omega)
        have hWp : 0 < W' := by
          rcases Nat.eq_zero_or_pos W' with c | c
          · exfalso; have := G1.out; rw [c] at this; simp at this; omega
          · exact c
        have hg1 : 1 ≤ gk := by
          rcases Nat.eq_zero_or_pos gk with c | c
          · exfalso; have := G1.out; rw [c] at this; simp at this; omega
          · exact c
        obtain ⟨g, rfl⟩ : ∃ g, gk = g + 1 := ⟨gk - 1, by omega⟩
        have hq1 : 1 ≤ q := by
          rcases Nat.eq_zero_or_pos q with c | c
          · exfalso; have := Q1.out.eq; rw [c, Nat.zero_mul] at this; omega
          · exact c
        obtain ⟨q', hq'⟩ : ∃ q', q - 1 = q' := ⟨_, rfl⟩
        have t1 : IntKind.u64.wrap ((q : Int) - 1) = (q' : Int) := by rw [IntKind.wrap_u64]; omega
        have hql' : q' < 18446744073709551616 := by omega
        have EQ : Hid (z + (W' : Int) = (V' : Int) - ((q' * W' : Nat) : Int)) := by
          have e := Q1.out.eq
          rw [show q = q' + 1 by omega, Nat.add_mul, Nat.one_mul] at e
          unfold Hid
          generalize q' * W' = X at *
          omega
        have G2 : Hid (0 ≤ z + (W' : Int) + (g : Int) * (W' : Int)) := by
          have e := G1.out
          rw [show ((g + 1 : Nat) : Int) = (g : Int) + 1 by omega, Int.add_mul, Int.one_mul] at e
          unfold Hid
          generalize (g : Int) * (W' : Int) = X at *
          omega
        have HJ1 : Hid (-((2 ^ 4863 : Nat) : Int) ≤ z + (W' : Int) ∧ z + (W' : Int) < ((2 ^ 4863 : Nat) : Int)) := by
          have := PW.out.1
          have := K2.out.lo
          unfold Hid
          generalize ((2 ^ 4863 : Nat) : Int) = X at *
          omega
        have HZ0 : Hid (z < 0) := hz0
        clear hneg h75 hq' hq1 hg1 hz0 hWp
        go_wp2_with (first
          | (go_at_call 63; refine (join_tc R S h hw z (W' : Int) false _ K1.out Q1.out.w' K2.out (TW.out _ Q1.out.w') (z + (W' : Int)) (by simp) HJ1.out.1 HJ1.out.2).mono ?_; rintro e w6 ⟨rfl, h2, j1, j2, j3⟩; have Q2 : Hid (QuS w w6 R S hw V' W' q' (z + (W' : Int))) := ⟨⟨h2, j1, j3⟩, Q1.out.w'.oth (j2.other S Q1.out.w'.block (Ne.symm HSR.out.1)), Q1.out.bel.trans (j2.below.mono HSR.out.2.1), EQ.out, by have := HZ0.out; omega⟩; clear j1 j2 j3))
        go_roundg g
        case measure => omega
        case rel => exact ⟨q', z + (W' : Int), rfl, hql', G2, Q2⟩
      · have h75 : h 75 < 9223372036854775808 := by
          rcases Nat.lt_or_ge (h 75) 9223372036854775808 with c | c
          · exact c
          · exact absurd (hneg.2 c) hz0
        have hw1 : IntKind.i64.wrap ((h 75 : Nat) : Int) = (h 75 : Int) := by rw [IntKind.wrap_i64]; omega
        have hd : decide ((h 75 : Int) < 0) = false := decide_eq_false (by omega)
        have QM : Hid _ := quot_more Q1.out.eq (by omega) Q1.out.hi
        have QB : Hid (9007199254740992 ≤ q) := quot_big HMK.out.1 HMK.out.2 EV.out.2.1 EW.out.2.2 QM.out.2.1
        obtain ⟨mo, hmo⟩ : ∃ mo, (sgi z != 0) = mo := ⟨_, rfl⟩
        have FR : Hid (Frt (V * 2 ^ bv * 2 ^ E) (W * 2 ^ bv) q ((bw : Int) - (bv : Int)) mo) := quot_frt hE HW.out.2.2 (by rw [HVW.out.1, HVW.out.2]; exact QM.out.1) (by rw [HVW.out.1, HVW.out.2]; exact QM.out.2.1) (by rw [HVW.out.1, HVW.out.2, ← hmo]; exact QM.out.2.2) hql QB.out
        clear hneg hz0 h75
        go_wp2_with (first
          | (go_at_call 61; refine (signW_any R h z _ K1.out K2.out).mono ?_; rintro e w6 ⟨rfl, rfl⟩))
        go_ret3
        exact ⟨q, (bw : Int) - (bv : Int), mo, rfl, fun c => absurd c H0.out, fun _ => ⟨bv, FR.out, by omega, by omega⟩, Q1.out.bel⟩
end Go.Proofs.Ytajopgndpomggaa
