import Derived.Test.YtokglpemefkmjaaRMj
namespace Go.Proofs.Ytokglpemefkmjaa
open Go.RowKit
set_option linter.unusedVariables false
set_option linter.unusedSimpArgs false
/-- A finite sum. -/
def Sg (t : Nat → Int) : Nat → Int
  | 0 => 0
  | n + 1 => Sg t n + t n
theorem Sg_bd {t : Nat → Int} (B : Nat) (hb : ∀ j, (t j).natAbs ≤ B) (N : Nat) : ∀ n, n ≤ N → (Sg t n).natAbs ≤ N * B := by
  have h1 : ∀ n, (Sg t n).natAbs ≤ n * B := fun n => by
    induction n with
    | zero => simp [Sg]
    | succ n ih =>
      have := hb n
      unfold Sg
      rw [Nat.add_mul, Nat.one_mul]
      have := Int.natAbs_add_le (Sg t n) (t n)
      omega
  exact fun n hn => Nat.le_trans (h1 n) (Nat.mul_le_mul_right _ hn)
theorem step_lt {a b A B : Nat} (ha : a < A) (hb : b < B) : a * B + b < A * B := by
  have := Nat.mul_le_mul_right B (show a + 1 ≤ A by omega)
  rw [Nat.add_mul, Nat.one_mul] at this
  omega
theorem wrN {n : Nat} (h : n ≤ 20000000) : IntKind.i64.wrap (n : Int) = (n : Int) := by rw [IntKind.wrap_i64]; omega
theorem wrI {n : Int} (h : -20000000 ≤ n ∧ n ≤ 20000000) : IntKind.i64.wrap n = n := by rw [IntKind.wrap_i64]; omega
theorem wr6 {n : Int} (h : -20000000 ≤ n ∧ n ≤ 20000000) : wrap64 n = n := by unfold wrap64; omega
theorem atZ_bd {vs : List Int} (hv : ∀ j : Nat, -9 ≤ vs[j]?.getD 0 ∧ vs[j]?.getD 0 ≤ 9) (H K c y x : Int) : -9 ≤ atZ vs H K c y x ∧ atZ vs H K c y x ≤ 9 := by
  unfold atZ
  split
  · exact hv _
  · omega
theorem at_W {C H K n cap : Nat} (hn : C * H * K = n) (hC : C ≤ 256) (hH : H ≤ 256) (hK : K ≤ 256) (ao : Option Addr) (vs : List Int) (c : Nat) (hc : c < C) (y x : Int) (hy : -10000 ≤ y ∧ y ≤ 10000) (hx : -10000 ≤ x ∧ x ≤ 10000) (w : World) (hR : RdIn w ao n cap vs) :
    Calls Try.prog 34 #[.slice ao n cap, .agg #[.int .i64 (C : Int), .int .i64 (H : Int), .int .i64 (K : Int)], .int .i64 (c : Int), .int .i64 y, .int .i64 x] w fun e w' => e = .returned (.int .i64 (atZ vs H K c y x)) ∧ Below w.heap.size w w' := by
  have h1 : c * H ≤ 256 * 256 := Nat.mul_le_mul (by omega) hH
  obtain ⟨ch, hch⟩ : ∃ ch, c * H = ch := ⟨_, rfl⟩
  have hchI : (c : Int) * (H : Int) = (ch : Int) := by rw [← Int.natCast_mul, hch]
  rw [hch] at h1
  have h2 : (((ch : Int) + y) * (K : Int)).natAbs ≤ 80000 * 256 := by rw [Int.natAbs_mul]; exact Nat.mul_le_mul (by omega) (by omega)
  obtain ⟨m3, hm3⟩ : ∃ m3, ((ch : Int) + y) * (K : Int) = m3 := ⟨_, rfl⟩
  rw [hm3] at h2
  refine at_any ao n cap vs C H K c y x ch (ch + y) m3 (m3 + x) w hR (by rw [hchI]; exact wrN (by omega)) (wrI (by omega)) (by rw [hm3, IntKind.wrap_i64]; omega) (by rw [IntKind.wrap_i64]; omega) fun hin => ?_
  obtain ⟨y0, y1, x0, x1⟩ := hin
  obtain ⟨yn, rfl⟩ : ∃ yn : Nat, y = yn := ⟨y.toNat, by omega⟩
  obtain ⟨xn, rfl⟩ : ∃ xn : Nat, x = xn := ⟨x.toNat, by omega⟩
  have h3 : c * H + yn < C * H := step_lt hc (by omega)
  have h4 : (c * H + yn) * K + xn < C * H * K := step_lt h3 (by omega)
  rw [hn, hch] at h4
  have h5 : m3 = (((ch + yn) * K : Nat) : Int) := by rw [← hm3, Int.natCast_mul, Int.natCast_add]
  refine ⟨by rw [hchI, hm3], by omega, by omega⟩
theorem ix_le {a oC oK KH KW L p q : Nat} (k1 : a < oC) (k2 : a * KH + p < oK) (b1 : oC ≤ 256 * 256) (b2 : oK ≤ 256 * 256 * 16) (k4 : (a * KH + p) * KW + q < L) (b3 : L ≤ 256 * 256 * 16 * 16) :
    a ≤ 20000000 ∧ a * KH ≤ 20000000 ∧ a * KH + p ≤ 20000000 ∧ (a * KH + p) * KW ≤ 20000000 ∧ (a * KH + p) * KW + q ≤ 20000000 ∧ (a * KH + p) * KW + q < L := by
  generalize (a * KH + p) * KW = x at *
  generalize a * KH = y at *
  refine ⟨?_, ?_, ?_, ?_, ?_, k4⟩ <;> omega
def wcZ (seed : Int) (vs : List Int) (C H K KH KW f : Nat) (y0 x0 : Int) (p q c : Nat) : Int := smallZ seed (3 * ((((f * C + c) * KH + p) * KW + q : Nat) : Int)) * atZ vs H K (c : Int) (y0 + (p : Int)) (x0 + (q : Int))
theorem wcZ_bd {seed : Int} {vs : List Int} (hv : ∀ j : Nat, -9 ≤ vs[j]?.getD 0 ∧ vs[j]?.getD 0 ≤ 9) (C H K KH KW f : Nat) (y0 x0 : Int) (p q c : Nat) : (wcZ seed vs C H K KH KW f y0 x0 p q c).natAbs ≤ 81 := by
  have := mul_small (smallZ_bd seed (3 * ((((f * C + c) * KH + p) * KW + q : Nat) : Int))) (atZ_bd hv H K (c : Int) (y0 + (p : Int)) (x0 + (q : Int)))
  unfold wcZ
  omega
/-- The law's window of a convolution. -/
def win2Z (seed : Int) (vs : List Int) (C H K KH KW f : Nat) (y0 x0 : Int) : Int := Sg (fun p => Sg (fun q => Sg (wcZ seed vs C H K KH KW f y0 x0 p q) C) KW) KH + smallZ seed (5 * (f : Int) + 1)
set_option maxRecDepth 100000 in
set_option maxHeartbeats 8000000 in
theorem window2_any (seed : Int) (C H K KH KW SH SW PH PW n f y x : Nat) (o L : Nat) (hL : o * C * KH * KW = L) (ho : o ≤ 256) (hf : f < o) (hn : C * H * K = n) (hC : C ≤ 256) (hH : H ≤ 256) (hK : K ≤ 256) (hKH : KH ≤ 16) (hKW : KW ≤ 16) (ys xs y0 x0 : Int) (e1 : IntKind.i64.wrap ((y : Int) * (SH : Int)) = ys) (e2 : IntKind.i64.wrap (ys - (PH : Int)) = y0) (e3 : IntKind.i64.wrap ((x : Int) * (SW : Int)) = xs) (e4 : IntKind.i64.wrap (xs - (PW : Int)) = x0) (hy0 : -5000 ≤ y0 ∧ y0 ≤ 5000) (hx0 : -5000 ≤ x0 ∧ x0 ≤ 5000) (wo bo zo yo ao : Option Addr) (wc bc zc yc nz ny cap : Nat) (vs : List Int) (hv : ∀ j : Nat, -9 ≤ vs[j]?.getD 0 ∧ vs[j]?.getD 0 ≤ 9) (w : World)
    (hU : RdF w wo L wc (wL seed L)) (hV : RdF w bo o bc (bL seed o)) (hR : RdIn w ao n cap vs) :
    Calls Try.prog 19 #[.agg #[.int .i64 2, .int .i64 (o : Int), .int .i64 (KH : Int), .int .i64 (KW : Int), .int .i64 (SH : Int), .int .i64 (SW : Int), .int .i64 (PH : Int), .int .i64 (PW : Int), .int .i64 0, .float .f64 0, .slice wo L wc, .slice bo o bc, .slice zo nz zc, .slice yo ny yc], .agg #[.int .i64 (C : Int), .int .i64 (H : Int), .int .i64 (K : Int)], .slice ao n cap, .int .i64 (f : Int), .int .i64 (y : Int), .int .i64 (x : Int)] w fun e w' => e = .returned (.int .i64 (win2Z seed vs C H K KH KW f y0 x0)) ∧ Below w.heap.size w w' := by
  have HU : Hid _ := hU
  have HV : Hid _ := hV
  have HR : Hid _ := hR
  have HE0 : Hid (IntKind.i64.wrap ((y : Int) * (SH : Int)) = ys ∧ IntKind.i64.wrap (ys - (PH : Int)) = y0 ∧ IntKind.i64.wrap ((x : Int) * (SW : Int)) = xs ∧ IntKind.i64.wrap (xs - (PW : Int)) = x0) := ⟨e1, e2, e3, e4⟩
  clear e1 e2 e3 e4
  have HVS : Hid (∀ j : Nat, -9 ≤ vs[j]?.getD 0 ∧ vs[j]?.getD 0 ≤ 9) := hv
  have HDM : Hid (KH ≤ 16 ∧ KW ≤ 16 ∧ C ≤ 256 ∧ (-5000 ≤ y0 ∧ y0 ≤ 5000) ∧ (-5000 ≤ x0 ∧ x0 ≤ 5000)) := ⟨hKH, hKW, hC, hy0, hx0⟩
  have HAT : Hid (∀ (c : Nat), c < C → ∀ y x : Int, (-10000 ≤ y ∧ y ≤ 10000) → (-10000 ≤ x ∧ x ≤ 10000) → ∀ w, RdIn w ao n cap vs → _) := fun c hc y x hy hx w hR => at_W hn hC hH hK ao vs c hc y x hy hx w hR
  have hcb : ∀ p q c, (wcZ seed vs C H K KH KW f y0 x0 p q c).natAbs ≤ 81 := wcZ_bd hv C H K KH KW f y0 x0
  have HBD : Hid ((∀ p q c, c ≤ C → (Sg (wcZ seed vs C H K KH KW f y0 x0 p q) c).natAbs ≤ 20736) ∧ (∀ p q, q ≤ KW → (Sg (fun q => Sg (wcZ seed vs C H K KH KW f y0 x0 p q) C) q).natAbs ≤ 331776) ∧ ∀ p, p ≤ KH → (Sg (fun p => Sg (fun q => Sg (wcZ seed vs C H K KH KW f y0 x0 p q) C) KW) p).natAbs ≤ 5308416) := by
    have a1 : ∀ p q c, c ≤ C → (Sg (wcZ seed vs C H K KH KW f y0 x0 p q) c).natAbs ≤ 20736 := fun p q c h => Sg_bd 81 (hcb p q) 256 c (by omega)
    have a2 : ∀ p q, q ≤ KW → (Sg (fun q => Sg (wcZ seed vs C H K KH KW f y0 x0 p q) C) q).natAbs ≤ 331776 := fun p q h => Sg_bd 20736 (fun q => a1 p q C (Nat.le_refl _)) 16 q (by omega)
    exact ⟨a1, a2, fun p h => Sg_bd 331776 (fun p => a2 p KW (Nat.le_refl _)) 16 p (by omega)⟩
  have HIX : Hid (∀ c p q, c < C → p < KH → q < KW → f * C + c ≤ 20000000 ∧ (f * C + c) * KH ≤ 20000000 ∧ (f * C + c) * KH + p ≤ 20000000 ∧ ((f * C + c) * KH + p) * KW ≤ 20000000 ∧ ((f * C + c) * KH + p) * KW + q ≤ 20000000 ∧ ((f * C + c) * KH + p) * KW + q < L) := fun c p q c1 p1 q1 => by
    have k1 : f * C + c < o * C := step_lt hf c1
    have k2 : (f * C + c) * KH + p < o * C * KH := step_lt k1 p1
    have k3 : ((f * C + c) * KH + p) * KW + q < o * C * KH * KW := step_lt k2 q1
    have b1 : o * C ≤ 256 * 256 := Nat.mul_le_mul ho hC
    have b2 : o * C * KH ≤ 256 * 256 * 16 := Nat.mul_le_mul b1 hKH
    have b3 : o * C * KH * KW ≤ 256 * 256 * 16 * 16 := Nat.mul_le_mul b2 hKW
    rw [hL] at k3 b3
    exact ix_le k1 k2 b1 b2 k3 b3
  have HFC : Hid (f * C ≤ 20000000) := by have b1 : f * C ≤ 256 * 256 := Nat.mul_le_mul (by omega) hC; unfold Hid; omega
  have HSD : Hid (f < o) := hf
  clear hcb hU hV hR hL ho
  clear hv hf hn hC hH hK hKH hKW hy0 hx0
  have X0 : Hid (Below w.heap.size w ((w.alloc (.cells #[.int .i64 2, .int .i64 (o : Int), .int .i64 (KH : Int), .int .i64 (KW : Int), .int .i64 (SH : Int), .int .i64 (SW : Int), .int .i64 (PH : Int), .int .i64 (PW : Int), .int .i64 0, .float .f64 0, .slice wo L wc, .slice bo o bc, .slice zo nz zc, .slice yo ny yc] 30)).alloc (.cells #[.int .i64 (C : Int), .int .i64 (H : Int), .int .i64 (K : Int)] 25))) := ((Below.refl _ w).alloc (Nat.le_refl _) _).alloc (by simp only [alloc_size]; omega) _
  have Y0 : Hid (((w.alloc (.cells #[.int .i64 2, .int .i64 (o : Int), .int .i64 (KH : Int), .int .i64 (KW : Int), .int .i64 (SH : Int), .int .i64 (SW : Int), .int .i64 (PH : Int), .int .i64 (PW : Int), .int .i64 0, .float .f64 0, .slice wo L wc, .slice bo o bc, .slice zo nz zc, .slice yo ny yc] 30)).alloc (.cells #[.int .i64 (C : Int), .int .i64 (H : Int), .int .i64 (K : Int)] 25)).heap[w.heap.size]? = some (.cells #[.int .i64 2, .int .i64 (o : Int), .int .i64 (KH : Int), .int .i64 (KW : Int), .int .i64 (SH : Int), .int .i64 (SW : Int), .int .i64 (PH : Int), .int .i64 (PW : Int), .int .i64 0, .float .f64 0, .slice wo L wc, .slice bo o bc, .slice zo nz zc, .slice yo ny yc] 30)) := alloc_kept (heap_alloc_new w _) _
  have Y1 : Hid (((w.alloc (.cells #[.int .i64 2, .int .i64 (o : Int), .int .i64 (KH : Int), .int .i64 (KW : Int), .int .i64 (SH : Int), .int .i64 (SW : Int), .int .i64 (PH : Int), .int .i64 (PW : Int), .int .i64 0, .float .f64 0, .slice wo L wc, .slice bo o bc, .slice zo nz zc, .slice yo ny yc] 30)).alloc (.cells #[.int .i64 (C : Int), .int .i64 (H : Int), .int .i64 (K : Int)] 25)).heap[w.heap.size + 1]? = some (.cells #[.int .i64 (C : Int), .int .i64 (H : Int), .int .i64 (K : Int)] 25)) := heap_at _ _ (w.heap.size + 1) (by simp only [alloc_size])
  go_enter Try.func19, Try.ntmps19
  go_upto_region 1 with fail
  generalize (w.alloc (.cells #[.int .i64 2, .int .i64 (o : Int), .int .i64 (KH : Int), .int .i64 (KW : Int), .int .i64 (SH : Int), .int .i64 (SW : Int), .int .i64 (PH : Int), .int .i64 (PW : Int), .int .i64 0, .float .f64 0, .slice wo L wc, .slice bo o bc, .slice zo nz zc, .slice yo ny yc] 30)).alloc (.cells #[.int .i64 (C : Int), .int .i64 (H : Int), .int .i64 (K : Int)] 25) = W at X0 Y0 Y1 ⊢
  go_wp2_with fail
  go_loopg [13, 14] KH (fun g sv v wx => ∃ (p : Nat) (s : Int), sv = .int .i64 s ∧ v = .int .i64 p ∧ p + g = KH ∧ Hid (s = Sg (fun p => Sg (fun q => Sg (wcZ seed vs C H K KH KW f y0 x0 p q) C) KW) p) ∧ Hid (Below W.heap.size W wx))
  case atStart => exact ⟨0, 0, rfl, rfl, by omega, rfl, Below.refl _ _⟩
  case round =>
    obtain ⟨p, s, rfl, rfl, hp, HS, HB⟩ := hrel
    have l2 := cellAt (kept HB.out Y0.out) 2 (.int .i64 (KH : Int)) rfl
    by_cases hlt : p < KH
    · obtain ⟨g, rfl⟩ : ∃ g, gk = g + 1 := ⟨gk - 1, by omega⟩
      have HP : Hid (p < KH ∧ p + (g + 1) = KH) := ⟨hlt, hp⟩
      have hd : decide ((p : Int) < (KH : Int)) = true := decide_eq_true (by omega)
      clear hp
      go_wp2_with fail
      clear l2 hd hlt
      go_loopg [13, 15] KW (fun g sv v wx => ∃ (q : Nat) (s2 : Int), sv = .int .i64 s2 ∧ v = .int .i64 q ∧ q + g = KW ∧ Hid (s2 = Sg (fun p => Sg (fun q => Sg (wcZ seed vs C H K KH KW f y0 x0 p q) C) KW) p + Sg (fun q => Sg (wcZ seed vs C H K KH KW f y0 x0 p q) C) q) ∧ Hid (Below W.heap.size W wx))
      case atStart => exact ⟨0, s, rfl, rfl, by omega, by have := HS.out; unfold Hid; rw [this]; exact (Int.add_zero _).symm, HB.out⟩
      case round =>
        clear HB
        obtain ⟨q, s2, rfl, rfl, hq, HS2, HB⟩ := hrel
        have l3 := cellAt (kept HB.out Y0.out) 3 (.int .i64 (KW : Int)) rfl
        by_cases hlt : q < KW
        · obtain ⟨g2, rfl⟩ : ∃ g2, gk = g2 + 1 := ⟨gk - 1, by omega⟩
          have HQ : Hid (q < KW ∧ q + (g2 + 1) = KW) := ⟨hlt, hq⟩
          have hd : decide ((q : Int) < (KW : Int)) = true := decide_eq_true (by omega)
          have l0 := cellAt (kept HB.out Y0.out) 0 (.int .i64 2) rfl
          clear hq
          go_wp2_with fail
          clear l0 l3 hd hlt
          go_loopg [13, 16] C (fun g sv v wx => ∃ (c : Nat) (s3 : Int), sv = .int .i64 s3 ∧ v = .int .i64 c ∧ c + g = C ∧ Hid (s3 = Sg (fun p => Sg (fun q => Sg (wcZ seed vs C H K KH KW f y0 x0 p q) C) KW) p + Sg (fun q => Sg (wcZ seed vs C H K KH KW f y0 x0 p q) C) q + Sg (wcZ seed vs C H K KH KW f y0 x0 p q) c) ∧ Hid (Below W.heap.size W wx))
          case atStart => exact ⟨0, s2, rfl, rfl, by omega, by have := HS2.out; unfold Hid; rw [this]; exact (Int.add_zero _).symm, HB.out⟩
          case round =>
            clear HB
            obtain ⟨c, s3, rfl, rfl, hc, HS3, HB⟩ := hrel
            have d0 := cellAt (kept HB.out Y1.out) 0 (.int .i64 (C : Int)) rfl
            by_cases hlt : c < C
            · obtain ⟨g3, rfl⟩ : ∃ g3, gk = g3 + 1 := ⟨gk - 1, by omega⟩
              have HC : Hid (c < C ∧ c + (g3 + 1) = C) := ⟨hlt, hc⟩
              have hd : decide ((c : Int) < (C : Int)) = true := decide_eq_true (by omega)
              have bc1 : -20000000 ≤ (c : Int) + 1 ∧ (c : Int) + 1 ≤ 20000000 := by have := HDM.out; omega
              clear hc
              obtain ⟨yp, hyp⟩ : ∃ yp, y0 + (p : Int) = yp := ⟨_, rfl⟩
              obtain ⟨xq, hxq⟩ : ∃ xq, x0 + (q : Int) = xq := ⟨_, rfl⟩
              have hb1 : -10000 ≤ yp ∧ yp ≤ 10000 := by have := HP.out; have := HDM.out; omega
              have hb2 : -10000 ≤ xq ∧ xq ≤ 10000 := by have := HQ.out; have := HDM.out; omega
              obtain ⟨ix1, ix2, ix3, ix4, ix5, ixL⟩ := HIX.out c p q (by have := HC.out; omega) (by have := HP.out; omega) (by have := HQ.out; omega)
              obtain ⟨k5, hk5⟩ : ∃ k5, ((f * C + c) * KH + p) * KW + q = k5 := ⟨_, rfl⟩
              have b6 : k5 ≤ 20000000 := hk5 ▸ ix5
              obtain ⟨z, hz⟩ : ∃ z, smallZ seed (3 * (k5 : Int)) = z := ⟨_, rfl⟩
              obtain ⟨b, hb⟩ : ∃ b, atZ vs H K (c : Int) yp xq = b := ⟨_, rfl⟩
              have hzb : -9 ≤ z ∧ z ≤ 9 := hz ▸ smallZ_bd _ _
              have hbb : -9 ≤ b ∧ b ≤ 9 := hb ▸ atZ_bd HVS.out _ _ _ _ _
              have hzc := mul_small hzb hbb
              obtain ⟨zb, hzbe⟩ : ∃ zb, z * b = zb := ⟨_, rfl⟩
              rw [hzbe] at hzc
              obtain ⟨s', hs'⟩ : ∃ s', s3 + zb = s' := ⟨_, rfl⟩
              have HE : Hid (s' = Sg (fun p => Sg (fun q => Sg (wcZ seed vs C H K KH KW f y0 x0 p q) C) KW) p + Sg (fun q => Sg (wcZ seed vs C H K KH KW f y0 x0 p q) C) q + Sg (wcZ seed vs C H K KH KW f y0 x0 p q) (c + 1)) := by
                have h1 : Sg (wcZ seed vs C H K KH KW f y0 x0 p q) (c + 1) = Sg (wcZ seed vs C H K KH KW f y0 x0 p q) c + zb := by
                  show Sg (wcZ seed vs C H K KH KW f y0 x0 p q) c + wcZ seed vs C H K KH KW f y0 x0 p q c = _
                  unfold wcZ
                  rw [hk5, hz, hyp, hxq, hb, hzbe]
                unfold Hid
                rw [h1, ← hs', HS3.out, Int.add_assoc _ _ zb]
              have hsb : -10000000 ≤ s3 ∧ s3 ≤ 10000000 := by
                have b1 := HBD.out.1 p q c (by have := HC.out; omega)
                have b2 := HBD.out.2.1 p q (by have := HQ.out; omega)
                have b3 := HBD.out.2.2 p (by have := HP.out; omega)
                rw [HS3.out]
                omega
              have hcv := back_conv hzb
              rcases (HU.out.later X0.out).cells with h0 | ⟨b1, off1, rfl, hc1⟩
              · exact absurd h0 (by omega)
              have t1' := hc1 k5 (by omega)
              rw [wL_at seed (by omega), hz] at t1'
              have HF : Hid (∀ w', Below W.heap.size W w' → (w'.cell? ⟨w.heap.size, 2, none⟩ = some (.int .i64 (KH : Int)) ∧ w'.cell? ⟨w.heap.size, 3, none⟩ = some (.int .i64 (KW : Int)) ∧ w'.cell? ⟨w.heap.size, 4, none⟩ = some (.int .i64 (SH : Int)) ∧ w'.cell? ⟨w.heap.size, 5, none⟩ = some (.int .i64 (SW : Int)) ∧ w'.cell? ⟨w.heap.size, 6, none⟩ = some (.int .i64 (PH : Int)) ∧ w'.cell? ⟨w.heap.size, 7, none⟩ = some (.int .i64 (PW : Int)) ∧ w'.cell? ⟨w.heap.size, 10, none⟩ = some (.slice (some ⟨b1, off1, none⟩) L wc) ∧ w'.cell? ⟨w.heap.size + 1, 0, none⟩ = some (.int .i64 (C : Int)) ∧ w'.cell? ⟨b1, off1 + k5, none⟩ = some (.float .f64 (flZ z)))) := fun w' hb => by
                have hY := kept hb Y0.out
                have hY1 := kept hb Y1.out
                refine ⟨cellAt hY 2 _ rfl, cellAt hY 3 _ rfl, cellAt hY 4 _ rfl, cellAt hY 5 _ rfl, cellAt hY 6 _ rfl, cellAt hY 7 _ rfl, cellAt hY 10 _ rfl, cellAt hY1 0 _ rfl, ?_⟩
                rw [hb.cell (p := ⟨b1, off1 + k5, none⟩) (World.block_lt_of_cell? _ _ t1')]; exact t1'
              have q0 : (0 : Int) ≤ (k5 : Int) := by omega
              have q1 : (k5 : Int) < (L : Int) := by omega
              obtain ⟨fc, hfc⟩ : ∃ fc, f * C = fc := ⟨_, rfl⟩
              rw [hfc] at ix1 ix2 ix3 ix4 hk5
              obtain ⟨k1, hk1⟩ : ∃ k1, fc + c = k1 := ⟨_, rfl⟩
              rw [hk1] at ix1 ix2 ix3 ix4 hk5
              obtain ⟨k2, hk2⟩ : ∃ k2, k1 * KH = k2 := ⟨_, rfl⟩
              rw [hk2] at ix2 ix3 ix4 hk5
              obtain ⟨k3, hk3⟩ : ∃ k3, k2 + p = k3 := ⟨_, rfl⟩
              rw [hk3] at ix3 ix4 hk5
              obtain ⟨k4, hk4⟩ : ∃ k4, k3 * KW = k4 := ⟨_, rfl⟩
              rw [hk4] at ix4 hk5
              have b7 : -20000000 ≤ yp ∧ yp ≤ 20000000 := by omega
              have b8 : -20000000 ≤ xq ∧ xq ≤ 20000000 := by omega
              have b9 : -20000000 ≤ zb ∧ zb ≤ 20000000 := by omega
              have b10 : -20000000 ≤ s' ∧ s' ≤ 20000000 := by omega
              have p1 : IntKind.i64.wrap ((f : Int) * (C : Int)) = (fc : Int) := by rw [← Int.natCast_mul, hfc]; exact wrN (hfc ▸ HFC.out)
              have p2 : IntKind.i64.wrap ((fc : Int) + (c : Int)) = (k1 : Int) := by rw [← Int.natCast_add, hk1]; exact wrN ix1
              have p3 : IntKind.i64.wrap ((k1 : Int) * (KH : Int)) = (k2 : Int) := by rw [← Int.natCast_mul, hk2]; exact wrN ix2
              have p4 : IntKind.i64.wrap ((k2 : Int) + (p : Int)) = (k3 : Int) := by rw [← Int.natCast_add, hk3]; exact wrN ix3
              have p5 : IntKind.i64.wrap ((k3 : Int) * (KW : Int)) = (k4 : Int) := by rw [← Int.natCast_mul, hk4]; exact wrN ix4
              have p6 : IntKind.i64.wrap ((k4 : Int) + (q : Int)) = (k5 : Int) := by rw [← Int.natCast_add, hk5]; exact wrN b6
              have p7 : IntKind.i64.wrap (y0 + (p : Int)) = yp := by rw [hyp]; exact wrI b7
              have p8 : IntKind.i64.wrap (x0 + (q : Int)) = xq := by rw [hxq]; exact wrI b8
              have p9 : IntKind.i64.wrap (z * b) = zb := by rw [hzbe]; exact wrI b9
              have p10 : IntKind.i64.wrap (s3 + zb) = s' := by rw [hs']; exact wrI b10
              have HBB : Hid (∀ w', RdIn w' ao n cap vs → _) := fun w' hR => HAT.out c HC.out.1 yp xq hb1 hb2 w' hR
              rw [hb] at HBB
              have HRW : Hid (RdIn W ao n cap vs) := HR.out.later X0.out
              have hw1 := wrI bc1
              have hw2 := wr6 bc1
              obtain ⟨e1, e2, e3, e4⟩ := HE0.out
              clear b6 b7 b8 b9 b10 bc1 hk1 hk2 hk3 hk4 hk5 ix1 ix2 ix3 ix4 ix5 ixL hzb hbb hzc hsb hb1 hb2 t1' hc1 hs' hzbe hfc hz hb hyp hxq
              go_upto_region 13 with fail
              clear hd hlt
              have bX : Below W.heap.size W wr.drew := HB.out.drew
              refine wp_region_noPanic ?_
              refine wp_region_held_drew (S := (fun W' => Below W.heap.size W W')) (by kernel_rfl) bX (fun _ => ?_)
              refine takeH 66 (i := 0) (v := ?_) rfl rfl (by kernel_rfl) (by kernel_rfl) (by kernel_rfl) (fun _ _ _ h => h) (Or.inl ⟨by kernel_rfl, ?_⟩) bX ?_
              rotate_left
              · intro w' hSw; obtain ⟨c2, c3, c4, c5, c6, c7, c10, d0, t1⟩ := HF.out w' hSw; go_simp; try with_reducible rfl
              try simp only [Act.put, List.setIfInBounds_toArray, List.set_cons_zero, List.set_cons_succ]
              refine takeH 67 (i := 1) (v := ?_) rfl rfl (by kernel_rfl) (by kernel_rfl) (by kernel_rfl) (fun _ _ _ h => h) (Or.inl ⟨by kernel_rfl, ?_⟩) bX ?_
              rotate_left
              · intro w' hSw; obtain ⟨c2, c3, c4, c5, c6, c7, c10, d0, t1⟩ := HF.out w' hSw; go_simp; try with_reducible rfl
              try simp only [Act.put, List.setIfInBounds_toArray, List.set_cons_zero, List.set_cons_succ]
              refine takeH 68 (i := 2) (v := ?_) rfl rfl (by kernel_rfl) (by kernel_rfl) (by kernel_rfl) (fun _ _ _ h => h) (Or.inl ⟨by kernel_rfl, ?_⟩) bX ?_
              rotate_left
              · intro w' hSw; obtain ⟨c2, c3, c4, c5, c6, c7, c10, d0, t1⟩ := HF.out w' hSw; go_simp; try with_reducible rfl
              try simp only [Act.put, List.setIfInBounds_toArray, List.set_cons_zero, List.set_cons_succ]
              refine takeH 69 (i := 3) (v := ?_) rfl rfl (by kernel_rfl) (by kernel_rfl) (by kernel_rfl) (fun _ _ _ h => h) (Or.inl ⟨by kernel_rfl, ?_⟩) bX ?_
              rotate_left
              · intro w' hSw; obtain ⟨c2, c3, c4, c5, c6, c7, c10, d0, t1⟩ := HF.out w' hSw; go_simp; try with_reducible rfl
              try simp only [Act.put, List.setIfInBounds_toArray, List.set_cons_zero, List.set_cons_succ]
              refine takeH 70 (i := 4) (v := ?_) rfl rfl (by kernel_rfl) (by kernel_rfl) (by kernel_rfl) (fun _ _ _ h => h) (Or.inl ⟨by kernel_rfl, ?_⟩) bX ?_
              rotate_left
              · intro w' hSw; obtain ⟨c2, c3, c4, c5, c6, c7, c10, d0, t1⟩ := HF.out w' hSw; go_simp; try with_reducible rfl
              try simp only [Act.put, List.setIfInBounds_toArray, List.set_cons_zero, List.set_cons_succ]
              refine takeH 71 (i := 5) (v := ?_) rfl rfl (by kernel_rfl) (by kernel_rfl) (by kernel_rfl) (fun _ _ _ h => h) (Or.inl ⟨by kernel_rfl, ?_⟩) bX ?_
              rotate_left
              · intro w' hSw; obtain ⟨c2, c3, c4, c5, c6, c7, c10, d0, t1⟩ := HF.out w' hSw; go_simp; try with_reducible rfl
              try simp only [Act.put, List.setIfInBounds_toArray, List.set_cons_zero, List.set_cons_succ]
              refine takeH 72 (i := 6) (v := ?_) rfl rfl (by kernel_rfl) (by kernel_rfl) (by kernel_rfl) (fun _ _ _ h => h) (Or.inl ⟨by kernel_rfl, ?_⟩) bX ?_
              rotate_left
              · intro w' hSw; obtain ⟨c2, c3, c4, c5, c6, c7, c10, d0, t1⟩ := HF.out w' hSw; go_simp; try with_reducible rfl
              try simp only [Act.put, List.setIfInBounds_toArray, List.set_cons_zero, List.set_cons_succ]
              refine takeH 73 (i := 7) (v := ?_) rfl rfl (by kernel_rfl) (by kernel_rfl) (by kernel_rfl) (fun _ _ _ h => h) (Or.inl ⟨by kernel_rfl, ?_⟩) bX ?_
              rotate_left
              · intro w' hSw; obtain ⟨c2, c3, c4, c5, c6, c7, c10, d0, t1⟩ := HF.out w' hSw; go_simp; try with_reducible rfl
              try simp only [Act.put, List.setIfInBounds_toArray, List.set_cons_zero, List.set_cons_succ]
              refine takeH 74 (i := 8) (v := ?_) rfl rfl (by kernel_rfl) (by kernel_rfl) (by kernel_rfl) (fun _ _ _ h => h) (Or.inl ⟨by kernel_rfl, ?_⟩) bX ?_
              rotate_left
              · intro w' hSw; obtain ⟨c2, c3, c4, c5, c6, c7, c10, d0, t1⟩ := HF.out w' hSw; go_simp; try with_reducible rfl
              try simp only [Act.put, List.setIfInBounds_toArray, List.set_cons_zero, List.set_cons_succ]
              refine takeH 75 (i := 9) (v := ?_) rfl rfl (by kernel_rfl) (by kernel_rfl) (by kernel_rfl) (fun _ _ _ h => h) (Or.inl ⟨by kernel_rfl, ?_⟩) bX ?_
              rotate_left
              · intro w' hSw; obtain ⟨c2, c3, c4, c5, c6, c7, c10, d0, t1⟩ := HF.out w' hSw; go_simp; try with_reducible rfl
              try simp only [Act.put, List.setIfInBounds_toArray, List.set_cons_zero, List.set_cons_succ]
              refine takeH 76 (i := 10) (v := ?_) rfl rfl (by kernel_rfl) (by kernel_rfl) (by kernel_rfl) (fun _ _ _ h => h) (Or.inl ⟨by kernel_rfl, ?_⟩) bX ?_
              rotate_left
              · intro w' hSw; obtain ⟨c2, c3, c4, c5, c6, c7, c10, d0, t1⟩ := HF.out w' hSw; go_simp; try with_reducible rfl
              try simp only [Act.put, List.setIfInBounds_toArray, List.set_cons_zero, List.set_cons_succ]
              refine takeH 77 (i := 11) (v := ?_) rfl rfl (by kernel_rfl) (by kernel_rfl) (by kernel_rfl) (fun _ _ _ h => h) (Or.inl ⟨by kernel_rfl, ?_⟩) bX ?_
              rotate_left
              · intro w' hSw; obtain ⟨c2, c3, c4, c5, c6, c7, c10, d0, t1⟩ := HF.out w' hSw; go_simp; try with_reducible rfl
              try simp only [Act.put, List.setIfInBounds_toArray, List.set_cons_zero, List.set_cons_succ]
              refine takeH 78 (i := 12) (v := ?_) rfl rfl (by kernel_rfl) (by kernel_rfl) (by kernel_rfl) (fun _ _ _ h => h) (Or.inl ⟨by kernel_rfl, ?_⟩) bX ?_
              rotate_left
              · intro w' hSw; obtain ⟨c2, c3, c4, c5, c6, c7, c10, d0, t1⟩ := HF.out w' hSw; go_simp; try with_reducible rfl
              try simp only [Act.put, List.setIfInBounds_toArray, List.set_cons_zero, List.set_cons_succ]
              refine takeH 79 (i := 13) (v := ?_) rfl rfl (by kernel_rfl) (by kernel_rfl) (by kernel_rfl) (fun _ _ _ h => h) (Or.inl ⟨by kernel_rfl, ?_⟩) bX ?_
              rotate_left
              · intro w' hSw; obtain ⟨c2, c3, c4, c5, c6, c7, c10, d0, t1⟩ := HF.out w' hSw; go_simp; try with_reducible rfl
              try simp only [Act.put, List.setIfInBounds_toArray, List.set_cons_zero, List.set_cons_succ]
              refine takeH 80 (i := 14) (v := ?_) rfl rfl (by kernel_rfl) (by kernel_rfl) (by kernel_rfl) (fun _ _ _ h => h) (Or.inl ⟨by kernel_rfl, ?_⟩) bX ?_
              rotate_left
              · intro w' hSw; obtain ⟨c2, c3, c4, c5, c6, c7, c10, d0, t1⟩ := HF.out w' hSw; go_simp; try with_reducible rfl
              try simp only [Act.put, List.setIfInBounds_toArray, List.set_cons_zero, List.set_cons_succ]
              refine takeH 81 (i := 15) (v := ?_) rfl rfl (by kernel_rfl) (by kernel_rfl) (by kernel_rfl) (fun _ _ _ h => h) (Or.inl ⟨by kernel_rfl, ?_⟩) bX ?_
              rotate_left
              · intro w' hSw; obtain ⟨c2, c3, c4, c5, c6, c7, c10, d0, t1⟩ := HF.out w' hSw; go_simp; try with_reducible rfl
              try simp only [Act.put, List.setIfInBounds_toArray, List.set_cons_zero, List.set_cons_succ]
              refine takeH 82 (i := 16) (v := ?_) rfl rfl (by kernel_rfl) (by kernel_rfl) (by kernel_rfl) (fun _ _ _ h => h) (Or.inl ⟨by kernel_rfl, ?_⟩) bX ?_
              rotate_left
              · intro w' hSw; obtain ⟨c2, c3, c4, c5, c6, c7, c10, d0, t1⟩ := HF.out w' hSw; go_simp; try with_reducible rfl
              try simp only [Act.put, List.setIfInBounds_toArray, List.set_cons_zero, List.set_cons_succ]
              refine takeH 83 (i := 17) (v := ?_) rfl rfl (by kernel_rfl) (by kernel_rfl) (by kernel_rfl) (fun _ _ _ h => h) (Or.inl ⟨by kernel_rfl, ?_⟩) bX ?_
              rotate_left
              · intro w' hSw; obtain ⟨c2, c3, c4, c5, c6, c7, c10, d0, t1⟩ := HF.out w' hSw; go_simp; try with_reducible rfl
              try simp only [Act.put, List.setIfInBounds_toArray, List.set_cons_zero, List.set_cons_succ]
              refine takeH 84 (i := 18) (v := ?_) rfl rfl (by kernel_rfl) (by kernel_rfl) (by kernel_rfl) (fun _ _ _ h => h) (Or.inl ⟨by kernel_rfl, ?_⟩) bX ?_
              rotate_left
              · intro w' hSw; obtain ⟨c2, c3, c4, c5, c6, c7, c10, d0, t1⟩ := HF.out w' hSw; go_simp; try with_reducible rfl
              try simp only [Act.put, List.setIfInBounds_toArray, List.set_cons_zero, List.set_cons_succ]
              refine takeH 85 (i := 19) (v := ?_) rfl rfl (by kernel_rfl) (by kernel_rfl) (by kernel_rfl) (fun _ _ _ h => h) (Or.inl ⟨by kernel_rfl, ?_⟩) bX ?_
              rotate_left
              · intro w' hSw; obtain ⟨c2, c3, c4, c5, c6, c7, c10, d0, t1⟩ := HF.out w' hSw; go_simp; try with_reducible rfl
              try simp only [Act.put, List.setIfInBounds_toArray, List.set_cons_zero, List.set_cons_succ]
              refine takeH 86 (i := 20) (v := ?_) rfl rfl (by kernel_rfl) (by kernel_rfl) (by kernel_rfl) (fun _ _ _ h => h) (Or.inl ⟨by kernel_rfl, ?_⟩) bX ?_
              rotate_left
              · intro w' hSw; obtain ⟨c2, c3, c4, c5, c6, c7, c10, d0, t1⟩ := HF.out w' hSw; go_simp; try with_reducible rfl
              try simp only [Act.put, List.setIfInBounds_toArray, List.set_cons_zero, List.set_cons_succ]
              refine takeH 87 (i := 21) (v := ?_) rfl rfl (by kernel_rfl) (by kernel_rfl) (by kernel_rfl) (fun _ _ _ h => h) (Or.inl ⟨by kernel_rfl, ?_⟩) bX ?_
              rotate_left
              · intro w' hSw; obtain ⟨c2, c3, c4, c5, c6, c7, c10, d0, t1⟩ := HF.out w' hSw; go_simp; try with_reducible rfl
              try simp only [Act.put, List.setIfInBounds_toArray, List.set_cons_zero, List.set_cons_succ]
              refine takeH 88 (i := 22) (v := ?_) rfl rfl (by kernel_rfl) (by kernel_rfl) (by kernel_rfl) (fun _ _ _ h => h) (Or.inl ⟨by kernel_rfl, ?_⟩) bX ?_
              rotate_left
              · intro w' hSw; obtain ⟨c2, c3, c4, c5, c6, c7, c10, d0, t1⟩ := HF.out w' hSw; go_simp; try with_reducible rfl
              try simp only [Act.put, List.setIfInBounds_toArray, List.set_cons_zero, List.set_cons_succ]
              refine takeH 89 (i := 23) (v := .agg #[.int .i64 (C : Int), .int .i64 (H : Int), .int .i64 (K : Int)]) rfl rfl (by kernel_rfl) (by kernel_rfl) (by kernel_rfl) (fun _ _ _ h => h) (Or.inl ⟨by kernel_rfl, fun w' hS => ex_loadR _ 25 _ rfl (w.heap.size + 1) (by kernel_rfl) w' _ (kept hS Y1.out) _ Try.underlying25 rfl 3 Try.infoShape rfl⟩) bX ?_
              try simp only [Act.put, List.setIfInBounds_toArray, List.set_cons_zero, List.set_cons_succ]
              refine takeH 90 (i := 24) (v := ?_) rfl rfl (by kernel_rfl) (by kernel_rfl) (by kernel_rfl) (fun _ _ _ h => h) (Or.inl ⟨by kernel_rfl, ?_⟩) bX ?_
              rotate_left
              · intro w' hSw; obtain ⟨c2, c3, c4, c5, c6, c7, c10, d0, t1⟩ := HF.out w' hSw; go_simp; try with_reducible rfl
              try simp only [Act.put, List.setIfInBounds_toArray, List.set_cons_zero, List.set_cons_succ]
              refine takeH 91 (i := 25) (v := ?_) rfl rfl (by kernel_rfl) (by kernel_rfl) (by kernel_rfl) (fun _ _ _ h => h) (Or.inl ⟨by kernel_rfl, ?_⟩) bX ?_
              rotate_left
              · intro w' hSw; obtain ⟨c2, c3, c4, c5, c6, c7, c10, d0, t1⟩ := HF.out w' hSw; go_simp; try with_reducible rfl
              try simp only [Act.put, List.setIfInBounds_toArray, List.set_cons_zero, List.set_cons_succ]
              refine takeH 92 (i := 26) (v := ?_) rfl rfl (by kernel_rfl) (by kernel_rfl) (by kernel_rfl) (fun _ _ _ h => h) (Or.inl ⟨by kernel_rfl, ?_⟩) bX ?_
              rotate_left
              · intro w' hSw; obtain ⟨c2, c3, c4, c5, c6, c7, c10, d0, t1⟩ := HF.out w' hSw; go_simp; try with_reducible rfl
              try simp only [Act.put, List.setIfInBounds_toArray, List.set_cons_zero, List.set_cons_succ]
              refine takeH 93 (i := 27) (v := ?_) rfl rfl (by kernel_rfl) (by kernel_rfl) (by kernel_rfl) (fun _ _ _ h => h) (Or.inl ⟨by kernel_rfl, ?_⟩) bX ?_
              rotate_left
              · intro w' hSw; obtain ⟨c2, c3, c4, c5, c6, c7, c10, d0, t1⟩ := HF.out w' hSw; go_simp; try with_reducible rfl
              try simp only [Act.put, List.setIfInBounds_toArray, List.set_cons_zero, List.set_cons_succ]
              refine takeH 94 (i := 28) (v := ?_) rfl rfl (by kernel_rfl) (by kernel_rfl) (by kernel_rfl) (fun _ _ _ h => h) (Or.inl ⟨by kernel_rfl, ?_⟩) bX ?_
              rotate_left
              · intro w' hSw; obtain ⟨c2, c3, c4, c5, c6, c7, c10, d0, t1⟩ := HF.out w' hSw; go_simp; try with_reducible rfl
              try simp only [Act.put, List.setIfInBounds_toArray, List.set_cons_zero, List.set_cons_succ]
              refine takeH 95 (i := 29) (v := ?_) rfl rfl (by kernel_rfl) (by kernel_rfl) (by kernel_rfl) (fun _ _ _ h => h) (Or.inl ⟨by kernel_rfl, ?_⟩) bX ?_
              rotate_left
              · intro w' hSw; obtain ⟨c2, c3, c4, c5, c6, c7, c10, d0, t1⟩ := HF.out w' hSw; go_simp; try with_reducible rfl
              try simp only [Act.put, List.setIfInBounds_toArray, List.set_cons_zero, List.set_cons_succ]
              refine takeH 96 (i := 30) (v := ?_) rfl rfl (by kernel_rfl) (by kernel_rfl) (by kernel_rfl) (fun _ _ _ h => h) (Or.inl ⟨by kernel_rfl, ?_⟩) bX ?_
              rotate_left
              · intro w' hSw; obtain ⟨c2, c3, c4, c5, c6, c7, c10, d0, t1⟩ := HF.out w' hSw; go_simp; try with_reducible rfl
              try simp only [Act.put, List.setIfInBounds_toArray, List.set_cons_zero, List.set_cons_succ]
              refine takeH 97 (i := 31) (v := ?_) rfl rfl (by kernel_rfl) (by kernel_rfl) (by kernel_rfl) (fun _ _ _ h => h) (Or.inl ⟨by kernel_rfl, ?_⟩) bX ?_
              rotate_left
              · intro w' hSw; obtain ⟨c2, c3, c4, c5, c6, c7, c10, d0, t1⟩ := HF.out w' hSw; go_simp; try with_reducible rfl
              try simp only [Act.put, List.setIfInBounds_toArray, List.set_cons_zero, List.set_cons_succ]
              refine takeH 98 (i := 32) (v := ?_) rfl rfl (by kernel_rfl) (by kernel_rfl) (by kernel_rfl) (fun _ _ _ h => h) (Or.inl ⟨by kernel_rfl, ?_⟩) bX ?_
              rotate_left
              · intro w' hSw; obtain ⟨c2, c3, c4, c5, c6, c7, c10, d0, t1⟩ := HF.out w' hSw; go_simp; try with_reducible rfl
              try simp only [Act.put, List.setIfInBounds_toArray, List.set_cons_zero, List.set_cons_succ]
              refine takeH 99 (i := 33) (v := ?_) rfl rfl (by kernel_rfl) (by kernel_rfl) (by kernel_rfl) (fun _ _ _ h => h) (Or.inl ⟨by kernel_rfl, ?_⟩) bX ?_
              rotate_left
              · intro w' hSw; obtain ⟨c2, c3, c4, c5, c6, c7, c10, d0, t1⟩ := HF.out w' hSw; go_simp; try with_reducible rfl
              try simp only [Act.put, List.setIfInBounds_toArray, List.set_cons_zero, List.set_cons_succ]
              refine takeH 100 (i := 34) (v := ?_) rfl rfl (by kernel_rfl) (by kernel_rfl) (by kernel_rfl) (fun _ _ _ h => h) (Or.inl ⟨by kernel_rfl, ?_⟩) bX ?_
              rotate_left
              · intro w' hSw; obtain ⟨c2, c3, c4, c5, c6, c7, c10, d0, t1⟩ := HF.out w' hSw; go_simp; try with_reducible rfl
              try simp only [Act.put, List.setIfInBounds_toArray, List.set_cons_zero, List.set_cons_succ]
              refine takeH 101 (i := 35) (v := ?_) rfl rfl (by kernel_rfl) (by kernel_rfl) (by kernel_rfl) (fun _ _ _ h => h) (Or.inl ⟨by kernel_rfl, ?_⟩) bX ?_
              rotate_left
              · intro w' hSw; obtain ⟨c2, c3, c4, c5, c6, c7, c10, d0, t1⟩ := HF.out w' hSw; go_simp; try with_reducible rfl
              try simp only [Act.put, List.setIfInBounds_toArray, List.set_cons_zero, List.set_cons_succ]
              refine takeH 102 (i := 36) (v := ?_) rfl rfl (by kernel_rfl) (by kernel_rfl) (by kernel_rfl) (fun _ _ _ h => h) (Or.inl ⟨by kernel_rfl, ?_⟩) bX ?_
              rotate_left
              · intro w' hSw; obtain ⟨c2, c3, c4, c5, c6, c7, c10, d0, t1⟩ := HF.out w' hSw; go_simp; try with_reducible rfl
              try simp only [Act.put, List.setIfInBounds_toArray, List.set_cons_zero, List.set_cons_succ]
              refine takeH 103 (i := 37) (v := ?_) rfl rfl (by kernel_rfl) (by kernel_rfl) (by kernel_rfl) (fun _ _ _ h => h) (Or.inl ⟨by kernel_rfl, ?_⟩) bX ?_
              rotate_left
              · intro w' hSw; obtain ⟨c2, c3, c4, c5, c6, c7, c10, d0, t1⟩ := HF.out w' hSw; go_simp; try with_reducible rfl
              try simp only [Act.put, List.setIfInBounds_toArray, List.set_cons_zero, List.set_cons_succ]
              refine takeH 104 (i := 38) (v := ?_) rfl rfl (by kernel_rfl) (by kernel_rfl) (by kernel_rfl) (fun _ _ _ h => h) (Or.inl ⟨by kernel_rfl, ?_⟩) bX ?_
              rotate_left
              · intro w' hSw; obtain ⟨c2, c3, c4, c5, c6, c7, c10, d0, t1⟩ := HF.out w' hSw; go_simp; try with_reducible rfl
              try simp only [Act.put, List.setIfInBounds_toArray, List.set_cons_zero, List.set_cons_succ]
              refine takeH 105 (i := 39) (v := ?_) rfl rfl (by kernel_rfl) (by kernel_rfl) (by kernel_rfl) (fun _ _ _ h => h) (Or.inl ⟨by kernel_rfl, ?_⟩) bX ?_
              rotate_left
              · intro w' hSw; obtain ⟨c2, c3, c4, c5, c6, c7, c10, d0, t1⟩ := HF.out w' hSw; go_simp; try with_reducible rfl
              try simp only [Act.put, List.setIfInBounds_toArray, List.set_cons_zero, List.set_cons_succ]
              refine takeH 106 (i := 40) (v := ?_) rfl rfl (by kernel_rfl) (by kernel_rfl) (by kernel_rfl) (fun _ _ _ h => h) (Or.inl ⟨by kernel_rfl, ?_⟩) bX ?_
              rotate_left
              · intro w' hSw; obtain ⟨c2, c3, c4, c5, c6, c7, c10, d0, t1⟩ := HF.out w' hSw; go_simp; try with_reducible rfl
              try simp only [Act.put, List.setIfInBounds_toArray, List.set_cons_zero, List.set_cons_succ]
              refine takeH 107 (i := 41) (v := ?_) rfl rfl (by kernel_rfl) (by kernel_rfl) (by kernel_rfl) (fun _ _ _ h => h) (Or.inl ⟨by kernel_rfl, ?_⟩) bX ?_
              rotate_left
              · intro w' hSw; obtain ⟨c2, c3, c4, c5, c6, c7, c10, d0, t1⟩ := HF.out w' hSw; go_simp; try with_reducible rfl
              try simp only [Act.put, List.setIfInBounds_toArray, List.set_cons_zero, List.set_cons_succ]
              refine takeH 108 (i := 42) (v := ?_) rfl rfl (by kernel_rfl) (by kernel_rfl) (by kernel_rfl) (fun _ _ _ h => h) (Or.inl ⟨by kernel_rfl, ?_⟩) bX ?_
              rotate_left
              · intro w' hSw; obtain ⟨c2, c3, c4, c5, c6, c7, c10, d0, t1⟩ := HF.out w' hSw; go_simp; try with_reducible rfl
              try simp only [Act.put, List.setIfInBounds_toArray, List.set_cons_zero, List.set_cons_succ]
              refine wpAnyH_ready (rs := [43]) (by kernel_rfl) (by simp) ?_
              refine consH _ rfl (hopCd 109 rfl (by kernel_rfl) rfl (by kernel_rfl) (Calls.mono (HBB.out _ (HRW.out.later bX)) ?_)) AllReadyH.nil
              rintro e w5 ⟨rfl, hb5⟩
              have b5 : Below W.heap.size W w5 := to_call bX hb5
              refine ⟨_, rfl, b5, ?_⟩
              try simp only [Act.put, List.setIfInBounds_toArray, List.set_cons_zero, List.set_cons_succ]
              refine takeH 110 (i := 44) (v := ?_) rfl rfl (by kernel_rfl) (by kernel_rfl) (by kernel_rfl) (fun _ _ _ h => h) (Or.inl ⟨by kernel_rfl, ?_⟩) b5 ?_
              rotate_left
              · intro w' hSw; skip; go_simp; try with_reducible rfl
              try simp only [Act.put, List.setIfInBounds_toArray, List.set_cons_zero, List.set_cons_succ]
              refine takeH 111 (i := 45) (v := ?_) rfl rfl (by kernel_rfl) (by kernel_rfl) (by kernel_rfl) (fun _ _ _ h => h) (Or.inl ⟨by kernel_rfl, ?_⟩) b5 ?_
              rotate_left
              · intro w' hSw; skip; go_simp; try with_reducible rfl
              try simp only [Act.put, List.setIfInBounds_toArray, List.set_cons_zero, List.set_cons_succ]
              refine takeH 13 (i := 46) (v := ?_) rfl rfl (by kernel_rfl) (by kernel_rfl) (by kernel_rfl) (fun _ _ _ h => h) (Or.inl ⟨by kernel_rfl, ?_⟩) b5 ?_
              rotate_left
              · intro w' hSw; skip; go_simp; try with_reducible rfl
              try simp only [Act.put, List.setIfInBounds_toArray, List.set_cons_zero, List.set_cons_succ]
              refine wpAnyH_done (by kernel_rfl) ?_ _
              refine NoPanic.normal ?_
              try simp only [Act.put, List.setIfInBounds_toArray, List.set_cons_zero, List.set_cons_succ]
              have HB5 : Hid (Below W.heap.size W w5) := b5
              clear e1 e2 e3 e4 b5 bX hb5 HF HBB HRW hcv q0 q1 p1 p2 p3 p4 p5 p6 p7 p8 p9 p10 HB d0
              go_wp2_with fail
              go_roundg g3
              case measure => omega
              case rel => exact ⟨c + 1, s', rfl, by go_num, by have := HC.out; omega, HE, HB5⟩
            · obtain rfl : C = c := by omega
              have hd : decide ((C : Int) < (C : Int)) = false := decide_eq_false (by omega)
              have hw1 : IntKind.i64.wrap ((q : Int) + 1) = (q : Int) + 1 := by have := HDM.out; have := HQ.out; exact wrI (by omega)
              have hw2 : wrap64 ((q : Int) + 1) = (q : Int) + 1 := by have := HDM.out; have := HQ.out; exact wr6 (by omega)
              clear hlt hc
              go_wp2_with fail
              go_roundg g2
              case measure => omega
              case rel => exact ⟨q + 1, s3, rfl, by go_num, by have := HQ.out; omega, by have := HS3.out; unfold Hid; rw [this, Int.add_assoc]; rfl, HB⟩
        · obtain rfl : KW = q := by omega
          have hd : decide ((KW : Int) < (KW : Int)) = false := decide_eq_false (by omega)
          have hw1 : IntKind.i64.wrap ((p : Int) + 1) = (p : Int) + 1 := by have := HDM.out; have := HP.out; exact wrI (by omega)
          have hw2 : wrap64 ((p : Int) + 1) = (p : Int) + 1 := by have := HDM.out; have := HP.out; exact wr6 (by omega)
          clear hlt hq
          go_wp2_with fail
          go_roundg g
          case measure => omega
          case rel => exact ⟨p + 1, s2, rfl, by go_num, by have := HP.out; omega, HS2, HB⟩
    · obtain rfl : KH = p := by omega
      have hd : decide ((KH : Int) < (KH : Int)) = false := decide_eq_false (by omega)
      have l0 := cellAt (kept HB.out Y0.out) 0 (.int .i64 2) rfl
      rcases (HV.out.later X0.out).cells with h0 | ⟨b2, off2, rfl, hc2⟩
      · exact absurd h0 (by have := HSD.out; omega)
      have t2' := hc2 f HSD.out
      rw [bL_at seed HSD.out] at t2'
      obtain ⟨b, hb⟩ : ∃ b, smallZ seed (5 * (f : Int) + 1) = b := ⟨_, rfl⟩
      rw [hb] at t2'
      have hbb : -9 ≤ b ∧ b ≤ 9 := hb ▸ smallZ_bd _ _
      have hcv := back_conv hbb
      have l11 := cellAt (kept HB.out Y0.out) 11 (.slice (some ⟨b2, off2, none⟩) o bc) rfl
      have t2 : wr.cell? ⟨b2, off2 + f, none⟩ = some (.float .f64 (flZ b)) := by rw [HB.out.cell (p := ⟨b2, off2 + f, none⟩) (World.block_lt_of_cell? _ _ t2')]; exact t2'
      have f0 : (0 : Int) ≤ (f : Int) := by omega
      have f1 : (f : Int) < (o : Int) := by have := HSD.out; omega
      obtain ⟨s', hs'⟩ : ∃ s', s + b = s' := ⟨_, rfl⟩
      have hsb := HBD.out.2.2 KH (Nat.le_refl _)
      rw [← HS.out] at hsb
      have p10 : IntKind.i64.wrap (s + b) = s' := by rw [hs']; exact wrI (by omega)
      have HE : Hid (win2Z seed vs C H K KH KW f y0 x0 = s') := by unfold Hid win2Z; rw [hb, ← hs', HS.out]
      clear hlt hp hs' hsb hbb hb t2' hc2
      go_wp2_with fail
      go_ret
      exact ⟨by rw [HE.out]; rfl, to_call X0.out HB.out⟩
def wmZ (a : Int) (vs : List Int) (H K f : Nat) (y0 x0 : Int) (p q : Nat) : Int := a * atZ vs H K (f : Int) (y0 + (p : Int)) (x0 + (q : Int))
theorem wmZ_bd {a : Int} (ha : -9 ≤ a ∧ a ≤ 9) {vs : List Int} (hv : ∀ j : Nat, -9 ≤ vs[j]?.getD 0 ∧ vs[j]?.getD 0 ≤ 9) (H K f : Nat) (y0 x0 : Int) (p q : Nat) : (wmZ a vs H K f y0 x0 p q).natAbs ≤ 81 := by
  have := mul_small ha (atZ_bd hv H K (f : Int) (y0 + (p : Int)) (x0 + (q : Int)))
  unfold wmZ
  omega
/-- .. of a mean. -/
def win4Z (a : Int) (vs : List Int) (H K KH KW f : Nat) (y0 x0 : Int) : Int := Sg (fun p => Sg (wmZ a vs H K f y0 x0 p) KW) KH
set_option maxRecDepth 100000 in
set_option maxHeartbeats 8000000 in
theorem window4_any (C H K KH KW SH SW PH PW n f y x : Nat) (AV : Nat) (a : Int) (hAV : AV = flZ a) (ha : -9 ≤ a ∧ a ≤ 9) (nw nb : Nat) (hf : f < C) (hn : C * H * K = n) (hC : C ≤ 256) (hH : H ≤ 256) (hK : K ≤ 256) (hKH : KH ≤ 16) (hKW : KW ≤ 16) (ys xs y0 x0 : Int) (e1 : IntKind.i64.wrap ((y : Int) * (SH : Int)) = ys) (e2 : IntKind.i64.wrap (ys - (PH : Int)) = y0) (e3 : IntKind.i64.wrap ((x : Int) * (SW : Int)) = xs) (e4 : IntKind.i64.wrap (xs - (PW : Int)) = x0) (hy0 : -5000 ≤ y0 ∧ y0 ≤ 5000) (hx0 : -5000 ≤ x0 ∧ x0 ≤ 5000) (wo bo zo yo ao : Option Addr) (wc bc zc yc nz ny cap : Nat) (vs : List Int) (hv : ∀ j : Nat, -9 ≤ vs[j]?.getD 0 ∧ vs[j]?.getD 0 ≤ 9) (w : World)
    (hR : RdIn w ao n cap vs) :
    Calls Try.prog 19 #[.agg #[.int .i64 4, .int .i64 0, .int .i64 (KH : Int), .int .i64 (KW : Int), .int .i64 (SH : Int), .int .i64 (SW : Int), .int .i64 (PH : Int), .int .i64 (PW : Int), .int .i64 0, .float .f64 AV, .slice wo nw wc, .slice bo nb bc, .slice zo nz zc, .slice yo ny yc], .agg #[.int .i64 (C : Int), .int .i64 (H : Int), .int .i64 (K : Int)], .slice ao n cap, .int .i64 (f : Int), .int .i64 (y : Int), .int .i64 (x : Int)] w fun e w' => e = .returned (.int .i64 (win4Z a vs H K KH KW f y0 x0)) ∧ Below w.heap.size w w' := by
  have HR : Hid _ := hR
  have HE0 : Hid (IntKind.i64.wrap ((y : Int) * (SH : Int)) = ys ∧ IntKind.i64.wrap (ys - (PH : Int)) = y0 ∧ IntKind.i64.wrap ((x : Int) * (SW : Int)) = xs ∧ IntKind.i64.wrap (xs - (PW : Int)) = x0) := ⟨e1, e2, e3, e4⟩
  clear e1 e2 e3 e4
  have HVS : Hid (∀ j : Nat, -9 ≤ vs[j]?.getD 0 ∧ vs[j]?.getD 0 ≤ 9) := hv
  have HDM : Hid (KH ≤ 16 ∧ KW ≤ 16 ∧ C ≤ 256 ∧ (-5000 ≤ y0 ∧ y0 ≤ 5000) ∧ (-5000 ≤ x0 ∧ x0 ≤ 5000)) := ⟨hKH, hKW, hC, hy0, hx0⟩
  have HAT : Hid (∀ (c : Nat), c < C → ∀ y x : Int, (-10000 ≤ y ∧ y ≤ 10000) → (-10000 ≤ x ∧ x ≤ 10000) → ∀ w, RdIn w ao n cap vs → _) := fun c hc y x hy hx w hR => at_W hn hC hH hK ao vs c hc y x hy hx w hR
  have hcb : ∀ p q, (wmZ a vs H K f y0 x0 p q).natAbs ≤ 81 := wmZ_bd ha hv H K f y0 x0
  have HBD : Hid ((∀ p q, q ≤ KW → (Sg (wmZ a vs H K f y0 x0 p) q).natAbs ≤ 1296) ∧ ∀ p, p ≤ KH → (Sg (fun p => Sg (wmZ a vs H K f y0 x0 p) KW) p).natAbs ≤ 20736) := by
    have a2 : ∀ p q, q ≤ KW → (Sg (wmZ a vs H K f y0 x0 p) q).natAbs ≤ 1296 := fun p q h => Sg_bd 81 (hcb p) 16 q (by omega)
    exact ⟨a2, fun p h => Sg_bd 1296 (fun p => a2 p KW (Nat.le_refl _)) 16 p (by omega)⟩
  have HSD : Hid (f < C ∧ -9 ≤ a ∧ a ≤ 9) := ⟨hf, ha⟩
  subst hAV
  clear hcb hR ha
  clear hv hf hn hC hH hK hKH hKW hy0 hx0
  have X0 : Hid (Below w.heap.size w ((w.alloc (.cells #[.int .i64 4, .int .i64 0, .int .i64 (KH : Int), .int .i64 (KW : Int), .int .i64 (SH : Int), .int .i64 (SW : Int), .int .i64 (PH : Int), .int .i64 (PW : Int), .int .i64 0, .float .f64 (flZ a), .slice wo nw wc, .slice bo nb bc, .slice zo nz zc, .slice yo ny yc] 30)).alloc (.cells #[.int .i64 (C : Int), .int .i64 (H : Int), .int .i64 (K : Int)] 25))) := ((Below.refl _ w).alloc (Nat.le_refl _) _).alloc (by simp only [alloc_size]; omega) _
  have Y0 : Hid (((w.alloc (.cells #[.int .i64 4, .int .i64 0, .int .i64 (KH : Int), .int .i64 (KW : Int), .int .i64 (SH : Int), .int .i64 (SW : Int), .int .i64 (PH : Int), .int .i64 (PW : Int), .int .i64 0, .float .f64 (flZ a), .slice wo nw wc, .slice bo nb bc, .slice zo nz zc, .slice yo ny yc] 30)).alloc (.cells #[.int .i64 (C : Int), .int .i64 (H : Int), .int .i64 (K : Int)] 25)).heap[w.heap.size]? = some (.cells #[.int .i64 4, .int .i64 0, .int .i64 (KH : Int), .int .i64 (KW : Int), .int .i64 (SH : Int), .int .i64 (SW : Int), .int .i64 (PH : Int), .int .i64 (PW : Int), .int .i64 0, .float .f64 (flZ a), .slice wo nw wc, .slice bo nb bc, .slice zo nz zc, .slice yo ny yc] 30)) := alloc_kept (heap_alloc_new w _) _
  have Y1 : Hid (((w.alloc (.cells #[.int .i64 4, .int .i64 0, .int .i64 (KH : Int), .int .i64 (KW : Int), .int .i64 (SH : Int), .int .i64 (SW : Int), .int .i64 (PH : Int), .int .i64 (PW : Int), .int .i64 0, .float .f64 (flZ a), .slice wo nw wc, .slice bo nb bc, .slice zo nz zc, .slice yo ny yc] 30)).alloc (.cells #[.int .i64 (C : Int), .int .i64 (H : Int), .int .i64 (K : Int)] 25)).heap[w.heap.size + 1]? = some (.cells #[.int .i64 (C : Int), .int .i64 (H : Int), .int .i64 (K : Int)] 25)) := heap_at _ _ (w.heap.size + 1) (by simp only [alloc_size])
  go_enter Try.func19, Try.ntmps19
  go_upto_region 1 with fail
  generalize (w.alloc (.cells #[.int .i64 4, .int .i64 0, .int .i64 (KH : Int), .int .i64 (KW : Int), .int .i64 (SH : Int), .int .i64 (SW : Int), .int .i64 (PH : Int), .int .i64 (PW : Int), .int .i64 0, .float .f64 (flZ a), .slice wo nw wc, .slice bo nb bc, .slice zo nz zc, .slice yo ny yc] 30)).alloc (.cells #[.int .i64 (C : Int), .int .i64 (H : Int), .int .i64 (K : Int)] 25) = W at X0 Y0 Y1 ⊢
  go_wp2_with fail
  go_loopg [13, 14] KH (fun g sv v wx => ∃ (p : Nat) (s : Int), sv = .int .i64 s ∧ v = .int .i64 p ∧ p + g = KH ∧ Hid (s = Sg (fun p => Sg (wmZ a vs H K f y0 x0 p) KW) p) ∧ Hid (Below W.heap.size W wx))
  case atStart => exact ⟨0, 0, rfl, rfl, by omega, rfl, Below.refl _ _⟩
  case round =>
    obtain ⟨p, s, rfl, rfl, hp, HS, HB⟩ := hrel
    have l2 := cellAt (kept HB.out Y0.out) 2 (.int .i64 (KH : Int)) rfl
    by_cases hlt : p < KH
    · obtain ⟨g, rfl⟩ : ∃ g, gk = g + 1 := ⟨gk - 1, by omega⟩
      have HP : Hid (p < KH ∧ p + (g + 1) = KH) := ⟨hlt, hp⟩
      have hd : decide ((p : Int) < (KH : Int)) = true := decide_eq_true (by omega)
      clear hp
      go_wp2_with fail
      clear l2 hd hlt
      go_loopg [13, 15] KW (fun g sv v wx => ∃ (q : Nat) (s2 : Int), sv = .int .i64 s2 ∧ v = .int .i64 q ∧ q + g = KW ∧ Hid (s2 = Sg (fun p => Sg (wmZ a vs H K f y0 x0 p) KW) p + Sg (wmZ a vs H K f y0 x0 p) q) ∧ Hid (Below W.heap.size W wx))
      case atStart => exact ⟨0, s, rfl, rfl, by omega, by have := HS.out; unfold Hid; rw [this]; exact (Int.add_zero _).symm, HB.out⟩
      case round =>
        clear HB
        obtain ⟨q, s2, rfl, rfl, hq, HS2, HB⟩ := hrel
        have l3 := cellAt (kept HB.out Y0.out) 3 (.int .i64 (KW : Int)) rfl
        by_cases hlt : q < KW
        · obtain ⟨g2, rfl⟩ : ∃ g2, gk = g2 + 1 := ⟨gk - 1, by omega⟩
          have HQ : Hid (q < KW ∧ q + (g2 + 1) = KW) := ⟨hlt, hq⟩
          have hd : decide ((q : Int) < (KW : Int)) = true := decide_eq_true (by omega)
          have l0 := cellAt (kept HB.out Y0.out) 0 (.int .i64 4) rfl
          clear hq
          have bc1 : -20000000 ≤ (q : Int) + 1 ∧ (q : Int) + 1 ≤ 20000000 := by have := HDM.out; have := HQ.out; omega
          obtain ⟨yp, hyp⟩ : ∃ yp, y0 + (p : Int) = yp := ⟨_, rfl⟩
          obtain ⟨xq, hxq⟩ : ∃ xq, x0 + (q : Int) = xq := ⟨_, rfl⟩
          have hb1 : -10000 ≤ yp ∧ yp ≤ 10000 := by have := HP.out; have := HDM.out; omega
          have hb2 : -10000 ≤ xq ∧ xq ≤ 10000 := by have := HQ.out; have := HDM.out; omega
          obtain ⟨b, hb⟩ : ∃ b, atZ vs H K (f : Int) yp xq = b := ⟨_, rfl⟩
          have hzb : -9 ≤ a ∧ a ≤ 9 := HSD.out.2
          have hbb : -9 ≤ b ∧ b ≤ 9 := hb ▸ atZ_bd HVS.out _ _ _ _ _
          have hzc := mul_small hzb hbb
          obtain ⟨zb, hzbe⟩ : ∃ zb, a * b = zb := ⟨_, rfl⟩
          rw [hzbe] at hzc
          obtain ⟨s', hs'⟩ : ∃ s', s2 + zb = s' := ⟨_, rfl⟩
          have HE : Hid (s' = Sg (fun p => Sg (wmZ a vs H K f y0 x0 p) KW) p + Sg (wmZ a vs H K f y0 x0 p) (q + 1)) := by
            have h1 : Sg (wmZ a vs H K f y0 x0 p) (q + 1) = Sg (wmZ a vs H K f y0 x0 p) q + zb := by
              show Sg (wmZ a vs H K f y0 x0 p) q + wmZ a vs H K f y0 x0 p q = _
              unfold wmZ
              rw [hyp, hxq, hb, hzbe]
            unfold Hid
            rw [h1, ← hs', HS2.out, Int.add_assoc _ _ zb]
          have hsb : -10000000 ≤ s2 ∧ s2 ≤ 10000000 := by
            have b2 := HBD.out.1 p q (by have := HQ.out; omega)
            have b3 := HBD.out.2 p (by have := HP.out; omega)
            rw [HS2.out]
            omega
          have b7 : -20000000 ≤ yp ∧ yp ≤ 20000000 := by omega
          have b8 : -20000000 ≤ xq ∧ xq ≤ 20000000 := by omega
          have b9 : -20000000 ≤ zb ∧ zb ≤ 20000000 := by omega
          have b10 : -20000000 ≤ s' ∧ s' ≤ 20000000 := by omega
          have hcv := back_conv hzb
          have HF : Hid (∀ w', Below W.heap.size W w' → (w'.cell? ⟨w.heap.size, 9, none⟩ = some (.float .f64 (flZ a)) ∧ w'.cell? ⟨w.heap.size, 4, none⟩ = some (.int .i64 (SH : Int)) ∧ w'.cell? ⟨w.heap.size, 5, none⟩ = some (.int .i64 (SW : Int)) ∧ w'.cell? ⟨w.heap.size, 6, none⟩ = some (.int .i64 (PH : Int)) ∧ w'.cell? ⟨w.heap.size, 7, none⟩ = some (.int .i64 (PW : Int)))) := fun w' hb => by
            have hY := kept hb Y0.out
            exact ⟨cellAt hY 9 _ rfl, cellAt hY 4 _ rfl, cellAt hY 5 _ rfl, cellAt hY 6 _ rfl, cellAt hY 7 _ rfl⟩
          have p7 : IntKind.i64.wrap (y0 + (p : Int)) = yp := by rw [hyp]; exact wrI b7
          have p8 : IntKind.i64.wrap (x0 + (q : Int)) = xq := by rw [hxq]; exact wrI b8
          have p9 : IntKind.i64.wrap (a * b) = zb := by rw [hzbe]; exact wrI b9
          have p10 : IntKind.i64.wrap (s2 + zb) = s' := by rw [hs']; exact wrI b10
          have HBB : Hid (∀ w', RdIn w' ao n cap vs → _) := fun w' hR => HAT.out f HSD.out.1 yp xq hb1 hb2 w' hR
          rw [hb] at HBB
          have HRW : Hid (RdIn W ao n cap vs) := HR.out.later X0.out
          have hw1 := wrI bc1
          have hw2 := wr6 bc1
          obtain ⟨e1, e2, e3, e4⟩ := HE0.out
          clear b7 b8 b9 b10 bc1 hzb hbb hzc hsb hb1 hb2 hs' hzbe hb hyp hxq
          go_upto_region 9 with fail
          clear hd l0 l3 hlt
          have bX : Below W.heap.size W wr.drew := HB.out.drew
          refine wp_region_noPanic ?_
          refine wp_region_held_drew (S := (fun W' => Below W.heap.size W W')) (by kernel_rfl) bX (fun _ => ?_)
          refine takeH 32 (i := 0) (v := ?_) rfl rfl (by kernel_rfl) (by kernel_rfl) (by kernel_rfl) (fun _ _ _ h => h) (Or.inl ⟨by kernel_rfl, ?_⟩) bX ?_
          rotate_left
          · intro w' hSw; obtain ⟨c9, c4, c5, c6, c7⟩ := HF.out w' hSw; go_simp; try with_reducible rfl
          try simp only [Act.put, List.setIfInBounds_toArray, List.set_cons_zero, List.set_cons_succ]
          refine takeH 33 (i := 1) (v := ?_) rfl rfl (by kernel_rfl) (by kernel_rfl) (by kernel_rfl) (fun _ _ _ h => h) (Or.inl ⟨by kernel_rfl, ?_⟩) bX ?_
          rotate_left
          · intro w' hSw; obtain ⟨c9, c4, c5, c6, c7⟩ := HF.out w' hSw; go_simp; try with_reducible rfl
          try simp only [Act.put, List.setIfInBounds_toArray, List.set_cons_zero, List.set_cons_succ]
          refine takeH 34 (i := 2) (v := ?_) rfl rfl (by kernel_rfl) (by kernel_rfl) (by kernel_rfl) (fun _ _ _ h => h) (Or.inl ⟨by kernel_rfl, ?_⟩) bX ?_
          rotate_left
          · intro w' hSw; obtain ⟨c9, c4, c5, c6, c7⟩ := HF.out w' hSw; go_simp; try with_reducible rfl
          try simp only [Act.put, List.setIfInBounds_toArray, List.set_cons_zero, List.set_cons_succ]
          refine takeH 35 (i := 3) (v := ?_) rfl rfl (by kernel_rfl) (by kernel_rfl) (by kernel_rfl) (fun _ _ _ h => h) (Or.inl ⟨by kernel_rfl, ?_⟩) bX ?_
          rotate_left
          · intro w' hSw; obtain ⟨c9, c4, c5, c6, c7⟩ := HF.out w' hSw; go_simp; try with_reducible rfl
          try simp only [Act.put, List.setIfInBounds_toArray, List.set_cons_zero, List.set_cons_succ]
          refine takeH 36 (i := 4) (v := ?_) rfl rfl (by kernel_rfl) (by kernel_rfl) (by kernel_rfl) (fun _ _ _ h => h) (Or.inl ⟨by kernel_rfl, ?_⟩) bX ?_
          rotate_left
          · intro w' hSw; obtain ⟨c9, c4, c5, c6, c7⟩ := HF.out w' hSw; go_simp; try with_reducible rfl
          try simp only [Act.put, List.setIfInBounds_toArray, List.set_cons_zero, List.set_cons_succ]
          refine takeH 37 (i := 5) (v := .agg #[.int .i64 (C : Int), .int .i64 (H : Int), .int .i64 (K : Int)]) rfl rfl (by kernel_rfl) (by kernel_rfl) (by kernel_rfl) (fun _ _ _ h => h) (Or.inl ⟨by kernel_rfl, fun w' hS => ex_loadR _ 25 _ rfl (w.heap.size + 1) (by kernel_rfl) w' _ (kept hS Y1.out) _ Try.underlying25 rfl 3 Try.infoShape rfl⟩) bX ?_
          try simp only [Act.put, List.setIfInBounds_toArray, List.set_cons_zero, List.set_cons_succ]
          refine takeH 38 (i := 6) (v := ?_) rfl rfl (by kernel_rfl) (by kernel_rfl) (by kernel_rfl) (fun _ _ _ h => h) (Or.inl ⟨by kernel_rfl, ?_⟩) bX ?_
          rotate_left
          · intro w' hSw; obtain ⟨c9, c4, c5, c6, c7⟩ := HF.out w' hSw; go_simp; try with_reducible rfl
          try simp only [Act.put, List.setIfInBounds_toArray, List.set_cons_zero, List.set_cons_succ]
          refine takeH 39 (i := 7) (v := ?_) rfl rfl (by kernel_rfl) (by kernel_rfl) (by kernel_rfl) (fun _ _ _ h => h) (Or.inl ⟨by kernel_rfl, ?_⟩) bX ?_
          rotate_left
          · intro w' hSw; obtain ⟨c9, c4, c5, c6, c7⟩ := HF.out w' hSw; go_simp; try with_reducible rfl
          try simp only [Act.put, List.setIfInBounds_toArray, List.set_cons_zero, List.set_cons_succ]
          refine takeH 40 (i := 8) (v := ?_) rfl rfl (by kernel_rfl) (by kernel_rfl) (by kernel_rfl) (fun _ _ _ h => h) (Or.inl ⟨by kernel_rfl, ?_⟩) bX ?_
          rotate_left
          · intro w' hSw; obtain ⟨c9, c4, c5, c6, c7⟩ := HF.out w' hSw; go_simp; try with_reducible rfl
          try simp only [Act.put, List.setIfInBounds_toArray, List.set_cons_zero, List.set_cons_succ]
          refine takeH 41 (i := 9) (v := ?_) rfl rfl (by kernel_rfl) (by kernel_rfl) (by kernel_rfl) (fun _ _ _ h => h) (Or.inl ⟨by kernel_rfl, ?_⟩) bX ?_
          rotate_left
          · intro w' hSw; obtain ⟨c9, c4, c5, c6, c7⟩ := HF.out w' hSw; go_simp; try with_reducible rfl
          try simp only [Act.put, List.setIfInBounds_toArray, List.set_cons_zero, List.set_cons_succ]
          refine takeH 42 (i := 10) (v := ?_) rfl rfl (by kernel_rfl) (by kernel_rfl) (by kernel_rfl) (fun _ _ _ h => h) (Or.inl ⟨by kernel_rfl, ?_⟩) bX ?_
          rotate_left
          · intro w' hSw; obtain ⟨c9, c4, c5, c6, c7⟩ := HF.out w' hSw; go_simp; try with_reducible rfl
          try simp only [Act.put, List.setIfInBounds_toArray, List.set_cons_zero, List.set_cons_succ]
          refine takeH 43 (i := 11) (v := ?_) rfl rfl (by kernel_rfl) (by kernel_rfl) (by kernel_rfl) (fun _ _ _ h => h) (Or.inl ⟨by kernel_rfl, ?_⟩) bX ?_
          rotate_left
          · intro w' hSw; obtain ⟨c9, c4, c5, c6, c7⟩ := HF.out w' hSw; go_simp; try with_reducible rfl
          try simp only [Act.put, List.setIfInBounds_toArray, List.set_cons_zero, List.set_cons_succ]
          refine takeH 44 (i := 12) (v := ?_) rfl rfl (by kernel_rfl) (by kernel_rfl) (by kernel_rfl) (fun _ _ _ h => h) (Or.inl ⟨by kernel_rfl, ?_⟩) bX ?_
          rotate_left
          · intro w' hSw; obtain ⟨c9, c4, c5, c6, c7⟩ := HF.out w' hSw; go_simp; try with_reducible rfl
          try simp only [Act.put, List.setIfInBounds_toArray, List.set_cons_zero, List.set_cons_succ]
          refine takeH 45 (i := 13) (v := ?_) rfl rfl (by kernel_rfl) (by kernel_rfl) (by kernel_rfl) (fun _ _ _ h => h) (Or.inl ⟨by kernel_rfl, ?_⟩) bX ?_
          rotate_left
          · intro w' hSw; obtain ⟨c9, c4, c5, c6, c7⟩ := HF.out w' hSw; go_simp; try with_reducible rfl
          try simp only [Act.put, List.setIfInBounds_toArray, List.set_cons_zero, List.set_cons_succ]
          refine takeH 46 (i := 14) (v := ?_) rfl rfl (by kernel_rfl) (by kernel_rfl) (by kernel_rfl) (fun _ _ _ h => h) (Or.inl ⟨by kernel_rfl, ?_⟩) bX ?_
          rotate_left
          · intro w' hSw; obtain ⟨c9, c4, c5, c6, c7⟩ := HF.out w' hSw; go_simp; try with_reducible rfl
          try simp only [Act.put, List.setIfInBounds_toArray, List.set_cons_zero, List.set_cons_succ]
          refine takeH 47 (i := 15) (v := ?_) rfl rfl (by kernel_rfl) (by kernel_rfl) (by kernel_rfl) (fun _ _ _ h => h) (Or.inl ⟨by kernel_rfl, ?_⟩) bX ?_
          rotate_left
          · intro w' hSw; obtain ⟨c9, c4, c5, c6, c7⟩ := HF.out w' hSw; go_simp; try with_reducible rfl
          try simp only [Act.put, List.setIfInBounds_toArray, List.set_cons_zero, List.set_cons_succ]
          refine takeH 48 (i := 16) (v := ?_) rfl rfl (by kernel_rfl) (by kernel_rfl) (by kernel_rfl) (fun _ _ _ h => h) (Or.inl ⟨by kernel_rfl, ?_⟩) bX ?_
          rotate_left
          · intro w' hSw; obtain ⟨c9, c4, c5, c6, c7⟩ := HF.out w' hSw; go_simp; try with_reducible rfl
          try simp only [Act.put, List.setIfInBounds_toArray, List.set_cons_zero, List.set_cons_succ]
          refine takeH 49 (i := 17) (v := ?_) rfl rfl (by kernel_rfl) (by kernel_rfl) (by kernel_rfl) (fun _ _ _ h => h) (Or.inl ⟨by kernel_rfl, ?_⟩) bX ?_
          rotate_left
          · intro w' hSw; obtain ⟨c9, c4, c5, c6, c7⟩ := HF.out w' hSw; go_simp; try with_reducible rfl
          try simp only [Act.put, List.setIfInBounds_toArray, List.set_cons_zero, List.set_cons_succ]
          refine takeH 50 (i := 18) (v := ?_) rfl rfl (by kernel_rfl) (by kernel_rfl) (by kernel_rfl) (fun _ _ _ h => h) (Or.inl ⟨by kernel_rfl, ?_⟩) bX ?_
          rotate_left
          · intro w' hSw; obtain ⟨c9, c4, c5, c6, c7⟩ := HF.out w' hSw; go_simp; try with_reducible rfl
          try simp only [Act.put, List.setIfInBounds_toArray, List.set_cons_zero, List.set_cons_succ]
          refine takeH 51 (i := 19) (v := ?_) rfl rfl (by kernel_rfl) (by kernel_rfl) (by kernel_rfl) (fun _ _ _ h => h) (Or.inl ⟨by kernel_rfl, ?_⟩) bX ?_
          rotate_left
          · intro w' hSw; obtain ⟨c9, c4, c5, c6, c7⟩ := HF.out w' hSw; go_simp; try with_reducible rfl
          try simp only [Act.put, List.setIfInBounds_toArray, List.set_cons_zero, List.set_cons_succ]
          refine takeH 52 (i := 20) (v := ?_) rfl rfl (by kernel_rfl) (by kernel_rfl) (by kernel_rfl) (fun _ _ _ h => h) (Or.inl ⟨by kernel_rfl, ?_⟩) bX ?_
          rotate_left
          · intro w' hSw; obtain ⟨c9, c4, c5, c6, c7⟩ := HF.out w' hSw; go_simp; try with_reducible rfl
          try simp only [Act.put, List.setIfInBounds_toArray, List.set_cons_zero, List.set_cons_succ]
          refine takeH 53 (i := 21) (v := ?_) rfl rfl (by kernel_rfl) (by kernel_rfl) (by kernel_rfl) (fun _ _ _ h => h) (Or.inl ⟨by kernel_rfl, ?_⟩) bX ?_
          rotate_left
          · intro w' hSw; obtain ⟨c9, c4, c5, c6, c7⟩ := HF.out w' hSw; go_simp; try with_reducible rfl
          try simp only [Act.put, List.setIfInBounds_toArray, List.set_cons_zero, List.set_cons_succ]
          refine takeH 54 (i := 22) (v := ?_) rfl rfl (by kernel_rfl) (by kernel_rfl) (by kernel_rfl) (fun _ _ _ h => h) (Or.inl ⟨by kernel_rfl, ?_⟩) bX ?_
          rotate_left
          · intro w' hSw; obtain ⟨c9, c4, c5, c6, c7⟩ := HF.out w' hSw; go_simp; try with_reducible rfl
          try simp only [Act.put, List.setIfInBounds_toArray, List.set_cons_zero, List.set_cons_succ]
          refine takeH 55 (i := 23) (v := ?_) rfl rfl (by kernel_rfl) (by kernel_rfl) (by kernel_rfl) (fun _ _ _ h => h) (Or.inl ⟨by kernel_rfl, ?_⟩) bX ?_
          rotate_left
          · intro w' hSw; obtain ⟨c9, c4, c5, c6, c7⟩ := HF.out w' hSw; go_simp; try with_reducible rfl
          try simp only [Act.put, List.setIfInBounds_toArray, List.set_cons_zero, List.set_cons_succ]
          refine takeH 56 (i := 24) (v := ?_) rfl rfl (by kernel_rfl) (by kernel_rfl) (by kernel_rfl) (fun _ _ _ h => h) (Or.inl ⟨by kernel_rfl, ?_⟩) bX ?_
          rotate_left
          · intro w' hSw; obtain ⟨c9, c4, c5, c6, c7⟩ := HF.out w' hSw; go_simp; try with_reducible rfl
          try simp only [Act.put, List.setIfInBounds_toArray, List.set_cons_zero, List.set_cons_succ]
          refine wpAnyH_ready (rs := [25]) (by kernel_rfl) (by simp) ?_
          refine consH _ rfl (hopCd 57 rfl (by kernel_rfl) rfl (by kernel_rfl) (Calls.mono (HBB.out _ (HRW.out.later bX)) ?_)) AllReadyH.nil
          rintro e w5 ⟨rfl, hb5⟩
          have b5 : Below W.heap.size W w5 := to_call bX hb5
          refine ⟨_, rfl, b5, ?_⟩
          try simp only [Act.put, List.setIfInBounds_toArray, List.set_cons_zero, List.set_cons_succ]
          refine takeH 58 (i := 26) (v := ?_) rfl rfl (by kernel_rfl) (by kernel_rfl) (by kernel_rfl) (fun _ _ _ h => h) (Or.inl ⟨by kernel_rfl, ?_⟩) b5 ?_
          rotate_left
          · intro w' hSw; skip; go_simp; try with_reducible rfl
          try simp only [Act.put, List.setIfInBounds_toArray, List.set_cons_zero, List.set_cons_succ]
          refine takeH 59 (i := 27) (v := ?_) rfl rfl (by kernel_rfl) (by kernel_rfl) (by kernel_rfl) (fun _ _ _ h => h) (Or.inl ⟨by kernel_rfl, ?_⟩) b5 ?_
          rotate_left
          · intro w' hSw; skip; go_simp; try with_reducible rfl
          try simp only [Act.put, List.setIfInBounds_toArray, List.set_cons_zero, List.set_cons_succ]
          refine takeH 13 (i := 28) (v := ?_) rfl rfl (by kernel_rfl) (by kernel_rfl) (by kernel_rfl) (fun _ _ _ h => h) (Or.inl ⟨by kernel_rfl, ?_⟩) b5 ?_
          rotate_left
          · intro w' hSw; skip; go_simp; try with_reducible rfl
          try simp only [Act.put, List.setIfInBounds_toArray, List.set_cons_zero, List.set_cons_succ]
          refine wpAnyH_done (by kernel_rfl) ?_ _
          refine NoPanic.normal ?_
          try simp only [Act.put, List.setIfInBounds_toArray, List.set_cons_zero, List.set_cons_succ]
          have HB5 : Hid (Below W.heap.size W w5) := b5
          clear e1 e2 e3 e4 b5 bX hb5 HF HBB HRW hcv p7 p8 p9 p10 HB
          go_wp2_with fail
          go_roundg g2
          case measure => omega
          case rel => exact ⟨q + 1, s', rfl, by go_num, by have := HQ.out; omega, HE, HB5⟩
        · obtain rfl : KW = q := by omega
          have hd : decide ((KW : Int) < (KW : Int)) = false := decide_eq_false (by omega)
          have hw1 : IntKind.i64.wrap ((p : Int) + 1) = (p : Int) + 1 := by have := HDM.out; have := HP.out; exact wrI (by omega)
          have hw2 : wrap64 ((p : Int) + 1) = (p : Int) + 1 := by have := HDM.out; have := HP.out; exact wr6 (by omega)
          clear hlt hq
          go_wp2_with fail
          go_roundg g
          case measure => omega
          case rel => exact ⟨p + 1, s2, rfl, by go_num, by have := HP.out; omega, HS2, HB⟩
    · obtain rfl : KH = p := by omega
      have hd : decide ((KH : Int) < (KH : Int)) = false := decide_eq_false (by omega)
      have l0 := cellAt (kept HB.out Y0.out) 0 (.int .i64 4) rfl
      have HE : Hid (win4Z a vs H K KH KW f y0 x0 = s) := HS.out.symm
      clear hlt hp
      go_wp2_with fail
      go_ret
      exact ⟨by rw [HE.out]; rfl, to_call X0.out HB.out⟩
end Go.Proofs.Ytokglpemefkmjaa
