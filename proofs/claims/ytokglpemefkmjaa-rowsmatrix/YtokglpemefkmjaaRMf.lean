import Derived.Test.YtokglpemefkmjaaRWb1
import Derived.Laws.ComplexArith
namespace Go.Proofs.Ytokglpemefkmjaa
open Go.RowKit
set_option linter.unusedVariables false
set_option linter.unusedSimpArgs false
def sg (neg : Bool) (m : Nat) : Int := if neg then -(m : Int) else m
theorem sg_abs (neg : Bool) (m : Nat) : (sg neg m).natAbs = m := by cases neg <;> simp [sg]
/-- A datum that stands for a whole number. -/
def DW (d : Ieee.Datum) (z : Int) : Prop := ∃ (neg : Bool) (m t : Nat), d = .number neg (m * 2 ^ t) (-(t : Int)) ∧ sg neg m = z
theorem signed_sg (neg : Bool) (m i M : Nat) (h : i ≤ M) : Ieee.signed neg (m * 2 ^ i) (M - i) = sg neg m * 2 ^ M := by
  have e : (m * 2 ^ i) <<< (M - i) = m * 2 ^ M := by rw [Nat.shiftLeft_eq, Nat.mul_assoc, ← Nat.pow_add, Nat.add_sub_cancel' h]
  unfold Ieee.signed sg
  rw [e]
  cases neg
  · simp
  · simp [Int.neg_mul]
theorem dw_opp {d : Ieee.Datum} {z : Int} (h : DW d z) : DW d.opposite (-z) := by
  obtain ⟨s, m, t, rfl, rfl⟩ := h
  exact ⟨!s, m, t, rfl, by cases s <;> simp [sg]⟩
theorem dw_mul {d e : Ieee.Datum} {a b : Int} (h : DW d a) (k : DW e b) : ∃ r, d.product e = some r ∧ DW r (a * b) := by
  obtain ⟨s, m, i, rfl, rfl⟩ := h
  obtain ⟨t, n, j, rfl, rfl⟩ := k
  refine ⟨_, rfl, s ^^ t, m * n, i + j, ?_, ?_⟩
  · congr 1
    · rw [Nat.pow_add, Nat.mul_mul_mul_comm]
    · omega
  · cases s <;> cases t <;> simp [sg, Int.neg_mul, Int.mul_neg]
theorem dw_add {d e : Ieee.Datum} {a b : Int} (h : DW d a) (k : DW e b) : ∃ r, d.sum e = some r ∧ DW r (a + b) := by
  obtain ⟨s, m, i, rfl, rfl⟩ := h
  obtain ⟨t, n, j, rfl, rfl⟩ := k
  obtain ⟨M, hM⟩ : ∃ M, max i j = M := ⟨_, rfl⟩
  have hb : min (-(i : Int)) (-(j : Int)) = -(M : Int) := by omega
  have h1 : (-(i : Int) - -(M : Int)).toNat = M - i := by omega
  have h2 : (-(j : Int) - -(M : Int)).toNat = M - j := by omega
  have hs : Ieee.Datum.sum (.number s (m * 2 ^ i) (-(i : Int))) (.number t (n * 2 ^ j) (-(j : Int))) = some (.number (if (sg s m + sg t n) * 2 ^ M = 0 then s && t else decide ((sg s m + sg t n) * 2 ^ M < 0)) ((sg s m + sg t n) * 2 ^ M).natAbs (-(M : Int))) := by
    unfold Ieee.Datum.sum
    simp only [hb, h1, h2, signed_sg s m i M (by omega), signed_sg t n j M (by omega), ← Int.add_mul]
  refine ⟨_, hs, (if (sg s m + sg t n) * 2 ^ M = 0 then s && t else decide ((sg s m + sg t n) * 2 ^ M < 0)), (sg s m + sg t n).natAbs, M, ?_, ?_⟩
  · congr 1
    rw [Int.natAbs_mul, Int.natAbs_pow]
    rfl
  · generalize sg s m + sg t n = z
    have hp : (0 : Int) < 2 ^ M := Int.pow_pos (by decide)
    by_cases hz : z = 0
    · subst hz; simp [sg]
    · have hzp : ¬ z * 2 ^ M = 0 := Int.mul_ne_zero hz (by omega)
      rw [if_neg hzp]
      by_cases hn : z < 0
      · have : z * 2 ^ M < 0 := Int.mul_neg_of_neg_of_pos hn hp
        rw [decide_eq_true this]; simp [sg]; omega
      · have : ¬ z * 2 ^ M < 0 := by have := Int.mul_nonneg (show 0 ≤ z by omega) (Int.le_of_lt hp); omega
        rw [decide_eq_false this]; simp [sg]; omega
theorem log2_mul_pow (m t : Nat) (hm : 0 < m) : (m * 2 ^ t).log2 = m.log2 + t := by
  have hp : 0 < 2 ^ t := Nat.two_pow_pos t
  rw [Nat.log2_eq_iff (Nat.mul_ne_zero (by omega) (by omega))]
  have h1 := Nat.log2_self_le (show m ≠ 0 by omega)
  have h2 := Nat.lt_log2_self (n := m)
  constructor
  · rw [Nat.pow_add]; exact Nat.mul_le_mul_right _ h1
  · rw [Nat.add_right_comm, Nat.pow_add]; exact Nat.mul_lt_mul_of_pos_right h2 hp
theorem cut0 (neg : Bool) (n : Nat) : Ieee.Toward.even.cut neg n 0 = n := by
  unfold Ieee.Toward.cut
  simp [Nat.mod_one]
theorem cutE (way : Ieee.Toward) (neg : Bool) (q d : Nat) (hq : 0 < q) : way.cut neg (q * 2 ^ d) d = q := by
  have hl := log2_mul_pow q d hq
  have hp : 0 < 2 ^ d := Nat.two_pow_pos d
  unfold Ieee.Toward.cut
  have hg : 1 <<< min d ((q * 2 ^ d).log2 + 2) = 2 ^ d := by rw [hl, Nat.shiftLeft_eq, Nat.one_mul, Nat.min_eq_left (by omega)]
  rw [hg]
  simp only [Nat.mul_mod_left, Nat.mul_div_cancel _ hp]
  cases way <;> simp <;> omega
theorem near_whole (neg : Bool) (m t : Nat) (hm : 0 < m) (hm2 : m < 2 ^ 53) : Ieee.double.nearest neg (m * 2 ^ t) (-(t : Int)) = Ieee.double.word neg ((m.log2 + 1022) * 2 ^ 52 + m * 2 ^ (52 - m.log2)) := by
  have hp : 0 < 2 ^ t := Nat.two_pow_pos t
  have hl := log2_mul_pow m t hm
  have hK : m.log2 ≤ 52 := by have := (Nat.log2_lt (show m ≠ 0 by omega)).2 hm2; omega
  have h0 : ¬ m * 2 ^ t = 0 := Nat.mul_ne_zero (by omega) (by omega)
  have hlp : Ieee.double.leastPlace = -1074 := by decide
  have hfb : (Ieee.double.fractionBits : Int) = 52 := rfl
  have hbin : Ieee.double.binade = 2 ^ 52 := rfl
  have hinf : Ieee.double.infRung = 2047 * 2 ^ 52 := by decide
  obtain ⟨K, hKe⟩ : ∃ K, m.log2 = K := ⟨_, rfl⟩
  have hlast : max (-(t : Int) + (((m * 2 ^ t).log2 : Nat) : Int) - 52) (-1074) = (K : Int) - 52 := by rw [hl, hKe]; omega
  have h1 := Nat.log2_self_le (show m ≠ 0 by omega)
  have h2 := Nat.lt_log2_self (n := m)
  have hpe : m * 2 ^ (52 - K) < 2 ^ 53 := by
    rw [hKe] at h2
    have := Nat.mul_lt_mul_of_pos_right h2 (Nat.two_pow_pos (52 - K))
    rw [← Nat.pow_add, show K + 1 + (52 - K) = 53 by omega] at this
    exact this
  have hk : Ieee.Toward.even.cut neg ((m * 2 ^ t) <<< (-(t : Int) - ((K : Int) - 52)).toNat) (((K : Int) - 52) - -(t : Int)).toNat = m * 2 ^ (52 - K) := by
    by_cases hc : t ≤ 52 - K
    · rw [show (-(t : Int) - ((K : Int) - 52)).toNat = 52 - K - t by omega, show (((K : Int) - 52) - -(t : Int)).toNat = 0 by omega, cut0, Nat.shiftLeft_eq, Nat.mul_assoc, ← Nat.pow_add, Nat.add_sub_cancel' hc]
    · rw [show (-(t : Int) - ((K : Int) - 52)).toNat = 0 by omega, show (((K : Int) - 52) - -(t : Int)).toNat = t - (52 - K) by omega, Nat.shiftLeft_zero]
      rw [show m * 2 ^ t = (m * 2 ^ (52 - K)) * 2 ^ (t - (52 - K)) by rw [Nat.mul_assoc, ← Nat.pow_add, show 52 - K + (t - (52 - K)) = t by omega]]
      exact cutE _ neg _ _ (Nat.mul_pos hm (Nat.two_pow_pos _))
  unfold Ieee.Format.nearest
  rw [if_neg h0]
  simp only [hlp, hfb, hbin, hinf]
  rw [hlast, hk, hKe, show (((K : Int) - 52) - -1074).toNat = K + 1022 by omega]
  congr 1
  rw [hKe] at hK
  refine Nat.min_eq_left ?_
  clear hk hlast hinf hbin hfb hlp h1 h2 hl hm2 h0
  obtain ⟨B, hB⟩ : ∃ B, 2 ^ 52 = B := ⟨_, rfl⟩
  rw [show (2 : Nat) ^ 53 = 2 * 2 ^ 52 from rfl, hB] at hpe
  rw [hB]
  clear hB
  have h3 : (K + 1022) * B ≤ 1074 * B := Nat.mul_le_mul_right _ (by omega)
  omega
theorem read_whole (neg : Bool) (m t : Nat) (hm2 : m < 2 ^ 53) : DW (Ieee.double.read (Ieee.double.nearest neg (m * 2 ^ t) (-(t : Int)))) (sg neg m) := by
  have hlp : Ieee.double.leastPlace = -1074 := by decide
  have hbin : Ieee.double.binade = 4503599627370496 := rfl
  have hinf : Ieee.double.infRung = 9218868437227405312 := by decide
  have hsw : Ieee.double.signWeight = 9223372036854775808 := by decide
  by_cases hm : m = 0
  · subst hm
    obtain ⟨T, hT⟩ : ∃ T : Nat, T = 1074 := ⟨_, rfl⟩
    refine ⟨neg, 0, T, ?_, by cases neg <;> rfl⟩
    rw [Nat.zero_mul, Nat.zero_mul]
    have h1 : Ieee.double.nearest neg 0 (-(t : Int)) = Ieee.double.word neg 0 := rfl
    have h2 : Ieee.double.read (Ieee.double.word neg 0) = .number neg 0 (-1074) := by cases neg <;> decide
    rw [h1, h2, hT]
    rfl
  have hm0 : 0 < m := by omega
  rw [near_whole neg m t hm0 hm2]
  have hK : m.log2 ≤ 52 := by have := (Nat.log2_lt hm).2 hm2; omega
  obtain ⟨K, hKe⟩ : ∃ K, m.log2 = K := ⟨_, rfl⟩
  have h1 := Nat.log2_self_le hm
  have h2 := Nat.lt_log2_self (n := m)
  rw [hKe] at h1 h2 hK ⊢
  have hlo : 2 ^ 52 ≤ m * 2 ^ (52 - K) := by
    have := Nat.mul_le_mul_right (2 ^ (52 - K)) h1
    rw [← Nat.pow_add, show K + (52 - K) = 52 by omega] at this
    exact this
  have hhi : m * 2 ^ (52 - K) < 2 ^ 53 := by
    have := Nat.mul_lt_mul_of_pos_right h2 (Nat.two_pow_pos (52 - K))
    rw [← Nat.pow_add, show K + 1 + (52 - K) = 53 by omega] at this
    exact this
  refine ⟨neg, m, 52 - K, ?_, rfl⟩
  obtain ⟨x, hx⟩ : ∃ x, m * 2 ^ (52 - K) = x := ⟨_, rfl⟩
  rw [hx] at hlo hhi ⊢
  unfold Ieee.Format.read
  have hr : (K + 1022) * 2 ^ 52 + x < 9223372036854775808 := by omega
  have hw1 : Ieee.double.word neg ((K + 1022) * 2 ^ 52 + x) / Ieee.double.signWeight % 2 == 1 ↔ neg = true := by
    unfold Ieee.Format.word; rw [hsw]
    cases neg <;> simp <;> omega
  have hw2 : Ieee.double.word neg ((K + 1022) * 2 ^ 52 + x) % Ieee.double.signWeight = (K + 1022) * 2 ^ 52 + x := by
    unfold Ieee.Format.word; rw [hsw]
    cases neg <;> simp <;> omega
  have hw3 : (Ieee.double.word neg ((K + 1022) * 2 ^ 52 + x) / Ieee.double.signWeight % 2 == 1) = neg := by
    rw [Bool.eq_iff_iff]; exact hw1
  simp only [hw2, hw3, hbin, hinf, hlp]
  rw [if_neg (by omega), if_pos (by omega)]
  congr 1
  · omega
  · have : ((K + 1022) * 2 ^ 52 + x) / 4503599627370496 = K + 1023 := by omega
    rw [this]; omega
/-- A float's word that stands for a whole number. -/
def FW (u : Nat) (z : Int) : Prop := DW (FloatKind.f64.decode u) z
theorem fw_write {d : Ieee.Datum} {z : Int} (h : DW d z) (hz : z.natAbs < 2 ^ 53) : FW (Ieee.double.write d) z := by
  obtain ⟨s, m, t, rfl, rfl⟩ := h
  rw [sg_abs] at hz
  exact read_whole s m t hz
theorem fw_add {x y : Nat} {a b : Int} (h : FW x a) (k : FW y b) (hz : (a + b).natAbs < 2 ^ 53) : ∃ r, floatBits .add .f64 x y = some r ∧ FW r (a + b) := by
  obtain ⟨r, hr, hd⟩ := dw_add h k
  exact ⟨_, by show Option.map _ _ = _; unfold FloatKind.decode at hr; exact hr ▸ rfl, fw_write hd hz⟩
theorem fw_sub {x y : Nat} {a b : Int} (h : FW x a) (k : FW y b) (hz : (a - b).natAbs < 2 ^ 53) : ∃ r, floatBits .sub .f64 x y = some r ∧ FW r (a - b) := by
  obtain ⟨r, hr, hd⟩ := dw_add h (dw_opp k)
  exact ⟨_, by show Option.map _ _ = _; unfold FloatKind.decode at hr; exact hr ▸ rfl, fw_write hd hz⟩
theorem fw_mul {x y : Nat} {a b : Int} (h : FW x a) (k : FW y b) (hz : (a * b).natAbs < 2 ^ 53) : ∃ r, floatBits .mul .f64 x y = some r ∧ FW r (a * b) := by
  obtain ⟨r, hr, hd⟩ := dw_mul h k
  exact ⟨_, by show Option.map _ _ = _; unfold FloatKind.decode at hr; exact hr ▸ rfl, fw_write hd hz⟩
theorem fw_int (z : Int) (hz : z.natAbs < 2 ^ 53) : FW (FloatKind.f64.nearest z) z := by
  refine fw_write (d := .number (decide (z < 0)) z.natAbs 0) ⟨decide (z < 0), z.natAbs, 0, by simp, ?_⟩ hz
  by_cases h : z < 0
  · simp [sg, h]; omega
  · simp [sg, h]; omega
theorem fw_back {u : Nat} {z : Int} (h : FW u z) : (FloatKind.f64.decode u).toInt .zero = some z := by
  obtain ⟨s, m, t, e, rfl⟩ := h
  rw [e]
  unfold Ieee.Datum.toInt Ieee.Datum.integral
  simp only
  rw [show (-(t : Int)).toNat = 0 by omega, show (- -(t : Int)).toNat = t by omega, Nat.shiftLeft_zero]
  by_cases hm : m = 0
  · subst hm
    rw [Nat.zero_mul]
    unfold Ieee.Toward.cut Ieee.signed
    cases s <;> simp [sg]
  · rw [cutE _ s m t (by omega)]
    unfold Ieee.signed
    rw [Nat.shiftLeft_zero]
    rfl
theorem fw_uniq {u : Nat} {a b : Int} (h : FW u a) (k : FW u b) : a = b := by
  have := (fw_back h).symm.trans (fw_back k)
  exact Option.some.inj this
theorem fw_cmul {a b c d : Nat} {za zb zc zd : Int} (ha : FW a za) (hb : FW b zb) (hc : FW c zc) (hd : FW d zd) (n1 : (za * zc).natAbs < 2 ^ 53) (n2 : (zb * zd).natAbs < 2 ^ 53) (n3 : (za * zc - zb * zd).natAbs < 2 ^ 53) (n4 : (za * zd).natAbs < 2 ^ 53) (n5 : (zb * zc).natAbs < 2 ^ 53) (n6 : (za * zd + zb * zc).natAbs < 2 ^ 53) :
    ∃ re im, cMulBits a b c d = some (re, im) ∧ FW re (za * zc - zb * zd) ∧ FW im (za * zd + zb * zc) := by
  obtain ⟨x1, e1, f1⟩ := fw_mul ha hc n1
  obtain ⟨x2, e2, f2⟩ := fw_mul hb hd n2
  obtain ⟨x3, e3, f3⟩ := fw_sub f1 f2 n3
  obtain ⟨x4, e4, f4⟩ := fw_mul ha hd n4
  obtain ⟨x5, e5, f5⟩ := fw_mul hb hc n5
  obtain ⟨x6, e6, f6⟩ := fw_add f4 f5 n6
  exact ⟨x3, x6, by unfold cMulBits; simp [e1, e2, e3, e4, e5, e6], f3, f6⟩
theorem fw_csum {a b c d : Nat} {za zb zc zd : Int} (ha : FW a za) (hb : FW b zb) (hc : FW c zc) (hd : FW d zd) (n1 : (za + zc).natAbs < 2 ^ 53) (n2 : (zb + zd).natAbs < 2 ^ 53) :
    ∃ re im, cSumBits .add .f64 a b c d = some (re, im) ∧ FW re (za + zc) ∧ FW im (zb + zd) := by
  obtain ⟨x1, e1, f1⟩ := fw_add ha hc n1
  obtain ⟨x2, e2, f2⟩ := fw_add hb hd n2
  exact ⟨x1, x2, by unfold cSumBits; simp [e1, e2], f1, f2⟩
theorem lt53 {n m : Nat} (h : n ≤ m) (hm : m ≤ 1000000) : n < 2 ^ 53 := Nat.lt_of_le_of_lt (Nat.le_trans h hm) (by decide)
/-- A float that stands for a whole number goes back to it. -/
theorem conv_fw {u : Nat} {z : Int} (h : FW u z) (hz : z.natAbs ≤ 1000000) (w : World) : (convert 26 3 (.float .f64 u)).run Try.prog w = .ok (.int .i64 z) w := by
  have hk : ∀ u : Nat, (convert 26 3 (.float .f64 u)).run Try.prog w = (Conv.floatToInt .f64 u .i64).run Try.prog w := fun u => by kernel_rfl
  have hb := fw_back h
  rw [hk]
  unfold Conv.floatToInt
  simp only [hb]
  have h1 : IntKind.i64.min = -9223372036854775808 := by decide
  have h2 : IntKind.i64.max = 9223372036854775807 := by decide
  rw [if_pos (by rw [h1, h2]; omega)]
  simp only [Sem.run_pure]
/-- A list of complex numbers that is read. -/
structure RdC2 (w : World) (ao : Option Addr) (len cap : Nat) (f g : Nat → Nat) : Prop where
  le : len ≤ cap
  cells : len = 0 ∨ ∃ b off, ao = some ⟨b, off, none⟩ ∧ ∀ j, j < len → w.cell? ⟨b, off + j, none⟩ = some (.complex .f64 (f j) (g j))
theorem RdC2.later {w w' : World} {ao : Option Addr} {len cap : Nat} {f g : Nat → Nat} (h : RdC2 w ao len cap f g) (hb : Below w.heap.size w w') : RdC2 w' ao len cap f g := by
  refine ⟨h.le, ?_⟩
  rcases h.cells with h0 | ⟨b, off, ha, hc⟩
  · exact .inl h0
  · refine .inr ⟨b, off, ha, fun j hj => ?_⟩
    rw [hb.cell (p := ⟨b, off + j, none⟩) (World.block_lt_of_cell? w _ (hc j hj))]
    exact hc j hj
end Go.Proofs.Ytokglpemefkmjaa
