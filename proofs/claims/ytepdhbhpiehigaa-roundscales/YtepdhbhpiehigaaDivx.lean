import Derived.Test.YtepdhbhpiehigaaScal
namespace Go.Proofs.Ytepdhbhpiehigaa
open Ieee
set_option linter.unusedVariables false

theorem sticky {neg : Bool} {dv n T : Nat} {pl : Int} (hn : 0 < n) (hq : 9007199254740992 ≤ dv / n) (hT : T = 2 * (dv / n) + (if dv % n = 0 then 0 else 1)) :
    ∃ R, Fl (2 * dv * 2 ^ (pl + 1074).toNat) (n * 2 ^ (-(pl + 1074)).toNat) R ∧ double.nearest neg T pl = double.word neg (min (nearK (2 * dv * 2 ^ (pl + 1074).toNat) (n * 2 ^ (-(pl + 1074)).toNat) R) infK) := by
  have hT0 : T ≠ 0 := by omega
  obtain ⟨e, drop, K, he, hK, hed, hdrop, hform, hk⟩ := place_log T pl hT0
  have hlog : 54 ≤ T.log2 := by
    rw [Nat.le_log2 hT0]
    have : (2 : Nat) ^ 54 = 18014398509481984 := by decide
    omega
  have hd2 : 2 ≤ drop := by omega
  have hz : (pl + 1074 - (e : Int)).toNat = 0 := by omega
  rw [hz, Nat.pow_zero, Nat.mul_one] at hK
  have hc : (2 : Nat) ^ e * 2 ^ (-(pl + 1074)).toNat = 2 ^ drop * 2 ^ (pl + 1074).toNat := by
    rw [← Nat.pow_add, ← Nat.pow_add]; congr 1; omega
  have r0 := rmag_form e K hform (by omega)
  have r1 := rmag_form e (K + 1) (by omega) (by omega)
  rw [← Nat.add_assoc] at r1
  obtain ⟨h, hh⟩ : ∃ h, 2 ^ drop = 4 * h := ⟨2 ^ (drop - 2), by rw [show (4 : Nat) = 2 ^ 2 from rfl, ← Nat.pow_add]; congr 1; omega⟩
  have hdm := Nat.div_add_mod T (2 ^ drop)
  have hml := Nat.mod_lt T (Nat.two_pow_pos drop)
  rw [← hK] at hdm
  have qdm := Nat.div_add_mod dv n
  have qml := Nat.mod_lt dv hn
  have hh0 : 0 < h := by have := Nat.two_pow_pos drop; omega
  -- the true fraction against thresholds
  have lt_iff : ∀ c, dv < n * c ↔ dv / n < c := fun c => by rw [Nat.div_lt_iff_lt_mul hn, Nat.mul_comm]
  have eq_iff : ∀ c, dv = n * c ↔ dv / n = c ∧ dv % n = 0 := by
    intro c
    constructor
    · intro hc; rw [hc]; exact ⟨Nat.mul_div_cancel_left _ hn, Nat.mul_mod_right ..⟩
    · rintro ⟨h1, h2⟩; rw [h1, h2] at qdm; omega
  have pc := Nat.two_pow_pos (pl + 1074).toNat
  have eK : ∀ k, k * 2 ^ e * (n * 2 ^ (-(pl + 1074)).toNat) = 2 * (n * (k * (2 * h))) * 2 ^ (pl + 1074).toNat := by
    intro k
    rw [show k * 2 ^ e * (n * 2 ^ (-(pl + 1074)).toNat) = k * n * (2 ^ e * 2 ^ (-(pl + 1074)).toNat) from Nat.mul_mul_mul_comm .., hc, hh, ← Nat.mul_assoc]
    congr 1
    rw [Nat.mul_comm k n, Nat.mul_assoc, Nat.mul_left_comm 2 n, Nat.mul_left_comm 2 k, ← Nat.mul_assoc 2 2 h]
  refine ⟨e * 4503599627370496 + K, ⟨?_, ?_⟩, ?_⟩
  · rw [r0, eK]
    refine Nat.mul_le_mul_right _ (Nat.mul_le_mul_left _ ?_)
    have := (lt_iff (K * (2 * h)))
    rcases Nat.lt_or_ge dv (n * (K * (2 * h))) with hlt | hge
    · have := this.1 hlt
      rw [hh] at hdm
      rw [show K * (2 * h) = 2 * (K * h) by rw [Nat.mul_left_comm]] at this
      rw [show 4 * h * K = 4 * (K * h) by rw [Nat.mul_assoc, Nat.mul_comm h]] at hdm
      split at hT <;> omega
    · exact hge
  · rw [r1, eK]
    refine Nat.mul_lt_mul_of_pos_right (Nat.mul_lt_mul_of_pos_left ?_ (by omega)) pc
    refine (lt_iff _).2 ?_
    rw [hh] at hdm hml
    rw [show (K + 1) * (2 * h) = 2 * (K * h) + 2 * h by rw [Nat.add_mul, Nat.one_mul, Nat.mul_left_comm]]
    rw [show 4 * h * K = 4 * (K * h) by rw [Nat.mul_assoc, Nat.mul_comm h]] at hdm
    split at hT <;> omega
  · unfold Format.nearest
    rw [if_neg hT0]
    simp only [dbl_frac, dbl_least, dbl_binade, dbl_inf]
    have hlast : max (pl + (T.log2 : Int) - ((52 : Nat) : Int)) (-1074) = (e : Int) - 1074 := by omega
    rw [hlast, show ((e : Int) - 1074 - -1074).toNat = e by omega, show (pl - ((e : Int) - 1074)).toNat = 0 by omega, show ((e : Int) - 1074 - pl).toNat = drop by omega]
    rw [Nat.shiftLeft_eq, Nat.pow_zero, Nat.mul_one, cut_even _ _ _ hT0, ← hK]
    congr 2
    unfold nearK
    rw [r0, r1, Nat.add_mul, eK, eK, ← Nat.add_mul, show 2 * (2 * dv * 2 ^ (pl + 1074).toNat) = 4 * dv * 2 ^ (pl + 1074).toNat by rw [← Nat.mul_assoc, ← Nat.mul_assoc]]
    have i0 : 2 * (n * (K * (2 * h))) + 2 * (n * ((K + 1) * (2 * h))) = 4 * (n * ((2 * K + 1) * h)) := by
      rw [← Nat.mul_add, ← Nat.mul_add, show K * (2 * h) + (K + 1) * (2 * h) = 2 * ((2 * K + 1) * h) by
        rw [← Nat.add_mul, ← Nat.mul_assoc, Nat.mul_comm (K + (K + 1)) 2, Nat.mul_assoc, show K + (K + 1) = 2 * K + 1 by omega], Nat.mul_left_comm n 2, ← Nat.mul_assoc 2 2]
    rw [i0]
    have i1 : 4 * dv * 2 ^ (pl + 1074).toNat < 4 * (n * ((2 * K + 1) * h)) * 2 ^ (pl + 1074).toNat ↔ dv < n * ((2 * K + 1) * h) := by
      rw [Nat.mul_lt_mul_right pc]; omega
    have i2 : 4 * dv * 2 ^ (pl + 1074).toNat = 4 * (n * ((2 * K + 1) * h)) * 2 ^ (pl + 1074).toNat ↔ dv = n * ((2 * K + 1) * h) := by
      rw [Nat.mul_left_inj (by omega)]; omega
    simp only [i1, i2]
    simp only [lt_iff, eq_iff]
    have e3 : (2 * K + 1) * h = 2 * (K * h) + h := by rw [Nat.add_mul, Nat.one_mul, Nat.mul_assoc]
    simp only [e3]
    simp only [hh] at hdm hml ⊢
    rw [show 4 * h * K = 4 * (K * h) by rw [Nat.mul_assoc, Nat.mul_comm h]] at hdm
    have par : (e * 4503599627370496 + K) % 2 = K % 2 := by omega
    simp only [par]
    generalize T % (4 * h) = rest at *
    generalize K * h = Kh at *
    generalize dv / n = Q at *
    generalize dv % n = r at *
    by_cases c1 : 2 * rest < 4 * h ∨ (2 * rest = 4 * h ∧ K % 2 = 0)
    · rw [if_pos c1, if_pos]
      · omega
      · by_cases hr0 : r = 0
        · rw [if_pos hr0] at hT; omega
        · rw [if_neg hr0] at hT; omega
    · rw [if_neg c1, if_neg]
      · omega
      · by_cases hr0 : r = 0
        · rw [if_pos hr0] at hT; omega
        · rw [if_neg hr0] at hT; omega

theorem div_fin {a b E : Nat} (hE : E = 1074) (ha : Fin a) (hb : Fin b) (hb0 : frung b ≠ 0) : ∃ q, double.div a b = some q ∧ Rn (fneg a ^^ fneg b) (rmag (frung a) * 2 ^ E) (rmag (frung b)) q := by
  obtain ⟨m, i, h1, h2, h3, h4, h5⟩ := read_fin ha
  obtain ⟨n, j, k1, k2, k3, k4, k5⟩ := read_fin hb
  have hn0 : n ≠ 0 := by
    intro h0; rw [h0, Nat.zero_mul] at k3
    have := le_rmag (frung b); omega
  have hrb : 0 < rmag (frung b) := by have := le_rmag (frung b); omega
  unfold Format.div
  rw [h1, k1]
  simp only [Datum.quotient, if_neg hn0, Option.map_some, dbl_frac, write_number]
  refine ⟨_, rfl, ?_⟩
  generalize hmore : 52 + 2 + n.log2 - m.log2 = more
  rw [Nat.shiftLeft_eq]
  by_cases hm0 : m = 0
  · have hra : rmag (frung a) = 0 := by rw [← h3, hm0, Nat.zero_mul]
    rw [hm0, Nat.zero_mul, Nat.zero_div, Nat.zero_mod, hra, Nat.zero_mul]
    have e0 : double.nearest (fneg a ^^ fneg b) (2 * 0 + (0 != 0).toNat) (i - j - (more : Int) - 1) = double.word (fneg a ^^ fneg b) (min 0 infK) := by unfold Format.nearest; rw [if_pos (by decide), Nat.zero_min]
    rw [e0]
    have := Rn.exact (fneg a ^^ fneg b) 0 (rmag (frung b)) hrb
    rw [rmag_zero, Nat.zero_mul] at this
    exact this
  · have l1 : 2 ^ m.log2 ≤ m := Nat.log2_self_le hm0
    have l2 : n < 2 ^ (n.log2 + 1) := Nat.lt_log2_self
    have hq : 9007199254740992 ≤ m * 2 ^ more / n := by
      rw [Nat.le_div_iff_mul_le (by omega)]
      have a1 : 2 ^ (m.log2 + more) ≤ m * 2 ^ more := by rw [Nat.pow_add]; exact Nat.mul_le_mul_right _ l1
      have a2 : 2 ^ (53 + (n.log2 + 1)) ≤ 2 ^ (m.log2 + more) := Nat.pow_le_pow_right (by omega) (by omega)
      have a3 : 9007199254740992 * n ≤ 2 ^ (53 + (n.log2 + 1)) := by
        rw [Nat.pow_add, show (2 : Nat) ^ 53 = 9007199254740992 by decide]; exact Nat.mul_le_mul_left _ (by omega)
      omega
    have hT : 2 * (m * 2 ^ more / n) + (m * 2 ^ more % n != 0).toNat = 2 * (m * 2 ^ more / n) + (if m * 2 ^ more % n = 0 then 0 else 1) := by
      by_cases hz : m * 2 ^ more % n = 0
      · rw [hz]; rfl
      · rw [if_neg hz]
        have : (m * 2 ^ more % n != 0) = true := by rw [bne_iff_ne]; exact hz
        rw [this]; rfl
    obtain ⟨R, hR, hw⟩ := sticky (neg := fneg a ^^ fneg b) (pl := i - j - (more : Int) - 1) (by omega) hq hT
    have hRn : Rn (fneg a ^^ fneg b) _ _ _ := ⟨R, hR, hw⟩
    refine hRn.of_eq (Nat.mul_pos (by omega) (Nat.two_pow_pos _)) hrb ?_
    rw [← h3, ← k3]
    obtain ⟨x, hx⟩ : ∃ x : Nat, (i + 1074).toNat = x := ⟨_, rfl⟩
    obtain ⟨y, hy⟩ : ∃ y : Nat, (j + 1074).toNat = y := ⟨_, rfl⟩
    obtain ⟨z, hz⟩ : ∃ z : Nat, (i - j - (more : Int) - 1 + 1074).toNat = z := ⟨_, rfl⟩
    obtain ⟨z', hz'⟩ : ∃ z : Nat, (-(i - j - (more : Int) - 1 + 1074)).toNat = z := ⟨_, rfl⟩
    rw [hx, hy, hz, hz']
    have l : 2 * (m * 2 ^ more) * 2 ^ z * (n * 2 ^ y) = m * n * (2 ^ (1 + more + z + y)) := by
      rw [show 2 * (m * 2 ^ more) = m * 2 ^ (1 + more) by rw [Nat.pow_add, Nat.pow_one]; exact Nat.mul_left_comm .., Nat.mul_assoc m, ← Nat.pow_add, Nat.mul_mul_mul_comm, ← Nat.pow_add]
    have r : m * 2 ^ x * 2 ^ E * (n * 2 ^ z') = m * n * 2 ^ (x + E + z') := by
      rw [Nat.mul_assoc m, ← Nat.pow_add, Nat.mul_mul_mul_comm, ← Nat.pow_add]
    rw [l, r]
    congr 2
    omega
end Go.Proofs.Ytepdhbhpiehigaa
