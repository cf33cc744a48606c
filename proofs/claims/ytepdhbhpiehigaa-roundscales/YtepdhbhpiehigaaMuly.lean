import Derived.Test.YtepdhbhpiehigaaMulx
namespace Go.Proofs.Ytepdhbhpiehigaa
open Ieee
set_option linter.unusedVariables false

def Halv (a s u l : Nat) : Prop := ∃ a1 a2, double.mul a s = some a1 ∧ double.sub a1 a = some a2 ∧ double.sub a1 a2 = some u ∧ double.sub a u = some l
def Prd (a b s high low : Nat) : Prop := ∃ au al bu bl p1 l1 p2 l2 p3 l3 p4, double.mul a b = some high ∧ Halv a s au al ∧ Halv b s bu bl ∧ double.mul au bu = some p1 ∧ double.sub high p1 = some l1 ∧ double.mul al bu = some p2 ∧ double.sub l1 p2 = some l2 ∧
  double.mul au bl = some p3 ∧ double.sub l2 p3 = some l3 ∧ double.mul al bl = some p4 ∧ double.sub p4 l3 = some low
theorem prd_all {c e E b' : Nat} {A B : Int} {a b s : Nat} (hE : E = 1074) (hc : c < 1900) (he : e < 1900) (hce : c + e = b' + E) (hb' : b' < 1900) (ha : Sc c A a) (hb : Sc e B b) (hA : Full A) (hB : Full B) (hs : Sc E 134217729 s) :
    ∃ high low H, Prd a b s high low ∧ Sc b' H high ∧ Sc b' (A * B - H) low ∧ Rn (fneg a ^^ fneg b) ((A * B) * 2 ^ b').natAbs 1 high := by
  obtain ⟨high, H, a1, a2, au, al, b1, b2, bu, bl, p1, l1, p2, l2, p3, l3, p4, low, hh, ⟨ha1, ha2, ha3, ha4⟩, ⟨hb1, hb2, hb3, hb4⟩, hp1, hl1, hp2, hl2, hp3, hl3, hp4, hlow, hH, hLow, hRn⟩ := prod_all hE hc he hce hb' ha hb hA hB hs
  exact ⟨high, low, H, ⟨au, al, bu, bl, p1, l1, p2, l2, p3, l3, p4, hh, ⟨a1, a2, ha1, ha2, ha3, ha4⟩, ⟨b1, b2, hb1, hb2, hb3, hb4⟩, hp1, hl1, hp2, hl2, hp3, hl3, hp4, hlow⟩, hH, hLow, hRn⟩

/-- The sign of a full number. -/
theorem Frx.sign {x fr : Nat} {M ex : Int} (h : Frx x fr M ex) : (fneg x = true → M ≤ 0) ∧ (fneg x = false → 0 ≤ M) := by
  obtain ⟨c, hc⟩ : ∃ c : Nat, c = 1021 := ⟨_, rfl⟩
  have hs := fval_signs fr
  rw [(h.sc c hc).2.2, h.sgn] at hs
  constructor
  · intro hx
    have := hs.1 hx
    rcases Int.lt_or_le 0 M with h1 | h1
    · have : 0 < M * 2 ^ c := Int.mul_pos h1 (Int.pow_pos (by decide)); omega
    · exact h1
  · intro hx
    have := hs.2 hx
    rcases Int.lt_or_le M 0 with h1 | h1
    · have := (scaled_neg M c).2 h1; omega
    · exact h1
theorem mul_sign {g h : Bool} {A B : Int} (ha : (g = true → A ≤ 0) ∧ (g = false → 0 ≤ A)) (hb : (h = true → B ≤ 0) ∧ (h = false → 0 ≤ B)) : ((g ^^ h) = true → A * B ≤ 0) ∧ ((g ^^ h) = false → 0 ≤ A * B) := by
  cases g <;> cases h <;> simp at ha hb ⊢
  · exact Int.mul_nonneg ha hb
  · have := Int.mul_nonneg ha (Int.neg_nonneg_of_nonpos hb); rw [Int.mul_neg] at this; omega
  · have := Int.mul_nonneg (Int.neg_nonneg_of_nonpos ha) hb; rw [Int.neg_mul] at this; omega
  · have := Int.mul_nonneg (Int.neg_nonneg_of_nonpos ha) (Int.neg_nonneg_of_nonpos hb); rw [Int.neg_mul, Int.mul_neg, Int.neg_neg] at this; exact this

/-- v = n / 2^1074 and v' = N 2^968 are the same but for a power of 2. -/
theorem prod_rel {a b fa fb : Nat} {A B ea eb : Int} (Fa : Frx a fa A ea) (Fb : Frx b fb B eb) : rmag (frung a) * rmag (frung b) * 2 ^ 104 = (A * B).natAbs * 2 ^ (ea + eb + 2146).toNat := by
  have ha := Fa.rel
  have hb := Fb.rel
  have l1 := Fa.lo
  have l2 := Fb.lo
  rw [show (2 : Nat) ^ 104 = 4503599627370496 * 4503599627370496 by decide, Int.natAbs_mul]
  rw [Nat.mul_mul_mul_comm, ha, hb, show (ea + eb + 2146).toNat = (ea + 1073).toNat + (eb + 1073).toNat by omega, Nat.pow_add]
  exact Nat.mul_mul_mul_comm ..

theorem mul_all {a b fa fb s p p' : Nat} {A B ea eb : Int} (hfa : Fin a) (hfb : Fin b) (Fa : Frx a fa A ea) (Fb : Frx b fb B eb) (hs : ∀ E, E = 1074 → Sc E 134217729 s) (hp : double.mul a b = some p)
    (hpow : Fin p → Pow p (-(ea + eb)) p') (hinf : frung p = infK → p' = p) (hpl : p < 18446744073709551616) {E : Nat} (hE : E = 1074) :
    ∃ high low d, Prd fa fb s high low ∧ double.sub high p' = some d ∧ frung d ≤ infK ∧ d < 18446744073709551616 ∧ low < 18446744073709551616 ∧ frung low ≤ infK ∧ Rn (fneg a ^^ fneg b) (rmag (frung a) * rmag (frung b)) (2 ^ E) p ∧ Sides (fneg a ^^ fneg b) (rmag (frung a) * rmag (frung b)) (2 ^ E) p (if srung d = 0 then low else d) := by
  obtain ⟨c, hc⟩ : ∃ c : Nat, c = 1021 := ⟨_, rfl⟩
  obtain ⟨b', hb'⟩ : ∃ c : Nat, c = 968 := ⟨_, rfl⟩
  obtain ⟨high, low, H, hPrd, hH, hL, hRh⟩ := prd_all hE (by omega) (by omega) (show c + c = b' + E by omega) (by omega) (Fa.sc c hc) (Fb.sc c hc) Fa.full Fb.full (hs E hE)
  rw [Fa.sgn, Fb.sgn] at hRh
  obtain ⟨p0, hp0, hRp⟩ := mul_fin hE hfa hfb
  rw [hp] at hp0
  cases hp0
  have hsg := mul_sign Fa.sign Fb.sign
  obtain ⟨R, hR, hr1, hr2, -⟩ := hRp.rung
  obtain ⟨R', hR', hq1, hq2, -⟩ := hRh.rung
  have hhf := hH.1
  have hlf := hL.1
  by_cases hf : Fin p
  · have hff : frung p < infK := hf
    rw [Nat.min_eq_left (by omega)] at hr1
    have hpw := hpow hf
    -- the copy's rung
    have hrel := prod_rel Fa Fb
    have la := Fa.lo
    have lb := Fb.lo
    have ua := Fa.hi
    have ub := Fb.hi
    generalize hn : ea + eb = n at *
    have hj : ∃ j, rmag j * 2 ^ n.toNat = rmag (frung p) * 2 ^ (-n).toNat := by
      by_cases hn0 : n ≤ 0
      · obtain ⟨m, e, hm, hm1, _⟩ := rung_form (frung p)
        obtain ⟨j, hj⟩ := rung_some m (e + (-n).toNat) (by omega)
        refine ⟨j, ?_⟩
        rw [hj, hm, show n.toNat = 0 by omega, Nat.pow_zero, Nat.mul_one, Nat.pow_add, Nat.mul_assoc]
      · by_cases hz : A * B = 0
        · rw [hz, Int.natAbs_zero, Nat.zero_mul] at hrel
          have h0 : rmag (frung a) * rmag (frung b) = 0 := by
            rcases Nat.mul_eq_zero.1 hrel with h | h
            · exact h
            · exact absurd h (by decide)
          have : frung p = 0 := by
            rw [hr1]
            have h1 : nearK (rmag (frung a) * rmag (frung b)) (2 ^ E) R ≤ 0 := nearK_le hR (by rw [h0]; exact Nat.zero_le _)
            omega
          exact ⟨0, by rw [this, rmag_zero, Nat.zero_mul, Nat.zero_mul]⟩
        · have hA : 4503599627370496 ≤ A.natAbs := by
            rcases Fa.full with h | h
            · exact absurd (by rw [h, Int.zero_mul]) hz
            · exact h.1
          have hB : 4503599627370496 ≤ B.natAbs := by
            rcases Fb.full with h | h
            · exact absurd (by rw [h, Int.mul_zero]) hz
            · exact h.1
          have hAB : 2 ^ 104 ≤ (A * B).natAbs := by rw [Int.natAbs_mul, show (2 : Nat) ^ 104 = 4503599627370496 * 4503599627370496 by decide]; exact Nat.mul_le_mul hA hB
          have hge : 4503599627370496 * 2 ^ n.toNat ≤ rmag (frung p) := by
            obtain ⟨k, hk⟩ := rung_some 4503599627370496 n.toNat (by omega)
            have : k ≤ frung p := by
              rw [hr1]
              refine le_nearK hR ?_
              rw [hk]
              refine Nat.le_of_mul_le_mul_right (c := 2 ^ 104) ?_ (by decide)
              rw [hrel, Nat.mul_comm _ (2 ^ 104), Nat.mul_comm _ (2 ^ (n + 2146).toNat), Nat.mul_comm (2 ^ (n + 2146).toNat)]
              refine Nat.mul_le_mul hAB ?_
              rw [show (4503599627370496 : Nat) = 2 ^ 52 by decide, ← Nat.pow_add, ← Nat.pow_add]
              exact Nat.pow_le_pow_right (by omega) (by omega)
            have := rmag_le this
            omega
          obtain ⟨q, hq⟩ := dvd_of_ge hge
          obtain ⟨m, e, hm, hm1, _⟩ := rung_form (frung p)
          have hne : n.toNat ≤ e := by
            rcases Nat.lt_or_ge e n.toNat with h | h
            · exfalso
              have h1 : 2 ^ (e + 1) ≤ 2 ^ n.toNat := Nat.pow_le_pow_right (by omega) (by omega)
              rw [Nat.pow_succ] at h1
              have h2 : m * 2 ^ e < 9007199254740992 * 2 ^ e := Nat.mul_lt_mul_of_pos_right hm1 (Nat.two_pow_pos e)
              omega
            · exact h
          obtain ⟨j, hj⟩ := rung_some m (e - n.toNat) (by omega)
          refine ⟨j, ?_⟩
          rw [hj, hm, show (-n).toNat = 0 by omega, Nat.pow_zero, Nat.mul_one, Nat.mul_assoc, ← Nat.pow_add]
          congr 2; omega
    obtain ⟨j, hj⟩ := hj
    -- compared
    have e1 : rmag (frung p) * 2 ^ E * (2 ^ 104 * 2 ^ (-n).toNat) = rmag j * (2 ^ n.toNat * 2 ^ (E + 104)) := by
      rw [Nat.pow_add, ← Nat.mul_assoc (rmag j), hj, Nat.mul_assoc, Nat.mul_assoc]
      congr 1
      rw [Nat.mul_comm (2 ^ (-n).toNat), Nat.mul_assoc]
    have e2 : rmag (frung a) * rmag (frung b) * (2 ^ 104 * 2 ^ (-n).toNat) = (A * B).natAbs * 2 ^ b' * (2 ^ n.toNat * 2 ^ (E + 104)) := by
      rw [← Nat.mul_assoc, hrel, Nat.mul_assoc, Nat.mul_assoc, ← Nat.pow_add, ← Nat.pow_add, ← Nat.pow_add]
      congr 2; omega
    have pos1 : 0 < 2 ^ 104 * 2 ^ (-n).toNat := Nat.mul_pos (by decide) (Nat.two_pow_pos _)
    have pos2 : 0 < 2 ^ n.toNat * 2 ^ (E + 104) := Nat.mul_pos (Nat.two_pow_pos _) (Nat.two_pow_pos _)
    have c1 : rmag (frung p) * 2 ^ E < rmag (frung a) * rmag (frung b) ↔ rmag j < (A * B).natAbs * 2 ^ b' := by
      rw [← Nat.mul_lt_mul_right pos1, e1, e2, Nat.mul_lt_mul_right pos2]
    have c2 : rmag (frung a) * rmag (frung b) < rmag (frung p) * 2 ^ E ↔ (A * B).natAbs * 2 ^ b' < rmag j := by
      rw [← Nat.mul_lt_mul_right pos1, e1, e2, Nat.mul_lt_mul_right pos2]
    have hjle : rmag j ≤ 2 * ((A * B).natAbs * 2 ^ b') := by
      have h2 := near_two hR
      rw [← hr1] at h2
      have := Nat.mul_le_mul_right (2 ^ 104 * 2 ^ (-n).toNat) h2
      rw [e1, Nat.mul_assoc 2, e2, ← Nat.mul_assoc 2] at this
      exact Nat.le_of_mul_le_mul_right this pos2
    have hjf : j < infK := by
      refine lt_inf (t := b' + 60) ?_ (by omega)
      have hAb : A.natAbs ≤ 9007199254740992 := by rcases Fa.full with h | h <;> omega
      have hBb : B.natAbs ≤ 9007199254740992 := by rcases Fb.full with h | h <;> omega
      have h5 : (A * B).natAbs ≤ 9007199254740992 * 9007199254740992 := by rw [Int.natAbs_mul]; exact Nat.mul_le_mul hAb hBb
      have h6 := Nat.mul_le_mul_right (2 ^ b') h5
      rw [Nat.pow_add]
      have h7 : (2 : Nat) ^ 60 = 1152921504606846976 := by decide
      rw [h7]
      have := Nat.two_pow_pos b'
      omega
    -- the words
    have hp'w : p' = double.word (fneg a ^^ fneg b) j := by
      unfold Pow at hpw
      rw [hr2, show (- -n).toNat = n.toNat by rw [Int.neg_neg], ← hj] at hpw
      have := hpw.uniq (Rn.exact (fneg a ^^ fneg b) j (2 ^ n.toNat) (Nat.two_pow_pos _))
      rw [Nat.min_eq_left (Nat.le_of_lt hjf)] at this
      exact this
    have hpv := word_fval (fneg a ^^ fneg b) hjf
    rw [← hp'w] at hpv
    rw [abs_scaled] at hR' hq1 hRh
    have hhk : nearK ((A * B).natAbs * 2 ^ b') 1 R' < infK := by unfold Fin at hhf; rw [hq1] at hhf; omega
    rw [Nat.min_eq_left (Nat.le_of_lt hhk)] at hq1
    have hhv : fval high = (if (fneg a ^^ fneg b) then -(rmag (nearK ((A * B).natAbs * 2 ^ b') 1 R') : Int) else rmag (nearK ((A * B).natAbs * 2 ^ b') 1 R')) := by
      unfold fval; rw [hq1, hq2]
    obtain ⟨d, hd, hdi, hdl, -, -⟩ := sub_sign hhf hpv.2
    refine ⟨high, low, d, hPrd, hd, hdi, hdl, hL.2.1, Nat.le_of_lt hlf, hRp, ?_⟩
    refine sides_scaled (L := 0) hRp hf c1 c2 hR' hhv hpv.1 hhf hpv.2 hd ?_ hlf rfl
    rw [hL.2.2, Int.sub_mul, ← hH.2.2, hhv]
    have hab : (((A * B).natAbs * 2 ^ b' : Nat) : Int) = ((A * B).natAbs : Int) * 2 ^ b' := by rw [Int.natCast_mul, Int.natCast_pow]; rfl
    rw [hab]
    cases hb : (fneg a ^^ fneg b)
    · have := hsg.2 hb
      simp only [Bool.false_eq_true, if_false]
      rw [show ((A * B).natAbs : Int) = A * B by omega]
    · have := hsg.1 hb
      simp only [if_true]
      rw [show ((A * B).natAbs : Int) = -(A * B) by omega, Int.neg_mul]
      omega
  · have hi : frung p = infK := by
      unfold Fin at hf
      have := Nat.min_le_right (nearK (rmag (frung a) * rmag (frung b)) (2 ^ E) R) infK
      omega
    rw [hinf hi]
    have hsub := sub_inf_r hi hhf
    have hw := inf_word (!fneg p)
    refine ⟨high, low, _, hPrd, hsub, Nat.le_of_eq hw.1, (word_rung (!fneg p) (k := infK) (by decide)).2.2, hL.2.1, Nat.le_of_lt hlf, hRp, ?_⟩
    have hne : srung (double.word (!fneg p) infK) ≠ 0 := by
      unfold srung; rw [hw.1]
      have : 0 < infK := by decide
      split <;> omega
    rw [if_neg hne]
    exact sides_inf hRp hi hw.1 (by rw [hw.2, hr2])
end Go.Proofs.Ytepdhbhpiehigaa
