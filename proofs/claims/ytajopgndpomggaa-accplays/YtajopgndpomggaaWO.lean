import Derived.Test.YtajopgndpomggaaWN
namespace Go.Proofs.Ytajopgndpomggaa
open Go.RowKit
set_option linter.unusedVariables false
open Ieee

theorem smag_inj {r s : Int} (h : smag r = smag s) : r = s := by
  rcases Int.lt_trichotomy r s with c | c | c
  · have := smag_lt c; omega
  · exact c
  · have := smag_lt c; omega
theorem srung_of_fval {x y : Nat} (h : fval x = fval y) : srung x = srung y := by
  rw [fval_smag, fval_smag] at h; exact smag_inj h
theorem fval_one {a : Nat} (ha : a = 1074) : fval 4607182418800017408 = ((2 ^ a : Nat) : Int) := by subst ha; decide +kernel
theorem prodZ_one {a : Nat} (ha : a = 1166) (u : Nat) : prodZ u 4607182418800017408 0 = fval u * ((2 ^ a : Nat) : Int) := by
  unfold prodZ
  obtain ⟨b, hb⟩ : ∃ b : Nat, b = 1074 := ⟨_, rfl⟩
  rw [fval_one hb, Int.mul_assoc]
  congr 1
  rw [show ((0 : Int) + 92).toNat = 92 by decide]
  have : (2 : Nat) ^ a = 2 ^ b * 2 ^ 92 := by rw [← Nat.pow_add, show b + 92 = a by omega]
  rw [this, Int.natCast_mul]
theorem fval_lt {u E : Nat} (hu : Fin u) (hE : E = 2098) : (fval u).natAbs < 2 ^ E := by
  obtain ⟨F, hF⟩ : ∃ F : Nat, F = 2046 := ⟨_, rfl⟩
  have h1 := rmag_lt hu
  rw [rmag_inf hF] at h1
  have h2 : (fval u).natAbs = rmag (frung u) := by unfold fval; split <;> omega
  have h3 : (2 : Nat) ^ E = 4503599627370496 * 2 ^ F := by
    rw [show (4503599627370496 : Nat) = 2 ^ 52 by decide, ← Nat.pow_add, show 52 + F = E by omega]
  rw [h2, h3]; exact h1
theorem hold_one {a u : Nat} (ha : a = 1166) (hu : Fin u) : holdZ (fval u * ((2 ^ a : Nat) : Int)) = some (fval u * ((2 ^ a : Nat) : Int)) := by
  unfold holdZ
  rw [if_pos]
  obtain ⟨E, hE⟩ : ∃ E : Nat, E = 2098 := ⟨_, rfl⟩
  obtain ⟨Q, hQ⟩ : ∃ Q : Nat, Q = 4800 := ⟨_, rfl⟩
  have h1 := fval_lt hu hE
  have h2 : (2 : Nat) ^ E * 2 ^ a ≤ 2 ^ Q := by rw [← Nat.pow_add]; exact Nat.pow_le_pow_right (by omega) (by omega)
  have h3 : (fval u * ((2 ^ a : Nat) : Int)).natAbs < 2 ^ Q := by
    rw [Int.natAbs_mul, Int.natAbs_natCast]
    exact Nat.lt_of_lt_of_le (Nat.mul_lt_mul_of_pos_right h1 (Nat.two_pow_pos _)) h2
  rw [hQ] at h3
  generalize fval u * ((2 ^ a : Nat) : Int) = X at *
  generalize 2 ^ 4800 = L at *
  omega
theorem sumO_single {u : Nat} : sumO (some 0) [u] = if Fin u then some (prodZ u 4607182418800017408 0) else none := by
  show prodO (some 0) u 4607182418800017408 0 = _
  unfold prodO
  simp only [Option.bind_some]
  obtain ⟨a, ha⟩ : ∃ a : Nat, a = 1166 := ⟨_, rfl⟩
  by_cases hu : Fin u
  · rw [if_pos ⟨hu, by decide, by decide, by decide⟩, if_pos hu, Int.zero_add, prodZ_one ha, hold_one ha hu]
  · rw [if_neg (fun c => hu c.1), if_neg hu]
theorem holdZ_neg (z : Int) : holdZ (-z) = (holdZ z).map (fun y => -y) := by
  unfold holdZ
  have : (-((2 ^ 4800 : Nat) : Int) < -z ∧ -z < ((2 ^ 4800 : Nat) : Int)) ↔ (-((2 ^ 4800 : Nat) : Int) < z ∧ z < ((2 ^ 4800 : Nat) : Int)) := by
    generalize ((2 ^ 4800 : Nat) : Int) = L
    omega
  by_cases h : -((2 ^ 4800 : Nat) : Int) < z ∧ z < ((2 ^ 4800 : Nat) : Int)
  · rw [if_pos h, if_pos (this.2 h)]; rfl
  · rw [if_neg h, if_neg (fun c => h (this.1 c))]; rfl
theorem fin_fopp {u : Nat} (hu : u < 18446744073709551616) : Fin (fopp u) ↔ Fin u := by unfold Fin; rw [(fopp_parts hu).1]
theorem prodO_fopp (o : Option Int) {u : Nat} (hu : u < 18446744073709551616) (b : Nat) (n : Int) : prodO (o.map (fun y => -y)) (fopp u) b n = (prodO o u b n).map (fun y => -y) := by
  cases o with
  | none => rfl
  | some z =>
    unfold prodO
    simp only [Option.map_some, Option.bind_some]
    by_cases h : Fin u ∧ Fin b ∧ -64 ≤ n ∧ n ≤ 64
    · rw [if_pos h, if_pos (by rw [fin_fopp hu]; exact h)]
      have : prodZ (fopp u) b n = -prodZ u b n := by unfold prodZ; rw [fopp_fval hu]; simp [Int.neg_mul]
      rw [this, ← Int.neg_add, holdZ_neg]
    · rw [if_neg h, if_neg (by rw [fin_fopp hu]; exact h)]; rfl
theorem sumO_fopp : ∀ (us : List Nat) (o : Option Int), (∀ u ∈ us, u < 18446744073709551616) → sumO (o.map (fun y => -y)) (us.map fopp) = (sumO o us).map (fun y => -y)
  | [], _, _ => rfl
  | u :: us, o, h => by
    show sumO (prodO (o.map (fun y => -y)) (fopp u) 4607182418800017408 0) (us.map fopp) = (sumO (prodO o u 4607182418800017408 0) us).map _
    rw [prodO_fopp o (h u (by simp)), sumO_fopp us _ (fun v hv => h v (by simp [hv]))]
theorem sumO_fopp0 (us : List Nat) (h : ∀ u ∈ us, u < 18446744073709551616) : sumO (some 0) (us.map fopp) = (sumO (some 0) us).map (fun y => -y) := sumO_fopp us (some 0) h
theorem sgnK_ne (neg : Bool) {k : Nat} (h : k < infK) : sgnK neg k ≠ 9223372036854775808 := by
  have := inf_lt_word
  unfold sgnK; split <;> omega
/-- What is told of a real is a number, never -0. -/
theorem tell_ne {d : Int} {neg : Bool} {n D : Nat} {p : Nat × Bool} (h : Rnd d neg n D p) : p.1 ≠ 9223372036854775808 := by
  obtain ⟨R, hR, rfl⟩ := h
  unfold tellK
  have i0 : (0 : Nat) ≠ 9223372036854775808 := by decide
  split
  · split
    · exact sgnK_ne _ (by assumption)
    · exact i0
  · split
    · split
      · exact sgnK_ne _ (by assumption)
      · exact i0
    · split
      · exact sgnK_ne _ (Nat.lt_of_le_of_lt (Nat.min_le_right _ _) (by decide))
      · exact i0
theorem RndO.num {d : Int} {o : Option Int} {u : Nat} {b : Bool} (h : RndO d o u b) : Fin u ∧ u < 18446744073709551616 ∧ u ≠ 9223372036854775808 := by
  cases o with
  | none => obtain ⟨rfl, _⟩ := h; exact ⟨by decide, by decide, by decide⟩
  | some z =>
    obtain ⟨a, ha⟩ : ∃ a : Nat, a = 1166 := ⟨_, rfl⟩
    have h1 := h a ha
    exact ⟨(tell_fin h1).1, (tell_fin h1).2, tell_ne h1⟩
theorem tell_opp {n D R : Nat} (neg : Bool) : ∃ k b, k < infK ∧ tellK 1 neg n D R = (sgnK neg k, b) ∧ tellK 2 (!neg) n D R = (sgnK (!neg) k, b) := by
  have i0 : (0 : Nat) < infK := by decide
  cases neg
  · have e1 : tellK 1 false n D R = if upK n D R < infK then (sgnK false (upK n D R), true) else (0, false) := by unfold tellK; simp
    have e2 : tellK 2 (!false) n D R = if upK n D R < infK then (sgnK true (upK n D R), true) else (0, false) := by unfold tellK; simp
    rw [e1, e2]
    by_cases h : upK n D R < infK
    · rw [if_pos h, if_pos h]; exact ⟨_, _, h, rfl, rfl⟩
    · rw [if_neg h, if_neg h]; exact ⟨0, false, i0, by simp [sgnK], by simp [sgnK]⟩
  · have e1 : tellK 1 true n D R = (sgnK true (min R (infK - 1)), true) := by unfold tellK; simp
    have e2 : tellK 2 (!true) n D R = (sgnK false (min R (infK - 1)), true) := by unfold tellK; simp
    rw [e1, e2]
    exact ⟨_, _, Nat.lt_of_le_of_lt (Nat.min_le_right _ _) (by decide), rfl, rfl⟩
/-- Up of a real and Down of the turned one. -/
theorem rndO_opp {o : Option Int} {p q : Nat} {b c : Bool} (h : RndO 1 o p b) (k : RndO 2 (o.map (fun y => -y)) q c) : b = c ∧ (FloatKind.f64.format.order p (fopp q) == some .eq) = true := by
  have hp := h.num
  have hq := k.num
  have key : b = c ∧ srung p = -srung q := by
    cases o with
    | none => obtain ⟨rfl, rfl⟩ := h; obtain ⟨rfl, rfl⟩ := k; exact ⟨rfl, by decide⟩
    | some z =>
      obtain ⟨a, ha⟩ : ∃ a : Nat, a = 1166 := ⟨_, rfl⟩
      have h1 := h a ha
      have k1 : RndZ 2 (-z) (2 ^ a) (q, c) := k a ha
      by_cases hz : z = 0
      · subst hz
        have e1 := h1.uniq (rnd_nought 1 (decide ((0 : Int) < 0)) (2 ^ a) (Nat.two_pow_pos _) (by omega))
        have e2 := k1.uniq (rnd_nought 2 (decide (-(0 : Int) < 0)) (2 ^ a) (Nat.two_pow_pos _) (by omega))
        cases e1; cases e2
        exact ⟨rfl, by decide⟩
      · unfold RndZ at h1 k1
        rw [Int.natAbs_neg] at k1
        have hn : decide (-z < 0) = !decide (z < 0) := by
          by_cases c : z < 0
          · rw [decide_eq_true c, decide_eq_false (by omega)]; rfl
          · rw [decide_eq_false c, decide_eq_true (by omega)]; rfl
        rw [hn] at k1
        obtain ⟨R, r1, r2⟩ := h1
        obtain ⟨S, s1, s2⟩ := k1
        have := r1.uniq s1
        subst this
        obtain ⟨m, t, hm, t1, t2⟩ := tell_opp (n := z.natAbs) (D := 2 ^ a) (R := R) (decide (z < 0))
        rw [t1] at r2
        rw [t2] at s2
        cases r2; cases s2
        refine ⟨rfl, ?_⟩
        rw [srung_sgn _ hm, srung_sgn _ hm]
        cases decide (z < 0) <;> simp
  refine ⟨key.1, ?_⟩
  have hf := fopp_parts hq.2.1
  show (Ieee.double.order p (fopp q) == some .eq) = true
  rw [ord_eq (Nat.le_of_lt hp.1) (by rw [hf.1]; exact Nat.le_of_lt hq.1), fopp_srung hq.2.1]
  exact decide_eq_true key.2
/-- Of one number alone. -/
theorem rndO_single {d : Int} {u x : Nat} {b : Bool} (hu : u < 18446744073709551616) (hd : d = 0 ∨ d = 1 ∨ d = 2) (h : RndO d (sumO (some 0) [u]) x b) : b = decide (Fin u) ∧ (b = false → x = 0) ∧ (b = true → (FloatKind.f64.format.order x u != some .eq) = false) ∧ x ≠ 9223372036854775808 := by
  have hne := h.num
  rw [sumO_single] at h
  by_cases hf : Fin u
  · rw [if_pos hf] at h
    obtain ⟨rfl, rfl⟩ := rndO_exact hu hf hd (fun a ha => prodZ_one ha u) h
    refine ⟨(decide_eq_true hf).symm, (fun c => by cases c), fun _ => ?_, hne.2.2⟩
    have hp := plain_fval hu hf
    have : (Ieee.double.order (plainM u) u == some .eq) = true := by
      rw [ord_eq (Nat.le_of_lt hp.2.1) (Nat.le_of_lt hf)]; exact decide_eq_true (srung_of_fval hp.1)
    show (!(Ieee.double.order (plainM u) u == some .eq)) = false
    rw [this]; rfl
  · rw [if_neg hf] at h
    obtain ⟨rfl, rfl⟩ := h
    exact ⟨(decide_eq_false hf).symm, fun _ => rfl, (fun c => by cases c), by decide⟩
end Go.Proofs.Ytajopgndpomggaa
