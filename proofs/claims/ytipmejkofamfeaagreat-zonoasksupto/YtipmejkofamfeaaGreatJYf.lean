import Derived.Test.YtipmejkofamfeaaGreatJYe
namespace Go.Proofs.YtipmejkofamfeaaGreat
open Go.RowKit Go.Shelf
set_option linter.unusedVariables false
open Ieee

/-- Down, and up of what is turned, are turned. -/
theorem rz_mirror {V : Int} {D : Nat} {p q : Nat × Bool} (hD : 0 < D) (h : RndZ 2 V D p) (h' : RndZ 1 (-V) D q) : p.2 = q.2 ∧ (p.2 = true → srung p.1 = -srung q.1) := by
  obtain ⟨R, hR, rfl⟩ := h
  obtain ⟨R', hR', rfl⟩ := h'
  rw [Int.natAbs_neg] at hR' ⊢
  obtain rfl := hR'.uniq hR
  have hi : 0 < infK := by decide
  rcases Int.lt_trichotomy V 0 with hv | hv | hv
  · rw [decide_eq_true hv, decide_eq_false (show ¬ (-V < 0) by omega)]
    unfold tellK
    simp only [show ¬ ((2 : Int) = 0) by decide, show ¬ ((1 : Int) = 0) by decide, if_false, and_self, or_true, true_or, if_true]
    split
    · rename_i hu
      exact ⟨rfl, fun _ => by rw [srung_sgn true hu, srung_sgn false hu]; simp⟩
    · exact ⟨rfl, fun c => by cases c⟩
  · subst hv
    have hz := fl_zero hR
    subst hz
    have e1 : (decide ((0 : Int) < 0)) = false := by decide
    have e2 : (decide (-(0 : Int) < 0)) = false := by decide
    rw [e1, e2, Int.natAbs_zero, tell_zero 1 false true D hD]
    unfold tellK
    simp only [show ¬ ((2 : Int) = 0) by decide, show ¬ ((1 : Int) = 0) by decide, show ¬ ((2 : Int) = 1) by decide, show ¬ ((1 : Int) = 2) by decide, Bool.true_eq_false, Bool.false_eq_true, if_false, and_false, false_and, or_self, or_true, true_or, if_true, Nat.zero_min]
    exact ⟨trivial, fun _ => by decide⟩
  · rw [decide_eq_false (show ¬ (V < 0) by omega), decide_eq_true (show -V < 0 by omega)]
    unfold tellK
    simp only [show ¬ ((2 : Int) = 0) by decide, show ¬ ((1 : Int) = 0) by decide, show ¬ ((2 : Int) = 1) by decide, show ¬ ((1 : Int) = 2) by decide, Bool.true_eq_false, Bool.false_eq_true, if_false, and_false, false_and, or_self, or_true, true_or, if_true]
    exact ⟨trivial, fun _ => by rw [srung_sgn false (by omega), srung_sgn true (by omega)]; simp⟩
theorem rz_order {X Y : Int} {D : Nat} {p q : Nat × Bool} (hD : 0 < D) (h : RndZ 2 X D p) (h' : RndZ 1 Y D q) (hle : X ≤ Y) (hp : p.2 = true) (hq : q.2 = true) : srung p.1 ≤ srung q.1 := by
  obtain ⟨f, hf⟩ := Sf.some X hD
  obtain ⟨g, hg⟩ := Sf.some Y hD
  have hfg : f ≤ g := (floor_le hD hg f).1 (Int.le_trans hf.1 hle)
  have hgc : g ≤ ceilK Y D g := by unfold ceilK; split <;> omega
  rcases rz_down h hf with ⟨_, _, a⟩ | ⟨a, _⟩
  · rcases rz_up h' hg with ⟨_, _, b⟩ | ⟨b, _⟩
    · rw [a, b]; omega
    · rw [b] at hq; cases hq
  · rw [a] at hp; cases hp
theorem canon_plainM {x : Nat} (h : Canon x) : plainM x = x := by
  unfold plainM
  split
  · rename_i e
    unfold Canon at h
    rw [e] at h
    rw [h]; rfl
  · rfl
theorem RndO.some_iff {d : Int} {x : Int} {u a : Nat} {b : Bool} (ha : a = 1166) (h : RndO d (some x) u b) : RndZ d x (2 ^ a) (u, b) := h a ha
theorem one1_is {a c : Nat} (ha : a = 1166) (hc : Fin c) : one1 c = some (fval c * ((2 ^ a : Nat) : Int)) := by
  obtain ⟨F, hF⟩ : ∃ F : Nat, F = 2098 := ⟨_, rfl⟩
  obtain ⟨E, hE⟩ : ∃ E : Nat, E = 2140 := ⟨_, rfl⟩
  have hg := great_bound hF hE
  have hr := fval_ltJ hc hF
  rw [← fval_absJ] at hr
  unfold one1
  have := prodO_step (x := 0) ha hE hc (by decide) (prodZ_oneJ ha _) (by rw [Int.zero_add]; generalize 2 ^ F = X at *; generalize 2 ^ E = Y at *; omega)
  rw [Int.zero_mul, Int.zero_add] at this
  exact this
/-- Bounds are the supports of the axes: 10.9. -/
theorem axes_agree {z : ZD} {i n : Nat} {dp dm : List Nat} {r : Nat × Nat × Bool} {s t : Nat} {ok is : Bool} (h : FnZ z) (hr : z.rs.length = n) (hrn : z.rn = n) (hi : i < n) (hpos : 0 ≤ fval (z.rs[i]?.getD 0))
    (hdp : ∀ j : Nat, dp[j]?.getD 0 = if j = i then 4607182418800017408 else 0) (hlp : dp.length = n) (hdm : ∀ j : Nat, dm[j]?.getD 0 = if j = i then 13830554455654793216 else 0) (hlm : dm.length = n)
    (hb : AroR (z.cs[i]?.getD 0) (farZ z i) r) (hs : RndO 1 (supO z dp) s ok) (ht : RndO 1 (supO z dm) t is) :
    r.2.2 = (!ok || !is) ∧ (r.2.2 = false → r.2.1 = s ∧ srung r.1 = -srung t ∧ Fin r.1 ∧ Fin s ∧ Fin t ∧ r.1 < 18446744073709551616 ∧ s < 18446744073709551616 ∧ t < 18446744073709551616) := by
  obtain ⟨a, ha⟩ : ∃ a : Nat, a = 1166 := ⟨_, rfl⟩
  obtain ⟨F, hF⟩ : ∃ F : Nat, F = 2098 := ⟨_, rfl⟩
  obtain ⟨E, hE⟩ : ∃ E : Nat, E = 2140 := ⟨_, rfl⟩
  have hg := great_bound hF hE
  have hsm := sum_bound h i hF
  have h1 := fval_ltJ (h.r i) hF
  have h2 := fval_ltJ (h.c i) hF
  rw [← fval_absJ] at h1 h2
  have hrep : 0 ≤ reA z i := by unfold reA; omega
  have hrel : (reA z i).natAbs ≤ 1050001 * 2 ^ F := by unfold reA; generalize 2 ^ F = X at *; omega
  rw [supO_is ha h (.inl ⟨rfl, rfl⟩) hdp hlp hr hi, Int.one_mul] at hs
  rw [supO_is ha h (.inr ⟨rfl, rfl⟩) hdm hlm hr hi] at ht
  obtain ⟨lo, low, hi', high, k1, k2, k3⟩ := hb
  rw [farZ_is ha h (by rw [hrn]; exact hi), one1_is ha (h.c i)] at k1 k2
  rw [joinO_back ha hE (by generalize 2 ^ F = X at *; generalize 2 ^ E = Y at *; omega)] at k1
  rw [joinO_step ha hE (by generalize 2 ^ F = X at *; generalize 2 ^ E = Y at *; omega)] at k2
  have hs := RndO.some_iff ha hs
  have ht := RndO.some_iff ha ht
  have k1 := RndO.some_iff ha k1
  have k2 := RndO.some_iff ha k2
  have e1 := RndZ.uniq k2 hs
  have hD := Nat.two_pow_pos a
  have hm : (-1 * fval (z.cs[i]?.getD 0) + reA z i) * ((2 ^ a : Nat) : Int) = -((fval (z.cs[i]?.getD 0) - reA z i) * ((2 ^ a : Nat) : Int)) := by
    rw [← Int.neg_mul]; congr 1; omega
  rw [hm] at ht
  have e2 := rz_mirror hD k1 ht
  simp only [Prod.mk.injEq] at e1
  obtain ⟨rfl, rfl⟩ := e1
  have e3 : low = is := e2.1
  subst e3
  have c1 := rz_canon k1
  have c2 := rz_canon k2
  have c3 := rz_canon ht
  cases hl : low with
  | false =>
    rw [hl] at k3
    subst k3
    simp
  | true =>
    cases hh : high with
    | false =>
      rw [hl, hh] at k3
      subst k3
      simp
    | true =>
      rw [hl, hh] at k3
      have hle : (fval (z.cs[i]?.getD 0) - reA z i) * ((2 ^ a : Nat) : Int) ≤ (fval (z.cs[i]?.getD 0) + reA z i) * ((2 ^ a : Nat) : Int) := Int.mul_le_mul_of_nonneg_right (by omega) (Int.natCast_nonneg _)
      have hgood : Good lo hi' false := ⟨rfl, c1.1, c2.1, rz_order hD k1 k2 hle hl hh⟩
      have k4 : r = (lo, hi', false) := by
        rw [k3]
        simp only [Bool.and_self, if_true]
        unfold makeS
        rw [if_pos hgood, canon_plainM c1.2.2, canon_plainM c2.2.2]
      subst k4
      exact ⟨rfl, fun _ => ⟨rfl, e2.2 hl, c1.1, c2.1, c3.1, c1.2.1, c2.2.1, c3.2.1⟩⟩
end Go.Proofs.YtipmejkofamfeaaGreat
