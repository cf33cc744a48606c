import Derived.Test.YtpjkebjgpknibaaGreatJXs
import Derived.Test.YtpjkebjgpknibaaGreatGXc
namespace Go.Proofs.YtpjkebjgpknibaaGreat
open Go.RowKit Go.Shelf
set_option linter.unusedVariables false
set_option linter.unusedSimpArgs false
open Ieee

theorem up_leJ {Y : Int} {D q : Nat} (hD : 0 < D) (h : RndZ 1 Y D (q, true)) : Y ≤ fval q * (D : Int) := by
  obtain ⟨f, hf⟩ := Sf.some Y hD
  rcases rz_up h hf with ⟨_, _, a⟩ | ⟨a, _⟩
  · have k : Y ≤ smag (ceilK Y D f) * (D : Int) := (ceil_le hD hf _).2 (Int.le_refl _)
    have a' : srung q = max (ceilK Y D f) (1 - (infK : Int)) := a
    have m : smag (ceilK Y D f) ≤ smag (srung q) := by
      rcases Int.lt_trichotomy (smag (ceilK Y D f)) (smag (srung q)) with c | c | c
      · omega
      · omega
      · have := lt_of_smag c; omega
    rw [fval_smag]
    exact Int.le_trans k (Int.mul_le_mul_of_nonneg_right m (Int.natCast_nonneg D))
  · have := congrArg Prod.snd a; cases this
/-- Up rises. -/
theorem up_rises {X Y : Int} {D : Nat} {p q : Nat × Bool} (hD : 0 < D) (h : RndZ 1 X D p) (h' : RndZ 1 Y D q) (hle : X ≤ Y) (hp : p.2 = true) (hq : q.2 = true) : srung p.1 ≤ srung q.1 := by
  obtain ⟨f, hf⟩ := Sf.some X hD
  obtain ⟨g, hg⟩ := Sf.some Y hD
  have hc : ceilK X D f ≤ ceilK Y D g := (ceil_le hD hf _).1 (Int.le_trans hle ((ceil_le hD hg _).2 (Int.le_refl _)))
  rcases rz_up h hf with ⟨_, _, a⟩ | ⟨a, _⟩
  · rcases rz_up h' hg with ⟨_, _, b⟩ | ⟨b, _⟩
    · rw [a, b]; omega
    · rw [b] at hq; cases hq
  · rw [a] at hp; cases hp
theorem sumG_two {B C D : List Nat → Nat} {c : Nat} : ∀ (gs : List (List Nat)), (∀ g, B g ≤ C g + c * D g) → sumG B gs ≤ sumG C gs + c * sumG D gs
  | [], _ => by simp [sumG]
  | g :: gs, h => by
    have h1 := sumG_two gs h
    have h2 := h g
    have e1 : sumG B (g :: gs) = B g + sumG B gs := rfl
    have e2 : sumG C (g :: gs) = C g + sumG C gs := rfl
    have e3 : sumG D (g :: gs) = D g + sumG D gs := rfl
    rw [e1, e2, e3, Nat.mul_add]
    omega
theorem sumG_nought {B : List Nat → Nat} (h : ∀ g, B g = 0) : ∀ gs : List (List Nat), sumG B gs = 0
  | [] => rfl
  | g :: gs => by
    have e1 : sumG B (g :: gs) = B g + sumG B gs := rfl
    rw [e1, h g, sumG_nought h gs]
/-- A box as wide as a zonotope goes no less far. -/
theorem box_more {ds rs ys : List Nat} {gs : List (List Nat)} {n : Nat} (h : ∀ j, j < n → farV rs gs j ≤ fval (ys[j]?.getD 0)) : ∀ k, k ≤ n → (sumG (fun g => (dotV ds g k).natAbs) gs : Nat) + boxV ds rs k ≤ boxV ds ys k
  | 0, _ => by
    rw [sumG_nought (B := fun g => (dotV ds g 0).natAbs) (fun g => rfl)]
    simp [boxV]
  | k + 1, hk => by
    have ih := box_more (ds := ds) h k (by omega)
    have h1 := h k (by omega)
    have h2 := sumG_two (B := fun g => (dotV ds g (k + 1)).natAbs) (C := fun g => (dotV ds g k).natAbs) (D := fun g => rmag (frung (g[k]?.getD 0))) (c := rmag (frung (ds[k]?.getD 0))) gs fun g => by
      have e1 : dotV ds g (k + 1) = dotV ds g k + fval (ds[k]?.getD 0) * fval (g[k]?.getD 0) := rfl
      have e2 : (fval (ds[k]?.getD 0) * fval (g[k]?.getD 0)).natAbs = rmag (frung (ds[k]?.getD 0)) * rmag (frung (g[k]?.getD 0)) := by rw [Int.natAbs_mul, fval_absJ, fval_absJ]
      rw [e1, ← e2]
      exact Int.natAbs_add_le _ _
    have e3 : boxV ds rs (k + 1) = boxV ds rs k + fval (frung (ds[k]?.getD 0)) * fval (rs[k]?.getD 0) := rfl
    have e4 : boxV ds ys (k + 1) = boxV ds ys k + fval (frung (ds[k]?.getD 0)) * fval (ys[k]?.getD 0) := rfl
    rw [e3, e4, fval_frung]
    unfold farV at h1
    have h3 := Int.mul_le_mul_of_nonneg_left h1 (Int.natCast_nonneg (rmag (frung (ds[k]?.getD 0))))
    rw [Int.mul_add, ← Int.natCast_mul] at h3
    omega
theorem farV_pos {rs : List Nat} {gs : List (List Nat)} {i : Nat} (h : 0 ≤ fval (rs[i]?.getD 0)) : 0 ≤ farV rs gs i := by unfold farV; omega
/-- What a box that is none of the bad ones has. -/
structure BxG (z y : ZD) : Prop where
  N : y.N = z.N
  bad : y.bad = false
  cs : y.cs = z.cs.map plainM
  rl : y.rs.length = z.rn
  far : ∀ j, j < z.rn → farV z.rs z.gs j ≤ fval (y.rs[j]?.getD 0) ∧ Fin (y.rs[j]?.getD 0)
  ids : y.ids = []
  gs : y.gs = []
  cn : y.cn = z.rn
  rn : y.rn = z.rn
  dn : y.dn = 0
  gn : y.gn = 0
theorem BxR.good {w : World} {z y : ZD} (h : BxR z y) (hz : ZR w z) (hf : WhF z) (hb : y.bad = false) : BxG z y := by
  obtain ⟨a, ha⟩ : ∃ a : Nat, a = 1166 := ⟨_, rfl⟩
  rcases h.is with ⟨_, h2, h3, h4, h5, h6, h7, h8, h9, h10, h11, h12⟩ | ⟨_, rfl⟩
  · refine ⟨h2, h3, h4, h5, fun j hj => ?_, h7, h8, h9, h10, h11, h12⟩
    have hr := h6 j hj
    have hfin := RndO.finJ hr
    rw [farZ_is ha hf.fin hj] at hr
    have e : farV z.rs z.gs j = reA z j := by rw [reA_is (by rw [hz.g.length, hf.dg])]; rfl
    have h13 := up_leJ (by decide) (RndZ.of_ratio (D' := 1) (V' := reA z j) (RndO.some_iff ha hr) (by omega) (by rw [Int.natCast_one, Int.mul_one]))
    rw [Int.natCast_one, Int.mul_one] at h13
    exact ⟨by rw [e]; exact h13, hfin⟩
  · cases hb
theorem fval_sign {u : Nat} (h : 0 ≤ fval u) : ¬ srung u < 0 := by
  intro hs
  have h1 := fval_smag u
  have h2 := fval_pos_iff u
  have h3 := fval_zero_iff u
  rcases Int.lt_or_eq_of_le h with h4 | h4
  · have := h2.1 h4; omega
  · have := h3.1 h4.symm; omega
theorem BxG.whole {z y : ZD} (h : BxG z y) (hw : wholeB z = true) (hf : WhF z) : wholeB y = true := by
  obtain ⟨a1, a2, a3, a4, a5, a6, a7⟩ := (wholeB_iff z).1 hw
  have hn : ∀ u ∈ y.rs, ∃ j, j < z.rn ∧ y.rs[j]?.getD 0 = u := fun u hu => by
    obtain ⟨j, hj, rfl⟩ := List.getElem_of_mem hu
    exact ⟨j, by rw [← h.rl]; exact hj, by rw [List.getElem?_eq_getElem hj, Option.getD_some]⟩
  refine (wholeB_iff y).2 ⟨by rw [h.N]; exact a1, by rw [h.N]; exact a2, by rw [h.N, h.cs]; exact numN_plainM a3, ?_, by rw [h.dn, h.gn], ?_, fun j hj => by rw [h.dn] at hj; omega⟩
  · refine numN_of (by rw [h.rl, h.N, hf.N]) fun u hu => ?_
    obtain ⟨j, hj, rfl⟩ := hn u hu
    exact (h.far j hj).2
  · unfold posB
    rw [List.all_eq_true]
    intro u hu
    obtain ⟨j, hj, rfl⟩ := hn u hu
    have := fval_sign (Int.le_trans (farV_pos (hf.pos j)) (h.far j hj).1)
    simpa using this
/-- The box's support is not below. -/
theorem BxG.sup {w : World} {z y : ZD} {ds : List Nat} {s t : Nat} (h : BxG z y) (hz : ZR w z) (hf : WhF z) (hy : WhF y) (h1 : SupR z ds s true) (h2 : SupR y ds t true) : srung s ≤ srung t ∧ Fin s ∧ Fin t := by
  obtain ⟨a, ha⟩ : ∃ a : Nat, a = 92 := ⟨_, rfl⟩
  obtain ⟨A, hA⟩ : ∃ A : Nat, A = 1166 := ⟨_, rfl⟩
  rcases h1.is with ⟨n1, r1⟩ | ⟨_, _, c⟩
  · rcases h2.is with ⟨n2, r2⟩ | ⟨_, _, c⟩
    · refine ⟨?_, r1.finJ, r2.finJ⟩
      obtain ⟨q1, q2⟩ := numN_fin n1
      have hl : ds.length = z.rn := by rw [hf.N] at q1; omega
      rw [supO_gen ha hf.fin (by rw [hz.g.length, hf.dg]) (fin_getD q2) hl hf.rl hf.n2] at r1
      rw [supO_gen ha hy.fin (by rw [h.gs, h.dn]; rfl) (fin_getD q2) hl h.rl hf.n2] at r2
      refine up_rises (Nat.two_pow_pos A) (RndO.some_iff hA r1) (RndO.some_iff hA r2) (Int.mul_le_mul_of_nonneg_right ?_ (Int.natCast_nonneg _)) rfl rfl
      have hb := box_more (ds := ds) (rs := z.rs) (gs := z.gs) (ys := y.rs) (n := z.rn) (fun j hj => (h.far j hj).1) z.rn (Nat.le_refl _)
      unfold supV
      rw [h.cs, h.gs, dotV_plain]
      have e : sumG (fun g => (dotV ds g z.rn).natAbs) [] = 0 := rfl
      rw [e]
      omega
    · cases c
  · cases c
theorem le_ordJ {u v : Nat} (hu : Fin u) (hv : Fin v) (h : srung u ≤ srung v) : (FloatKind.f64.format.order u v == some Ordering.lt || FloatKind.f64.format.order u v == some Ordering.eq) = true := by
  have ho := order_rung (x := u) (y := v) (Nat.le_of_lt hu) (Nat.le_of_lt hv)
  rw [f64_fmtJ, ho]
  by_cases h2 : srung u < srung v
  · rw [Int.compare_eq_lt.2 h2]; rfl
  · rw [Int.compare_eq_eq.2 (show srung u = srung v by omega)]; rfl
end Go.Proofs.YtpjkebjgpknibaaGreat
