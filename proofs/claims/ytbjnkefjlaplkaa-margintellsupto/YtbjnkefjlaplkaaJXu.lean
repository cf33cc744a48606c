import Derived.Test.YtbjnkefjlaplkaaJXs
import Derived.Test.YtbjnkefjlaplkaaGXc
namespace Go.Proofs.Ytbjnkefjlaplkaa
open Go.RowKit Go.Shelf
set_option linter.unusedVariables false
set_option linter.unusedSimpArgs false
open Ieee

theorem up_leK {Y : Int} {D q : Nat} (hD : 0 < D) (h : RndZ 1 Y D (q, true)) : Y ≤ fval q * (D : Int) := by
  obtain ⟨f, hf⟩ := Sf.some Y hD
  rcases rz_up h hf with ⟨_, _, a⟩ | ⟨a, _⟩
  · have k : Y ≤ smag (ceilK Y D f) * (D : Int) := (ceil_le hD hf _).2 (Int.le_refl _)
    have a' : srung q = max (ceilK Y D f) (1 - (infK : Int)) := a
    have m : smag (ceilK Y D f) ≤ smag (srung q) := by
      rcases Int.lt_trichotomy (smag (ceilK Y D f)) (smag (srung q)) with c | c | c
      · omega
      · omega
      · have := lt_of_smag c; omega
    rw [fval_smag]
    exact Int.le_trans k (Int.mul_le_mul_of_nonneg_right m (Int.natCast_nonneg D))
  · have := congrArg Prod.snd a; cases this
theorem down_leK {X : Int} {D p : Nat} (hD : 0 < D) (h : RndZ 2 X D (p, true)) : fval p * (D : Int) ≤ X := by
  obtain ⟨f, hf⟩ := Sf.some X hD
  rcases rz_down h hf with ⟨_, _, a⟩ | ⟨a, _⟩
  · have a' : srung p = min f ((infK : Int) - 1) := a
    have m : smag (srung p) ≤ smag f := by
      rcases Int.lt_trichotomy (smag f) (smag (srung p)) with c | c | c
      · have := lt_of_smag c; omega
      · omega
      · omega
    rw [fval_smag]
    exact Int.le_trans (Int.mul_le_mul_of_nonneg_right m (Int.natCast_nonneg D)) hf.1
  · have := congrArg Prod.snd a; cases this
/-- A span that Bounds tells holds what is no further from the centre than far. -/
theorem AroR.holds {z : ZD} {i : Nat} {r : Nat × Nat × Bool} (h : FnZ z) (hi : i < z.rn) (hg : z.gs.length = z.dn) (hpos : 0 ≤ fval (z.rs[i]?.getD 0)) (hb : AroR (z.cs[i]?.getD 0) (farZ z i) r) : Fin r.1 ∧ Fin r.2.1 ∧ r.1 < 18446744073709551616 ∧ r.2.1 < 18446744073709551616 ∧ (r.2.2 = false → fval r.1 ≤ fval (z.cs[i]?.getD 0) - farV z.rs z.gs i ∧ fval (z.cs[i]?.getD 0) + farV z.rs z.gs i ≤ fval r.2.1) := by
  obtain ⟨a, ha⟩ : ∃ a : Nat, a = 1166 := ⟨_, rfl⟩
  obtain ⟨F, hF⟩ : ∃ F : Nat, F = 2098 := ⟨_, rfl⟩
  obtain ⟨E, hE⟩ : ∃ E : Nat, E = 2140 := ⟨_, rfl⟩
  have hgb := great_bound hF hE
  have hsm := sum_bound h i hF
  have h1 := fval_ltJ (h.r i) hF
  have h2 := fval_ltJ (h.c i) hF
  rw [← fval_absJ] at h1 h2
  have hrep : 0 ≤ reA z i := by unfold reA; omega
  have hrel : (reA z i).natAbs ≤ 1050001 * 2 ^ F := by unfold reA; generalize 2 ^ F = X at *; omega
  have ef : farV z.rs z.gs i = reA z i := by rw [reA_is hg]; rfl
  rw [ef]
  obtain ⟨lo, low, hi', high, k1, k2, k3⟩ := hb
  rw [farZ_is ha h hi, one1_is ha (h.c i)] at k1 k2
  rw [joinO_back ha hE (by generalize 2 ^ F = X at *; generalize 2 ^ E = Y at *; omega)] at k1
  rw [joinO_step ha hE (by generalize 2 ^ F = X at *; generalize 2 ^ E = Y at *; omega)] at k2
  have k1 := RndO.some_iff ha k1
  have k2 := RndO.some_iff ha k2
  have hD := Nat.two_pow_pos a
  have c1 := rz_canon k1
  have c2 := rz_canon k2
  cases hl : low with
  | false =>
    rw [hl] at k3
    obtain rfl : r = (0, 0, true) := k3
    exact ⟨fin_zeroJ, fin_zeroJ, by decide, by decide, fun c => by cases c⟩
  | true =>
    cases hh : high with
    | false =>
      rw [hl, hh] at k3
      obtain rfl : r = (0, 0, true) := k3
      exact ⟨fin_zeroJ, fin_zeroJ, by decide, by decide, fun c => by cases c⟩
    | true =>
      rw [hl, hh] at k3
      have hle : (fval (z.cs[i]?.getD 0) - reA z i) * ((2 ^ a : Nat) : Int) ≤ (fval (z.cs[i]?.getD 0) + reA z i) * ((2 ^ a : Nat) : Int) := Int.mul_le_mul_of_nonneg_right (by omega) (Int.natCast_nonneg _)
      have hgood : Good lo hi' false := ⟨rfl, c1.1, c2.1, rz_order hD k1 k2 hle hl hh⟩
      have k4 : r = (lo, hi', false) := by
        rw [k3]
        simp only [Bool.and_self, if_true]
        unfold makeS
        rw [if_pos hgood, canon_plainM c1.2.2, canon_plainM c2.2.2]
      subst k4
      rw [hl] at k1
      rw [hh] at k2
      have d1 := down_leK (by decide) (RndZ.of_ratio (D' := 1) (V' := fval (z.cs[i]?.getD 0) - reA z i) k1 (by omega) (by rw [Int.natCast_one, Int.mul_one]))
      have d2 := up_leK (by decide) (RndZ.of_ratio (D' := 1) (V' := fval (z.cs[i]?.getD 0) + reA z i) k2 (by omega) (by rw [Int.natCast_one, Int.mul_one]))
      rw [Int.natCast_one, Int.mul_one] at d1 d2
      exact ⟨c1.1, c2.1, c1.2.1, c2.2.1, fun _ => ⟨d1, d2⟩⟩
theorem zv_mulM {s s' : Nat} {ex ey : Int} (nx ny : Bool) (mx my : Nat) (hx : -(s : Int) ≤ ex) (hy : -(s' : Int) ≤ ey) : zv (s + s') (nx != ny) (mx * my) (ex + ey) = zv s nx mx ex * zv s' ny my ey := by
  have hs : sv (nx != ny) (mx * my) = sv nx mx * sv ny my := by
    cases nx <;> cases ny <;> simp [sv, Int.natCast_mul, Int.neg_mul, Int.mul_neg]
  unfold zv
  rw [hs, show (ex + ey + ((s + s' : Nat) : Int)).toNat = (ex + s).toNat + (ey + s').toNat by omega, Nat.pow_add, Int.natCast_mul]
  rw [Int.mul_assoc, Int.mul_assoc, ← Int.mul_assoc (sv ny my), Int.mul_comm (sv ny my), Int.mul_assoc]
theorem timesM_any (v u : Value) (s s' : Nat) (T T' x y : Int) (w : World) (hx : NumZ w v s T x) (hy : NumZ w u s' T' y) (hs : s ≤ 10000) (hs' : s' ≤ 10000) (hT : 0 ≤ T ∧ T ≤ 10000) (hT' : 0 ≤ T' ∧ T' ≤ 10000) :
    Calls Try.prog 21 #[v, u] w fun e' w' => ∃ v', e' = .returned v' ∧ NumC w' v' (s + s') (T + T') (x * y) ∧ Below w.heap.size w w' := by
  obtain ⟨nx, mx, ex, h1, h2, h3, h4⟩ := hx
  obtain ⟨ny, my, ey, k1, k2, k3, k4⟩ := hy
  refine (timesV_any v u nx ny mx my ex ey w h1 k1 (by omega) (by omega) (by omega) (by omega)).mono ?_
  rintro e' w' ⟨v', neg, e, rfl, hN, hz, hnz, hB⟩
  refine ⟨v', rfl, ⟨neg, mx * my, e, hN, ?_, ?_, ?_, hz⟩, hB⟩
  · by_cases h : mx * my = 0
    · rw [hz h]; omega
    · rw [(hnz h).2]; omega
  · by_cases h : mx * my = 0
    · rw [hz h, h, bl_zero]; omega
    · have := bl_mul mx my
      rw [(hnz h).2]; omega
  · rw [← h4, ← k4, ← zv_mulM nx ny mx my h2 k2]
    by_cases h : mx * my = 0
    · rw [h, zv_zero, zv_zero]
    · rw [(hnz h).1, (hnz h).2]
/-- The sum of the products of two lists. -/
def prodV (xs ys : List Int) : Nat → Int
  | 0 => 0
  | k + 1 => prodV xs ys k + (xs[k]?.getD 0) * (ys[k]?.getD 0)
theorem getD_fval (us : List Nat) (k : Nat) : (us.map fval)[k]?.getD 0 = fval (us[k]?.getD 0) := by
  rw [List.getElem?_map]
  cases us[k]? with
  | none => simp [fval_zeroJ]
  | some x => rfl
theorem prodV_dot (ds vs : List Nat) : ∀ k, prodV (ds.map fval) (vs.map fval) k = dotV ds vs k
  | 0 => rfl
  | k + 1 => by
    have h := prodV_dot ds vs k
    have e1 : dotV ds vs (k + 1) = dotV ds vs k + fval (ds[k]?.getD 0) * fval (vs[k]?.getD 0) := rfl
    rw [prodV, h, e1, getD_fval, getD_fval]
/-- A list of reals of numbers as a list of reals. -/
theorem RowN.toZ {w : World} {base E : Nat} {v : Value} {us : List Nat} (h : RowN w base v E us) : RowZ w base v E 1024 (us.map fval) := by
  obtain ⟨xs, h1, h2⟩ := h.own
  refine ⟨⟨xs, by rw [List.length_map]; exact h1, fun j hj => ?_⟩, h.cl⟩
  rw [List.length_map] at hj
  obtain ⟨n, o, l, c, e, a1, a2, a3, a4⟩ := h2 j hj
  exact ⟨n, o, l, c, e, a1, a2, a3, by rw [getD_fval]; exact a4⟩
/-- What a direction's sum of the columns is: by columns. -/
def colD (ds : List Nat) (gs : List (List Nat)) (es : List Int) (n : Nat) : Nat → Int
  | 0 => 0
  | k + 1 => colD ds gs es n k + (es[k]?.getD 0) * dotV ds (gs[k]?.getD []) n
def sumP (ds : List Nat) (P : Nat → Int) : Nat → Int
  | 0 => 0
  | k + 1 => sumP ds P k + fval (ds[k]?.getD 0) * P k
theorem sumP_congr {ds : List Nat} {P Q : Nat → Int} {n : Nat} (h : ∀ i, i < n → P i = Q i) : sumP ds P n = sumP ds Q n := by
  induction n with
  | zero => rfl
  | succ n ih => rw [sumP, sumP, ih (fun i hi => h i (by omega)), h n (by omega)]
theorem sumP_add (ds : List Nat) (P Q : Nat → Int) : ∀ n, sumP ds (fun i => P i + Q i) n = sumP ds P n + sumP ds Q n
  | 0 => rfl
  | n + 1 => by rw [sumP, sumP, sumP, sumP_add ds P Q n, Int.mul_add]; omega
theorem sumP_nought (ds : List Nat) : ∀ n, sumP ds (fun _ => 0) n = 0
  | 0 => rfl
  | n + 1 => by rw [sumP, sumP_nought ds n, Int.mul_zero]; rfl
theorem sumP_dot (ds vs : List Nat) (x : Int) : ∀ n, sumP ds (fun i => x * fval (vs[i]?.getD 0)) n = x * dotV ds vs n
  | 0 => by rw [sumP, dotV, Int.mul_zero]
  | n + 1 => by rw [sumP, dotV, sumP_dot ds vs x n, Int.mul_add, Int.mul_left_comm]
/-- By coordinates or by columns: the same. -/
theorem sumP_col (ds : List Nat) (gs : List (List Nat)) (es : List Int) (n : Nat) : ∀ k, sumP ds (fun i => colV gs es i k) n = colD ds gs es n k
  | 0 => sumP_nought ds n
  | k + 1 => by
    have e1 : (fun i => colV gs es i (k + 1)) = fun i => colV gs es i k + (es[k]?.getD 0) * fval ((gs[k]?.getD [])[i]?.getD 0) := rfl
    rw [e1, sumP_add, sumP_col ds gs es n k, sumP_dot, colD]
theorem prodV_sumP (ds : List Nat) (ps : List Int) : ∀ n, prodV (ds.map fval) ps n = sumP ds (fun i => ps[i]?.getD 0) n
  | 0 => rfl
  | n + 1 => by rw [prodV, sumP, prodV_sumP ds ps n, getD_fval]
theorem mul_abs_le {x y : Int} {A : Nat} (h : x.natAbs ≤ A) : x * y ≤ (A : Int) * (y.natAbs : Int) := by
  have h1 : (x * y).natAbs ≤ A * y.natAbs := by rw [Int.natAbs_mul]; exact Nat.mul_le_mul_right _ h
  rw [← Int.natCast_mul]
  omega
theorem colD_le {ds : List Nat} {gs : List (List Nat)} {es : List Int} {A n : Nat} (he : ∀ k : Nat, (es[k]?.getD 0).natAbs ≤ A) : ∀ k, k ≤ gs.length → colD ds gs es n k ≤ (A : Int) * (sumG (fun g => (dotV ds g n).natAbs) (gs.take k) : Nat)
  | 0, _ => by simp [colD, sumG]
  | k + 1, hk => by
    have ih := colD_le (ds := ds) (gs := gs) (n := n) he k (by omega)
    rw [colD, sumG_take (gs := gs) (k := k) (by omega), Int.natCast_add, Int.mul_add]
    have := mul_abs_le (y := dotV ds (gs[k]?.getD []) n) (he k)
    omega
/-- The value of an end. -/
def endV (A : Nat) (x : Int) : Int := if x < 0 then -(A : Int) else (A : Int)
theorem endV_mul (A : Nat) (x : Int) : endV A x * x = (A : Int) * (x.natAbs : Int) := by
  unfold endV
  split
  · rw [Int.neg_mul, ← Int.mul_neg]; congr 1; omega
  · congr 1; omega
theorem endV_abs (A : Nat) (x : Int) : (endV A x).natAbs = A := by unfold endV; split <;> omega
theorem colD_ends {ds : List Nat} {gs : List (List Nat)} {es : List Int} {A n : Nat} (he : ∀ k : Nat, k < gs.length → es[k]?.getD 0 = endV A (dotV ds (gs[k]?.getD []) n)) : ∀ k, k ≤ gs.length → colD ds gs es n k = (A : Int) * (sumG (fun g => (dotV ds g n).natAbs) (gs.take k) : Nat)
  | 0, _ => by simp [colD, sumG]
  | k + 1, hk => by
    rw [colD, sumG_take (gs := gs) (k := k) (by omega), Int.natCast_add, Int.mul_add, colD_ends he k (by omega), he k (by omega), endV_mul]
theorem boxD_le {ds rs : List Nat} {bs : List Int} {A : Nat} (hb : ∀ k : Nat, (bs[k]?.getD 0).natAbs ≤ A) (hp : ∀ k : Nat, 0 ≤ fval (rs[k]?.getD 0)) : ∀ n, sumP ds (fun i => (bs[i]?.getD 0) * fval (rs[i]?.getD 0)) n ≤ (A : Int) * boxV ds rs n
  | 0 => by simp [sumP, boxV]
  | n + 1 => by
    have ih := boxD_le (ds := ds) hb hp n
    rw [sumP, boxV, Int.mul_add]
    have h1 := mul_abs_le (y := fval (ds[n]?.getD 0) * fval (rs[n]?.getD 0)) (hb n)
    have e1 : ((fval (ds[n]?.getD 0) * fval (rs[n]?.getD 0)).natAbs : Int) = fval (frung (ds[n]?.getD 0)) * fval (rs[n]?.getD 0) := by
      rw [Int.natAbs_mul, Int.natCast_mul, fval_frung, ← fval_absJ (ds[n]?.getD 0)]
      congr 1
      have := hp n
      omega
    rw [e1, Int.mul_left_comm] at h1
    omega
theorem boxD_ends {ds rs : List Nat} {bs : List Int} {A m : Nat} (hb : ∀ k : Nat, k < m → bs[k]?.getD 0 = endV A (fval (ds[k]?.getD 0))) (hp : ∀ k : Nat, 0 ≤ fval (rs[k]?.getD 0)) : ∀ n, n ≤ m → sumP ds (fun i => (bs[i]?.getD 0) * fval (rs[i]?.getD 0)) n = (A : Int) * boxV ds rs n
  | 0, _ => by simp [sumP, boxV]
  | n + 1, hn => by
    rw [sumP, boxV, Int.mul_add, boxD_ends hb hp n (by omega), hb n (by omega), Int.mul_left_comm, ← Int.mul_assoc, endV_mul, fval_frung, ← fval_absJ (ds[n]?.getD 0), Int.mul_assoc]
/-- A direction's sum of a point. -/
theorem prod_pt (ds cs rs : List Nat) (gs : List (List Nat)) (es bs : List Int) (A n : Nat) : prodV (ds.map fval) (ptV A cs rs gs es bs n) n = (A : Int) * dotV ds cs n + sumP ds (fun i => (bs[i]?.getD 0) * fval (rs[i]?.getD 0)) n + colD ds gs es n gs.length := by
  rw [prodV_sumP, sumP_congr (Q := fun i => ((A : Int) * fval (cs[i]?.getD 0) + (bs[i]?.getD 0) * fval (rs[i]?.getD 0)) + colV gs es i gs.length) (fun i hi => by rw [ptV_at hi]; unfold ptK; rw [Int.mul_comm (A : Int)]), sumP_add, sumP_add, sumP_dot, sumP_col]
/-- No point goes further than the support. -/
theorem prod_le {ds cs rs : List Nat} {gs : List (List Nat)} {es bs : List Int} {A n : Nat} (he : ∀ k : Nat, (es[k]?.getD 0).natAbs ≤ A) (hb : ∀ k : Nat, (bs[k]?.getD 0).natAbs ≤ A) (hp : ∀ k : Nat, 0 ≤ fval (rs[k]?.getD 0)) : prodV (ds.map fval) (ptV A cs rs gs es bs n) n ≤ (A : Int) * supV ds cs rs gs n := by
  rw [prod_pt]
  have h1 := colD_le (ds := ds) (n := n) he gs.length (Nat.le_refl _)
  rw [List.take_of_length_le (Nat.le_refl _)] at h1
  have h2 := boxD_le (ds := ds) hb hp n
  unfold supV
  rw [Int.mul_add, Int.mul_add]
  omega
/-- The ends go just so far. -/
theorem prod_ends {ds cs rs : List Nat} {gs : List (List Nat)} {es bs : List Int} {A n : Nat} (he : ∀ k : Nat, k < gs.length → es[k]?.getD 0 = endV A (dotV ds (gs[k]?.getD []) n)) (hb : ∀ k : Nat, k < n → bs[k]?.getD 0 = endV A (fval (ds[k]?.getD 0))) (hp : ∀ k : Nat, 0 ≤ fval (rs[k]?.getD 0)) : prodV (ds.map fval) (ptV A cs rs gs es bs n) n = (A : Int) * supV ds cs rs gs n := by
  rw [prod_pt]
  have h1 := colD_ends (ds := ds) (n := n) he gs.length (Nat.le_refl _)
  rw [List.take_of_length_le (Nat.le_refl _)] at h1
  have h2 := boxD_ends (ds := ds) hb hp n (Nat.le_refl _)
  unfold supV
  rw [Int.mul_add, Int.mul_add]
  omega
end Go.Proofs.Ytbjnkefjlaplkaa
