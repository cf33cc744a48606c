import Derived.Test.YtlpfbgepdfjmjaaGreatJYg
import Derived.Test.YtlpfbgepdfjmjaaGreatGJg
namespace Go.Proofs.YtlpfbgepdfjmjaaGreat
open Go.RowKit Go.Shelf
set_option linter.unusedVariables false
set_option linter.unusedSimpArgs false

theorem frung_of_srung {u : Nat} (h : srung u = 0) : frung u = 0 := by
  unfold srung at h
  split at h <;> omega
theorem frung_plainM (u : Nat) : frung (plainM u) = frung u := by
  unfold plainM
  split
  · rename_i h
    rw [frung_of_srung h]; decide
  · rfl
theorem rmag_zeroJ : rmag 0 = 0 := by decide
theorem fval_of_srung {u : Nat} (h : srung u = 0) : fval u = 0 := by
  unfold fval
  rw [frung_of_srung h, rmag_zeroJ]
  split <;> rfl
theorem fval_plainM (u : Nat) : fval (plainM u) = fval u := by
  unfold plainM
  split
  · rename_i h
    rw [fval_zeroJ, fval_of_srung h]
  · rfl
theorem fin_plainM {u : Nat} (h : Fin u) : Fin (plainM u) := by unfold Fin at *; rw [frung_plainM]; exact h
theorem getD_plain (us : List Nat) (j : Nat) : (us.map plainM)[j]?.getD 0 = plainM (us[j]?.getD 0) := by
  rw [List.getElem?_map]
  cases us[j]? with
  | none => decide
  | some x => rfl
theorem rmag_pos {r : Nat} (h : 0 < r) : 0 < rmag r := by
  unfold rmag
  split
  · exact h
  · exact Nat.mul_pos (by omega) (Nat.two_pow_pos _)
theorem fval_pos_iff (u : Nat) : 0 < fval u ↔ 0 < srung u := by
  unfold fval srung
  by_cases h : frung u = 0
  · rw [h, rmag_zeroJ]
  · have := rmag_pos (Nat.pos_of_ne_zero h)
    split <;> omega
theorem fval_zero_iff (u : Nat) : fval u = 0 ↔ srung u = 0 := by
  unfold fval srung
  by_cases h : frung u = 0
  · rw [h, rmag_zeroJ]
  · have := rmag_pos (Nat.pos_of_ne_zero h)
    split <;> omega
theorem hold_g {a E : Nat} {x : Int} (h : a + E ≤ 4800) (hx : x.natAbs < 2 ^ E) : holdZ (x * ((2 ^ a : Nat) : Int)) = some (x * ((2 ^ a : Nat) : Int)) := by
  unfold holdZ
  rw [if_pos]
  obtain ⟨Q, hQ⟩ : ∃ Q : Nat, Q = 4800 := ⟨_, rfl⟩
  have h2 : (2 : Nat) ^ E * 2 ^ a ≤ 2 ^ Q := by rw [← Nat.pow_add]; exact Nat.pow_le_pow_right (by omega) (by omega)
  have h3 : (x * ((2 ^ a : Nat) : Int)).natAbs < 2 ^ Q := by
    rw [Int.natAbs_mul, Int.natAbs_natCast]
    exact Nat.lt_of_lt_of_le (Nat.mul_lt_mul_of_pos_right hx (Nat.two_pow_pos _)) h2
  rw [hQ] at h3
  generalize x * ((2 ^ a : Nat) : Int) = X at *
  generalize 2 ^ 4800 = L at *
  omega
theorem prodO_g {a E u b : Nat} {x y : Int} (h : a + E ≤ 4800) (hu : Fin u) (hb : Fin b) (hp : prodZ u b 0 = y * ((2 ^ a : Nat) : Int)) (hx : (x + y).natAbs < 2 ^ E) : prodO (some (x * ((2 ^ a : Nat) : Int))) u b 0 = some ((x + y) * ((2 ^ a : Nat) : Int)) := by
  unfold prodO
  simp only [Option.bind_some]
  rw [if_pos ⟨hu, hb, by decide, by decide⟩, hp, ← Int.add_mul, hold_g h hx]
theorem joinO_g {a E : Nat} {x y : Int} (h : a + E ≤ 4800) (hx : (x + y).natAbs < 2 ^ E) : joinO (some (x * ((2 ^ a : Nat) : Int))) (some (y * ((2 ^ a : Nat) : Int))) false = some ((x + y) * ((2 ^ a : Nat) : Int)) := by
  unfold joinO
  simp only [Option.bind_some, Bool.false_eq_true, if_false]
  rw [← Int.add_mul, hold_g h hx]
theorem colsJ_g {a E n : Nat} {z : ZD} {ds : List Nat} {A : _root_.Fin z.dn → Nat} (ha : a + E ≤ 4800) :
    ∀ (pre : List (_root_.Fin z.dn)) (x : Int), (∀ k ∈ pre, ∃ y : Int, dotK ds (z.gs[k.val]?.getD []) n = some (y * ((2 ^ a : Nat) : Int)) ∧ y.natAbs = A k) → x.natAbs + sumA A pre < 2 ^ E →
      colsJ z ds n (some (x * ((2 ^ a : Nat) : Int))) pre = some ((x + (sumA A pre : Nat)) * ((2 ^ a : Nat) : Int))
  | [], x, _, _ => by simp [colsJ, sumA]
  | k :: ks, x, h, hb => by
    obtain ⟨y, hy, hA⟩ := h k List.mem_cons_self
    have hab : absO (some (y * ((2 ^ a : Nat) : Int))) = some (((A k : Nat) : Int) * ((2 ^ a : Nat) : Int)) := by
      unfold absO
      rw [Option.map_some, Int.natAbs_mul, Int.natAbs_natCast, hA, Int.natCast_mul]
    rw [sumA] at hb
    have hst : colsJ z ds n (some (x * ((2 ^ a : Nat) : Int))) (k :: ks) = colsJ z ds n (joinO (some (x * ((2 ^ a : Nat) : Int))) (absO (dotK ds (z.gs[k.val]?.getD []) n)) false) ks := rfl
    rw [hst, hy, hab, joinO_g ha (by omega), colsJ_g ha ks (x + (A k : Nat)) (fun j hj => h j (List.mem_cons_of_mem _ hj)) (by omega), sumA, Int.natCast_add, Int.add_assoc]
theorem prodZ_92 {a u v : Nat} (ha : a = 92) : prodZ u v 0 = fval u * fval v * ((2 ^ a : Nat) : Int) := by
  subst ha
  unfold prodZ
  rw [show ((0 : Int) + 92).toNat = 92 by decide]
theorem mul_bound {u v F : Nat} (hF : F = 4196) (hu : Fin u) (hv : Fin v) : (fval u * fval v).natAbs ≤ 2 ^ F := by
  obtain ⟨G, hG⟩ : ∃ G : Nat, G = 2098 := ⟨_, rfl⟩
  have h1 := fval_ltJ hu hG
  have h2 := fval_ltJ hv hG
  rw [Int.natAbs_mul, fval_absJ, fval_absJ, show F = G + G by omega, Nat.pow_add]
  exact Nat.mul_le_mul (Nat.le_of_lt h1) (Nat.le_of_lt h2)
theorem much_bound {F E : Nat} (hF : F = 4196) (hE : E = 4700) : 1073741824 * 2 ^ F < 2 ^ E := by
  rw [show (1073741824 : Nat) = 2 ^ 30 by decide, ← Nat.pow_add]
  exact Nat.pow_lt_pow_right (by omega) (by omega)
/-- A sum of products, exact, in units of 2^-2148. -/
def dotV (ds vs : List Nat) : Nat → Int
  | 0 => 0
  | k + 1 => dotV ds vs k + fval (ds[k]?.getD 0) * fval (vs[k]?.getD 0)
theorem dotV_bound {ds vs : List Nat} {F : Nat} (hF : F = 4196) (hd : ∀ j : Nat, Fin (ds[j]?.getD 0)) (hv : ∀ j : Nat, Fin (vs[j]?.getD 0)) : ∀ k, (dotV ds vs k).natAbs ≤ k * 2 ^ F
  | 0 => by simp [dotV]
  | k + 1 => by
    have ih := dotV_bound hF hd hv k
    have hp := mul_bound hF (hd k) (hv k)
    rw [dotV, Nat.succ_mul]
    generalize 2 ^ F = X at *
    generalize fval (ds[k]?.getD 0) * fval (vs[k]?.getD 0) = Y at *
    omega
theorem dotK_is {a F n : Nat} {ds vs : List Nat} (ha : a = 92) (hF : F = 4196) (hd : ∀ j : Nat, Fin (ds[j]?.getD 0)) (hv : ∀ j : Nat, Fin (vs[j]?.getD 0)) (hn : n ≤ 256) : ∀ k, k ≤ n → dotK ds vs k = some (dotV ds vs k * ((2 ^ a : Nat) : Int))
  | 0, _ => by simp [dotK, dotV]
  | k + 1, h => by
    obtain ⟨E, hE⟩ : ∃ E : Nat, E = 4700 := ⟨_, rfl⟩
    have hb := dotV_bound hF hd hv (k + 1)
    have hm := much_bound hF hE
    have hk : (k + 1) * 2 ^ F ≤ 1073741824 * 2 ^ F := Nat.mul_le_mul_right _ (by omega)
    rw [dotV] at hb
    rw [dotK, dotK_is ha hF hd hv hn k (by omega), dotV]
    exact prodO_g (E := E) (by omega) (hd k) (hv k) (prodZ_92 ha) (Nat.lt_of_le_of_lt hb (Nat.lt_of_le_of_lt hk hm))
/-- What the box gives, exact. -/
def boxV (ds rs : List Nat) : Nat → Int
  | 0 => 0
  | k + 1 => boxV ds rs k + fval (frung (ds[k]?.getD 0)) * fval (rs[k]?.getD 0)
theorem boxV_bound {ds rs : List Nat} {F : Nat} (hF : F = 4196) (hd : ∀ j : Nat, Fin (ds[j]?.getD 0)) (hv : ∀ j : Nat, Fin (rs[j]?.getD 0)) : ∀ k, (boxV ds rs k).natAbs ≤ k * 2 ^ F
  | 0 => by simp [boxV]
  | k + 1 => by
    have ih := boxV_bound hF hd hv k
    have hp := mul_bound hF (fin_frung (hd k)) (hv k)
    rw [boxV, Nat.succ_mul]
    generalize 2 ^ F = X at *
    generalize fval (frung (ds[k]?.getD 0)) * fval (rs[k]?.getD 0) = Y at *
    omega
theorem boxJ_is {a F E n : Nat} {x : Int} {ds rs : List Nat} (ha : a = 92) (hF : F = 4196) (hE : E = 4700) (hd : ∀ j : Nat, Fin (ds[j]?.getD 0)) (hv : ∀ j : Nat, Fin (rs[j]?.getD 0)) (hn : n ≤ 256) (hx : x.natAbs + 256 * 2 ^ F < 2 ^ E) : ∀ k, k ≤ n → boxJ ds rs (some (x * ((2 ^ a : Nat) : Int))) k = some ((x + boxV ds rs k) * ((2 ^ a : Nat) : Int))
  | 0, _ => by simp [boxJ, boxV]
  | k + 1, h => by
    have hb := boxV_bound hF hd hv (k + 1)
    have hk : (k + 1) * 2 ^ F ≤ 256 * 2 ^ F := Nat.mul_le_mul_right _ (by omega)
    rw [boxJ, boxJ_is ha hF hE hd hv hn hx k (by omega), boxV, ← Int.add_assoc]
    rw [boxV] at hb
    refine prodO_g (E := E) (by omega) (fin_frung (hd k)) (hv k) (prodZ_92 ha) ?_
    generalize 2 ^ F = X at *
    generalize 2 ^ E = Y at *
    generalize fval (frung (ds[k]?.getD 0)) * fval (rs[k]?.getD 0) = T at *
    generalize (k + 1) * X = K at *
    omega
theorem sumA_map {α : Type} (A : α → Nat) : ∀ l : List α, sumA A l = (l.map A).sum
  | [] => rfl
  | k :: ks => by rw [sumA, sumA_map A ks]; rfl
/-- A sum over columns. -/
def sumG (B : List Nat → Nat) (gs : List (List Nat)) : Nat := (gs.map B).sum
theorem sumG_append (B : List Nat → Nat) (l m : List (List Nat)) : sumG B (l ++ m) = sumG B l + sumG B m := by unfold sumG; rw [List.map_append, List.sum_append]
theorem sumG_one (B : List Nat → Nat) (g : List Nat) : sumG B [g] = B g := by simp [sumG]
theorem sumG_plain {B : List Nat → Nat} (h : ∀ g, B (g.map plainM) = B g) (gs : List (List Nat)) : sumG B (gs.map (·.map plainM)) = sumG B gs := by
  unfold sumG
  rw [List.map_map]
  congr 1
  apply List.map_congr_left
  intro g _
  exact h g
theorem sumA_fin {n : Nat} {gs : List (List Nat)} (B : List Nat → Nat) (h : gs.length = n) : sumA (fun k : _root_.Fin n => B (gs[k.val]?.getD [])) (List.finRange n) = sumG B gs := by
  subst h
  unfold sumG
  rw [sumA_map]
  congr 1
  apply List.ext_getElem
  · simp
  · intro i h1 h2
    have hi : i < gs.length := by simpa using h1
    simp [List.getElem?_eq_getElem hi]
/-- How far a zonotope goes in a direction, exact, in units of 2^-2148. -/
def supV (ds cs rs : List Nat) (gs : List (List Nat)) (n : Nat) : Int := dotV ds cs n + (sumG (fun g => (dotV ds g n).natAbs) gs : Nat) + boxV ds rs n
theorem supO_gen {a n : Nat} {z : ZD} {ds : List Nat} (ha : a = 92) (h : FnZ z) (hg : z.gs.length = z.dn) (hd : ∀ j : Nat, Fin (ds[j]?.getD 0)) (hl : ds.length = n) (hr : z.rs.length = n) (hn : n ≤ 256) : supO z ds = some (supV ds z.cs z.rs z.gs n * ((2 ^ a : Nat) : Int)) := by
  obtain ⟨F, hF⟩ : ∃ F : Nat, F = 4196 := ⟨_, rfl⟩
  obtain ⟨E, hE⟩ : ∃ E : Nat, E = 4700 := ⟨_, rfl⟩
  have hm := much_bound hF hE
  have h0 := dotV_bound hF hd h.c n
  have h1 : n * 2 ^ F ≤ 256 * 2 ^ F := Nat.mul_le_mul_right _ hn
  have h2 := sumA_le (A := fun k : _root_.Fin z.dn => (dotV ds (z.gs[k.val]?.getD []) n).natAbs) (M := 256 * 2 ^ F) (List.finRange z.dn) fun k _ => Nat.le_trans (dotV_bound hF hd (h.g k.val) n) h1
  rw [List.length_finRange] at h2
  have h3 : z.dn * (256 * 2 ^ F) ≤ 268800000 * 2 ^ F := by
    rw [← Nat.mul_assoc]
    exact Nat.mul_le_mul_right _ (by have := h.few; omega)
  have hs := sumA_fin (n := z.dn) (gs := z.gs) (fun g => (dotV ds g n).natAbs) hg
  unfold supO supV
  rw [hl, hr, dotK_is ha hF hd h.c hn n (Nat.le_refl _)]
  rw [colsJ_g (E := E) (A := fun k : _root_.Fin z.dn => (dotV ds (z.gs[k.val]?.getD []) n).natAbs) (by omega) _ _ (fun k _ => ⟨_, dotK_is ha hF hd (h.g k.val) hn n (Nat.le_refl _), rfl⟩) (by generalize 2 ^ F = X at *; generalize 2 ^ E = Y at *; omega)]
  rw [boxJ_is ha hF hE hd h.r hn (by generalize 2 ^ F = X at *; generalize 2 ^ E = Y at *; omega) n (Nat.le_refl _), hs]
theorem dotV_plain (ds vs : List Nat) : ∀ k, dotV ds (vs.map plainM) k = dotV ds vs k
  | 0 => rfl
  | k + 1 => by rw [dotV, dotV, dotV_plain ds vs k, getD_plain, fval_plainM]
theorem dotV_unit {n i r : Nat} (ds : List Nat) (hi : i < n) : ∀ k, dotV ds (unitL n i r) k = if i < k then fval (ds[i]?.getD 0) * fval r else 0
  | 0 => by simp [dotV]
  | k + 1 => by
    have ha : (unitL n i r)[k]?.getD 0 = if k = i then r else 0 := axL_at (b := r) hi k
    rw [dotV, dotV_unit ds hi k, ha]
    by_cases e : k = i
    · subst e
      rw [if_pos rfl, if_neg (Nat.lt_irrefl _), if_pos (Nat.lt_succ_self _), Int.zero_add]
    · rw [if_neg e, fval_zeroJ, Int.mul_zero, Int.add_zero]
      by_cases h : i < k
      · rw [if_pos h, if_pos (by omega)]
      · rw [if_neg h, if_neg (by omega)]
theorem sumG_lift {n : Nat} {rs : List Nat} {next : Int} {ds : List Nat} (hp : ∀ j : Nat, 0 ≤ fval (rs[j]?.getD 0)) : ∀ k, k ≤ n → (sumG (fun g => (dotV ds g n).natAbs) (lfS n rs next k).2.1 : Int) = boxV ds rs k
  | 0, _ => by simp [lfS, sumG, boxV]
  | k + 1, h => by
    have ih := sumG_lift (n := n) (next := next) (ds := ds) hp k (by omega)
    rw [boxV]
    unfold lfS
    split
    · rename_i hr
      dsimp only
      rw [← ih, sumG_append, sumG_one, dotV_unit ds (show k < n by omega), if_pos (show k < n by omega), Int.natAbs_mul, fval_absJ, fval_frung, Int.natCast_add, Int.natCast_mul]
      congr 2
      have := hp k
      omega
    · rename_i hr
      have h0 : fval (rs[k]?.getD 0) = 0 := by
        have h1 := hp k
        have h2 := mt (fval_pos_iff _).1 hr
        omega
      rw [h0, Int.mul_zero, Int.add_zero, ih]
theorem zrL_none {rs : List Nat} {n : Nat} (hl : rs.length = n) (hp : ∀ j : Nat, 0 ≤ fval (rs[j]?.getD 0)) (j : Nat) : srung ((zrL rs n)[j]?.getD 0) = 0 := by
  rw [zrL_all rs n hl, List.getElem?_map]
  have h := hp j
  cases hj : rs[j]? with
  | none => decide
  | some r =>
    rw [hj] at h
    simp only [Option.map_some, Option.getD_some] at *
    split
    · decide
    · rename_i hr
      have h2 := mt (fval_pos_iff _).1 hr
      exact (fval_zero_iff _).1 (by omega)
theorem boxV_none {ds rs : List Nat} (h : ∀ j : Nat, srung (rs[j]?.getD 0) = 0) : ∀ k, boxV ds rs k = 0
  | 0 => rfl
  | k + 1 => by rw [boxV, boxV_none h k, fval_of_srung (h k), Int.mul_zero]; rfl
theorem boxV_plain (ds rs : List Nat) : ∀ k, boxV ds (rs.map plainM) k = boxV ds rs k
  | 0 => rfl
  | k + 1 => by rw [boxV, boxV, boxV_plain ds rs k, getD_plain, fval_plainM]
/-- Lift turns no support. -/
theorem supV_lift {n : Nat} {ds cs rs : List Nat} {gs : List (List Nat)} {next : Int} (hl : rs.length = n) (hp : ∀ j : Nat, 0 ≤ fval (rs[j]?.getD 0)) :
    supV ds (cs.map plainM) (zrL (rs.map plainM) n) (gs.map (·.map plainM) ++ (lfS n (rs.map plainM) next n).2.1) n = supV ds cs rs gs n := by
  have hp' : ∀ j : Nat, 0 ≤ fval ((rs.map plainM)[j]?.getD 0) := fun j => by rw [getD_plain, fval_plainM]; exact hp j
  have hn := zrL_none (n := n) (by rw [List.length_map]; exact hl) hp'
  have hG := sumG_lift (n := n) (next := next) (ds := ds) hp' n (Nat.le_refl _)
  unfold supV
  rw [dotV_plain, boxV_none hn, sumG_append, sumG_plain (fun g => by rw [dotV_plain]), Int.natCast_add, hG, boxV_plain]
  omega
theorem reA_is {z : ZD} (hg : z.gs.length = z.dn) (i : Nat) : reA z i = fval (z.rs[i]?.getD 0) + (sumG (fun g => rmag (frung (g[i]?.getD 0))) z.gs : Nat) := by
  unfold reA
  rw [← sumA_fin (n := z.dn) (gs := z.gs) (fun g => rmag (frung (g[i]?.getD 0))) hg]
  rfl
theorem RndO.finJ {d : Int} {o : Option Int} {u : Nat} {b : Bool} (h : RndO d o u b) : Fin u := by
  cases o with
  | none => rw [h.1]; decide
  | some z =>
    obtain ⟨a, ha⟩ : ∃ a : Nat, a = 1166 := ⟨_, rfl⟩
    exact (tell_fin (h a ha)).1
theorem AroR.uniq {c : Nat} {o : Option Int} {r s : Nat × Nat × Bool} (h : AroR c o r) (k : AroR c o s) : r = s := by
  obtain ⟨lo, low, hi, high, h1, h2, h3⟩ := h
  obtain ⟨lo', low', hi', high', k1, k2, k3⟩ := k
  obtain ⟨rfl, rfl⟩ := h1.uniq k1
  obtain ⟨rfl, rfl⟩ := h2.uniq k2
  rw [h3, k3]
theorem AroR.fin {c : Nat} {o : Option Int} {r : Nat × Nat × Bool} (h : AroR c o r) : Fin r.1 ∧ Fin r.2.1 := by
  obtain ⟨lo, low, hi, high, h1, h2, h3⟩ := h
  rw [h3]
  split
  · unfold makeS
    split
    · exact ⟨fin_plainM (RndO.finJ h1), fin_plainM (RndO.finJ h2)⟩
    · exact ⟨fin_zeroJ, fin_zeroJ⟩
  · exact ⟨fin_zeroJ, fin_zeroJ⟩
end Go.Proofs.YtlpfbgepdfjmjaaGreat

