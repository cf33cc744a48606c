import Derived.Test.YtkpplacilehngaaGreatGYa
import Derived.Test.YtkpplacilehngaaGreatGJg
import Derived.Test.YtkpplacilehngaaGreatJZf
import Derived.Test.YtkpplacilehngaaGreatGJi
import Derived.Test.YtkpplacilehngaaGreatJYh
import Derived.Test.YtkpplacilehngaaGreatGJd
import Derived.Test.YtkpplacilehngaaGreatZX
namespace Go.Proofs.YtkpplacilehngaaGreat
open Go.RowKit Go.Shelf
set_option linter.unusedVariables false
set_option linter.unusedSimpArgs false

theorem frung_of_srung {u : Nat} (h : srung u = 0) : frung u = 0 := by
  unfold srung at h
  split at h <;> omega
theorem frung_plainM (u : Nat) : frung (plainM u) = frung u := by
  unfold plainM
  split
  · rename_i h
    rw [frung_of_srung h]; decide
  · rfl
theorem rmag_zeroJ : rmag 0 = 0 := by decide
theorem fval_of_srung {u : Nat} (h : srung u = 0) : fval u = 0 := by
  unfold fval
  rw [frung_of_srung h, rmag_zeroJ]
  split <;> rfl
theorem fval_plainM (u : Nat) : fval (plainM u) = fval u := by
  unfold plainM
  split
  · rename_i h
    rw [fval_zeroJ, fval_of_srung h]
  · rfl
theorem fin_plainM {u : Nat} (h : Fin u) : Fin (plainM u) := by unfold Fin at *; rw [frung_plainM]; exact h
theorem getD_plain (us : List Nat) (j : Nat) : (us.map plainM)[j]?.getD 0 = plainM (us[j]?.getD 0) := by
  rw [List.getElem?_map]
  cases us[j]? with
  | none => decide
  | some x => rfl
theorem rmag_pos {r : Nat} (h : 0 < r) : 0 < rmag r := by
  unfold rmag
  split
  · exact h
  · exact Nat.mul_pos (by omega) (Nat.two_pow_pos _)
theorem fval_pos_iff (u : Nat) : 0 < fval u ↔ 0 < srung u := by
  unfold fval srung
  by_cases h : frung u = 0
  · rw [h, rmag_zeroJ]
  · have := rmag_pos (Nat.pos_of_ne_zero h)
    split <;> omega
theorem fval_zero_iff (u : Nat) : fval u = 0 ↔ srung u = 0 := by
  unfold fval srung
  by_cases h : frung u = 0
  · rw [h, rmag_zeroJ]
  · have := rmag_pos (Nat.pos_of_ne_zero h)
    split <;> omega
theorem hold_g {a E : Nat} {x : Int} (h : a + E ≤ 4800) (hx : x.natAbs < 2 ^ E) : holdZ (x * ((2 ^ a : Nat) : Int)) = some (x * ((2 ^ a : Nat) : Int)) := by
  unfold holdZ
  rw [if_pos]
  obtain ⟨Q, hQ⟩ : ∃ Q : Nat, Q = 4800 := ⟨_, rfl⟩
  have h2 : (2 : Nat) ^ E * 2 ^ a ≤ 2 ^ Q := by rw [← Nat.pow_add]; exact Nat.pow_le_pow_right (by omega) (by omega)
  have h3 : (x * ((2 ^ a : Nat) : Int)).natAbs < 2 ^ Q := by
    rw [Int.natAbs_mul, Int.natAbs_natCast]
    exact Nat.lt_of_lt_of_le (Nat.mul_lt_mul_of_pos_right hx (Nat.two_pow_pos _)) h2
  rw [hQ] at h3
  generalize x * ((2 ^ a : Nat) : Int) = X at *
  generalize 2 ^ 4800 = L at *
  omega
theorem prodO_g {a E u b : Nat} {x y : Int} (h : a + E ≤ 4800) (hu : Fin u) (hb : Fin b) (hp : prodZ u b 0 = y * ((2 ^ a : Nat) : Int)) (hx : (x + y).natAbs < 2 ^ E) : prodO (some (x * ((2 ^ a : Nat) : Int))) u b 0 = some ((x + y) * ((2 ^ a : Nat) : Int)) := by
  unfold prodO
  simp only [Option.bind_some]
  rw [if_pos ⟨hu, hb, by decide, by decide⟩, hp, ← Int.add_mul, hold_g h hx]
theorem joinO_g {a E : Nat} {x y : Int} (h : a + E ≤ 4800) (hx : (x + y).natAbs < 2 ^ E) : joinO (some (x * ((2 ^ a : Nat) : Int))) (some (y * ((2 ^ a : Nat) : Int))) false = some ((x + y) * ((2 ^ a : Nat) : Int)) := by
  unfold joinO
  simp only [Option.bind_some, Bool.false_eq_true, if_false]
  rw [← Int.add_mul, hold_g h hx]
theorem colsJ_g {a E n : Nat} {z : ZD} {ds : List Nat} {A : _root_.Fin z.dn → Nat} (ha : a + E ≤ 4800) :
    ∀ (pre : List (_root_.Fin z.dn)) (x : Int), (∀ k ∈ pre, ∃ y : Int, dotK ds (z.gs[k.val]?.getD []) n = some (y * ((2 ^ a : Nat) : Int)) ∧ y.natAbs = A k) → x.natAbs + sumA A pre < 2 ^ E →
      colsJ z ds n (some (x * ((2 ^ a : Nat) : Int))) pre = some ((x + (sumA A pre : Nat)) * ((2 ^ a : Nat) : Int))
  | [], x, _, _ => by simp [colsJ, sumA]
  | k :: ks, x, h, hb => by
    obtain ⟨y, hy, hA⟩ := h k List.mem_cons_self
    have hab : absO (some (y * ((2 ^ a : Nat) : Int))) = some (((A k : Nat) : Int) * ((2 ^ a : Nat) : Int)) := by
      unfold absO
      rw [Option.map_some, Int.natAbs_mul, Int.natAbs_natCast, hA, Int.natCast_mul]
    rw [sumA] at hb
    have hst : colsJ z ds n (some (x * ((2 ^ a : Nat) : Int))) (k :: ks) = colsJ z ds n (joinO (some (x * ((2 ^ a : Nat) : Int))) (absO (dotK ds (z.gs[k.val]?.getD []) n)) false) ks := rfl
    rw [hst, hy, hab, joinO_g ha (by omega), colsJ_g ha ks (x + (A k : Nat)) (fun j hj => h j (List.mem_cons_of_mem _ hj)) (by omega), sumA, Int.natCast_add, Int.add_assoc]
theorem prodZ_92 {a u v : Nat} (ha : a = 92) : prodZ u v 0 = fval u * fval v * ((2 ^ a : Nat) : Int) := by
  subst ha
  unfold prodZ
  rw [show ((0 : Int) + 92).toNat = 92 by decide]
theorem mul_bound {u v F : Nat} (hF : F = 4196) (hu : Fin u) (hv : Fin v) : (fval u * fval v).natAbs ≤ 2 ^ F := by
  obtain ⟨G, hG⟩ : ∃ G : Nat, G = 2098 := ⟨_, rfl⟩
  have h1 := fval_ltJ hu hG
  have h2 := fval_ltJ hv hG
  rw [Int.natAbs_mul, fval_absJ, fval_absJ, show F = G + G by omega, Nat.pow_add]
  exact Nat.mul_le_mul (Nat.le_of_lt h1) (Nat.le_of_lt h2)
theorem much_bound {F E : Nat} (hF : F = 4196) (hE : E = 4700) : 1073741824 * 2 ^ F < 2 ^ E := by
  rw [show (1073741824 : Nat) = 2 ^ 30 by decide, ← Nat.pow_add]
  exact Nat.pow_lt_pow_right (by omega) (by omega)
/-- A sum of products, exact, in units of 2^-2148. -/
def dotV (ds vs : List Nat) : Nat → Int
  | 0 => 0
  | k + 1 => dotV ds vs k + fval (ds[k]?.getD 0) * fval (vs[k]?.getD 0)
theorem dotV_bound {ds vs : List Nat} {F : Nat} (hF : F = 4196) (hd : ∀ j : Nat, Fin (ds[j]?.getD 0)) (hv : ∀ j : Nat, Fin (vs[j]?.getD 0)) : ∀ k, (dotV ds vs k).natAbs ≤ k * 2 ^ F
  | 0 => by simp [dotV]
  | k + 1 => by
    have ih := dotV_bound hF hd hv k
    have hp := mul_bound hF (hd k) (hv k)
    rw [dotV, Nat.succ_mul]
    generalize 2 ^ F = X at *
    generalize fval (ds[k]?.getD 0) * fval (vs[k]?.getD 0) = Y at *
    omega
theorem dotK_is {a F n : Nat} {ds vs : List Nat} (ha : a = 92) (hF : F = 4196) (hd : ∀ j : Nat, Fin (ds[j]?.getD 0)) (hv : ∀ j : Nat, Fin (vs[j]?.getD 0)) (hn : n ≤ 256) : ∀ k, k ≤ n → dotK ds vs k = some (dotV ds vs k * ((2 ^ a : Nat) : Int))
  | 0, _ => by simp [dotK, dotV]
  | k + 1, h => by
    obtain ⟨E, hE⟩ : ∃ E : Nat, E = 4700 := ⟨_, rfl⟩
    have hb := dotV_bound hF hd hv (k + 1)
    have hm := much_bound hF hE
    have hk : (k + 1) * 2 ^ F ≤ 1073741824 * 2 ^ F := Nat.mul_le_mul_right _ (by omega)
    rw [dotV] at hb
    rw [dotK, dotK_is ha hF hd hv hn k (by omega), dotV]
    exact prodO_g (E := E) (by omega) (hd k) (hv k) (prodZ_92 ha) (Nat.lt_of_le_of_lt hb (Nat.lt_of_le_of_lt hk hm))
/-- What the box gives, exact. -/
def boxV (ds rs : List Nat) : Nat → Int
  | 0 => 0
  | k + 1 => boxV ds rs k + fval (frung (ds[k]?.getD 0)) * fval (rs[k]?.getD 0)
theorem boxV_bound {ds rs : List Nat} {F : Nat} (hF : F = 4196) (hd : ∀ j : Nat, Fin (ds[j]?.getD 0)) (hv : ∀ j : Nat, Fin (rs[j]?.getD 0)) : ∀ k, (boxV ds rs k).natAbs ≤ k * 2 ^ F
  | 0 => by simp [boxV]
  | k + 1 => by
    have ih := boxV_bound hF hd hv k
    have hp := mul_bound hF (fin_frung (hd k)) (hv k)
    rw [boxV, Nat.succ_mul]
    generalize 2 ^ F = X at *
    generalize fval (frung (ds[k]?.getD 0)) * fval (rs[k]?.getD 0) = Y at *
    omega
theorem boxJ_is {a F E n : Nat} {x : Int} {ds rs : List Nat} (ha : a = 92) (hF : F = 4196) (hE : E = 4700) (hd : ∀ j : Nat, Fin (ds[j]?.getD 0)) (hv : ∀ j : Nat, Fin (rs[j]?.getD 0)) (hn : n ≤ 256) (hx : x.natAbs + 256 * 2 ^ F < 2 ^ E) : ∀ k, k ≤ n → boxJ ds rs (some (x * ((2 ^ a : Nat) : Int))) k = some ((x + boxV ds rs k) * ((2 ^ a : Nat) : Int))
  | 0, _ => by simp [boxJ, boxV]
  | k + 1, h => by
    have hb := boxV_bound hF hd hv (k + 1)
    have hk : (k + 1) * 2 ^ F ≤ 256 * 2 ^ F := Nat.mul_le_mul_right _ (by omega)
    rw [boxJ, boxJ_is ha hF hE hd hv hn hx k (by omega), boxV, ← Int.add_assoc]
    rw [boxV] at hb
    refine prodO_g (E := E) (by omega) (fin_frung (hd k)) (hv k) (prodZ_92 ha) ?_
    generalize 2 ^ F = X at *
    generalize 2 ^ E = Y at *
    generalize fval (frung (ds[k]?.getD 0)) * fval (rs[k]?.getD 0) = T at *
    generalize (k + 1) * X = K at *
    omega
theorem sumA_map {α : Type} (A : α → Nat) : ∀ l : List α, sumA A l = (l.map A).sum
  | [] => rfl
  | k :: ks => by rw [sumA, sumA_map A ks]; rfl
/-- A sum over columns. -/
def sumG (B : List Nat → Nat) (gs : List (List Nat)) : Nat := (gs.map B).sum
theorem sumG_append (B : List Nat → Nat) (l m : List (List Nat)) : sumG B (l ++ m) = sumG B l + sumG B m := by unfold sumG; rw [List.map_append, List.sum_append]
theorem sumG_one (B : List Nat → Nat) (g : List Nat) : sumG B [g] = B g := by simp [sumG]
theorem sumG_plain {B : List Nat → Nat} (h : ∀ g, B (g.map plainM) = B g) (gs : List (List Nat)) : sumG B (gs.map (·.map plainM)) = sumG B gs := by
  unfold sumG
  rw [List.map_map]
  congr 1
  apply List.map_congr_left
  intro g _
  exact h g
theorem sumA_fin {n : Nat} {gs : List (List Nat)} (B : List Nat → Nat) (h : gs.length = n) : sumA (fun k : _root_.Fin n => B (gs[k.val]?.getD [])) (List.finRange n) = sumG B gs := by
  subst h
  unfold sumG
  rw [sumA_map]
  congr 1
  apply List.ext_getElem
  · simp
  · intro i h1 h2
    have hi : i < gs.length := by simpa using h1
    simp [List.getElem?_eq_getElem hi]
/-- How far a zonotope goes in a direction, exact, in units of 2^-2148. -/
def supV (ds cs rs : List Nat) (gs : List (List Nat)) (n : Nat) : Int := dotV ds cs n + (sumG (fun g => (dotV ds g n).natAbs) gs : Nat) + boxV ds rs n
theorem supO_gen {a n : Nat} {z : ZD} {ds : List Nat} (ha : a = 92) (h : FnZ z) (hg : z.gs.length = z.dn) (hd : ∀ j : Nat, Fin (ds[j]?.getD 0)) (hl : ds.length = n) (hr : z.rs.length = n) (hn : n ≤ 256) : supO z ds = some (supV ds z.cs z.rs z.gs n * ((2 ^ a : Nat) : Int)) := by
  obtain ⟨F, hF⟩ : ∃ F : Nat, F = 4196 := ⟨_, rfl⟩
  obtain ⟨E, hE⟩ : ∃ E : Nat, E = 4700 := ⟨_, rfl⟩
  have hm := much_bound hF hE
  have h0 := dotV_bound hF hd h.c n
  have h1 : n * 2 ^ F ≤ 256 * 2 ^ F := Nat.mul_le_mul_right _ hn
  have h2 := sumA_le (A := fun k : _root_.Fin z.dn => (dotV ds (z.gs[k.val]?.getD []) n).natAbs) (M := 256 * 2 ^ F) (List.finRange z.dn) fun k _ => Nat.le_trans (dotV_bound hF hd (h.g k.val) n) h1
  rw [List.length_finRange] at h2
  have h3 : z.dn * (256 * 2 ^ F) ≤ 268800000 * 2 ^ F := by
    rw [← Nat.mul_assoc]
    exact Nat.mul_le_mul_right _ (by have := h.few; omega)
  have hs := sumA_fin (n := z.dn) (gs := z.gs) (fun g => (dotV ds g n).natAbs) hg
  unfold supO supV
  rw [hl, hr, dotK_is ha hF hd h.c hn n (Nat.le_refl _)]
  rw [colsJ_g (E := E) (A := fun k : _root_.Fin z.dn => (dotV ds (z.gs[k.val]?.getD []) n).natAbs) (by omega) _ _ (fun k _ => ⟨_, dotK_is ha hF hd (h.g k.val) hn n (Nat.le_refl _), rfl⟩) (by generalize 2 ^ F = X at *; generalize 2 ^ E = Y at *; omega)]
  rw [boxJ_is ha hF hE hd h.r hn (by generalize 2 ^ F = X at *; generalize 2 ^ E = Y at *; omega) n (Nat.le_refl _), hs]
theorem dotV_plain (ds vs : List Nat) : ∀ k, dotV ds (vs.map plainM) k = dotV ds vs k
  | 0 => rfl
  | k + 1 => by rw [dotV, dotV, dotV_plain ds vs k, getD_plain, fval_plainM]
theorem dotV_unit {n i r : Nat} (ds : List Nat) (hi : i < n) : ∀ k, dotV ds (unitL n i r) k = if i < k then fval (ds[i]?.getD 0) * fval r else 0
  | 0 => by simp [dotV]
  | k + 1 => by
    have ha : (unitL n i r)[k]?.getD 0 = if k = i then r else 0 := axL_at (b := r) hi k
    rw [dotV, dotV_unit ds hi k, ha]
    by_cases e : k = i
    · subst e
      rw [if_pos rfl, if_neg (Nat.lt_irrefl _), if_pos (Nat.lt_succ_self _), Int.zero_add]
    · rw [if_neg e, fval_zeroJ, Int.mul_zero, Int.add_zero]
      by_cases h : i < k
      · rw [if_pos h, if_pos (by omega)]
      · rw [if_neg h, if_neg (by omega)]
theorem sumG_lift {n : Nat} {rs : List Nat} {next : Int} {ds : List Nat} (hp : ∀ j : Nat, 0 ≤ fval (rs[j]?.getD 0)) : ∀ k, k ≤ n → (sumG (fun g => (dotV ds g n).natAbs) (lfS n rs next k).2.1 : Int) = boxV ds rs k
  | 0, _ => by simp [lfS, sumG, boxV]
  | k + 1, h => by
    have ih := sumG_lift (n := n) (next := next) (ds := ds) hp k (by omega)
    rw [boxV]
    unfold lfS
    split
    · rename_i hr
      dsimp only
      rw [← ih, sumG_append, sumG_one, dotV_unit ds (show k < n by omega), if_pos (show k < n by omega), Int.natAbs_mul, fval_absJ, fval_frung, Int.natCast_add, Int.natCast_mul]
      congr 2
      have := hp k
      omega
    · rename_i hr
      have h0 : fval (rs[k]?.getD 0) = 0 := by
        have h1 := hp k
        have h2 := mt (fval_pos_iff _).1 hr
        omega
      rw [h0, Int.mul_zero, Int.add_zero, ih]
theorem zrL_none {rs : List Nat} {n : Nat} (hl : rs.length = n) (hp : ∀ j : Nat, 0 ≤ fval (rs[j]?.getD 0)) (j : Nat) : srung ((zrL rs n)[j]?.getD 0) = 0 := by
  rw [zrL_all rs n hl, List.getElem?_map]
  have h := hp j
  cases hj : rs[j]? with
  | none => decide
  | some r =>
    rw [hj] at h
    simp only [Option.map_some, Option.getD_some] at *
    split
    · decide
    · rename_i hr
      have h2 := mt (fval_pos_iff _).1 hr
      exact (fval_zero_iff _).1 (by omega)
theorem boxV_none {ds rs : List Nat} (h : ∀ j : Nat, srung (rs[j]?.getD 0) = 0) : ∀ k, boxV ds rs k = 0
  | 0 => rfl
  | k + 1 => by rw [boxV, boxV_none h k, fval_of_srung (h k), Int.mul_zero]; rfl
theorem boxV_plain (ds rs : List Nat) : ∀ k, boxV ds (rs.map plainM) k = boxV ds rs k
  | 0 => rfl
  | k + 1 => by rw [boxV, boxV, boxV_plain ds rs k, getD_plain, fval_plainM]
/-- Lift turns no support. -/
theorem supV_lift {n : Nat} {ds cs rs : List Nat} {gs : List (List Nat)} {next : Int} (hl : rs.length = n) (hp : ∀ j : Nat, 0 ≤ fval (rs[j]?.getD 0)) :
    supV ds (cs.map plainM) (zrL (rs.map plainM) n) (gs.map (·.map plainM) ++ (lfS n (rs.map plainM) next n).2.1) n = supV ds cs rs gs n := by
  have hp' : ∀ j : Nat, 0 ≤ fval ((rs.map plainM)[j]?.getD 0) := fun j => by rw [getD_plain, fval_plainM]; exact hp j
  have hn := zrL_none (n := n) (by rw [List.length_map]; exact hl) hp'
  have hG := sumG_lift (n := n) (next := next) (ds := ds) hp' n (Nat.le_refl _)
  unfold supV
  rw [dotV_plain, boxV_none hn, sumG_append, sumG_plain (fun g => by rw [dotV_plain]), Int.natCast_add, hG, boxV_plain]
  omega
theorem reA_is {z : ZD} (hg : z.gs.length = z.dn) (i : Nat) : reA z i = fval (z.rs[i]?.getD 0) + (sumG (fun g => rmag (frung (g[i]?.getD 0))) z.gs : Nat) := by
  unfold reA
  rw [← sumA_fin (n := z.dn) (gs := z.gs) (fun g => rmag (frung (g[i]?.getD 0))) hg]
  rfl
theorem RndO.finJ {d : Int} {o : Option Int} {u : Nat} {b : Bool} (h : RndO d o u b) : Fin u := by
  cases o with
  | none => rw [h.1]; decide
  | some z =>
    obtain ⟨a, ha⟩ : ∃ a : Nat, a = 1166 := ⟨_, rfl⟩
    exact (tell_fin (h a ha)).1
theorem AroR.uniq {c : Nat} {o : Option Int} {r s : Nat × Nat × Bool} (h : AroR c o r) (k : AroR c o s) : r = s := by
  obtain ⟨lo, low, hi, high, h1, h2, h3⟩ := h
  obtain ⟨lo', low', hi', high', k1, k2, k3⟩ := k
  obtain ⟨rfl, rfl⟩ := h1.uniq k1
  obtain ⟨rfl, rfl⟩ := h2.uniq k2
  rw [h3, k3]
theorem AroR.fin {c : Nat} {o : Option Int} {r : Nat × Nat × Bool} (h : AroR c o r) : Fin r.1 ∧ Fin r.2.1 := by
  obtain ⟨lo, low, hi, high, h1, h2, h3⟩ := h
  rw [h3]
  split
  · unfold makeS
    split
    · exact ⟨fin_plainM (RndO.finJ h1), fin_plainM (RndO.finJ h2)⟩
    · exact ⟨fin_zeroJ, fin_zeroJ⟩
  · exact ⟨fin_zeroJ, fin_zeroJ⟩
end Go.Proofs.YtkpplacilehngaaGreat


namespace Go.Proofs.YtkpplacilehngaaGreat
open Go.RowKit Go.Shelf
set_option linter.unusedVariables false
set_option linter.unusedSimpArgs false

theorem colsB_drop (z : ZD) : ∀ (m k : Nat) (last : Int), k + m = z.dn → (colsB z last ((List.finRange z.dn).drop k) = true ↔ ∀ j : Nat, k ≤ j → j < z.dn → (if j = k then last else z.ids[j - 1]?.getD 0) < z.ids[j]?.getD 0 ∧ z.ids[j]?.getD 0 ≤ 1073741824 ∧ numN (z.gs[j]?.getD []) z.N = true)
  | 0, k, last, h => by
    rw [List.drop_of_length_le (by rw [List.length_finRange]; omega)]
    exact ⟨fun _ j h1 h2 => by omega, fun _ => rfl⟩
  | m + 1, k, last, h => by
    have hk : k < (List.finRange z.dn).length := by rw [List.length_finRange]; omega
    rw [List.drop_eq_getElem_cons hk]
    have ih := colsB_drop z m (k + 1) (z.ids[k]?.getD 0) (by omega)
    have hst : colsB z last ((List.finRange z.dn)[k] :: (List.finRange z.dn).drop (k + 1)) = (colOk z last (List.finRange z.dn)[k] && colsB z (idZ z (List.finRange z.dn)[k]) ((List.finRange z.dn).drop (k + 1))) := rfl
    have he : ((List.finRange z.dn)[k]).val = k := by simp
    have hid : idZ z (List.finRange z.dn)[k] = z.ids[k]?.getD 0 := by unfold idZ; rw [he]
    rw [hst, Bool.and_eq_true, hid, ih]
    unfold colOk
    rw [hid, he]
    simp only [Bool.and_eq_true, decide_eq_true_eq]
    constructor
    · rintro ⟨⟨⟨a1, a2⟩, a3⟩, a4⟩ j h1 h2
      by_cases e : j = k
      · subst e; rw [if_pos rfl]; exact ⟨a1, a2, a3⟩
      · have := a4 j (by omega) h2
        rw [if_neg e]
        by_cases e' : j = k + 1
        · subst e'; rw [if_pos rfl] at this; rw [Nat.add_sub_cancel]; exact this
        · rw [if_neg e'] at this; exact this
    · intro H
      have h0 := H k (Nat.le_refl _) (by omega)
      rw [if_pos rfl] at h0
      refine ⟨⟨⟨h0.1, h0.2.1⟩, h0.2.2⟩, fun j h1 h2 => ?_⟩
      have := H j (by omega) h2
      rw [if_neg (by omega)] at this
      by_cases e' : j = k + 1
      · subst e'; rw [if_pos rfl]; rw [Nat.add_sub_cancel] at this; exact this
      · rw [if_neg e']; exact this
theorem wholeB_iff (z : ZD) : wholeB z = true ↔ (1 ≤ z.N ∧ z.N ≤ 256 ∧ numN z.cs z.N = true ∧ numN z.rs z.N = true ∧ z.dn = z.gn ∧ posB z.rs = true ∧ ∀ j : Nat, j < z.dn → (if j = 0 then -1 else z.ids[j - 1]?.getD 0) < z.ids[j]?.getD 0 ∧ z.ids[j]?.getD 0 ≤ 1073741824 ∧ numN (z.gs[j]?.getD []) z.N = true) := by
  have h := colsB_drop z z.dn 0 (-1) (by omega)
  rw [List.drop_zero] at h
  unfold wholeB
  simp only [Bool.and_eq_true, decide_eq_true_eq, h]
  constructor
  · rintro ⟨⟨⟨⟨⟨⟨a1, a2⟩, a3⟩, a4⟩, a5⟩, a6⟩, a7⟩
    exact ⟨a1, a2, a3, a4, a5, a6, fun j hj => a7 j (Nat.zero_le _) hj⟩
  · rintro ⟨a1, a2, a3, a4, a5, a6, a7⟩
    exact ⟨⟨⟨⟨⟨⟨a1, a2⟩, a3⟩, a4⟩, a5⟩, a6⟩, fun j _ hj => a7 j hj⟩
theorem lfS_count (n : Nat) (rs : List Nat) (next : Int) : ∀ k, k ≤ rs.length → (lfS n rs next k).1.length = madeN (rs.take k)
  | 0, _ => by simp [lfS, madeN]
  | k + 1, h => by
    have ih := lfS_count n rs next k (by omega)
    rw [madeN_take (by omega)]
    unfold lfS
    split
    · dsimp only
      rw [List.length_append, ih]; rfl
    · rw [ih]; omega
theorem lfS_id (n : Nat) (rs : List Nat) (next : Int) : ∀ k, k ≤ rs.length → ∀ j : Nat, j < (lfS n rs next k).1.length → (lfS n rs next k).1[j]?.getD 0 = next + (j : Int)
  | 0, _, j, hj => by simp [lfS] at hj
  | k + 1, h, j, hj => by
    have ih := lfS_id n rs next k (by omega) j
    have hc := lfS_count n rs next k (by omega)
    have hx := lfS_next n rs next k (by omega)
    unfold lfS at hj ⊢
    split at hj
    · rename_i hp
      rw [if_pos hp]
      dsimp only at hj ⊢
      by_cases e : j < (lfS n rs next k).1.length
      · rw [List.getElem?_append_left e]; exact ih e
      · rw [List.length_append, List.length_singleton] at hj
        have ej : j = (lfS n rs next k).1.length := by omega
        rw [List.getElem?_append_right (by omega), ej, Nat.sub_self, hx, hc]; rfl
    · rename_i hp
      rw [if_neg hp]
      exact ih hj
theorem lfS_col (n : Nat) (rs : List Nat) (next : Int) : ∀ k, ∀ g ∈ (lfS n rs next k).2.1, ∃ i : Nat, g = unitL n i (rs[i]?.getD 0)
  | 0, g, hg => by simp [lfS] at hg
  | k + 1, g, hg => by
    have ih := lfS_col n rs next k g
    unfold lfS at hg
    split at hg
    · dsimp only at hg
      rcases List.mem_append.1 hg with h | h
      · exact ih h
      · exact ⟨k, List.mem_singleton.1 h⟩
    · exact ih hg
theorem unitL_fin {n i r : Nat} (hr : Fin r) : ∀ u ∈ unitL n i r, Fin u := fun u hu => by
  rcases List.mem_or_eq_of_mem_set hu with h | h
  · rw [List.eq_of_mem_replicate h]; exact fin_zeroJ
  · rw [h]; exact hr
theorem numN_of {us : List Nat} {N : Int} (hl : (us.length : Int) = N) (hf : ∀ u ∈ us, Fin u) : numN us N = true := by
  unfold numN
  rw [decide_eq_true hl, numsB_fin hf]; rfl
theorem numN_plainM {us : List Nat} {N : Int} (h : numN us N = true) : numN (us.map plainM) N = true := by
  obtain ⟨h1, h2⟩ := numN_fin h
  refine numN_of (by rw [List.length_map]; exact h1) fun u hu => ?_
  obtain ⟨v, hv, rfl⟩ := List.mem_map.1 hu
  exact fin_plainM (h2 v hv)
theorem getD_map_plain (gs : List (List Nat)) (j : Nat) : (gs.map (·.map plainM))[j]?.getD [] = (gs[j]?.getD []).map plainM := by
  rw [List.getElem?_map]
  cases gs[j]? with
  | none => rfl
  | some x => rfl
/-- What Lift tells of a zonotope that is whole. -/
structure LfR (z : ZD) (next : Int) (y : ZD) : Prop where
  N : y.N = z.N
  bad : y.bad = false
  cs : y.cs = z.cs.map plainM
  rs : y.rs = zrL (z.rs.map plainM) z.rn
  ids : y.ids = z.ids ++ (lfS z.rn (z.rs.map plainM) next z.rn).1
  gs : y.gs = z.gs.map (·.map plainM) ++ (lfS z.rn (z.rs.map plainM) next z.rn).2.1
  cn : y.cn = z.rn
  rn : y.rn = z.rn
  dn : y.dn = y.ids.length
  gn : y.gn = y.gs.length
theorem LfR.count {z y : ZD} {next : Int} (h : LfR z next y) (hr : z.rs.length = z.rn) (hi : z.ids.length = z.dn) : y.dn = z.dn + madeN z.rs ∧ (lfS z.rn (z.rs.map plainM) next z.rn).2.2 = next + (madeN z.rs : Nat) := by
  have e1 : (z.rs.map plainM).length = z.rn := by rw [List.length_map]; exact hr
  have h1 := lfS_count z.rn (z.rs.map plainM) next z.rn (by omega)
  have h2 := lfS_next z.rn (z.rs.map plainM) next z.rn (by omega)
  rw [List.take_of_length_le (by omega), madeN_plain] at h1 h2
  exact ⟨by rw [h.dn, h.ids, List.length_append, h1, hi], h2⟩
theorem LfR.whole {z y : ZD} {next : Int} (h : LfR z next y) (hw : wholeB z = true) (hz : WhF z) (hi : z.ids.length = z.dn) (hg : z.gs.length = z.gn) (hm : mayB z next = true) : wholeB y = true := by
  obtain ⟨a1, a2, a3, a4, a5, a6, a7⟩ := (wholeB_iff z).1 hw
  obtain ⟨c1, c2⟩ := h.count hz.rl hi
  have e1 : (z.rs.map plainM).length = z.rn := by rw [List.length_map]; exact hz.rl
  have hp' : ∀ j : Nat, 0 ≤ fval ((z.rs.map plainM)[j]?.getD 0) := fun j => by rw [getD_plain, fval_plainM]; exact hz.pos j
  have hcnt := lfS_count z.rn (z.rs.map plainM) next z.rn (by omega)
  rw [List.take_of_length_le (by omega), madeN_plain] at hcnt
  have hlen := (lfS_len z.rn (z.rs.map plainM) next z.rn).2
  unfold mayB lastB at hm
  simp only [Bool.and_eq_true, Bool.or_eq_true, Bool.not_eq_true', Bool.or_eq_false_iff, decide_eq_false_iff_not, decide_eq_true_eq, Bool.and_eq_false_iff] at hm
  obtain ⟨⟨m1, m2⟩, m3⟩ := hm
  refine (wholeB_iff y).2 ⟨by rw [h.N]; exact a1, by rw [h.N]; exact a2, by rw [h.N, h.cs]; exact numN_plainM a3, ?_, ?_, ?_, ?_⟩
  · refine numN_of ?_ ?_
    · rw [h.rs, h.N, zrL_len _ _ (by omega), List.length_map, hz.rl, hz.N]
    · intro u hu
      rw [h.rs, zrL_all _ _ e1] at hu
      obtain ⟨r, hr, rfl⟩ := List.mem_map.1 hu
      split
      · exact fin_zeroJ
      · exact (numN_fin (numN_plainM a4)).2 r hr
  · rw [h.dn, h.gn, h.ids, h.gs, List.length_append, List.length_append, List.length_map, hlen, hi, hg, a5]
  · unfold posB
    rw [List.all_eq_true]
    intro u hu
    rw [h.rs] at hu
    obtain ⟨j, hj⟩ := List.getElem?_of_mem hu
    have := zrL_none e1 hp' j
    rw [hj, Option.getD_some] at this
    simp [this]
  · intro j hj
    rw [c1] at hj
    by_cases hjd : j < z.dn
    · have q := a7 j hjd
      have ei : y.ids[j]?.getD 0 = z.ids[j]?.getD 0 := by rw [h.ids, List.getElem?_append_left (by omega)]
      have eg : y.gs[j]?.getD [] = (z.gs[j]?.getD []).map plainM := by rw [h.gs, List.getElem?_append_left (by rw [List.length_map]; omega), getD_map_plain]
      rw [ei, eg, h.N]
      refine ⟨?_, q.2.1, numN_plainM q.2.2⟩
      by_cases e0 : j = 0
      · have := q.1
        rw [if_pos e0] at this ⊢
        exact this
      · have := q.1
        rw [if_neg e0] at this ⊢
        rw [h.ids, List.getElem?_append_left (by omega)]
        exact this
    · have ei : y.ids[j]?.getD 0 = next + ((j - z.dn : Nat) : Int) := by
        rw [h.ids, List.getElem?_append_right (by omega), hi]
        exact lfS_id _ _ _ _ (by omega) _ (by omega)
      have eg : numN (y.gs[j]?.getD []) y.N = true := by
        have hl : j - z.gn < (lfS z.rn (z.rs.map plainM) next z.rn).2.1.length := by rw [hlen, hcnt]; omega
        rw [h.gs, List.getElem?_append_right (by rw [List.length_map]; omega), List.length_map, hg, List.getElem?_eq_getElem hl, Option.getD_some]
        obtain ⟨i, hi'⟩ := lfS_col z.rn (z.rs.map plainM) next z.rn _ (List.getElem_mem hl)
        rw [hi']
        refine numN_of ?_ (unitL_fin ?_)
        · unfold unitL
          rw [List.length_set, List.length_replicate, h.N, hz.N]
        · rw [getD_plain]; exact fin_plainM (hz.fin.r i)
      refine ⟨?_, ?_, eg⟩
      · rw [ei]
        by_cases e0 : j = 0
        · rw [if_pos e0]; omega
        · rw [if_neg e0]
          by_cases e1' : j = z.dn
          · rw [h.ids, List.getElem?_append_left (by omega), e1']
            rcases m2 with m2 | m2
            · omega
            · omega
          · rw [h.ids, List.getElem?_append_right (by omega), hi, lfS_id _ _ _ _ (by omega) _ (by omega)]
            omega
      · rw [ei]
        omega
theorem owns_none {w : World} {E : TypeId} {base : Nat} {n m c : Nat} {o : Option Addr} {xs : List Value} (h : w.ownsRow base E 1 (.slice o m c) n xs) (ho : o = none) : m = 0 ∧ c = 0 := by
  subst ho
  rcases h.2 with ⟨h1, _⟩ | ⟨g, cap, cur, h1, _⟩
  · injection h1 with _ h2 h3
    exact ⟨h2, h3⟩
  · cases h1
/-- As FrL.zr, and what is known of its lists. -/
theorem FrL.zrW {w : World} {base n bc br : Nat} {cs rs : List Nat} {ids : List Int} {gs : List (List Nat)} {vi vg : Value} {gl : List Nat} (h : FrL w base n bc br cs rs ids gs vi vg gl) (N : Int) (bad : Bool) (hn : n ≤ 100000) (hi : ids.length ≤ 1050000) (hg : gs.length ≤ 1050000) :
    ∃ y : ZD, (.agg #[.int .i64 N, slN n bc, vi, vg, slN n br, .bool bad] : Value) = .agg (zRow y) ∧ ZR w y ∧ ZW y ∧ y.N = N ∧ y.bad = bad ∧ y.cs = cs ∧ y.rs = rs ∧ y.ids = ids ∧ y.gs = gs ∧ y.cn = n ∧ y.rn = n ∧ y.dn = ids.length ∧ y.gn = gs.length := by
  have hI := h.i
  have hG := h.g
  obtain ⟨io, dc, rfl, hm1, h1⟩ := owns_slice h.i
  obtain ⟨go, gc, rfl, hm2, h2⟩ := owns_slice h.g
  have e1 : (ids.map (Value.int .i64)).length = ids.length := List.length_map _
  have e2 : (gl.map (slN n)).length = gs.length := (List.length_map _).trans h.col.len
  have hni := fun ho => owns_none hI ho
  rw [e1] at hm1 h1 hni
  rw [e2] at hm2 h2
  rw [e1, e2]
  refine ⟨⟨N, some ⟨bc, 0, none⟩, n, n, io, ids.length, dc, go, gs.length, gc, some ⟨br, 0, none⟩, n, n, bad, cs, ids, fun j => (some ⟨gl[j]?.getD 0, 0, none⟩, n, n), gs, rs⟩, rfl, ⟨h.c.rd, ⟨rfl, hm1, ?_⟩, ⟨rfl, hm2, ?_, fun j hj => (h.col.row j (by rw [h.col.len]; exact hj)).rd⟩, h.r.rd⟩, ⟨(fun hc => by cases hc), hni, (fun hc => by cases hc), fun k _ hc => (by cases hc), by dsimp only; omega, hi, hg, by dsimp only; omega, fun k _ => by dsimp only; omega⟩, rfl, rfl, rfl, rfl, rfl, rfl, rfl, rfl, rfl, rfl⟩
  · rcases h1 with h0 | ⟨g, rfl, hc⟩
    · exact .inl h0
    · refine .inr ⟨g, 0, rfl, fun j hj => ?_⟩
      dsimp only at hj ⊢
      rw [Nat.zero_add, hc j hj, List.getElem?_map, List.getElem?_eq_getElem hj]
      rfl
  · rcases h2 with h0 | ⟨g, rfl, hc⟩
    · exact .inl h0
    · refine .inr ⟨g, 0, rfl, fun j hj => ?_⟩
      dsimp only at hj ⊢
      have hj' : j < gl.length := by rw [h.col.len]; exact hj
      rw [Nat.zero_add, hc j hj, List.getElem?_map, List.getElem?_eq_getElem hj']
      rfl
theorem tk_self {z : ZD} (h : checkB z = true) : tkZ z = z := by unfold tkZ; rw [if_pos h]
theorem check_whole {z : ZD} (hb : z.bad = false) (h : wholeB z = true) : checkB z = true := by unfold checkB; rw [hb]; exact h
/-- Lift of a zonotope that is whole, where it answers one. -/
theorem lift_okY (z : ZD) (next : Int) (w : World) (hz : ZR w z) (hb : z.bad = false) (hw : wholeB z = true) (hf : WhF z) (hd : z.dn ≤ 1049000) (hnx : -9223372036854775808 ≤ next ∧ next < 9223372036854775808) (hm : mayB z next = true) :
    Calls Tryz.prog 6 #[.agg (zRow z), .int .i64 next] w fun e w' => ∃ y : ZD, e = .returned (.tuple #[.agg (zRow y), .int .i64 (next + (madeN z.rs : Nat))]) ∧ ZR w' y ∧ ZW y ∧ LfR z next y ∧ Below w.heap.size w w' := by
  have ht := tk_self (check_whole hb hw)
  have hi := hz.i.length
  have hg := hz.g.length
  have h := lift_ok z next w hz (by rw [ht]; exact hb) (by rw [ht, hf.cn]; exact hf.N) (by rw [ht]; exact hf.cn) (by rw [ht]; exact hf.dg) (by rw [ht, hf.cn]; have := hf.n2; omega) (by rw [ht]; omega) (by rw [ht]; intro k hk; rw [hf.cn]; exact hf.gl k hk) hnx (by rw [ht]; exact hm)
  rw [ht, hf.cn] at h
  refine Calls.mono h ?_
  rintro e w' ⟨bc, br, vi, vg, gl, rfl, hF, hb'⟩
  have e1 : (z.rs.map plainM).length = z.rn := by rw [List.length_map]; exact hf.rl
  have hcnt := lfS_count z.rn (z.rs.map plainM) next z.rn (by omega)
  have hnxt := lfS_next z.rn (z.rs.map plainM) next z.rn (by omega)
  rw [List.take_of_length_le (by omega), madeN_plain] at hcnt hnxt
  have hlen := (lfS_len z.rn (z.rs.map plainM) next z.rn).2
  have hml := madeN_le z.rs
  have h2 := hf.n2
  have hrl := hf.rl
  have hdg := hf.dg
  obtain ⟨y, hy, hzr, hzw, y1, y2, y3, y4, y5, y6, y7, y8, y9, y10⟩ := hF.zrW z.N false (by omega) (by rw [List.length_append, hcnt, hi]; omega) (by rw [List.length_append, List.length_map, hlen, hcnt, hg]; omega)
  refine ⟨y, by rw [hy, hnxt], hzr, hzw, ⟨y1, y2, y3, y4, y5, y6, y7, y8, by rw [y9, y5], by rw [y10, y6]⟩, hb'⟩
end Go.Proofs.YtkpplacilehngaaGreat


namespace Go.Proofs.YtkpplacilehngaaGreat
open Go.RowKit Go.Shelf
set_option linter.unusedVariables false
set_option linter.unusedSimpArgs false

/-- Two zonotopes have the same numbers. -/
structure SmZ (u z : ZD) : Prop where
  N : u.N = z.N
  bad : u.bad = z.bad
  cs : u.cs = z.cs
  rs : u.rs = z.rs
  ids : u.ids = z.ids
  gs : u.gs = z.gs
  dn : u.dn = z.dn
  gn : u.gn = z.gn
  cn : u.cn = z.cn
  rn : u.rn = z.rn
theorem ofU (z : ZD) (w : World) (hz : ZR w z) (hw : ZW z) :
    Calls Tryz.prog 4 #[.agg (zRow z)] w fun e w' => ∃ u : ZD, e = .returned (.agg (zRow u)) ∧ ZU w' u ∧ SmZ u z ∧ Below w.heap.size w w' := by
  refine Calls.mono (of10_any z w hz hw) ?_
  rintro e w1 ⟨u, he, hu, u1, u2, u3, u4, u5, u6, u7, u8, u9, u10, b1⟩
  exact ⟨u, he, hu, ⟨u1, u2, u3, u4, u5, u6, u7, u8, u9, u10⟩, b1⟩
/-- What Support tells. -/
structure SupR (z : ZD) (ds : List Nat) (s : Nat) (ok : Bool) : Prop where
  is : (numN ds z.N = true ∧ RndO 1 (supO z ds) s ok) ∨ (numN ds z.N = false ∧ s = 0 ∧ ok = false)
theorem LfR.sup {z y : ZD} {next : Int} {ds : List Nat} (h : LfR z next y) (hz : WhF z) (hy : WhF y) (gz : z.gs.length = z.dn) (gy : y.gs.length = y.dn) (hn : numN ds z.N = true) : supO y ds = supO z ds := by
  obtain ⟨h1, h2⟩ := numN_fin hn
  have hl : ds.length = z.rn := by rw [hz.N] at h1; omega
  obtain ⟨a, ha⟩ : ∃ a : Nat, a = 92 := ⟨_, rfl⟩
  rw [supO_gen ha hy.fin gy (fin_getD h2) hl (by rw [hy.rl, h.rn]) hz.n2, supO_gen ha hz.fin gz (fin_getD h2) hl hz.rl hz.n2, h.cs, h.rs, h.gs, supV_lift hz.rl hz.pos]
theorem SupR.same {z y : ZD} {next : Int} {ds : List Nat} {s t : Nat} {ok is : Bool} (h : SupR z ds s ok) (k : SupR y ds t is) (hl : LfR z next y) (hz : WhF z) (hy : WhF y) (gz : z.gs.length = z.dn) (gy : y.gs.length = y.dn) : s = t ∧ ok = is ∧ Fin s := by
  have e := hl.N
  rcases h.is with ⟨h1, h2⟩ | ⟨h1, rfl, rfl⟩
  · rcases k.is with ⟨k1, k2⟩ | ⟨k1, _, _⟩
    · rw [hl.sup hz hy gz gy h1] at k2
      obtain ⟨rfl, rfl⟩ := RndO.uniq h2 k2
      exact ⟨rfl, rfl, RndO.finJ h2⟩
    · rw [e, h1] at k1; cases k1
  · rcases k.is with ⟨k1, k2⟩ | ⟨k1, rfl, rfl⟩
    · rw [e, h1] at k1; cases k1
    · exact ⟨rfl, rfl, fin_zeroJ⟩
theorem range3 {w : World} {b o : Nat} {x y z : Value} (h1 : w.cell? ⟨b, o, none⟩ = some x) (h2 : w.cell? ⟨b, o + 1, none⟩ = some y) (h3 : w.cell? ⟨b, o + 2, none⟩ = some z) : w.rangeAt b o [x, y, z] := by
  intro j v hv
  match j, hv with
  | 0, hv => simp only [List.getElem?_cons_zero, Option.some.injEq] at hv; subst hv; exact h1
  | 1, hv => simp only [List.getElem?_cons_succ, List.getElem?_cons_zero, Option.some.injEq] at hv; subst hv; exact h2
  | 2, hv => simp only [List.getElem?_cons_succ, List.getElem?_cons_zero, Option.some.injEq] at hv; subst hv; exact h3
  | j + 3, hv => simp at hv
theorem RowN.range {w : World} {base E : Nat} {v : Value} {us : List Nat} (h : RowN w base v E us) {k : Nat} (hk : k < us.length) : ∃ b cap n o l c e, v = .slice (some ⟨b, 0, none⟩) us.length cap ∧ w.rangeAt b (k * 3) [.bool n, .slice o l c, .int .i64 e] ∧ NumC w (.agg #[.bool n, .slice o l c, .int .i64 e]) E 1024 (fval (us[k]?.getD 0)) := by
  obtain ⟨b, cap, hv, n, o, l, c, e, c1, c2, c3, hz⟩ := h.at hk
  exact ⟨b, cap, n, o, l, c, e, hv, range3 c1 c2 c3, hz⟩
theorem range_later {w w' : World} {b o : Nat} {cs : List Value} (h : w.rangeAt b o cs) (hb : Below w.heap.size w w') : w'.rangeAt b o cs := fun j v hv => (hb.cell (World.block_lt_of_cell? _ _ (h j v hv))).trans (h j v hv)
end Go.Proofs.YtkpplacilehngaaGreat

