import Derived.Test.YtogdfdhdmfkmaaaGreatGYa
import Derived.Test.YtogdfdhdmfkmaaaGreatGJg
import Derived.Test.YtogdfdhdmfkmaaaGreatJZf
import Derived.Test.YtogdfdhdmfkmaaaGreatGJi
import Derived.Test.YtogdfdhdmfkmaaaGreatJYh
import Derived.Test.YtogdfdhdmfkmaaaGreatGJd
import Derived.Test.YtogdfdhdmfkmaaaGreatZX
namespace Go.Proofs.YtogdfdhdmfkmaaaGreat
open Go.RowKit Go.Shelf
set_option linter.unusedVariables false
set_option linter.unusedSimpArgs false

theorem frung_of_srung {u : Nat} (h : srung u = 0) : frung u = 0 := by
  unfold srung at h
  split at h <;> omega
theorem rmag_zeroJ : rmag 0 = 0 := by decide
theorem fval_of_srung {u : Nat} (h : srung u = 0) : fval u = 0 := by
  unfold fval
  rw [frung_of_srung h, rmag_zeroJ]
  split <;> rfl
theorem fval_plainM (u : Nat) : fval (plainM u) = fval u := by
  unfold plainM
  split
  · rename_i h
    rw [fval_zeroJ, fval_of_srung h]
  · rfl
theorem getD_plain (us : List Nat) (j : Nat) : (us.map plainM)[j]?.getD 0 = plainM (us[j]?.getD 0) := by
  rw [List.getElem?_map]
  cases us[j]? with
  | none => decide
  | some x => rfl
theorem mul_bound {u v F : Nat} (hF : F = 4196) (hu : Fin u) (hv : Fin v) : (fval u * fval v).natAbs ≤ 2 ^ F := by
  obtain ⟨G, hG⟩ : ∃ G : Nat, G = 2098 := ⟨_, rfl⟩
  have h1 := fval_ltJ hu hG
  have h2 := fval_ltJ hv hG
  rw [Int.natAbs_mul, fval_absJ, fval_absJ, show F = G + G by omega, Nat.pow_add]
  exact Nat.mul_le_mul (Nat.le_of_lt h1) (Nat.le_of_lt h2)
/-- A sum of products, exact, in units of 2^-2148. -/
def dotV (ds vs : List Nat) : Nat → Int
  | 0 => 0
  | k + 1 => dotV ds vs k + fval (ds[k]?.getD 0) * fval (vs[k]?.getD 0)
theorem dotV_bound {ds vs : List Nat} {F : Nat} (hF : F = 4196) (hd : ∀ j : Nat, Fin (ds[j]?.getD 0)) (hv : ∀ j : Nat, Fin (vs[j]?.getD 0)) : ∀ k, (dotV ds vs k).natAbs ≤ k * 2 ^ F
  | 0 => by simp [dotV]
  | k + 1 => by
    have ih := dotV_bound hF hd hv k
    have hp := mul_bound hF (hd k) (hv k)
    rw [dotV, Nat.succ_mul]
    generalize 2 ^ F = X at *
    generalize fval (ds[k]?.getD 0) * fval (vs[k]?.getD 0) = Y at *
    omega
/-- What the box gives, exact. -/
def boxV (ds rs : List Nat) : Nat → Int
  | 0 => 0
  | k + 1 => boxV ds rs k + fval (frung (ds[k]?.getD 0)) * fval (rs[k]?.getD 0)
theorem boxV_bound {ds rs : List Nat} {F : Nat} (hF : F = 4196) (hd : ∀ j : Nat, Fin (ds[j]?.getD 0)) (hv : ∀ j : Nat, Fin (rs[j]?.getD 0)) : ∀ k, (boxV ds rs k).natAbs ≤ k * 2 ^ F
  | 0 => by simp [boxV]
  | k + 1 => by
    have ih := boxV_bound hF hd hv k
    have hp := mul_bound hF (fin_frung (hd k)) (hv k)
    rw [boxV, Nat.succ_mul]
    generalize 2 ^ F = X at *
    generalize fval (frung (ds[k]?.getD 0)) * fval (rs[k]?.getD 0) = Y at *
    omega
/-- A sum over columns. -/
def sumG (B : List Nat → Nat) (gs : List (List Nat)) : Nat := (gs.map B).sum
theorem sumG_append (B : List Nat → Nat) (l m : List (List Nat)) : sumG B (l ++ m) = sumG B l + sumG B m := by unfold sumG; rw [List.map_append, List.sum_append]
theorem sumG_one (B : List Nat → Nat) (g : List Nat) : sumG B [g] = B g := by simp [sumG]
/-- How far a zonotope goes in a direction, exact, in units of 2^-2148. -/
def supV (ds cs rs : List Nat) (gs : List (List Nat)) (n : Nat) : Int := dotV ds cs n + (sumG (fun g => (dotV ds g n).natAbs) gs : Nat) + boxV ds rs n
theorem dotV_plain (ds vs : List Nat) : ∀ k, dotV ds (vs.map plainM) k = dotV ds vs k
  | 0 => rfl
  | k + 1 => by rw [dotV, dotV, dotV_plain ds vs k, getD_plain, fval_plainM]
theorem boxV_plain (ds rs : List Nat) : ∀ k, boxV ds (rs.map plainM) k = boxV ds rs k
  | 0 => rfl
  | k + 1 => by rw [boxV, boxV, boxV_plain ds rs k, getD_plain, fval_plainM]
end Go.Proofs.YtogdfdhdmfkmaaaGreat


namespace Go.Proofs.YtogdfdhdmfkmaaaGreat
open Go.RowKit Go.Shelf
set_option linter.unusedVariables false
set_option linter.unusedSimpArgs false

theorem colsB_drop (z : ZD) : ∀ (m k : Nat) (last : Int), k + m = z.dn → (colsB z last ((List.finRange z.dn).drop k) = true ↔ ∀ j : Nat, k ≤ j → j < z.dn → (if j = k then last else z.ids[j - 1]?.getD 0) < z.ids[j]?.getD 0 ∧ z.ids[j]?.getD 0 ≤ 1073741824 ∧ numN (z.gs[j]?.getD []) z.N = true)
  | 0, k, last, h => by
    rw [List.drop_of_length_le (by rw [List.length_finRange]; omega)]
    exact ⟨fun _ j h1 h2 => by omega, fun _ => rfl⟩
  | m + 1, k, last, h => by
    have hk : k < (List.finRange z.dn).length := by rw [List.length_finRange]; omega
    rw [List.drop_eq_getElem_cons hk]
    have ih := colsB_drop z m (k + 1) (z.ids[k]?.getD 0) (by omega)
    have hst : colsB z last ((List.finRange z.dn)[k] :: (List.finRange z.dn).drop (k + 1)) = (colOk z last (List.finRange z.dn)[k] && colsB z (idZ z (List.finRange z.dn)[k]) ((List.finRange z.dn).drop (k + 1))) := rfl
    have he : ((List.finRange z.dn)[k]).val = k := by simp
    have hid : idZ z (List.finRange z.dn)[k] = z.ids[k]?.getD 0 := by unfold idZ; rw [he]
    rw [hst, Bool.and_eq_true, hid, ih]
    unfold colOk
    rw [hid, he]
    simp only [Bool.and_eq_true, decide_eq_true_eq]
    constructor
    · rintro ⟨⟨⟨a1, a2⟩, a3⟩, a4⟩ j h1 h2
      by_cases e : j = k
      · subst e; rw [if_pos rfl]; exact ⟨a1, a2, a3⟩
      · have := a4 j (by omega) h2
        rw [if_neg e]
        by_cases e' : j = k + 1
        · subst e'; rw [if_pos rfl] at this; rw [Nat.add_sub_cancel]; exact this
        · rw [if_neg e'] at this; exact this
    · intro H
      have h0 := H k (Nat.le_refl _) (by omega)
      rw [if_pos rfl] at h0
      refine ⟨⟨⟨h0.1, h0.2.1⟩, h0.2.2⟩, fun j h1 h2 => ?_⟩
      have := H j (by omega) h2
      rw [if_neg (by omega)] at this
      by_cases e' : j = k + 1
      · subst e'; rw [if_pos rfl]; rw [Nat.add_sub_cancel] at this; exact this
      · rw [if_neg e']; exact this
theorem wholeB_iff (z : ZD) : wholeB z = true ↔ (1 ≤ z.N ∧ z.N ≤ 256 ∧ numN z.cs z.N = true ∧ numN z.rs z.N = true ∧ z.dn = z.gn ∧ posB z.rs = true ∧ ∀ j : Nat, j < z.dn → (if j = 0 then -1 else z.ids[j - 1]?.getD 0) < z.ids[j]?.getD 0 ∧ z.ids[j]?.getD 0 ≤ 1073741824 ∧ numN (z.gs[j]?.getD []) z.N = true) := by
  have h := colsB_drop z z.dn 0 (-1) (by omega)
  rw [List.drop_zero] at h
  unfold wholeB
  simp only [Bool.and_eq_true, decide_eq_true_eq, h]
  constructor
  · rintro ⟨⟨⟨⟨⟨⟨a1, a2⟩, a3⟩, a4⟩, a5⟩, a6⟩, a7⟩
    exact ⟨a1, a2, a3, a4, a5, a6, fun j hj => a7 j (Nat.zero_le _) hj⟩
  · rintro ⟨a1, a2, a3, a4, a5, a6, a7⟩
    exact ⟨⟨⟨⟨⟨⟨a1, a2⟩, a3⟩, a4⟩, a5⟩, a6⟩, fun j _ hj => a7 j hj⟩
theorem tk_self {z : ZD} (h : checkB z = true) : tkZ z = z := by unfold tkZ; rw [if_pos h]
end Go.Proofs.YtogdfdhdmfkmaaaGreat


namespace Go.Proofs.YtogdfdhdmfkmaaaGreat
open Go.RowKit Go.Shelf
set_option linter.unusedVariables false
set_option linter.unusedSimpArgs false

theorem range3 {w : World} {b o : Nat} {x y z : Value} (h1 : w.cell? ⟨b, o, none⟩ = some x) (h2 : w.cell? ⟨b, o + 1, none⟩ = some y) (h3 : w.cell? ⟨b, o + 2, none⟩ = some z) : w.rangeAt b o [x, y, z] := by
  intro j v hv
  match j, hv with
  | 0, hv => simp only [List.getElem?_cons_zero, Option.some.injEq] at hv; subst hv; exact h1
  | 1, hv => simp only [List.getElem?_cons_succ, List.getElem?_cons_zero, Option.some.injEq] at hv; subst hv; exact h2
  | 2, hv => simp only [List.getElem?_cons_succ, List.getElem?_cons_zero, Option.some.injEq] at hv; subst hv; exact h3
  | j + 3, hv => simp at hv
theorem RowN.range {w : World} {base E : Nat} {v : Value} {us : List Nat} (h : RowN w base v E us) {k : Nat} (hk : k < us.length) : ∃ b cap n o l c e, v = .slice (some ⟨b, 0, none⟩) us.length cap ∧ w.rangeAt b (k * 3) [.bool n, .slice o l c, .int .i64 e] ∧ NumC w (.agg #[.bool n, .slice o l c, .int .i64 e]) E 1024 (fval (us[k]?.getD 0)) := by
  obtain ⟨b, cap, hv, n, o, l, c, e, c1, c2, c3, hz⟩ := h.at hk
  exact ⟨b, cap, n, o, l, c, e, hv, range3 c1 c2 c3, hz⟩
theorem range_later {w w' : World} {b o : Nat} {cs : List Value} (h : w.rangeAt b o cs) (hb : Below w.heap.size w w') : w'.rangeAt b o cs := fun j v hv => (hb.cell (World.block_lt_of_cell? _ _ (h j v hv))).trans (h j v hv)
end Go.Proofs.YtogdfdhdmfkmaaaGreat

