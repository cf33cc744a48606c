import Derived.Test.YtbjnkefjlaplkaaJXr
namespace Go.Proofs.Ytbjnkefjlaplkaa
open Go.RowKit Go.Shelf
set_option linter.unusedVariables false
set_option linter.unusedSimpArgs false

/-- What the columns give at the values es, exact. -/
def colV (gs : List (List Nat)) (es : List Int) (i : Nat) : Nat → Int
  | 0 => 0
  | k + 1 => colV gs es i k + (es[k]?.getD 0) * fval ((gs[k]?.getD [])[i]?.getD 0)
/-- How far the columns go along the axis i. -/
def absG (i : Nat) (gs : List (List Nat)) : Nat := sumG (fun g => rmag (frung (g[i]?.getD 0))) gs
theorem colV_abs {A i : Nat} {gs : List (List Nat)} {es : List Int} (he : ∀ k : Nat, (es[k]?.getD 0).natAbs ≤ A) : ∀ k, k ≤ gs.length → (colV gs es i k).natAbs ≤ A * absG i (gs.take k)
  | 0, _ => by simp [colV]
  | k + 1, hk => by
    have h1 := colV_abs (i := i) (gs := gs) he k (by omega)
    unfold absG at h1 ⊢
    rw [sumG_take (by omega), Nat.mul_add]
    have h2 : colV gs es i (k + 1) = colV gs es i k + (es[k]?.getD 0) * fval ((gs[k]?.getD [])[i]?.getD 0) := rfl
    have h3 : ((es[k]?.getD 0) * fval ((gs[k]?.getD [])[i]?.getD 0)).natAbs ≤ A * rmag (frung ((gs[k]?.getD [])[i]?.getD 0)) := by
      rw [Int.natAbs_mul, fval_absJ]
      exact Nat.mul_le_mul_right _ (he k)
    rw [h2]
    have h4 := Int.natAbs_add_le (colV gs es i k) ((es[k]?.getD 0) * fval ((gs[k]?.getD [])[i]?.getD 0))
    omega
/-- The coordinate i of the point, behind k columns. -/
def ptK (A : Nat) (cs rs : List Nat) (gs : List (List Nat)) (es bs : List Int) (i k : Nat) : Int := fval (cs[i]?.getD 0) * (A : Int) + (bs[i]?.getD 0) * fval (rs[i]?.getD 0) + colV gs es i k
theorem mem_getD {P : Int → Prop} {l : List Int} (h0 : P 0) (h : ∀ z ∈ l, P z) (k : Nat) : P (l[k]?.getD 0) := by
  by_cases hk : k < l.length
  · rw [List.getElem?_eq_getElem hk, Option.getD_some]; exact h _ (List.getElem_mem hk)
  · rw [List.getElem?_eq_none (by omega), Option.getD_none]; exact h0
theorem pt_bound {A E X i : Nat} {cs rs : List Nat} {gs : List (List Nat)} {es bs : List Int} (hA : A = 2 ^ E) (hE : E = 1074) (hX : X = 3208) (hc : Fin (cs[i]?.getD 0)) (hr : Fin (rs[i]?.getD 0)) (hg : ∀ k : Nat, Fin ((gs[k]?.getD [])[i]?.getD 0)) (few : gs.length ≤ 1050000) (he : ∀ k : Nat, (es[k]?.getD 0).natAbs ≤ A) (hb : (bs[i]?.getD 0).natAbs ≤ A) (k : Nat) (hk : k ≤ gs.length) : (ptK A cs rs gs es bs i k).natAbs < 2 ^ X := by
  obtain ⟨F, hF⟩ : ∃ F : Nat, F = 2098 := ⟨_, rfl⟩
  have h1 := fval_ltJ hc hF
  have h2 := fval_ltJ hr hF
  have h3 : absG i (gs.take k) ≤ (gs.take k).length * 2 ^ F := sumG_le (M := 2 ^ F) _ fun g hgg => by
    obtain ⟨j, hj, rfl⟩ := List.getElem_of_mem (List.mem_of_mem_take hgg)
    have := hg j
    rw [List.getElem?_eq_getElem hj] at this
    exact Nat.le_of_lt (fval_ltJ this hF)
  rw [List.length_take] at h3
  have h4 := colV_abs (i := i) he k hk
  have h5 : (fval (cs[i]?.getD 0) * (A : Int)).natAbs ≤ A * 2 ^ F := by
    rw [Int.natAbs_mul, fval_absJ, Int.natAbs_natCast, Nat.mul_comm]
    exact Nat.mul_le_mul_left _ (Nat.le_of_lt h1)
  have h6 : ((bs[i]?.getD 0) * fval (rs[i]?.getD 0)).natAbs ≤ A * 2 ^ F := by
    rw [Int.natAbs_mul, fval_absJ]
    exact Nat.mul_le_mul hb (Nat.le_of_lt h2)
  have h7 : A * absG i (gs.take k) ≤ A * (1050000 * 2 ^ F) := Nat.mul_le_mul_left _ (Nat.le_trans h3 (Nat.mul_le_mul_right _ (by omega)))
  have h8 : A * (1050000 * 2 ^ F) = 1050000 * (A * 2 ^ F) := by rw [← Nat.mul_assoc, Nat.mul_comm A, Nat.mul_assoc]
  have h9 : 2097152 * (A * 2 ^ F) ≤ 2 ^ X := by
    rw [hA, ← Nat.pow_add, show (2097152 : Nat) = 2 ^ 21 by decide, ← Nat.pow_add]
    exact Nat.pow_le_pow_right (by omega) (by omega)
  have h10 : 0 < A * 2 ^ F := Nat.mul_pos (by rw [hA]; exact Nat.two_pow_pos _) (Nat.two_pow_pos _)
  unfold ptK
  have g1 := Int.natAbs_add_le (fval (cs[i]?.getD 0) * (A : Int) + (bs[i]?.getD 0) * fval (rs[i]?.getD 0)) (colV gs es i k)
  have g2 := Int.natAbs_add_le (fval (cs[i]?.getD 0) * (A : Int)) ((bs[i]?.getD 0) * fval (rs[i]?.getD 0))
  generalize A * 2 ^ F = Q at *
  generalize 2 ^ X = Y at *
  omega
/-- A point is no further from the centre than far. -/
theorem pt_in {A i : Nat} {cs rs : List Nat} {gs : List (List Nat)} {es bs : List Int} (hr : 0 ≤ fval (rs[i]?.getD 0)) (he : ∀ k : Nat, (es[k]?.getD 0).natAbs ≤ A) (hb : (bs[i]?.getD 0).natAbs ≤ A) : ((ptK A cs rs gs es bs i gs.length - fval (cs[i]?.getD 0) * (A : Int)).natAbs : Int) ≤ farV rs gs i * (A : Int) := by
  have h4 := colV_abs (i := i) (gs := gs) he gs.length (Nat.le_refl _)
  rw [List.take_of_length_le (Nat.le_refl _)] at h4
  have h6 : ((bs[i]?.getD 0) * fval (rs[i]?.getD 0)).natAbs ≤ A * rmag (frung (rs[i]?.getD 0)) := by
    rw [Int.natAbs_mul, fval_absJ]
    exact Nat.mul_le_mul_right _ hb
  have e1 : ptK A cs rs gs es bs i gs.length - fval (cs[i]?.getD 0) * (A : Int) = (bs[i]?.getD 0) * fval (rs[i]?.getD 0) + colV gs es i gs.length := by unfold ptK; omega
  have g1 := Int.natAbs_add_le ((bs[i]?.getD 0) * fval (rs[i]?.getD 0)) (colV gs es i gs.length)
  have e2 : fval (rs[i]?.getD 0) = (rmag (frung (rs[i]?.getD 0)) : Int) := by rw [← fval_absJ]; omega
  have e3 : farV rs gs i * (A : Int) = ((A * rmag (frung (rs[i]?.getD 0)) + A * absG i gs : Nat) : Int) := by
    unfold farV absG
    rw [e2, ← Int.natCast_add, ← Int.natCast_mul, Nat.mul_comm, Nat.mul_add]
  rw [e1, e3]
  omega
/-- All coordinates of the point. -/
def ptV (A : Nat) (cs rs : List Nat) (gs : List (List Nat)) (es bs : List Int) (n : Nat) : List Int := (List.range n).map fun i => ptK A cs rs gs es bs i gs.length
theorem ptV_len (A : Nat) (cs rs : List Nat) (gs : List (List Nat)) (es bs : List Int) (n : Nat) : (ptV A cs rs gs es bs n).length = n := by unfold ptV; simp
theorem ptV_snoc (A : Nat) (cs rs : List Nat) (gs : List (List Nat)) (es bs : List Int) (n : Nat) : ptV A cs rs gs es bs (n + 1) = ptV A cs rs gs es bs n ++ [ptK A cs rs gs es bs n gs.length] := by unfold ptV; rw [List.range_succ, List.map_append]; rfl
theorem ptV_at {A : Nat} {cs rs : List Nat} {gs : List (List Nat)} {es bs : List Int} {n i : Nat} (h : i < n) : (ptV A cs rs gs es bs n)[i]?.getD 0 = ptK A cs rs gs es bs i gs.length := by unfold ptV; simp [h]
theorem allocNJ (w : World) : (Instr.alloc 60 true (.tuple #[])).run Try.prog w = .ok (.pointer (some ⟨w.heap.size, 0, none⟩)) (w.alloc (.cells #[.bool false, .slice none 0 0, .int .i64 0] 60)) := by kernel_rfl
end Go.Proofs.Ytbjnkefjlaplkaa
