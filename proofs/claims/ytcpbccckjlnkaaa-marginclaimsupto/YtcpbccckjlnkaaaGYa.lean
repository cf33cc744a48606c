import Derived.Test.YtcpbccckjlnkaaaGJc
namespace Go.Proofs.Ytcpbccckjlnkaaa
open Go.RowKit Go.Shelf
set_option linter.unusedVariables false
open Ieee

theorem fval_zeroJ : fval 0 = 0 := by decide +kernel
theorem fin_zeroJ : Fin 0 := by decide
/-- All numbers of a zonotope are numbers. -/
structure FnZ (z : ZD) : Prop where
  c : ∀ j : Nat, Fin (z.cs[j]?.getD 0)
  r : ∀ j : Nat, Fin (z.rs[j]?.getD 0)
  g : ∀ k j : Nat, Fin ((z.gs[k]?.getD [])[j]?.getD 0)
  few : z.dn ≤ 1050000
end Go.Proofs.Ytcpbccckjlnkaaa


namespace Go.Proofs.Ytcpbccckjlnkaaa
open Go.RowKit Go.Shelf
set_option linter.unusedVariables false
open Ieee

end Go.Proofs.Ytcpbccckjlnkaaa


namespace Go.Proofs.Ytcpbccckjlnkaaa
open Go.RowKit Go.Shelf
set_option linter.unusedVariables false
open Ieee

theorem fin_getD {us : List Nat} (h : ∀ u ∈ us, Fin u) (j : Nat) : Fin (us[j]?.getD 0) := by
  by_cases hj : j < us.length
  · rw [List.getElem?_eq_getElem hj]; exact h _ (List.getElem_mem hj)
  · rw [List.getElem?_eq_none (by omega)]; exact fin_zeroJ
theorem colsB_num {z : ZD} : ∀ {ks : List (_root_.Fin z.dn)} {last : Int}, colsB z last ks = true → ∀ k ∈ ks, numN (z.gs[k.val]?.getD []) z.N = true
  | [], _, _, k, hk => by cases hk
  | x :: ks, last, h, k, hk => by
    have h' : (colOk z last x && colsB z (idZ z x) ks) = true := h
    rw [Bool.and_eq_true] at h'
    rcases List.mem_cons.1 hk with rfl | hk
    · have := h'.1
      unfold colOk at this
      simp only [Bool.and_eq_true] at this
      exact this.2
    · exact colsB_num h'.2 k hk
/-- What a whole zonotope has. -/
structure WhF (z : ZD) : Prop where
  n1 : 1 ≤ z.rn
  n2 : z.rn ≤ 256
  N : z.N = (z.rn : Int)
  cn : z.cn = z.rn
  dg : z.dn = z.gn
  cl : z.cs.length = z.rn
  rl : z.rs.length = z.rn
  gl : ∀ k, k < z.dn → (z.gs[k]?.getD []).length = z.rn
  pos : ∀ i : Nat, 0 ≤ fval (z.rs[i]?.getD 0)
  fin : FnZ z
theorem WhF.of {w : World} {z : ZD} (hz : ZR w z) (hd : z.dn ≤ 1050000) (h : wholeB z = true) : WhF z := by
  unfold wholeB at h
  simp only [Bool.and_eq_true, decide_eq_true_eq] at h
  obtain ⟨⟨⟨⟨⟨⟨h1, h2⟩, h3⟩, h4⟩, h5⟩, h6⟩, h7⟩ := h
  obtain ⟨c1, c2⟩ := numN_fin h3
  obtain ⟨r1, r2⟩ := numN_fin h4
  have hl := hz.r.length
  have hlc := hz.c.length
  have hg := fun (k : Nat) (hk : k < z.dn) => numN_fin (colsB_num h7 ⟨k, hk⟩ (List.mem_finRange _))
  refine ⟨by omega, by omega, by omega, by omega, h5, by omega, hl, fun k hk => by have := (hg k hk).1; dsimp only at this; omega, fun i => ?_, ⟨fin_getD c2, fin_getD r2, fun k j => ?_, hd⟩⟩
  · by_cases hi : i < z.rs.length
    · rw [List.getElem?_eq_getElem hi]
      have h8 := List.all_eq_true.1 h6 _ (List.getElem_mem hi)
      have h9 : ¬ srung z.rs[i] < 0 := of_decide_eq_true h8
      have h10 := srung_le 0 z.rs[i]
      rw [fval_zeroJ, show srung 0 = 0 by decide] at h10
      exact h10.1 (by omega)
    · rw [List.getElem?_eq_none (by omega)]; exact Int.le_of_eq fval_zeroJ.symm
  · by_cases hk : k < z.dn
    · exact fin_getD (hg k hk).2 j
    · have e : z.gs[k]? = none := List.getElem?_eq_none (by have := hz.g.length; omega)
      rw [e]
      exact fin_zeroJ
end Go.Proofs.Ytcpbccckjlnkaaa

