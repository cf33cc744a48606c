import Derived.Test.YtogdfdhdmfkmaaaGreatJXd
import Derived.Test.YtogdfdhdmfkmaaaGreatMV
namespace Go.Proofs.YtogdfdhdmfkmaaaGreat
open Go.RowKit Go.Shelf
set_option linter.unusedVariables false
set_option linter.unusedSimpArgs false

theorem reach_bound {ds cs rs : List Nat} {gs : List (List Nat)} {n k j m X : Nat} (hX : X = 4248) (hd : ∀ j : Nat, Fin (ds[j]?.getD 0)) (hc : ∀ j : Nat, Fin (cs[j]?.getD 0)) (hr : ∀ j : Nat, Fin (rs[j]?.getD 0)) (hg : ∀ k j : Nat, Fin ((gs[k]?.getD [])[j]?.getD 0)) (few : gs.length ≤ 1050000) (hn : n ≤ 256) (hk : k ≤ 256) (hj : j ≤ 256) :
    (dotV ds cs k + boxV ds rs j + (sumG (fun g => (dotV ds g n).natAbs) (gs.take m) : Nat)).natAbs < 2 ^ X := by
  obtain ⟨F, hF⟩ : ∃ F : Nat, F = 4196 := ⟨_, rfl⟩
  have h1 := dotV_bound hF hd hc k
  have h2 := boxV_bound hF hd hr j
  have h3 : k * 2 ^ F ≤ 256 * 2 ^ F := Nat.mul_le_mul_right _ hk
  have h4 : j * 2 ^ F ≤ 256 * 2 ^ F := Nat.mul_le_mul_right _ hj
  have h5 : n * 2 ^ F ≤ 256 * 2 ^ F := Nat.mul_le_mul_right _ hn
  have h6 := sumG_le (B := fun g => (dotV ds g n).natAbs) (M := 256 * 2 ^ F) (gs.take m) fun g hgg => by
    obtain ⟨i, hi, rfl⟩ := List.getElem_of_mem (List.mem_of_mem_take hgg)
    refine Nat.le_trans (dotV_bound hF hd (fun j => ?_) n) h5
    have := hg i j
    rw [List.getElem?_eq_getElem hi] at this
    exact this
  have h7 : (gs.take m).length * (256 * 2 ^ F) ≤ 268800000 * 2 ^ F := by
    rw [← Nat.mul_assoc]
    exact Nat.mul_le_mul_right _ (by rw [List.length_take]; omega)
  have h8 : 1073741824 * 2 ^ F ≤ 2 ^ X := by
    rw [show (1073741824 : Nat) = 2 ^ 30 by decide, ← Nat.pow_add]
    exact Nat.pow_le_pow_right (by omega) (by omega)
  have h9 := Nat.two_pow_pos F
  generalize 2 ^ F = A at *
  generalize 2 ^ X = Y at *
  generalize (gs.take m).length * (256 * A) = G at *
  generalize k * A = K1 at *
  generalize j * A = K2 at *
  omega
end Go.Proofs.YtogdfdhdmfkmaaaGreat


namespace Go.Proofs.YtogdfdhdmfkmaaaGreat
open Go.RowKit Go.Shelf
set_option linter.unusedVariables false
set_option linter.unusedSimpArgs false

end Go.Proofs.YtogdfdhdmfkmaaaGreat


namespace Go.Proofs.YtogdfdhdmfkmaaaGreat
open Go.RowKit Go.Shelf
set_option linter.unusedVariables false
set_option linter.unusedSimpArgs false

end Go.Proofs.YtogdfdhdmfkmaaaGreat

