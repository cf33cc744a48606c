import Derived.Test.YtikimmflggcpeaaKD
namespace Go.Proofs.Ytikimmflggcpeaa
open Go.RowKit
set_option linter.unusedVariables false

theorem eachF_lt (n : Int) : ∀ (uss : List (List Nat)) (i : Nat), 0 ≤ (eachF uss n i).2 ∧ (eachF uss n i).2 ≤ i + uss.length := by
  intro uss
  induction uss with
  | nil => intro i; simp only [eachF]; omega
  | cons us r ih =>
    intro i
    simp only [eachF, List.length_cons]
    split
    · simp only []; omega
    · have := ih (i + 1); omega
def propE (cs : List Nat) (gs : List (List Nat)) (t : Int) (cl : List (List Nat)) (K D L inn out : Int) : Int × Int :=
  if (!(inB 1 inn 256) || !(inB 1 out 256)) = true then (1, 0) else
  if listE cs inn ≠ 0 then (listE cs inn, 0) else
  if 256 < gs.length then (65, 0) else
  if (eachF gs inn 0).1 ≠ 0 then ((eachF gs inn 0).1, 1 + (eachF gs inn 0).2) else
  if t < -1 ∨ out ≤ t then (68, 0) else
  if 64 < cl.length then (65, 0) else
  if (eachF cl (out + 1) 0).1 ≠ 0 then ((eachF cl (out + 1) 0).1, 1 + (eachF cl (out + 1) 0).2 + gs.length) else
  if cl.length = 0 ∧ (t = -1 ∨ out = 1) then (68, 0) else (budE K D L, 0)
theorem propE_0 (cs : List Nat) (gs : List (List Nat)) (t : Int) (cl : List (List Nat)) (K D L inn out : Int) : propE cs gs t cl K D L inn out =
  if (!(inB 1 inn 256) || !(inB 1 out 256)) = true then (1, 0) else
  if listE cs inn ≠ 0 then (listE cs inn, 0) else
  if 256 < gs.length then (65, 0) else
  if (eachF gs inn 0).1 ≠ 0 then ((eachF gs inn 0).1, 1 + (eachF gs inn 0).2) else
  if t < -1 ∨ out ≤ t then (68, 0) else
  if 64 < cl.length then (65, 0) else
  if (eachF cl (out + 1) 0).1 ≠ 0 then ((eachF cl (out + 1) 0).1, 1 + (eachF cl (out + 1) 0).2 + gs.length) else
  if cl.length = 0 ∧ (t = -1 ∨ out = 1) then (68, 0) else (budE K D L, 0) := rfl
theorem inB_iff {a n b : Int} : inB a n b = true ↔ a ≤ n ∧ n ≤ b := by unfold inB; simp
end Go.Proofs.Ytikimmflggcpeaa
