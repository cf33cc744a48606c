import Derived.Test.YtipmejkofamfeaaGreatJZy
namespace Go.Proofs.YtipmejkofamfeaaGreat
open Go.RowKit Go.Shelf
set_option linter.unusedVariables false
set_option linter.unusedSimpArgs false

/-- The Ids 0 to n - 1. -/
def rgI (n : Nat) : List Int := (List.range n).map fun (k : Nat) => (k : Int)
theorem rgI_len (n : Nat) : (rgI n).length = n := by unfold rgI; simp
theorem rgI_succ (n : Nat) : rgI (n + 1) = rgI n ++ [(n : Int)] := by unfold rgI; rw [List.range_succ, List.map_append]; rfl
/-- What New is asked to make, as lists alone. -/
def nwZ (cs : List Nat) (gs : List (List Nat)) : ZD := ⟨(cs.length : Int), none, cs.length, 0, none, gs.length, 0, none, gs.length, 0, none, cs.length, 0, false, cs, rgI gs.length, fun _ => (none, 0, 0), gs, List.replicate cs.length 0⟩
/-- What New tells. -/
def nwA (cs : List Nat) (gs : List (List Nat)) : ZD := if checkB (nwZ cs gs) then nwZ (cs.map plainM) (gs.map (·.map plainM)) else badZD
theorem plainM_zero : plainM 0 = 0 := by decide
theorem map_rep0 (n : Nat) : (List.replicate n 0).map plainM = List.replicate n 0 := by rw [List.map_replicate, plainM_zero]
theorem nwZ_ok {cs : List Nat} {gs : List (List Nat)} (h : checkB (nwZ cs gs) = true) : cs.length ≤ 256 ∧ ∀ k, k < gs.length → (gs[k]?.getD []).length = cs.length := by
  unfold checkB at h
  simp only [nwZ, Bool.false_eq_true, if_false, wholeB, Bool.and_eq_true, decide_eq_true_eq] at h
  refine ⟨by have h5 : (cs.length : Int) ≤ 256 := of_decide_eq_true h.1.1.1.1.1.2; omega, fun k hk => ?_⟩
  obtain ⟨la, hok⟩ := colsB_mem (nwZ cs gs) _ _ h.2 ⟨k, hk⟩ (List.mem_finRange _)
  unfold colOk at hok
  simp only [Bool.and_eq_true] at hok
  have := (numN_fin hok.2).1
  dsimp only [nwZ] at this
  omega
theorem rdF_zero4 (n : Nat) (w : World) (hn : n ≤ 4000000) : OwB (w.alloc (.cells (flN n) 36)) w.heap.size n w.heap.size (List.replicate n 0) :=
  ⟨Nat.le_refl _, ⟨_, heap_alloc_new w _⟩, ⟨by simp, by simp only [maxLen]; omega, fun u hu => by rw [(List.mem_replicate.1 hu).2]; decide, .inr ⟨_, 0, rfl, fun j hj => by rw [Nat.zero_add, List.getElem?_replicate, if_pos hj]; exact cellAtJ (heap_alloc_new w _) j _ (flN_at n j hj)⟩⟩⟩
end Go.Proofs.YtipmejkofamfeaaGreat
