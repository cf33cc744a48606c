import Derived.Test.YtoehhnildocihaaSPb
namespace Go.Proofs.Ytoehhnildocihaa
open Go.RowKit
set_option linter.unusedVariables false
set_option linter.unusedSimpArgs false
/-- The document's: the first of the greatest above 0, and it. -/
def grK (v : Nat → Int) : Nat → Int × Int
  | 0 => (-1, 0)
  | k + 1 => if (grK v k).2 < v k then ((k : Int), v k) else grK v k
/-- The program's: the first of the greatest. -/
def atK (v : Nat → Int) : Nat → Int
  | 0 => -1
  | k + 1 => if atK v k < 0 then (k : Int) else if v (atK v k).toNat < v k then (k : Int) else atK v k
/-- The program's, if it is above 0. -/
def gaK (v : Nat → Int) (k : Nat) : Int := if atK v k < 0 then -1 else if v (atK v k).toNat ≤ 0 then -1 else atK v k
theorem grK_at (v : Nat → Int) : ∀ k, (∀ j, j < k → 0 ≤ v j) → (0 < k → 0 ≤ atK v k ∧ atK v k < k) ∧ (grK v k = if 0 ≤ atK v k ∧ 0 < v (atK v k).toNat then (atK v k, v (atK v k).toNat) else (-1, 0))
  | 0, _ => ⟨fun h => absurd h (by omega), by
      have : ¬ (0 ≤ atK v 0 ∧ 0 < v (atK v 0).toNat) := fun h => absurd h.1 (by unfold atK; omega)
      rw [if_neg this]; rfl⟩
  | k + 1, h => by
    obtain ⟨h1, h2⟩ := grK_at v k fun j hj => h j (by omega)
    have hk := h k (by omega)
    by_cases k0 : k = 0
    · subst k0
      have ea : atK v (0 + 1) = ((0 : Nat) : Int) := by unfold atK; rw [if_pos (by unfold atK; omega)]
      refine ⟨fun _ => by rw [ea]; omega, ?_⟩
      rw [ea]
      show (if (grK v 0).2 < v 0 then (((0 : Nat) : Int), v 0) else grK v 0) = _
      by_cases hv : 0 < v 0
      · rw [if_pos (show (grK v 0).2 < v 0 from hv), if_pos ⟨by omega, by simpa using hv⟩]; rfl
      · rw [if_neg (show ¬ (grK v 0).2 < v 0 from hv), if_neg (fun c => hv (by simpa using c.2))]; rfl
    · obtain ⟨p1, p2⟩ := h1 (by omega)
      have ea : atK v (k + 1) = if v (atK v k).toNat < v k then (k : Int) else atK v k := by
        show (if atK v k < 0 then (k : Int) else if v (atK v k).toNat < v k then (k : Int) else atK v k) = _
        rw [if_neg (by omega)]
      have hat := h (atK v k).toNat (by omega)
      have eg : grK v (k + 1) = if (grK v k).2 < v k then ((k : Int), v k) else grK v k := rfl
      by_cases hlt : v (atK v k).toNat < v k
      · rw [if_pos hlt] at ea
        refine ⟨fun _ => by rw [ea]; omega, ?_⟩
        rw [ea, eg]
        have e2 : (grK v k).2 < v k := by
          rw [h2]
          split
          · exact hlt
          · show (0 : Int) < v k
            omega
        rw [if_pos e2, Int.toNat_natCast, if_pos ⟨by omega, by omega⟩]
      · rw [if_neg hlt] at ea
        refine ⟨fun _ => by rw [ea]; omega, ?_⟩
        rw [ea, eg]
        have e2 : ¬ (grK v k).2 < v k := by
          rw [h2]
          split
          · exact hlt
          · rename_i c
            show ¬ (0 : Int) < v k
            intro hv
            exact c ⟨p1, by omega⟩
        rw [if_neg e2, h2]
theorem gaK_is (v : Nat → Int) (k : Nat) (h : ∀ j, j < k → 0 ≤ v j) : gaK v k = (grK v k).1 := by
  obtain ⟨h1, h2⟩ := grK_at v k h
  unfold gaK
  rw [h2]
  by_cases c : 0 ≤ atK v k ∧ 0 < v (atK v k).toNat
  · rw [if_pos c, if_neg (by omega), if_neg (by omega)]
  · rw [if_neg c]
    by_cases d : atK v k < 0
    · rw [if_pos d]
    · rw [if_neg d, if_pos (Int.not_lt.1 fun e => c ⟨by omega, e⟩)]
theorem grK_ext {v u : Nat → Int} : ∀ k, (∀ j, j < k → v j = u j) → grK v k = grK u k
  | 0, _ => rfl
  | k + 1, h => by
    have e := grK_ext k fun j hj => h j (by omega)
    show (if (grK v k).2 < v k then ((k : Int), v k) else grK v k) = if (grK u k).2 < u k then ((k : Int), u k) else grK u k
    rw [e, h k (by omega)]
theorem grK_scale {c : Int} (hc : 0 < c) (v : Nat → Int) : ∀ k, grK (fun j => v j * c) k = ((grK v k).1, (grK v k).2 * c)
  | 0 => by show ((-1 : Int), (0 : Int)) = (-1, 0 * c); rw [Int.zero_mul]
  | k + 1 => by
    have e := grK_scale hc v k
    show (if (grK (fun j => v j * c) k).2 < v k * c then ((k : Int), v k * c) else grK (fun j => v j * c) k) = ((if (grK v k).2 < v k then ((k : Int), v k) else grK v k).1, (if (grK v k).2 < v k then ((k : Int), v k) else grK v k).2 * c)
    rw [e]
    by_cases h : (grK v k).2 < v k
    · rw [if_pos h, if_pos (Int.mul_lt_mul_of_pos_right h hc)]
    · rw [if_neg h, if_neg (fun d => h (Int.lt_of_mul_lt_mul_right d (Int.le_of_lt hc)))]
theorem grK_pos (v : Nat → Int) : ∀ k, 0 ≤ (grK v k).2 ∧ -1 ≤ (grK v k).1 ∧ (grK v k).1 < k
  | 0 => ⟨Int.le_refl 0, Int.le_refl (-1), show (-1 : Int) < ((0 : Nat) : Int) by decide⟩
  | k + 1 => by
    obtain ⟨h1, h2, h3⟩ := grK_pos v k
    show 0 ≤ (if (grK v k).2 < v k then ((k : Int), v k) else grK v k).2 ∧ _ ≤ (if (grK v k).2 < v k then ((k : Int), v k) else grK v k).1 ∧ (if (grK v k).2 < v k then ((k : Int), v k) else grK v k).1 < ((k + 1 : Nat) : Int)
    split
    · exact ⟨by show 0 ≤ v k; omega, by show -1 ≤ (k : Int); omega, by show (k : Int) < ((k + 1 : Nat) : Int); omega⟩
    · exact ⟨h1, h2, by omega⟩
end Go.Proofs.Ytoehhnildocihaa
