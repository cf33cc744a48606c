import Derived.Test.YtfldgjkpkmnkbabDoorReadTexts
import Derived.Test.YtfldgjkpkmnkbabDoorReadFloat
import Derived.Test.YtfldgjkpkmnkbabDoorTrip
namespace Go.Proofs.YtfldgjkpkmnkbabDoor
open Go.RowKit
set_option linter.unusedVariables false

/-! ### a number there and back -/
theorem mid_eq' (xs : List Int) (q k : Nat) : (xs.take (q + k)).drop q = (xs.drop q).take k := by
  rw [List.drop_take, show q + k - q = k from by omega]
theorem grp_pos (m : Nat) : 1 ≤ (grp m).length := by
  by_cases h : m < 128
  · rw [grp_small m h]; simp
  · rw [grp_big m h]; simp
theorem rdG_grp (p : Int) (bs : List Int) : ∀ (f i : Nat) (v : Int) (m : Nat), (grp m).length ≤ f → (0 < i → 1 ≤ m) →
    rdG p f i v (grp m ++ bs) = (v + m * 2 ^ (7 * i), p + i + (grp m).length, 0) := by
  intro f
  induction f with
  | zero => intro i v m h; have := grp_pos m; omega
  | succ f ih =>
    intro i v m hf hi
    by_cases h : m < 128
    · rw [grp_small m h]
      simp only [rdG, List.cons_append, List.nil_append, List.length_cons, List.length_nil]
      rw [if_neg (by omega), if_neg (by omega)]
      rfl
    · rw [grp_big m h] at hf ⊢
      simp only [rdG, List.cons_append, List.length_cons] at hf ⊢
      rw [if_pos (by omega), ih (i + 1) _ (m / 128) (by omega) (by omega)]
      have e7 : (2 : Int) ^ (7 * (i + 1)) = 128 * 2 ^ (7 * i) := by rw [show 7 * (i + 1) = 7 * i + 7 from by omega, Int.pow_add]; omega
      refine Prod.ext ?_ (Prod.ext ?_ rfl)
      · simp only
        rw [e7, ← Int.mul_assoc, Int.add_assoc, ← Int.add_mul]
        congr 2
        omega
      · simp only
        omega
theorem rdU_grp (hs bs : List Int) (m : Nat) (hm : m < 2 ^ 63) : rdU (hs ++ grp m ++ bs) hs.length = ((m : Int), (hs.length : Int) + (grp m).length, 0) := by
  unfold rdU
  rw [if_neg (by rw [List.length_append, List.length_append]; omega), Int.toNat_natCast, List.append_assoc, List.drop_left, rdG_grp _ bs 9 0 0 m (grp_len 9 m (by omega) (by omega)) (by omega)]
  refine Prod.ext ?_ (Prod.ext ?_ rfl)
  · simp
  · simp only; omega
/-- What was read is written just so. -/
theorem rdG_back (p : Int) : ∀ (f i : Nat) (v : Int) (cs : List Int), Byt cs → (rdG p f i v cs).2.2 = 0 →
    ∃ (m j : Nat), (rdG p f i v cs).1 = v + m * 2 ^ (7 * i) ∧ (rdG p f i v cs).2.1 = p + i + j ∧ j ≤ cs.length ∧ grp m = cs.take j ∧ (0 < i → 1 ≤ m) := by
  intro f
  induction f with
  | zero => intro i v cs _ h; simp [rdG] at h
  | succ f ih =>
    intro i v cs hb h
    cases cs with
    | nil => simp [rdG] at h
    | cons c cs =>
      have hc := hb c (List.mem_cons_self ..)
      have hb' : Byt cs := fun y hy => hb y (List.mem_cons_of_mem _ hy)
      by_cases h128 : 128 ≤ c
      · have hstep : rdG p (f + 1) i v (c :: cs) = rdG p f (i + 1) (v + (c - 128) * 2 ^ (7 * i)) cs := by simp only [rdG]; rw [if_pos h128]
        rw [hstep] at h ⊢
        obtain ⟨m, j, h1, h2, h3, h4, h5⟩ := ih (i + 1) (v + (c - 128) * 2 ^ (7 * i)) cs hb' h
        have e7 : (2 : Int) ^ (7 * (i + 1)) = 128 * 2 ^ (7 * i) := by rw [show 7 * (i + 1) = 7 * i + 7 from by omega, Int.pow_add]; omega
        have hm := h5 (by omega)
        refine ⟨(c - 128).toNat + 128 * m, j + 1, ?_, by omega, by simp only [List.length_cons]; omega, ?_, by omega⟩
        · rw [h1, e7, ← Int.mul_assoc, Int.add_assoc, ← Int.add_mul]
          congr 2
          omega
        · rw [grp_big _ (by omega), List.take_succ_cons, ← h4]
          congr 1
          · omega
          · congr 1; omega
      · by_cases hz : c = 0 ∧ 0 < i
        · have hstep : rdG p (f + 1) i v (c :: cs) = (0, 0, 11) := by simp only [rdG]; rw [if_neg h128, if_pos hz]
          rw [hstep] at h
          simp at h
        · have hstep : rdG p (f + 1) i v (c :: cs) = (v + c * 2 ^ (7 * i), p + i + 1, 0) := by simp only [rdG]; rw [if_neg h128, if_neg hz]
          rw [hstep]
          refine ⟨c.toNat, 1, ?_, rfl, by simp, ?_, by omega⟩
          · simp only
            rw [Int.toNat_of_nonneg hc.1]
          · rw [grp_small _ (by omega), List.take_succ_cons, List.take_zero, Int.toNat_of_nonneg hc.1]
theorem rdU_back (xs : List Int) (p : Int) (hb : Byt xs) (h : (rdU xs p).2.2 = 0) : ∃ m q : Nat, (rdU xs p).1 = (m : Int) ∧ (rdU xs p).2.1 = (q : Int) ∧ p.toNat ≤ q ∧ q ≤ xs.length ∧ grp m = (xs.take q).drop p.toNat := by
  have hok := rdU_ok xs p hb h
  unfold rdU at h ⊢
  split at h
  · simp at h
  · rename_i ho
    rw [if_neg ho]
    obtain ⟨m, j, h1, h2, h3, h4, _⟩ := rdG_back p 9 0 0 (xs.drop p.toNat) (hb.drop _) h
    rw [List.length_drop] at h3
    refine ⟨m, p.toNat + j, by rw [h1]; simp, by rw [h2]; omega, by omega, by omega, ?_⟩
    rw [h4]
    have := mid_eq' xs p.toNat j
    exact this.symm
end Go.Proofs.YtfldgjkpkmnkbabDoor
