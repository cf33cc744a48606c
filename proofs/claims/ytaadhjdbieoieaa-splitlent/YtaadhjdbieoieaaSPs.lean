import Derived.Test.YtaadhjdbieoieaaSPr
namespace Go.Proofs.Ytaadhjdbieoieaa
open Go.RowKit
set_option linter.unusedVariables false
set_option linter.unusedSimpArgs false
theorem all_at (f : Nat → Bool) (n s : Nat) (hs : s < n) : (List.range n).all f = (f s && (List.range n).all fun i => decide (i = s) || f i) := by
  rw [Bool.eq_iff_iff]
  simp only [List.all_eq_true, Bool.and_eq_true, List.mem_range, Bool.or_eq_true, decide_eq_true_eq]
  constructor
  · intro h; exact ⟨h s hs, fun i hi => .inr (h i hi)⟩
  · rintro ⟨h1, h2⟩ i hi
    rcases h2 i hi with rfl | h
    · exact h1
    · exact h
theorem in_lo (l D : Nat) (a e : Int) : inP (l + 1) (2 * a) e D = true ↔ (2 * a - 2 ^ l) * 2 ^ D ≤ e * 2 ^ l ∧ e * 2 ^ l ≤ (2 * a + 1 - 2 ^ l) * 2 ^ D := by
  unfold inP
  simp only [Bool.and_eq_true, decide_eq_true_eq, Int.pow_succ]
  have e1 : (2 * (2 * a) - 2 ^ l * 2) * 2 ^ D = 2 * ((2 * a - 2 ^ l) * 2 ^ D) := by rw [show (2 * (2 * a) - 2 ^ l * 2 : Int) = 2 * (2 * a - 2 ^ l) by omega, Int.mul_assoc]
  have e2 : (2 * (2 * a) + 2 - 2 ^ l * 2) * 2 ^ D = 2 * ((2 * a + 1 - 2 ^ l) * 2 ^ D) := by rw [show (2 * (2 * a) + 2 - 2 ^ l * 2 : Int) = 2 * (2 * a + 1 - 2 ^ l) by omega, Int.mul_assoc]
  have e3 : e * (2 ^ l * 2) = 2 * (e * 2 ^ l) := by rw [← Int.mul_assoc, Int.mul_comm]
  rw [e1, e2, e3]
  omega
theorem in_hi (l D : Nat) (a e : Int) : inP (l + 1) (2 * a + 1) e D = true ↔ (2 * a + 1 - 2 ^ l) * 2 ^ D ≤ e * 2 ^ l ∧ e * 2 ^ l ≤ (2 * a + 2 - 2 ^ l) * 2 ^ D := by
  unfold inP
  simp only [Bool.and_eq_true, decide_eq_true_eq, Int.pow_succ]
  have e1 : (2 * (2 * a + 1) - 2 ^ l * 2) * 2 ^ D = 2 * ((2 * a + 1 - 2 ^ l) * 2 ^ D) := by rw [show (2 * (2 * a + 1) - 2 ^ l * 2 : Int) = 2 * (2 * a + 1 - 2 ^ l) by omega, Int.mul_assoc]
  have e2 : (2 * (2 * a + 1) + 2 - 2 ^ l * 2) * 2 ^ D = 2 * ((2 * a + 2 - 2 ^ l) * 2 ^ D) := by rw [show (2 * (2 * a + 1) + 2 - 2 ^ l * 2 : Int) = 2 * (2 * a + 2 - 2 ^ l) by omega, Int.mul_assoc]
  have e3 : e * (2 ^ l * 2) = 2 * (e * 2 ^ l) := by rw [← Int.mul_assoc, Int.mul_comm]
  rw [e1, e2, e3]
  omega
theorem in_it (l D : Nat) (a e : Int) : inP l a e D = true ↔ (2 * a - 2 ^ l) * 2 ^ D ≤ e * 2 ^ l ∧ e * 2 ^ l ≤ (2 * a + 2 - 2 ^ l) * 2 ^ D := by
  unfold inP
  simp only [Bool.and_eq_true, decide_eq_true_eq]
theorem three_parts (l D : Nat) (a : Int) : (2 * a - 2 ^ l) * 2 ^ D ≤ (2 * a + 1 - 2 ^ l) * 2 ^ D ∧ (2 * a + 1 - 2 ^ l) * 2 ^ D ≤ (2 * a + 2 - 2 ^ l) * (2 : Int) ^ D := by
  have hD := pow_pos2 D
  exact ⟨Int.mul_le_mul_of_nonneg_right (by omega) (by omega), Int.mul_le_mul_of_nonneg_right (by omega) (by omega)⟩
theorem half_in (l D : Nat) (a e : Int) : inP l a e D = (inP (l + 1) (2 * a) e D || inP (l + 1) (2 * a + 1) e D) := by
  rw [Bool.eq_iff_iff, Bool.or_eq_true, in_it l D a e, in_lo l D a e, in_hi l D a e]
  have := three_parts l D a
  omega
theorem cut_iff (l D : Nat) (a e : Int) (hl : l ≤ 8) : enV ((l : Int), a) 0 8 * 2 ^ D = e * 2 ^ 8 ↔ e * 2 ^ l = (2 * a + 1 - 2 ^ l) * 2 ^ D := by
  have hp := pow_pos2 l
  have h8 := pow_pos2 8
  have e0 : (2 : Int) ^ (8 - l) * 2 ^ l = 2 ^ 8 := by rw [← Int.pow_add]; congr 1; omega
  have e1 : enV ((l : Int), a) 0 8 * 2 ^ l = (2 * a + 1 - 2 ^ l) * 2 ^ 8 := by
    unfold enV
    simp only [Int.toNat_natCast, Int.add_zero]
    rw [Int.add_mul, Int.mul_assoc, e0, Int.neg_mul, Int.mul_comm (2 ^ 8) (2 ^ l), ← Int.neg_mul, ← Int.add_mul]
    congr 1
    omega
  generalize enV ((l : Int), a) 0 8 = x at e1 ⊢
  generalize (2 : Int) ^ 8 = r at *
  generalize (2 : Int) ^ l = p at *
  generalize (2 : Int) ^ D = d at *
  constructor
  · intro h
    have : e * p * r = (2 * a + 1 - p) * d * r := by
      rw [Int.mul_assoc, Int.mul_comm p r, ← Int.mul_assoc, ← h, Int.mul_assoc, Int.mul_comm d p, ← Int.mul_assoc, e1, Int.mul_assoc, Int.mul_comm r d, ← Int.mul_assoc]
    exact Int.eq_of_mul_eq_mul_right (by omega) this
  · intro h
    have : x * d * p = e * r * p := by
      rw [Int.mul_assoc, Int.mul_comm d p, ← Int.mul_assoc, e1, Int.mul_assoc, Int.mul_comm r d, ← Int.mul_assoc, ← h, Int.mul_assoc, Int.mul_comm p r, ← Int.mul_assoc]
    exact Int.eq_of_mul_eq_mul_right (by omega) this
theorem half_cut (l D : Nat) (a e : Int) (hl : l ≤ 8) : (inP (l + 1) (2 * a) e D && inP (l + 1) (2 * a + 1) e D) = (inP l a e D && decide (enV ((l : Int), a) 0 8 * 2 ^ D = e * 2 ^ 8)) := by
  rw [Bool.eq_iff_iff, Bool.and_eq_true, Bool.and_eq_true, in_it l D a e, in_lo l D a e, in_hi l D a e, decide_eq_true_eq, cut_iff l D a e hl]
  have := three_parts l D a
  omega
theorem sum_set {ls : List Int} {s : Nat} (hs : s < ls.length) (x : Int) : (ls.set s x).sum = ls.sum - ls[s]?.getD 0 + x := by
  induction ls generalizing s with
  | nil => simp at hs
  | cons y ls ih =>
    cases s with
    | zero => simp; omega
    | succ s =>
      have := ih (s := s) (by simpa using hs)
      simp only [List.set_cons_succ, List.sum_cons, List.getElem?_cons_succ, this]
      omega
theorem zip_set_at {ls bs : List Int} {n s i : Nat} (h1 : ls.length = n) (h2 : bs.length = n) (hs : s < n) (hi : i < n) (x y : Int) : ((ls.set s x).zip (bs.set s y))[i]?.getD (0, 0) = if s = i then (x, y) else (ls.zip bs)[i]?.getD (0, 0) := by
  rw [zip_at (n := n) (by rw [List.length_set]; exact h1) (by rw [List.length_set]; exact h2) hi, zip_at h1 h2 hi, set_getD _ _ _ _ (by omega), set_getD _ _ _ _ (by omega)]
  by_cases e : s = i
  · rw [if_pos e, if_pos e, if_pos e]; rfl
  · rw [if_neg e, if_neg e, if_neg e]
theorem WiV_ok {ls bs es : List Int} {n D : Nat} (h : regB ls bs n = true) (hD : D ≤ 62) : WiV ls bs es n n D = wiB (ls.zip bs) es D := by
  unfold WiV
  rw [h, decide_eq_true rfl, decide_eq_true (p := (0 : Int) ≤ D) (by omega), decide_eq_true (p := (D : Int) ≤ 62) (by omega), Int.toNat_natCast]
  rfl
theorem bool_parts (u v x r c : Bool) (h1 : u = (v || x)) (h2 : (v && x) = (u && c)) : (u && r) = ((v && r) || (x && r)) ∧ ((v && r) && (x && r)) = ((u && r) && c) := by
  cases u <;> cases v <;> cases x <;> cases r <;> cases c <;> simp_all
theorem covers {ls bs es : List Int} {n D s : Nat} (h : regB ls bs n = true) (hD : D ≤ 62) (hs : s < n) (h8 : ls[s]?.getD 0 ≠ 8) :
    WiV ls bs es n n D = (WiV (ls.set s (ls[s]?.getD 0 + 1)) (bs.set s (2 * bs[s]?.getD 0)) es n n D || WiV (ls.set s (ls[s]?.getD 0 + 1)) (bs.set s (2 * bs[s]?.getD 0 + 1)) es n n D) ∧
    (WiV (ls.set s (ls[s]?.getD 0 + 1)) (bs.set s (2 * bs[s]?.getD 0)) es n n D && WiV (ls.set s (ls[s]?.getD 0 + 1)) (bs.set s (2 * bs[s]?.getD 0 + 1)) es n n D) = (WiV ls bs es n n D && decide (enV (ls[s]?.getD 0, bs[s]?.getD 0) 0 8 * 2 ^ D = (es[s]?.getD 0) * 2 ^ 8)) := by
  obtain ⟨g1, g2, g3⟩ := regB_len h
  have l1 : ls.length = n := by omega
  have l2 : bs.length = n := by omega
  have k1 := regB_half h (s := s) (by omega) h8 0 (.inl rfl)
  have k2 := regB_half h (s := s) (by omega) h8 1 (.inr rfl)
  rw [Int.add_zero] at k1
  rw [WiV_ok h hD, WiV_ok k1 hD, WiV_ok k2 hD]
  have hlv := regB_level h s (by omega)
  have hz := fun x y i (hi : i < n) => zip_set_at (i := i) l1 l2 hs hi x y
  generalize hl : ls[s]?.getD 0 = l at *
  generalize ha : bs[s]?.getD 0 = a at *
  obtain ⟨L, rfl⟩ : ∃ L : Nat, l = L := ⟨l.toNat, by omega⟩
  have zl : ∀ x y, ((ls.set s x).zip (bs.set s y)).length = n := fun x y => by rw [List.length_zip, List.length_set, List.length_set]; omega
  have z0 : (ls.zip bs).length = n := by rw [List.length_zip]; omega
  unfold wiB
  rw [zl, zl, z0, all_at _ n s hs, all_at (fun i => inP ((((ls.set s ((L : Int) + 1)).zip (bs.set s (2 * a)))[i]?.getD (0, 0)).1).toNat _ _ D) n s hs, all_at (fun i => inP ((((ls.set s ((L : Int) + 1)).zip (bs.set s (2 * a + 1)))[i]?.getD (0, 0)).1).toNat _ _ D) n s hs]
  have hzs : (ls.zip bs)[s]?.getD (0, 0) = ((L : Int), a) := by rw [zip_at l1 l2 hs, hl, ha]; rfl
  have rest : ∀ x y, ((List.range n).all fun i => decide (i = s) || inP ((((ls.set s x).zip (bs.set s y))[i]?.getD (0, 0)).1).toNat ((((ls.set s x).zip (bs.set s y))[i]?.getD (0, 0)).2) (es[i]?.getD 0) D) = (List.range n).all fun i => decide (i = s) || inP (((ls.zip bs)[i]?.getD (0, 0)).1).toNat (((ls.zip bs)[i]?.getD (0, 0)).2) (es[i]?.getD 0) D := by
    intro x y
    rw [Bool.eq_iff_iff]
    simp only [List.all_eq_true, List.mem_range, Bool.or_eq_true, decide_eq_true_eq]
    constructor
    · intro h i hi
      by_cases e : i = s
      · exact .inl e
      · have := (h i hi).resolve_left e
        rw [hz x y i hi, if_neg (Ne.symm e)] at this
        exact .inr this
    · intro h i hi
      by_cases e : i = s
      · exact .inl e
      · have := (h i hi).resolve_left e
        rw [hz x y i hi, if_neg (Ne.symm e)]
        exact .inr this
  rw [rest, rest, hz _ _ s hs, hz _ _ s hs, if_pos rfl, if_pos rfl, hzs]
  have eL : ((L : Int) + 1).toNat = L + 1 := by omega
  simp only [eL, Int.toNat_natCast]
  exact bool_parts _ _ _ _ _ (half_in L D a _) (half_cut L D a _ (by omega))
theorem whole_in {es : List Int} {n D : Nat} (hn : n ≤ 256) (hD : D ≤ 62) (h : ∀ i, i < n → -2 ^ D ≤ es[i]?.getD 0 ∧ es[i]?.getD 0 ≤ 2 ^ D) : regB (List.replicate n 0) (List.replicate n 0) n = true ∧ WiV (List.replicate n 0) (List.replicate n 0) es n n D = true := by
  have hrg : regB (List.replicate n 0) (List.replicate n 0) n = true := by
    refine (regB_iff _ _ _).2 ⟨by omega, by rw [List.length_replicate], by rw [List.length_replicate], fun j hj => ?_⟩
    rw [List.length_replicate] at hj
    rw [List.getElem?_replicate, if_pos hj]
    decide
  refine ⟨hrg, ?_⟩
  rw [WiV_ok hrg hD]
  unfold wiB
  rw [List.all_eq_true]
  intro i hi
  rw [List.mem_range, List.length_zip, List.length_replicate] at hi
  rw [zip_at (n := n) List.length_replicate List.length_replicate (by omega), List.getElem?_replicate, if_pos (by omega)]
  have := h i (by omega)
  show inP 0 0 _ D = true
  rw [in_it]
  simp
  omega
end Go.Proofs.Ytaadhjdbieoieaa
