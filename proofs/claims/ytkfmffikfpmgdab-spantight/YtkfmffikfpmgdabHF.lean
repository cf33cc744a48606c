import Derived.Test.YtkfmffikfpmgdabHE
namespace Go.Proofs.Ytkfmffikfpmgdab
open Go.RowKit
set_option linter.unusedVariables false

theorem movedG_any (v : Value) (s : Nat) (T z m : Int) (hm : -30 ≤ m ∧ m ≤ 30) (w : World) (h : NumZ w v s T z) (hs : s ≤ 20000) (hT : 0 ≤ T ∧ T ≤ 20000) :
    Calls Try.prog 20 #[v, .int .i64 m] w fun e' w' => ∃ v', e' = .returned v' ∧ NumZ w' v' (s + 30) (T + 30) (z * ((2 ^ (30 + m).toNat : Nat) : Int)) ∧ Below w.heap.size w w' := by
  obtain ⟨neg, mm, e, h1, h2, h3, h4⟩ := h
  have hb : (0 : Int) ≤ (bl mm : Int) := by omega
  refine Calls.mono (moved_any v neg mm e m (by omega) (by omega) w h1) ?_
  rintro e' w' ⟨v', rfl, hN, hB⟩
  refine ⟨v', rfl, ⟨neg, mm, _, hN, ?_, ?_, ?_⟩, hB⟩
  · split <;> omega
  · split <;> omega
  · rw [← h4]
    by_cases h0 : mm = 0
    · subst h0
      unfold zv; simp [sv_zero]
    · rw [if_neg h0]
      unfold zv
      rw [show (e + m + ((s + 30 : Nat) : Int)).toNat = (e + (s : Int)).toNat + (30 + m).toNat by omega, Nat.pow_add, Int.natCast_mul, ← Int.mul_assoc]
section
variable {al ah bl bh : Nat} {ab bb : Bool} {E : Nat} {zx zy : Int} {r : Nat × Nat × Bool}
theorem h_scale {m : Int} (hm : -30 ≤ m ∧ m ≤ 30) (hx : In2 al ah ab E zx) (k : UnR (ScR m al ah) al ah ab r) : Hds r (E + 30) (zx * ((2 ^ (30 + m).toNat : Nat) : Int)) := by
  unfold UnR at k; rw [if_pos hx.g] at k
  obtain ⟨p, q, k1, k2, k3⟩ := k
  have hcl : clip m = m := by unfold clip; omega
  rw [hcl] at k1 k2
  have K : SpR (fval al * ((2 ^ m.toNat : Nat) : Int)) (fval ah * ((2 ^ m.toNat : Nat) : Int)) (2 ^ (-m).toNat) r := ⟨p, q, scale_rndZ k1, scale_rndZ k2, k3⟩
  have hA : (0 : Int) ≤ ((2 ^ m.toNat : Nat) : Int) := Int.natCast_nonneg _
  have e : ((2 ^ m.toNat : Nat) : Int) * ((2 ^ (E + 30) : Nat) : Int) = ((2 ^ E : Nat) : Int) * (((2 ^ (30 + m).toNat : Nat) : Int) * ((2 ^ (-m).toNat : Nat) : Int)) := by
    rw [← Int.natCast_mul, ← Int.natCast_mul, ← Int.natCast_mul, ← Nat.pow_add, ← Nat.pow_add, ← Nat.pow_add]
    congr 2; omega
  have hB : (0 : Int) ≤ ((2 ^ (30 + m).toNat : Nat) : Int) * ((2 ^ (-m).toNat : Nat) : Int) := Int.mul_nonneg (Int.natCast_nonneg _) (Int.natCast_nonneg _)
  refine sp_holds (Nat.two_pow_pos _) K (Int.mul_le_mul_of_nonneg_right (good_mono hx.g) hA) ?_ ?_
  · rw [Int.mul_assoc, e, ← Int.mul_assoc, Int.mul_assoc zx]
    exact Int.mul_le_mul_of_nonneg_right hx.lo hB
  · rw [Int.mul_assoc (fval ah), e, ← Int.mul_assoc (fval ah), Int.mul_assoc zx]
    exact Int.mul_le_mul_of_nonneg_right hx.hi hB
theorem h_div (hx : In2 al ah ab E zx) (hy : In2 bl bh bb E zy) (k : DivR al ah bl bh ab bb E r) (hb : r.2.2 = false) :
    Good r.1 r.2.1 r.2.2 ∧ zy ≠ 0 ∧ (0 < zy → fval r.1 * zy ≤ zx * ((2 ^ E : Nat) : Int) ∧ zx * ((2 ^ E : Nat) : Int) ≤ fval r.2.1 * zy) ∧ (zy < 0 → zx * ((2 ^ E : Nat) : Int) ≤ fval r.1 * zy ∧ fval r.2.1 * zy ≤ zx * ((2 ^ E : Nat) : Int)) := by
  unfold DivR at k
  have hz : hasB bl bh 0 = false := by
    rcases Bool.eq_false_or_eq_true (hasB bl bh 0) with c | c
    · rw [if_neg (by rw [c]; exact fun e => by cases e.2.2)] at k; rw [k] at hb; cases hb
    · exact c
  have h0 := apart_zero hy.g hz
  rw [if_pos ⟨hx.g, hy.g, hz⟩] at k
  have hF : (0 : Int) < ((2 ^ E : Nat) : Int) := by have := Nat.two_pow_pos E; omega
  rw [min4_mul _ _ _ _ _ (Int.le_of_lt hF), max4_mul _ _ _ _ _ (Int.le_of_lt hF)] at k
  have hm := min4_le_max4 (fval al * fval bh) (fval al * fval bl) (fval ah * fval bh) (fval ah * fval bl)
  have hDp : 0 < (fval bl * fval bh).natAbs := by omega
  have t := k.told hb
  have g := k.good hDp (Int.mul_le_mul_of_nonneg_right hm (Int.le_of_lt hF)) hb
  have a := down_le hDp t.1
  have b := up_le hDp t.2
  have e1 : (((fval bl * fval bh).natAbs : Nat) : Int) = fval bl * fval bh := by omega
  rw [e1] at a b
  have h0F : 0 < fval bl * ((2 ^ E : Nat) : Int) * (fval bh * ((2 ^ E : Nat) : Int)) := by
    have : fval bl * ((2 ^ E : Nat) : Int) * (fval bh * ((2 ^ E : Nat) : Int)) = fval bl * fval bh * (((2 ^ E : Nat) : Int) * ((2 ^ E : Nat) : Int)) := by
      rw [Int.mul_assoc, Int.mul_assoc, Int.mul_left_comm ((2 ^ E : Nat) : Int)]
    rw [this]; exact Int.mul_pos h0 (Int.mul_pos hF hF)
  have q := share_between hx.lo hx.hi hy.lo hy.hi h0F
  generalize ((2 ^ E : Nat) : Int) = F at *
  have f : ∀ u v : Int, u * F * (v * F) = u * v * (F * F) := fun u v => by rw [Int.mul_assoc, Int.mul_assoc, Int.mul_left_comm F v F]
  have hFF : (0 : Int) < F * F := Int.mul_pos hF hF
  rw [f, f, f, f, f, min4_mul _ _ _ _ _ (Int.le_of_lt hFF), max4_mul _ _ _ _ _ (Int.le_of_lt hFF)] at q
  generalize min4 (fval al * fval bh) (fval al * fval bl) (fval ah * fval bh) (fval ah * fval bl) = M at *
  generalize max4 (fval al * fval bh) (fval al * fval bl) (fval ah * fval bh) (fval ah * fval bl) = W at *
  generalize fval bl * fval bh = D at *
  generalize fval r.1 = fp at *
  generalize fval r.2.1 = fq at *
  -- cancel F F
  have can : ∀ {u v : Int}, u * (F * F) ≤ v * (F * F) → u ≤ v := fun h => Int.le_of_mul_le_mul_right h hFF
  have canD : ∀ {u v : Int}, u * D ≤ v * D → u ≤ v := fun h => Int.le_of_mul_le_mul_right h h0
  refine ⟨g, q.2.2, fun hp => ?_, fun hn => ?_⟩
  · obtain ⟨q1, q2⟩ := q.1 hp
    have r1 : M * zy ≤ zx * D := can (by rw [Int.mul_right_comm, Int.mul_assoc zx]; exact q1)
    have r2 : zx * D ≤ W * zy := can (by rw [Int.mul_right_comm W, Int.mul_assoc zx]; exact q2)
    constructor
    · apply canD
      have s1 := Int.mul_le_mul_of_nonneg_right a (Int.le_of_lt hp)
      have s2 := Int.mul_le_mul_of_nonneg_right r1 (Int.le_of_lt hF)
      rw [Int.mul_right_comm fp zy D, Int.mul_right_comm zx F D]
      rw [Int.mul_right_comm M zy F] at s2
      exact Int.le_trans s1 s2
    · apply canD
      have s1 := Int.mul_le_mul_of_nonneg_right b (Int.le_of_lt hp)
      have s2 := Int.mul_le_mul_of_nonneg_right r2 (Int.le_of_lt hF)
      rw [Int.mul_right_comm fq zy D, Int.mul_right_comm zx F D]
      rw [Int.mul_right_comm W zy F] at s2
      exact Int.le_trans s2 s1
  · obtain ⟨q1, q2⟩ := q.2.1 hn
    have hn' : 0 ≤ -zy := by omega
    have r1 : M * (-zy) ≤ -zx * D := can (by rw [Int.mul_right_comm, Int.mul_assoc (-zx)]; exact q1)
    have r2 : -zx * D ≤ W * (-zy) := can (by rw [Int.mul_right_comm W, Int.mul_assoc (-zx)]; exact q2)
    constructor
    · apply canD
      have s1 := Int.mul_le_mul_of_nonneg_right a hn'
      have s2 := Int.mul_le_mul_of_nonneg_right r1 (Int.le_of_lt hF)
      rw [Int.mul_right_comm M (-zy) F] at s2
      have s3 := Int.le_trans s1 s2
      rw [Int.mul_neg, Int.neg_mul, Int.neg_mul] at s3
      rw [Int.mul_right_comm fp zy D, Int.mul_right_comm zx F D]
      omega
    · apply canD
      have s1 := Int.mul_le_mul_of_nonneg_right b hn'
      have s2 := Int.mul_le_mul_of_nonneg_right r2 (Int.le_of_lt hF)
      rw [Int.mul_right_comm W (-zy) F] at s2
      have s3 := Int.le_trans s2 s1
      rw [Int.mul_neg, Int.neg_mul, Int.neg_mul] at s3
      rw [Int.mul_right_comm fq zy D, Int.mul_right_comm zx F D]
      omega
end
end Go.Proofs.Ytkfmffikfpmgdab
