import Derived.Test.YtoehhnildocihaaSPa
namespace Go.Proofs.Ytoehhnildocihaa
open Go.RowKit
set_option linter.unusedVariables false
set_option linter.unusedSimpArgs false
/-- A point e / 2^D lies in the part. -/
def inP (l : Nat) (a e : Int) (D : Nat) : Bool := decide ((2 * a - 2 ^ l) * 2 ^ D ≤ e * 2 ^ l) && decide (e * 2 ^ l ≤ (2 * a + 2 - 2 ^ l) * 2 ^ D)
theorem pow_pos2 (n : Nat) : (0 : Int) < 2 ^ n := by
  have h2 := Nat.two_pow_pos n
  have h3 : ((2 ^ n : Nat) : Int) = (2 : Int) ^ n := by simp
  omega
theorem beside_iff {a f T : Int} (hT : 0 < T) : (a * T ≤ f ∧ f ≤ (a + 1) * T) ↔ (a = (f - 1) / T ∨ a = f / T) := by
  have e1 : (a + 1) * T = a * T + T := by rw [Int.add_mul, Int.one_mul]
  constructor
  · rintro ⟨h1, h2⟩
    by_cases h : f = (a + 1) * T
    · left
      exact ((Int.ediv_emod_unique hT).2 ⟨(by rw [Int.mul_comm T a]; exact Int.sub_add_cancel _ _ : (f - 1 - a * T) + T * a = f - 1), by omega, by omega⟩).1.symm
    · right
      exact ((Int.ediv_emod_unique hT).2 ⟨(by rw [Int.mul_comm T a]; exact Int.sub_add_cancel _ _ : (f - a * T) + T * a = f), by omega, by omega⟩).1.symm
  · have d1 := Int.emod_add_mul_ediv (f - 1) T
    have d2 := Int.emod_add_mul_ediv f T
    have m1 := Int.emod_nonneg (f - 1) (b := T) (by omega)
    have m2 := Int.emod_lt_of_pos (f - 1) hT
    have m3 := Int.emod_nonneg f (b := T) (by omega)
    have m4 := Int.emod_lt_of_pos f hT
    rintro (h | h)
    · rw [← h, Int.mul_comm] at d1
      omega
    · rw [← h, Int.mul_comm] at d2
      omega
theorem inP_iff {l D : Nat} {a e : Int} : inP l a e D = true ↔ (a * bsT D l ≤ bsF e D l ∧ bsF e D l ≤ (a + 1) * bsT D l) := by
  have hl := pow_pos2 l
  have hD := pow_pos2 D
  unfold inP
  simp only [Bool.and_eq_true, decide_eq_true_eq]
  unfold bsF bsT
  by_cases h : D < l
  · rw [if_pos h, if_pos h]
    have e1 : (2 : Int) ^ l = 2 ^ D * 2 ^ (l - D) := by rw [← Int.pow_add]; congr 1; omega
    generalize hq : (2 : Int) ^ (l - D) = q at *
    generalize hd : (2 : Int) ^ D = d at *
    generalize hp : (2 : Int) ^ l = p at *
    have e2 : e * p = (e * q) * d := by rw [e1, Int.mul_comm d q, Int.mul_assoc]
    rw [e2]
    constructor
    · rintro ⟨h1, h2⟩
      have := Int.le_of_mul_le_mul_right h1 hD
      have := Int.le_of_mul_le_mul_right h2 hD
      omega
    · rintro ⟨h1, h2⟩
      exact ⟨Int.mul_le_mul_of_nonneg_right (by omega) (by omega), Int.mul_le_mul_of_nonneg_right (by omega) (by omega)⟩
  · rw [if_neg h, if_neg h]
    have e1 : 2 * (2 : Int) ^ D = 2 ^ (D + 1 - l) * 2 ^ l := by
      rw [← Int.pow_add, show D + 1 - l + l = D + 1 by omega, Int.pow_succ, Int.mul_comm]
    generalize hq : (2 : Int) ^ (D + 1 - l) = q at *
    generalize hd : (2 : Int) ^ D = d at *
    generalize hp : (2 : Int) ^ l = p at *
    have e2 : (2 * a - p) * d = (a * q) * p - d * p := by
      rw [Int.sub_mul, Int.mul_comm 2 a, Int.mul_assoc, e1, Int.mul_comm p d, Int.mul_assoc]
    have e3 : (2 * a + 2 - p) * d = ((a + 1) * q) * p - d * p := by
      rw [Int.sub_mul, show 2 * a + 2 = (a + 1) * 2 by omega, Int.mul_assoc, e1, Int.mul_comm p d, Int.mul_assoc]
    have e4 : (e + d) * p = e * p + d * p := Int.add_mul _ _ _
    rw [e2, e3]
    constructor
    · rintro ⟨h1, h2⟩
      exact ⟨Int.le_of_mul_le_mul_right (by rw [e4]; omega) hl, Int.le_of_mul_le_mul_right (by rw [e4]; omega) hl⟩
    · rintro ⟨h1, h2⟩
      have h3 := Int.mul_le_mul_of_nonneg_right h1 (Int.le_of_lt hl)
      have h4 := Int.mul_le_mul_of_nonneg_right h2 (Int.le_of_lt hl)
      rw [e4] at h3 h4
      exact ⟨by omega, by omega⟩
theorem bsT_pos (D L : Nat) : 0 < bsT D L := by
  unfold bsT; split
  · decide
  · exact pow_pos2 _
theorem inP_beside (l D : Nat) (a e : Int) : inP l a e D = (decide (a = (bsF e D l - 1) / bsT D l) || decide (a = bsF e D l / bsT D l)) := by
  rw [Bool.eq_iff_iff, inP_iff, beside_iff (bsT_pos D l)]
  simp
theorem inP_in {l D : Nat} {a e : Int} (h0 : 0 ≤ a) (h1 : a < 2 ^ l) (h : inP l a e D = true) : -2 ^ D ≤ e ∧ e ≤ 2 ^ D := by
  have hl := pow_pos2 l
  have hD := pow_pos2 D
  unfold inP at h
  simp only [Bool.and_eq_true, decide_eq_true_eq] at h
  generalize hd : (2 : Int) ^ D = d at *
  generalize hp : (2 : Int) ^ l = p at *
  have k1 : (-p) * d ≤ (2 * a - p) * d := Int.mul_le_mul_of_nonneg_right (by omega) (by omega)
  have k2 : (2 * a + 2 - p) * d ≤ p * d := Int.mul_le_mul_of_nonneg_right (by omega) (by omega)
  refine ⟨Int.le_of_mul_le_mul_right (a := p) ?_ hl, Int.le_of_mul_le_mul_right (a := p) ?_ hl⟩
  · have e1 : (-d) * p = (-p) * d := by rw [Int.neg_mul, Int.neg_mul, Int.mul_comm]
    rw [e1]; omega
  · rw [Int.mul_comm d p]; omega
set_option maxRecDepth 100000 in
set_option maxHeartbeats 4000000 in
theorem holds_any (l D : Nat) (a e : Int) (w : World) (hl : l ≤ 8) (hD : D ≤ 62) (h3 : 0 ≤ a) (h4 : a < 2 ^ l) : Calls Try.prog 45 #[.agg #[.int .i64 l, .int .i64 a], .int .i64 e, .int .i64 D] w fun e' w' => e' = .returned (.bool (inP l a e D)) ∧ Below w.heap.size w w' := by
  have X0 : Below w.heap.size w (w.alloc (.cells #[.int .i64 l, .int .i64 a] 69)) := (Below.refl _ w).alloc (Nat.le_refl _) _
  have Y0 : (w.alloc (.cells #[.int .i64 l, .int .i64 a] 69)).heap[w.heap.size]? = _ := heap_alloc_new w _
  have hd2 : (D : Int) ≤ 62 := by omega
  obtain ⟨p, hp⟩ : ∃ p : Int, (2 : Int) ^ D = p := ⟨_, rfl⟩
  have b1 := pow62 hD
  rw [hp] at b1
  have w1 : wrap64 (-2 ^ D) = -p := by rw [hp]; exact wrap64_inS _ (by omega)
  have w2 : wrap64 (2 ^ D) = p := by rw [hp]; exact wrap64_inS _ (by omega)
  by_cases c1 : e < -p
  · have d1 : decide (e < -p) = true := decide_eq_true c1
    have HK : Hid (inP l a e D = false) := by
      unfold Hid
      rw [Bool.eq_false_iff]
      intro h
      have := (inP_in h3 h4 h).1
      rw [hp] at this; omega
    clear hp b1
    go_enter Try.func45, Try.ntmps45
    go_wp2_with fail
    go_ret
    exact ⟨by rw [HK.out]; rfl, X0⟩
  · have d1 : decide (e < -p) = false := decide_eq_false c1
    by_cases c2 : e > p
    · have d2 : decide (e > p) = true := decide_eq_true c2
      have HK : Hid (inP l a e D = false) := by
        unfold Hid
        rw [Bool.eq_false_iff]
        intro h
        have := (inP_in h3 h4 h).2
        rw [hp] at this; omega
      clear hp b1
      go_enter Try.func45, Try.ntmps45
      go_wp2_with fail
      go_ret
      exact ⟨by rw [HK.out]; rfl, X0⟩
    · have d2 : decide (e > p) = false := decide_eq_false c2
      have HK : Hid (inP l a e D = (decide (a = (bsF e D l - 1) / bsT D l) || decide (a = bsF e D l / bsT D l))) := inP_beside l D a e
      have HB : Hid (∀ w, Calls Try.prog 64 #[.int .i64 e, .int .i64 D, .int .i64 l] w fun e' w' => e' = .returned (.tuple #[.agg #[.int .i64 l, .int .i64 ((bsF e D l - 1) / bsT D l)], .agg #[.int .i64 l, .int .i64 (bsF e D l / bsT D l)]]) ∧ Below w.heap.size w w') := fun w => beside_any e D l w hD hl (by rw [hp]; omega) (by rw [hp]; omega)
      obtain ⟨x, hx⟩ : ∃ x : Int, (bsF e D l - 1) / bsT D l = x := ⟨_, rfl⟩
      obtain ⟨y, hy⟩ : ∃ y : Int, bsF e D l / bsT D l = y := ⟨_, rfl⟩
      rw [hx, hy] at HK HB
      have k0 := cellAtJ Y0 0 _ rfl
      clear hp b1 hx hy
      go_enter Try.func45, Try.ntmps45
      go_upto_region 3 with fail
      obtain ⟨X, hX⟩ : ∃ X, (w.alloc (.cells #[.int .i64 l, .int .i64 a] 69)) = X := ⟨_, rfl⟩
      rw [hX] at X0 Y0 k0 ⊢
      clear hX
      go_upto_region 4 with (first | (go_at_call 64; refine Calls.mono (HB.out _) ?_; rintro e' w1 ⟨rfl, bb1⟩))
      have Z0 := alloc_kept (alloc_kept (kept bb1 Y0) (.cells #[.int .i64 l, .int .i64 x] 69)) (.cells #[.int .i64 l, .int .i64 y] 69)
      have Z1 := alloc_kept (heap_alloc_new w1 (.cells #[.int .i64 l, .int .i64 x] 69)) (.cells #[.int .i64 l, .int .i64 y] 69)
      have Z2 := alloc_at (w1.alloc (.cells #[.int .i64 l, .int .i64 x] 69)) (.cells #[.int .i64 l, .int .i64 y] 69) (w1.heap.size + 1) (by simp)
      have X1 : Below w.heap.size w ((w1.alloc (.cells #[.int .i64 l, .int .i64 x] 69)).alloc (.cells #[.int .i64 l, .int .i64 y] 69)) := ((to_call X0 bb1).alloc (to_call X0 bb1).size _).alloc (by have := (to_call X0 bb1).size; simp; omega) _
      obtain ⟨W, hW⟩ : ∃ W, ((w1.alloc (.cells #[.int .i64 l, .int .i64 x] 69)).alloc (.cells #[.int .i64 l, .int .i64 y] 69)) = W := ⟨_, rfl⟩
      rw [hW] at Z0 Z1 Z2 X1 ⊢
      have z0 := cellAtJ Z0 0 _ rfl
      have z1 := cellAtJ Z0 1 _ rfl
      have z2 := cellAtJ Z1 0 _ rfl
      have z3 := cellAtJ Z1 1 _ rfl
      have z4 := cellAtJ Z2 0 _ rfl
      have z5 := cellAtJ Z2 1 _ rfl
      clear hW Z0 Z1 Z2 Y0 k0
      by_cases e1 : a = x
      · have e2 : (a == x) = true := by simpa using e1
        have HK2 : Hid (inP l a e D = true) := by unfold Hid; rw [HK.out, decide_eq_true e1]; rfl
        go_wp2_with fail
        go_ret
        exact ⟨by rw [HK2.out]; rfl, X1⟩
      · have e2 : (a == x) = false := by simpa using e1
        by_cases e3 : a = y
        · have e4 : (a == y) = true := by simpa using e3
          have HK2 : Hid (inP l a e D = true) := by unfold Hid; rw [HK.out, decide_eq_true e3, Bool.or_true]
          clear HK
          go_wp2_with fail
          go_ret
          exact ⟨by rw [HK2.out]; rfl, X1⟩
        · have e4 : (a == y) = false := by simpa using e3
          have HK2 : Hid (inP l a e D = false) := by unfold Hid; rw [HK.out, decide_eq_false e1, decide_eq_false e3]; rfl
          clear HK
          go_wp2_with fail
          go_ret
          exact ⟨by rw [HK2.out]; rfl, X1⟩
end Go.Proofs.Ytoehhnildocihaa
