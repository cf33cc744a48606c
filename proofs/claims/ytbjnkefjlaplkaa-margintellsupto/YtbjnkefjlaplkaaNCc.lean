import Derived.Test.YtbjnkefjlaplkaaMZ
namespace Go.Proofs.Ytbjnkefjlaplkaa
open Go.RowKit
set_option linter.unusedVariables false

/-- A number whose nought has no power. -/
def NumC (w : World) (v : Value) (s : Nat) (T : Int) (z : Int) : Prop := ∃ neg m e, NumV w v neg m e ∧ -(s : Int) ≤ e ∧ (bl m : Int) + e ≤ T ∧ zv s neg m e = z ∧ (m = 0 → e = 0)
theorem NumC.later {w w' : World} {v : Value} {s : Nat} {T z : Int} (h : NumC w v s T z) (hb : Below w.heap.size w w') : NumC w' v s T z := by
  obtain ⟨neg, m, e, h1, h2⟩ := h
  exact ⟨neg, m, e, h1.later hb, h2⟩
theorem NumC.toZ {w : World} {v : Value} {s : Nat} {T z : Int} (h : NumC w v s T z) : NumZ w v s T z := by
  obtain ⟨neg, m, e, h1, h2, h3, h4, _⟩ := h
  exact ⟨neg, m, e, h1, h2, h3, h4⟩
theorem NumC.mono {w : World} {v : Value} {s : Nat} {T T' z : Int} (h : NumC w v s T z) (hT : T ≤ T') : NumC w v s T' z := by
  obtain ⟨neg, m, e, h1, h2, h3, h4⟩ := h
  exact ⟨neg, m, e, h1, h2, by omega, h4⟩
theorem plusC_any (v u : Value) (s : Nat) (T x y : Int) (w : World) (hx : NumC w v s T x) (hy : NumC w u s T y) (hs : s ≤ 20000) (hT : 0 ≤ T ∧ T ≤ 20000) :
    Calls Try.prog 20 #[v, u] w fun e' w' => ∃ v', e' = .returned v' ∧ NumC w' v' s (T + 1) (x + y) ∧ Below w.heap.size w w' := by
  obtain ⟨nx, mx, ex, h1, h2, h3, h4, h5⟩ := hx
  obtain ⟨ny, my, ey, k1, k2, k3, k4, k5⟩ := hy
  refine (plusV_any v u nx ny mx my ex ey w h1 k1 (by omega) (by omega) (by omega) (by omega)).mono ?_
  rintro e' w' ⟨v', neg, m, e, rfl, hN, hP, hB⟩
  obtain ⟨p1, p2, p3⟩ := hP.1 s T h2 k2 h3 k3 hT.1
  exact ⟨v', rfl, ⟨neg, m, e, hN, p1, p2, by rw [p3, h4, k4], fun c => hP.2 c h5 k5⟩, hB⟩
theorem timesC_any (v u : Value) (s : Nat) (T T' x y : Int) (w : World) (hx : NumZ w v s T x) (hy : NumZ w u s T' y) (hs : s ≤ 10000) (hT : 0 ≤ T ∧ T ≤ 10000) (hT' : 0 ≤ T' ∧ T' ≤ 10000) :
    Calls Try.prog 21 #[v, u] w fun e' w' => ∃ v', e' = .returned v' ∧ NumC w' v' (s + s) (T + T') (x * y) ∧ Below w.heap.size w w' := by
  obtain ⟨nx, mx, ex, h1, h2, h3, h4⟩ := hx
  obtain ⟨ny, my, ey, k1, k2, k3, k4⟩ := hy
  refine (timesV_any v u nx ny mx my ex ey w h1 k1 (by omega) (by omega) (by omega) (by omega)).mono ?_
  rintro e' w' ⟨v', neg, e, rfl, hN, hz, hnz, hB⟩
  refine ⟨v', rfl, ⟨neg, mx * my, e, hN, ?_, ?_, ?_, hz⟩, hB⟩
  · by_cases h : mx * my = 0
    · rw [hz h]; omega
    · rw [(hnz h).2]; omega
  · by_cases h : mx * my = 0
    · rw [hz h, h, bl_zero]; omega
    · have := bl_mul mx my
      rw [(hnz h).2]; omega
  · rw [← h4, ← k4, ← zv_mul nx ny mx my h2 k2]
    by_cases h : mx * my = 0
    · rw [h, zv_zero, zv_zero]
    · rw [(hnz h).1, (hnz h).2]
theorem NumC.set3 {w : World} {B : Nat} (x y z : Value) (hB : NumB w B) {v : Value} {s : Nat} {T r : Int} (h : NumC w v s T r) : NumC (((w.setCell ⟨B, 0, none⟩ x).setCell ⟨B, 1, none⟩ y).setCell ⟨B, 2, none⟩ z) v s T r := by
  obtain ⟨neg, m, e, ⟨ao, len, cap, xs, h1, h2, h3⟩, h4⟩ := h
  exact ⟨neg, m, e, ⟨ao, len, cap, xs, h1, rd4_set3 x y z hB h2, h3⟩, h4⟩
theorem blC_low {m : Nat} (h : m ≠ 0) : ∃ k, bl m = k + 1 ∧ 2 ^ k ≤ m := ⟨m.log2, by unfold bl; rw [if_neg h], Nat.log2_self_le h⟩
/-- How great it is tells how far it reaches. -/
theorem NumC.tight {w : World} {v : Value} {s : Nat} {T T' z : Int} (h : NumC w v s T z) (hT : 0 ≤ T') {X : Nat} (hX : (X : Int) = s + T') (hz : z.natAbs < 2 ^ X) : NumC w v s T' z := by
  obtain ⟨neg, m, e, h1, h2, h3, h4, h5⟩ := h
  refine ⟨neg, m, e, h1, h2, ?_, h4, h5⟩
  by_cases hm : m = 0
  · rw [h5 hm, hm, bl_zero]; omega
  · obtain ⟨k, hk, hk2⟩ := blC_low hm
    rw [hk]
    have hv : z.natAbs = m * 2 ^ (e + s).toNat := by
      rw [← h4]
      unfold zv sv
      rw [Int.natAbs_mul, Int.natAbs_natCast]
      congr 1
      split <;> simp
    rw [hv] at hz
    have h6 : 2 ^ k * 2 ^ (e + s).toNat < 2 ^ X := Nat.lt_of_le_of_lt (Nat.mul_le_mul_right _ hk2) hz
    rw [← Nat.pow_add] at h6
    have h7 := (Nat.pow_lt_pow_iff_right (by omega : 1 < 2)).1 h6
    omega
set_option maxRecDepth 100000 in
set_option maxHeartbeats 1000000 in
theorem ofE_any (u : Nat) (hu : u < 18446744073709551616) (w : World) :
    Calls Try.prog 23 #[.int .u64 u] w fun e' w' => ∃ v, e' = .returned (.tuple #[v, .bool (decide (Fin u))]) ∧ (∃ neg e, NumV w' v neg (if Fin u then ofM u else 0) e ∧ (Fin u → frung u ≠ 0 → neg = fneg u ∧ e = ofE u) ∧ -1074 ≤ e ∧ e ≤ 971 ∧ ((if Fin u then ofM u else 0) = 0 → e = 0)) ∧ Below w.heap.size w w' := by
  obtain ⟨E, hE⟩ : ∃ E : Nat, u / 4503599627370496 % 2048 = E := ⟨_, rfl⟩
  obtain ⟨m, hm⟩ : ∃ m : Nat, u % 4503599627370496 = m := ⟨_, rfl⟩
  have fE : bits .and .u64 ((u : Int) / 4503599627370496) 2047 = (E : Int) := by
    have k := u64_and_nat (u / 4503599627370496) 2047 (by omega) (by decide)
    rw [show ((2047 : Nat) : Int) = 2047 from rfl] at k
    rw [show (u : Int) / 4503599627370496 = ((u / 4503599627370496 : Nat) : Int) by omega, k, and_2047, hE]
  have fm : bits .and .u64 (u : Int) 4503599627370495 = (m : Int) := by
    have k := u64_and_nat u 4503599627370495 hu (by decide)
    rw [show ((4503599627370495 : Nat) : Int) = 4503599627370495 from rfl] at k
    rw [k, show (4503599627370495 : Nat) = 2 ^ 52 - 1 by decide, Nat.and_two_pow_sub_one_eq_mod, show (2 : Nat) ^ 52 = 4503599627370496 by decide, hm]
  have hr : frung u = E * 4503599627370496 + m := by unfold frung; omega
  have hEb : E < 2048 := by omega
  have hmb : m < 4503599627370496 := by omega
  have hFin : Fin u ↔ E < 2047 := by unfold Fin infK; rw [hr]; omega
  by_cases h2047 : E = 2047
  · subst h2047
    have hd : decide (Fin u) = false := decide_eq_false (by rw [hFin]; omega)
    have hnf : ¬ Fin u := by rw [hFin]; omega
    rw [hd, if_neg hnf]
    have hz : ((2047 : Nat) : Int) = 2047 := rfl
    rw [hz] at fE
    go_enter Try.func23, Try.ntmps23
    go_wp2_with fail
    refine bodyPost_ret (v := .tuple #[.agg #[.bool false, .slice none 0 0, .int .i64 0], .bool false]) (res_num2 _ 2 3 (by kernel_rfl) _ _ w.heap.size _ _ _ _ (by rfl) (by rfl) (heap_alloc_new w _)) rfl ⟨_, rfl, ⟨false, 0, ⟨none, 0, 0, [], rfl, rd4_none _, .inl rfl, rfl⟩, fun h => absurd h hnf, by omega, by omega, fun _ => rfl⟩, (Below.refl _ _).alloc (Nat.le_refl _) _⟩
  · have hf : Fin u := hFin.2 (by omega)
    have hd : decide (Fin u) = true := decide_eq_true hf
    rw [hd, if_pos hf]
    have hEi : ((E : Int) == 2047) = false := by rw [beq_eq_false_iff_ne]; omega
    have hsgb : ((u : Int) / 9223372036854775808 == 1) = fneg u := by
      unfold fneg
      have h6 : u / 9223372036854775808 = 0 ∨ u / 9223372036854775808 = 1 := by omega
      rcases h6 with h6 | h6
      · rw [show (u : Int) / 9223372036854775808 = 0 by omega, h6]; rfl
      · rw [show (u : Int) / 9223372036854775808 = 1 by omega, h6]; rfl
    clear hFin
    by_cases h0 : E = 0 ∧ m = 0
    · obtain ⟨rfl, rfl⟩ := h0
      have hM : ofM u = 0 := by unfold ofM; rw [hr]; rfl
      have hr0 : frung u = 0 := by rw [hr]
      rw [hM]
      have hz : ((0 : Nat) : Int) = 0 := rfl
      rw [hz] at fE fm
      go_enter Try.func23, Try.ntmps23
      go_wp2_with fail
      refine bodyPost_ret (v := .tuple #[.agg #[.bool false, .slice none 0 0, .int .i64 0], .bool true]) (res_num2 _ 2 3 (by kernel_rfl) _ _ w.heap.size _ _ _ _ (by rfl) (by rfl) (heap_alloc_new w _)) rfl ⟨_, rfl, ⟨false, 0, ⟨none, 0, 0, [], rfl, rd4_none _, .inl rfl, rfl⟩, fun _ h => absurd hr0 h, by omega, by omega, fun _ => rfl⟩, (Below.refl _ _).alloc (Nat.le_refl _) _⟩
    · obtain ⟨m2, e2, hm2, he2⟩ : ∃ (m2 : Nat) (e2 : Int), m2 = (if E = 0 then m else 4503599627370496 + m) ∧ e2 = (if E = 0 then -1074 else (E : Int) - 1075) := ⟨_, _, rfl, rfl⟩
      have hM : ofM u = m2 := by
        unfold ofM; rw [hr, hm2]
        by_cases hE0 : E = 0
        · rw [if_pos (by omega), if_pos hE0]; omega
        · rw [if_neg (by omega), if_neg hE0]; omega
      have hEE : ofE u = e2 := by
        unfold ofE; rw [hr, he2]
        by_cases hE0 : E = 0
        · rw [if_pos (by omega), if_pos hE0]
        · rw [if_neg (by omega), if_neg hE0]; omega
      rw [hM, hEE]
      have hm2b : 0 < m2 ∧ m2 < 9007199254740992 := by rw [hm2]; split <;> omega
      obtain ⟨hm20, hm2l⟩ := hm2b
      have hw2 := words2 (m := m2) (by omega)
      have HW : Hid _ := hw2
      have hor : bits .or .u64 (m : Int) 4503599627370496 = ((4503599627370496 + m : Nat) : Int) := by
        have k := u64_or_nat m 4503599627370496 (by omega) (by decide)
        rw [show ((4503599627370496 : Nat) : Int) = 4503599627370496 from rfl] at k
        have k2 := Nat.two_pow_add_eq_or_of_lt (i := 52) (b := m) (by omega) 1
        rw [show (2 : Nat) ^ 52 = 4503599627370496 by decide, Nat.mul_one] at k2
        rw [k, Nat.or_comm, ← k2]
      obtain ⟨lo, hlo⟩ : ∃ lo : Nat, m2 % 4294967296 = lo := ⟨_, rfl⟩
      obtain ⟨hi, hhi⟩ : ∃ hi : Nat, m2 / 4294967296 = hi := ⟨_, rfl⟩
      have hmod : (m2 : Int) % 4294967296 = (lo : Int) := by omega
      have hdiv : (m2 : Int) / 4294967296 = (hi : Int) := by omega
      have hlb : lo < 4294967296 := by omega
      have hib : hi < 4294967296 := by omega
      rw [hlo, hhi] at HW
      clear hlo hhi
      have hrd : Rd4 ((w.alloc (Obj.cells #[Value.bool false, Value.slice none 0 0, Value.int IntKind.i64 0] 60)).alloc (Obj.cells #[Value.int IntKind.u32 (lo : Int), Value.int IntKind.u32 (hi : Int)] 94)) (some ⟨w.heap.size + 1, 0, none⟩) 2 2 [lo, hi] := by
        have h := rd4_fresh2 (w.alloc (Obj.cells #[Value.bool false, Value.slice none 0 0, Value.int IntKind.i64 0] 60)) lo hi HW.out.2
        rw [show (w.alloc (Obj.cells #[Value.bool false, Value.slice none 0 0, Value.int IntKind.i64 0] 60)).heap.size = w.heap.size + 1 by simp] at h
        exact h
      have HRD : Hid _ := hrd
      clear hrd
      have hb0 : ∀ o1 o2, Below w.heap.size w ((w.alloc o1).alloc o2) := fun o1 o2 => ((Below.refl _ _).alloc (Nat.le_refl _) _).alloc (by simp) _
      clear hw2 hM hEE hE hm hr
      by_cases hE0 : E = 0
      · rw [if_pos hE0] at hm2 he2
        subst hm2 he2 hE0
        have hz : ((0 : Nat) : Int) = 0 := rfl
        rw [hz] at fE
        clear hor
        go_enter Try.func23, Try.ntmps23
        go_wp2_with fail
        refine (trim_any _ 2 2 [lo, hi] _ HRD.out).mono ?_
        rintro ee ww ⟨ao', n, rfl, rfl, hr', hn', hnm, hdg⟩
        go_wp2_with fail
        refine bodyPost_ret (v := .tuple #[.agg #[.bool (fneg u), .slice ao' n 2, .int .i64 (-1074)], .bool true]) (res_num2 _ 2 3 (by kernel_rfl) _ _ w.heap.size _ _ _ _ (by rfl) (by rfl) (alloc2_first w _ _)) rfl ⟨_, rfl, ⟨fneg u, -1074, ⟨ao', n, 2, _, rfl, rd4_other ⟨_, _, _, _, _, alloc2_first w _ _⟩ (fun b hb => alloc2_other w _ _ _ b hb) hr', hnm, by rw [hdg]; exact HW.out.1⟩, fun _ _ => ⟨rfl, rfl⟩, by omega, by omega, fun h => absurd h (by omega)⟩, hb0 _ _⟩
      · rw [if_neg hE0] at hm2 he2
        subst hm2 he2
        have hEp : 0 < E := by omega
        have hE0i : ((E : Int) == 0) = false := by rw [beq_eq_false_iff_ne]; omega
        generalize hmm : 4503599627370496 + m = m2 at *
        go_enter Try.func23, Try.ntmps23
        go_wp2_with fail
        refine (trim_any _ 2 2 [lo, hi] _ HRD.out).mono ?_
        rintro ee ww ⟨ao', n, rfl, rfl, hr', hn', hnm, hdg⟩
        go_wp2_with fail
        refine bodyPost_ret (v := .tuple #[.agg #[.bool (fneg u), .slice ao' n 2, .int .i64 ((E : Int) - 1075)], .bool true]) (res_num2 _ 2 3 (by kernel_rfl) _ _ w.heap.size _ _ _ _ (by rfl) (by rfl) (alloc2_first w _ _)) rfl ⟨_, rfl, ⟨fneg u, (E : Int) - 1075, ⟨ao', n, 2, _, rfl, rd4_other ⟨_, _, _, _, _, alloc2_first w _ _⟩ (fun b hb => alloc2_other w _ _ _ b hb) hr', hnm, by rw [hdg]; exact HW.out.1⟩, fun _ _ => ⟨rfl, rfl⟩, by omega, by omega, fun h => absurd h (by omega)⟩, hb0 _ _⟩
theorem ofC_any (u : Nat) (hu : u < 18446744073709551616) (w : World) (E : Nat) (hE : E = 1074) :
    Calls Try.prog 23 #[.int .u64 u] w fun e' w' => ∃ v, e' = .returned (.tuple #[v, .bool (decide (Fin u))]) ∧ (∃ z, NumC w' v E 1024 z ∧ (Fin u → z = fval u)) ∧ Below w.heap.size w w' := by
  refine (ofE_any u hu w).mono ?_
  rintro e' w' ⟨v, rfl, ⟨neg, e, hN, hne, h1, h2, h3⟩, hB⟩
  refine ⟨v, rfl, ⟨_, ⟨neg, _, e, hN, by omega, ?_, rfl, h3⟩, ?_⟩, hB⟩
  · by_cases hf : Fin u
    · rw [if_pos hf]
      have hv := ofM_val hf
      have := hv.2.2.2.1
      omega
    · rw [if_neg hf, bl_zero]; omega
  · intro hf
    rw [if_pos hf]
    have hv := ofM_val hf
    by_cases h0 : frung u = 0
    · rw [hv.2.2.2.2.2 h0, zv_zero]; unfold fval; rw [h0, rmag_zero]; split <;> rfl
    · obtain ⟨rfl, rfl⟩ := hne hf h0
      unfold zv sv fval
      rw [hE, ← hv.1]
      split
      · rw [Int.natCast_mul, Int.neg_mul]; rfl
      · rw [Int.natCast_mul]; rfl
theorem turnedC_any (v : Value) (s : Nat) (T x : Int) (w : World) (hx : NumC w v s T x) :
    Calls Try.prog 49 #[v] w fun e' w' => ∃ v', e' = .returned v' ∧ NumC w' v' s T (-x) ∧ Below w.heap.size w w' := by
  obtain ⟨nx, mx, ex, h1, h2, h3, h4, h5⟩ := hx
  refine (turned_any v nx mx ex w h1).mono ?_
  rintro e' w' ⟨v', rfl, hN, hB⟩
  refine ⟨v', rfl, ⟨_, mx, ex, hN, h2, h3, ?_, h5⟩, hB⟩
  by_cases h0 : mx = 0
  · rw [← h4, h0, zv_zero, zv_zero]; rfl
  · rw [if_neg h0, zv_not, h4]
set_option maxRecDepth 100000 in
theorem minusC_any (v u : Value) (s : Nat) (T x y : Int) (w : World) (hx : NumC w v s T x) (hy : NumC w u s T y) (hs : s ≤ 20000) (hT : 0 ≤ T ∧ T ≤ 20000) :
    Calls Try.prog 25 #[v, u] w fun e' w' => ∃ v', e' = .returned v' ∧ NumC w' v' s (T + 1) (x - y) ∧ Below w.heap.size w w' := by
  have HX : Hid (NumC w v s T x) := hx
  have HY : Hid (NumC w u s T y) := hy
  obtain ⟨nx, mx, ex, ⟨ao, len, cap, xs, rfl, -⟩, -⟩ := hx
  obtain ⟨ny, my, ey, ⟨bo, blen, bcap, ys, rfl, -⟩, -⟩ := hy
  obtain ⟨p0, p1, p2, pz, pb⟩ := alloc3_facts w (Obj.cells #[Value.bool nx, Value.slice ao len cap, Value.int IntKind.i64 ex] 60) (Obj.cells #[Value.bool ny, Value.slice bo blen bcap, Value.int IntKind.i64 ey] 60) (Obj.cells #[Value.bool false, Value.slice none 0 0, Value.int IntKind.i64 0] 60)
  have PZ : Hid _ := pz
  have PB : Hid _ := pb
  go_enter Try.func25, Try.ntmps25
  go_wp2_with fail
  generalize (((w.alloc (Obj.cells #[Value.bool nx, Value.slice ao len cap, Value.int IntKind.i64 ex] 60)).alloc (Obj.cells #[Value.bool ny, Value.slice bo blen bcap, Value.int IntKind.i64 ey] 60)).alloc (Obj.cells #[Value.bool false, Value.slice none 0 0, Value.int IntKind.i64 0] 60)) = wa at *
  have HY2 : Hid (NumC wa.drew _ s T y) := NumC.later HY.out PB.out.drew
  have P2 : Hid _ := p2
  obtain ⟨x0, x1, x2⟩ := three_cells p0
  obtain ⟨y0, y1, y2⟩ := three_cells p1
  have P0 : Hid _ := p0
  have P1 : Hid _ := p1
  clear p0 p1 p2 pz pb
  have hne1 : ¬ (w.heap.size + 1 + 1 = w.heap.size) := by omega
  have hne2 : ¬ (w.heap.size = w.heap.size + 1 + 1) := by omega
  go_region_held3 (fun w' => w'.cell? ⟨w.heap.size, 0, none⟩ = some (.bool nx) ∧ w'.cell? ⟨w.heap.size, 1, none⟩ = some (.slice ao len cap) ∧ w'.cell? ⟨w.heap.size, 2, none⟩ = some (.int .i64 ex) ∧ w'.cell? ⟨w.heap.size + 1, 0, none⟩ = some (.bool ny) ∧ w'.cell? ⟨w.heap.size + 1, 1, none⟩ = some (.slice bo blen bcap) ∧ w'.cell? ⟨w.heap.size + 1, 2, none⟩ = some (.int .i64 ey)) (go_keep)
    (first
      | (go_at_call 49; refine (turnedC_any _ s T y _ HY2.out).mono ?_; rintro ee ww ⟨v1, rfl, hz1, hb1⟩; have b0 := (hb1.block w.heap.size (by show w.heap.size < wa.heap.size; rw [PZ.out]; omega)).trans P0.out; have b1 := (hb1.block (w.heap.size + 1) (by show w.heap.size + 1 < wa.heap.size; rw [PZ.out]; omega)).trans P1.out; have b2 := (hb1.block (w.heap.size + 1 + 1) (by show w.heap.size + 1 + 1 < wa.heap.size; rw [PZ.out]; omega)).trans P2.out; obtain ⟨a0, a1, a2⟩ := three_cells b0; obtain ⟨a3, a4, a5⟩ := three_cells b1; have HBB : Hid (Below w.heap.size w ww) := PB.out.drew.trans (hb1.mono (by show w.heap.size ≤ wa.heap.size; rw [PZ.out]; omega)); have HSZ : Hid (w.heap.size + 3 ≤ ww.heap.size) := Nat.le_trans (Nat.le_of_eq PZ.out.symm) hb1.size; have HZ1 : Hid (NumC ww v1 s T (-y)) := hz1; have B0 : Hid _ := b0; have B1 : Hid _ := b1; have B2 : Hid _ := b2; clear hz1 hb1 b0 b1 b2)
      | (go_at_call 20; refine (plusC_any _ _ s T x (-y) _ (NumC.later HX.out HBB.out) HZ1.out hs hT).mono ?_; rintro ee ww2 ⟨v2, rfl, hz2, hb2⟩; have d0 := (hb2.block w.heap.size (by have := HSZ.out; omega)).trans B0.out; have d1 := (hb2.block (w.heap.size + 1) (by have := HSZ.out; omega)).trans B1.out; obtain ⟨i0, i1, i2⟩ := three_cells d0; obtain ⟨i3, i4, i5⟩ := three_cells d1; have d2 := (hb2.block (w.heap.size + 1 + 1) (by have := HSZ.out; omega)).trans B2.out; have HB3 : Hid (Below w.heap.size w ww2) := HBB.out.trans (hb2.mono HBB.out.size); obtain ⟨c0, c1, c2⟩ := three_cells d2; have fc := (fun j => frozen_of_row _ _ j _ _ d2); have D2 : Hid _ := d2; have HZ2 : Hid (NumC ww2 v2 s (T + 1) (x + -y)) := hz2; obtain ⟨n3, m3, e3, ⟨a3, l3, c3, xs3, rfl, -⟩, -⟩ := hz2; clear hb2 d0 d1 d2))
  all_goals go_wp2_with fail
  all_goals
    refine bodyPost_ret (v := .agg #[.bool n3, .slice a3 l3 c3, .int .i64 e3]) (res_num _ 4 (by kernel_rfl) _ _ (w.heap.size + 1 + 1) _ _ _ (by rfl) (set3_heap _ _ _ D2.out)) rfl ⟨_, rfl, ?_, ?_⟩
    · rw [show x - y = x + -y by omega]; exact NumC.set3 _ _ _ ⟨_, _, _, _, _, D2.out⟩ HZ2.out
    · exact below_set3 _ _ _ HB3.out (by omega)
theorem NumC.size {w : World} {nb : Bool} {ao : Option Addr} {len cap : Nat} {e : Int} {s : Nat} {T z : Int} (h : NumC w (.agg #[.bool nb, .slice ao len cap, .int .i64 e]) s T z) : NumC w (.agg #[.bool false, .slice ao len cap, .int .i64 e]) s T (z.natAbs : Int) := by
  obtain ⟨neg, m, e', ⟨a, l, c, xs, h1, h2, h3, h4⟩, h5, h6, h7, h8⟩ := h
  cases h1
  refine ⟨false, m, e, ⟨ao, len, cap, xs, rfl, h2, h3, h4⟩, h5, h6, ?_, h8⟩
  rw [← h7, zv_abs]; unfold zv sv
  simp only [Bool.false_eq_true, if_false]
  rw [Int.natCast_mul]
theorem sizeC_any (v : Value) (s : Nat) (T x : Int) (w : World) (hx : NumC w v s T x) :
    Calls Try.prog 27 #[v] w fun e' w' => ∃ v', e' = .returned v' ∧ NumC w' v' s T (x.natAbs : Int) ∧ Below w.heap.size w w' := by
  obtain ⟨nx, mx, ex, h1, h2, h3, h4, h5⟩ := hx
  refine (size_any v nx mx ex w h1).mono ?_
  rintro e' w' ⟨v', rfl, hN, hB⟩
  refine ⟨v', rfl, ⟨_, mx, ex, hN, h2, h3, ?_, h5⟩, hB⟩
  rw [← h4, zv_abs]; unfold zv sv
  simp only [Bool.false_eq_true, if_false]
  rw [Int.natCast_mul]
end Go.Proofs.Ytbjnkefjlaplkaa
