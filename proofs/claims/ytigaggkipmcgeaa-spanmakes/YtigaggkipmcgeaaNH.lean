import Derived.Test.YtigaggkipmcgeaaNF
import Derived.Test.YtigaggkipmcgeaaRL
namespace Go.Proofs.Ytigaggkipmcgeaa
open Go.RowKit
set_option linter.unusedVariables false

theorem rd4_none (w : World) : Rd4 w none 0 0 [] := Rd4.none w
theorem alloc2_other (w : World) (o o' c : Obj) (b : Nat) (hb : b ≠ w.heap.size) : ((w.alloc o).alloc c).heap[b]? = ((w.alloc o').alloc c).heap[b]? := by
  rcases Nat.lt_or_ge b w.heap.size with h | h
  · rw [Below.heap_alloc _ _ _ (by simp; omega), Below.heap_alloc _ _ _ h, Below.heap_alloc _ _ _ (by simp; omega), Below.heap_alloc _ _ _ h]
  · by_cases h1 : b = w.heap.size + 1
    · subst h1
      have e1 := heap_alloc_new (w.alloc o) c
      have e2 := heap_alloc_new (w.alloc o') c
      rw [show (w.alloc o).heap.size = w.heap.size + 1 by simp] at e1
      rw [show (w.alloc o').heap.size = w.heap.size + 1 by simp] at e2
      rw [e1, e2]
    · rw [Array.getElem?_eq_none (by simp; omega), Array.getElem?_eq_none (by simp; omega)]
theorem alloc2_first (w : World) (o c : Obj) : ((w.alloc o).alloc c).heap[w.heap.size]? = some o := by
  rw [Below.heap_alloc _ _ _ (by simp)]; exact heap_alloc_new w o
def ofM (u : Nat) : Nat := if frung u < 4503599627370496 then frung u else 4503599627370496 + frung u % 4503599627370496
def ofE (u : Nat) : Int := if frung u < 4503599627370496 then -1074 else (frung u / 4503599627370496 : Nat) - 1075
theorem words2 {m : Nat} (hm : m < 18446744073709551616) : dig [m % 4294967296, m / 4294967296] = m ∧ U4 [m % 4294967296, m / 4294967296] := by
  refine ⟨?_, ?_⟩
  · simp only [dig]; omega
  · intro x hx
    simp only [List.mem_cons, List.mem_nil_iff, or_false] at hx
    rcases hx with rfl | rfl <;> omega
theorem rd4_fresh2 (w : World) (a b : Nat) (hu : U4 [a, b]) : Rd4 (w.alloc (.cells #[.int .u32 (a : Int), .int .u32 (b : Int)] 108)) (some ⟨w.heap.size, 0, none⟩) 2 2 [a, b] := by
  refine ⟨rfl, Nat.le_refl _, by decide, hu, (fun h => by cases h), .inr ⟨_, _, rfl, fun j hj => ?_⟩⟩
  rw [Nat.zero_add, cell_of_row _ w.heap.size j _ _ _ (heap_alloc_new w _)]
  match j, hj with
  | 0, _ => rfl
  | 1, _ => rfl
set_option maxRecDepth 100000 in
set_option maxHeartbeats 1000000 in
theorem of_any (u : Nat) (hu : u < 18446744073709551616) (w : World) :
    Calls Try.prog 14 #[.int .u64 u] w fun e' w' => ∃ v, e' = .returned (.tuple #[v, .bool (decide (Fin u))]) ∧ (∃ neg e, NumV w' v neg (if Fin u then ofM u else 0) e ∧ (Fin u → frung u ≠ 0 → neg = fneg u ∧ e = ofE u) ∧ -1074 ≤ e ∧ e ≤ 971) ∧ Below w.heap.size w w' := by
  obtain ⟨E, hE⟩ : ∃ E : Nat, u / 4503599627370496 % 2048 = E := ⟨_, rfl⟩
  obtain ⟨m, hm⟩ : ∃ m : Nat, u % 4503599627370496 = m := ⟨_, rfl⟩
  have fE : bits .and .u64 ((u : Int) / 4503599627370496) 2047 = (E : Int) := by
    have k := u64_and_nat (u / 4503599627370496) 2047 (by omega) (by decide)
    rw [show ((2047 : Nat) : Int) = 2047 from rfl] at k
    rw [show (u : Int) / 4503599627370496 = ((u / 4503599627370496 : Nat) : Int) by omega, k, and_2047, hE]
  have fm : bits .and .u64 (u : Int) 4503599627370495 = (m : Int) := by
    have k := u64_and_nat u 4503599627370495 hu (by decide)
    rw [show ((4503599627370495 : Nat) : Int) = 4503599627370495 from rfl] at k
    rw [k, show (4503599627370495 : Nat) = 2 ^ 52 - 1 by decide, Nat.and_two_pow_sub_one_eq_mod, show (2 : Nat) ^ 52 = 4503599627370496 by decide, hm]
  have hr : frung u = E * 4503599627370496 + m := by unfold frung; omega
  have hEb : E < 2048 := by omega
  have hmb : m < 4503599627370496 := by omega
  have hFin : Fin u ↔ E < 2047 := by unfold Fin infK; rw [hr]; omega
  by_cases h2047 : E = 2047
  · subst h2047
    have hd : decide (Fin u) = false := decide_eq_false (by rw [hFin]; omega)
    have hnf : ¬ Fin u := by rw [hFin]; omega
    rw [hd, if_neg hnf]
    have hz : ((2047 : Nat) : Int) = 2047 := rfl
    rw [hz] at fE
    go_enter Try.func14, Try.ntmps14
    go_wp2_with fail
    refine bodyPost_ret (v := .tuple #[.agg #[.bool false, .slice none 0 0, .int .i64 0], .bool false]) (res_num2 _ 2 3 (by kernel_rfl) _ _ w.heap.size _ _ _ _ (by rfl) (by rfl) (heap_alloc_new w _)) rfl ⟨_, rfl, ⟨false, 0, ⟨none, 0, 0, [], rfl, rd4_none _, .inl rfl, rfl⟩, fun h => absurd h hnf, by omega, by omega⟩, (Below.refl _ _).alloc (Nat.le_refl _) _⟩
  · have hf : Fin u := hFin.2 (by omega)
    have hd : decide (Fin u) = true := decide_eq_true hf
    rw [hd, if_pos hf]
    have hEi : ((E : Int) == 2047) = false := by rw [beq_eq_false_iff_ne]; omega
    have hsgb : ((u : Int) / 9223372036854775808 == 1) = fneg u := by
      unfold fneg
      have h6 : u / 9223372036854775808 = 0 ∨ u / 9223372036854775808 = 1 := by omega
      rcases h6 with h6 | h6
      · rw [show (u : Int) / 9223372036854775808 = 0 by omega, h6]; rfl
      · rw [show (u : Int) / 9223372036854775808 = 1 by omega, h6]; rfl
    clear hFin
    by_cases h0 : E = 0 ∧ m = 0
    · obtain ⟨rfl, rfl⟩ := h0
      have hM : ofM u = 0 := by unfold ofM; rw [hr]; rfl
      have hr0 : frung u = 0 := by rw [hr]
      rw [hM]
      have hz : ((0 : Nat) : Int) = 0 := rfl
      rw [hz] at fE fm
      go_enter Try.func14, Try.ntmps14
      go_wp2_with fail
      refine bodyPost_ret (v := .tuple #[.agg #[.bool false, .slice none 0 0, .int .i64 0], .bool true]) (res_num2 _ 2 3 (by kernel_rfl) _ _ w.heap.size _ _ _ _ (by rfl) (by rfl) (heap_alloc_new w _)) rfl ⟨_, rfl, ⟨false, 0, ⟨none, 0, 0, [], rfl, rd4_none _, .inl rfl, rfl⟩, fun _ h => absurd hr0 h, by omega, by omega⟩, (Below.refl _ _).alloc (Nat.le_refl _) _⟩
    · obtain ⟨m2, e2, hm2, he2⟩ : ∃ (m2 : Nat) (e2 : Int), m2 = (if E = 0 then m else 4503599627370496 + m) ∧ e2 = (if E = 0 then -1074 else (E : Int) - 1075) := ⟨_, _, rfl, rfl⟩
      have hM : ofM u = m2 := by
        unfold ofM; rw [hr, hm2]
        by_cases hE0 : E = 0
        · rw [if_pos (by omega), if_pos hE0]; omega
        · rw [if_neg (by omega), if_neg hE0]; omega
      have hEE : ofE u = e2 := by
        unfold ofE; rw [hr, he2]
        by_cases hE0 : E = 0
        · rw [if_pos (by omega), if_pos hE0]
        · rw [if_neg (by omega), if_neg hE0]; omega
      rw [hM, hEE]
      have hm2b : 0 < m2 ∧ m2 < 9007199254740992 := by rw [hm2]; split <;> omega
      obtain ⟨hm20, hm2l⟩ := hm2b
      have hw2 := words2 (m := m2) (by omega)
      have HW : Hid _ := hw2
      have hor : bits .or .u64 (m : Int) 4503599627370496 = ((4503599627370496 + m : Nat) : Int) := by
        have k := u64_or_nat m 4503599627370496 (by omega) (by decide)
        rw [show ((4503599627370496 : Nat) : Int) = 4503599627370496 from rfl] at k
        have k2 := Nat.two_pow_add_eq_or_of_lt (i := 52) (b := m) (by omega) 1
        rw [show (2 : Nat) ^ 52 = 4503599627370496 by decide, Nat.mul_one] at k2
        rw [k, Nat.or_comm, ← k2]
      obtain ⟨lo, hlo⟩ : ∃ lo : Nat, m2 % 4294967296 = lo := ⟨_, rfl⟩
      obtain ⟨hi, hhi⟩ : ∃ hi : Nat, m2 / 4294967296 = hi := ⟨_, rfl⟩
      have hmod : (m2 : Int) % 4294967296 = (lo : Int) := by omega
      have hdiv : (m2 : Int) / 4294967296 = (hi : Int) := by omega
      have hlb : lo < 4294967296 := by omega
      have hib : hi < 4294967296 := by omega
      rw [hlo, hhi] at HW
      clear hlo hhi
      have hrd : Rd4 ((w.alloc (Obj.cells #[Value.bool false, Value.slice none 0 0, Value.int IntKind.i64 0] 27)).alloc (Obj.cells #[Value.int IntKind.u32 (lo : Int), Value.int IntKind.u32 (hi : Int)] 108)) (some ⟨w.heap.size + 1, 0, none⟩) 2 2 [lo, hi] := by
        have h := rd4_fresh2 (w.alloc (Obj.cells #[Value.bool false, Value.slice none 0 0, Value.int IntKind.i64 0] 27)) lo hi HW.out.2
        rw [show (w.alloc (Obj.cells #[Value.bool false, Value.slice none 0 0, Value.int IntKind.i64 0] 27)).heap.size = w.heap.size + 1 by simp] at h
        exact h
      have HRD : Hid _ := hrd
      clear hrd
      have hb0 : ∀ o1 o2, Below w.heap.size w ((w.alloc o1).alloc o2) := fun o1 o2 => ((Below.refl _ _).alloc (Nat.le_refl _) _).alloc (by simp) _
      clear hw2 hM hEE hE hm hr
      by_cases hE0 : E = 0
      · rw [if_pos hE0] at hm2 he2
        subst hm2 he2 hE0
        have hz : ((0 : Nat) : Int) = 0 := rfl
        rw [hz] at fE
        clear hor
        go_enter Try.func14, Try.ntmps14
        go_wp2_with fail
        refine (trim_any _ 2 2 [lo, hi] _ HRD.out).mono ?_
        rintro ee ww ⟨ao', n, rfl, rfl, hr', hn', hnm, hdg⟩
        go_wp2_with fail
        refine bodyPost_ret (v := .tuple #[.agg #[.bool (fneg u), .slice ao' n 2, .int .i64 (-1074)], .bool true]) (res_num2 _ 2 3 (by kernel_rfl) _ _ w.heap.size _ _ _ _ (by rfl) (by rfl) (alloc2_first w _ _)) rfl ⟨_, rfl, ⟨fneg u, -1074, ⟨ao', n, 2, _, rfl, rd4_other ⟨_, _, _, _, _, alloc2_first w _ _⟩ (fun b hb => alloc2_other w _ _ _ b hb) hr', hnm, by rw [hdg]; exact HW.out.1⟩, fun _ _ => ⟨rfl, rfl⟩, by omega, by omega⟩, hb0 _ _⟩
      · rw [if_neg hE0] at hm2 he2
        subst hm2 he2
        have hEp : 0 < E := by omega
        have hE0i : ((E : Int) == 0) = false := by rw [beq_eq_false_iff_ne]; omega
        generalize hmm : 4503599627370496 + m = m2 at *
        go_enter Try.func14, Try.ntmps14
        go_wp2_with fail
        refine (trim_any _ 2 2 [lo, hi] _ HRD.out).mono ?_
        rintro ee ww ⟨ao', n, rfl, rfl, hr', hn', hnm, hdg⟩
        go_wp2_with fail
        refine bodyPost_ret (v := .tuple #[.agg #[.bool (fneg u), .slice ao' n 2, .int .i64 ((E : Int) - 1075)], .bool true]) (res_num2 _ 2 3 (by kernel_rfl) _ _ w.heap.size _ _ _ _ (by rfl) (by rfl) (alloc2_first w _ _)) rfl ⟨_, rfl, ⟨fneg u, (E : Int) - 1075, ⟨ao', n, 2, _, rfl, rd4_other ⟨_, _, _, _, _, alloc2_first w _ _⟩ (fun b hb => alloc2_other w _ _ _ b hb) hr', hnm, by rw [hdg]; exact HW.out.1⟩, fun _ _ => ⟨rfl, rfl⟩, by omega, by omega⟩, hb0 _ _⟩
theorem ofM_val {u : Nat} (hf : Fin u) : ofM u * 2 ^ (ofE u + 1074).toNat = rmag (frung u) ∧ -1074 ≤ ofE u ∧ ofE u ≤ 971 ∧ bl (ofM u) ≤ 53 ∧ (ofM u = 0 ↔ frung u = 0) := by
  unfold Fin infK at hf
  have hbl : ∀ m : Nat, m < 9007199254740992 → bl m ≤ 53 := by
    intro m hm
    rcases Nat.eq_zero_or_pos m with h0 | h0
    · rw [h0, bl_zero]; omega
    · have h3 := bl_spec (m := m) (by omega)
      rcases Nat.lt_or_ge 53 (bl m) with h4 | h4
      · have : 2 ^ 53 ≤ 2 ^ (bl m - 1) := Nat.pow_le_pow_right (by omega) (by omega)
        have h53 : (2 : Nat) ^ 53 = 9007199254740992 := by decide
        omega
      · exact h4
  unfold ofM ofE
  by_cases h : frung u < 4503599627370496
  · rw [if_pos h, if_pos h]
    refine ⟨?_, by omega, by omega, hbl _ (by omega), Iff.rfl⟩
    unfold rmag; rw [if_pos h, show ((-1074 : Int) + 1074).toNat = 0 from rfl, Nat.pow_zero, Nat.mul_one]
  · rw [if_neg h, if_neg h]
    refine ⟨?_, by omega, by omega, hbl _ (by omega), by omega⟩
    unfold rmag; rw [if_neg h]; congr 2; omega
end Go.Proofs.Ytigaggkipmcgeaa
