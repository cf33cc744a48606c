import Derived.Test.YtgjdmenmegnacabTC
namespace Go.Proofs.Ytgjdmenmegnacab
open Go.RowKit
set_option linter.unusedVariables false

set_option maxRecDepth 100000 in
set_option maxHeartbeats 1000000 in
theorem whole1_any (w : World) :
    Calls Try.prog 21 #[.int .i64 1] w fun e' w' => ∃ v, e' = .returned v ∧ NumV w' v false 1 0 ∧ Below w.heap.size w w' := by
  have hrd : Rd4 ((w.alloc (Obj.cells #[Value.bool false, Value.slice none 0 0, Value.int IntKind.i64 0] 25)).alloc (Obj.cells #[Value.int IntKind.u32 1, Value.int IntKind.u32 0] 67)) (some ⟨w.heap.size + 1, 0, none⟩) 2 2 [1, 0] := by
    have h := rd4_fresh2 (w.alloc (Obj.cells #[Value.bool false, Value.slice none 0 0, Value.int IntKind.i64 0] 25)) 1 0 (by intro x hx; simp only [List.mem_cons, List.mem_nil_iff, or_false] at hx; omega)
    rw [show (w.alloc (Obj.cells #[Value.bool false, Value.slice none 0 0, Value.int IntKind.i64 0] 25)).heap.size = w.heap.size + 1 by simp] at h
    exact h
  have HRD : Hid _ := hrd
  have hb0 : ∀ o1 o2, Below w.heap.size w ((w.alloc o1).alloc o2) := fun o1 o2 => ((Below.refl _ _).alloc (Nat.le_refl _) _).alloc (by simp) _
  have HB0 : Hid _ := hb0
  clear hrd hb0
  go_enter Try.func21, Try.ntmps21
  go_wp2_with fail
  refine (trim_any _ 2 2 [1, 0] _ HRD.out).mono ?_
  rintro ee ww ⟨ao', n, rfl, rfl, hr', hn', hnm, hdg⟩
  go_wp2_with fail
  refine bodyPost_ret (v := .agg #[.bool false, .slice ao' n 2, .int .i64 0]) (res_num _ 2 (by kernel_rfl) _ _ w.heap.size _ _ _ (by rfl) (alloc2_first w _ _)) rfl ⟨_, rfl, ⟨ao', n, 2, _, rfl, rd4_other ⟨_, _, _, _, _, alloc2_first w _ _⟩ (fun b hb => alloc2_other w _ _ _ b hb) hr', hnm, by rw [hdg]; rfl⟩, HB0.out _ _⟩
/-- 2^n, in units of 2^-s. -/
theorem powZ_any (v : Value) (n : Int) (w : World) (h : NumV w v false 1 0) (s : Nat) (k : Nat) (hn : -1000000 ≤ n ∧ n ≤ 1000000) (hk : (k : Int) = n + s) (T : Int) (hT : n + 1 ≤ T) :
    Calls Try.prog 20 #[v, .int .i64 n] w fun e' w' => ∃ v', e' = .returned v' ∧ NumZ w' v' s T ((2 ^ k : Nat) : Int) ∧ Below w.heap.size w w' := by
  refine (moved_any v false 1 0 n (by omega) hn w h).mono ?_
  rintro e' w' ⟨v', rfl, hN, hB⟩
  rw [if_neg (by decide), Int.zero_add] at hN
  refine ⟨v', rfl, ⟨false, 1, n, hN, by omega, ?_, ?_⟩, hB⟩
  · have : bl 1 = 1 := rfl
    rw [this]; omega
  · unfold zv sv
    simp only [Bool.false_eq_true, if_false]
    rw [show (n + (s : Int)).toNat = k by omega, Int.natCast_one, Int.one_mul]
/-- Where Near ends, as the law asks it. -/
theorem bound_at {X : Int} {E k1 k2 : Nat} {p : Nat × Bool} (hE : E = 1074) (h1 : (k1 : Int) = 1024 + ((E + E : Nat) : Int)) (h2 : (k2 : Int) = 970 + ((E + E : Nat) : Int)) (h : RndZ 0 X (2 ^ E) p) : p.2 = decide (sgi ((X.natAbs : Int) - (((2 ^ k1 : Nat) : Int) - ((2 ^ k2 : Nat) : Int))) < 0) := by
  obtain ⟨e, he⟩ : ∃ e : Nat, e = 2044 := ⟨_, rfl⟩
  rw [rz_bound he (Nat.two_pow_pos E) h]
  have e1 : 2 ^ k2 = 2 ^ e * 2 ^ E := by rw [← Nat.pow_add]; congr 1; omega
  have e2 : 2 ^ k1 = 18014398509481984 * (2 ^ e * 2 ^ E) := by rw [show (18014398509481984 : Nat) = 2 ^ 54 by decide, ← Nat.pow_add, ← Nat.pow_add]; congr 1; omega
  have e3 : (9007199254740991 * 2 ^ (e + 1) + 2 ^ e) * 2 ^ E = 18014398509481983 * (2 ^ e * 2 ^ E) := by
    rw [Nat.pow_succ, ← Nat.mul_assoc]
    clear e1 e2 he hE h1 h2 h
    generalize 2 ^ e = P
    generalize 2 ^ E = Q
    rw [Nat.mul_comm (9007199254740991 * P) 2, ← Nat.mul_assoc 2, show 2 * 9007199254740991 * P + P = 18014398509481983 * P by omega, Nat.mul_assoc]
  rw [e1, e2, e3]
  clear e1 e2 e3 he hE h1 h2 h
  generalize 2 ^ e * 2 ^ E = M
  congr 1
  apply propext
  unfold sgi
  constructor
  · intro c; rw [if_pos (by omega)]; decide
  · intro c; split at c
    · omega
    · split at c <;> omega
end Go.Proofs.Ytgjdmenmegnacab
