import Derived.Test.YtaadhjdbieoieaaSPx
namespace Go.Proofs.Ytaadhjdbieoieaa
open Go.RowKit
set_option linter.unusedVariables false
set_option linter.unusedSimpArgs false
set_option maxRecDepth 100000 in
set_option maxHeartbeats 2000000 in
theorem wholeB_any (i : Int) (hi : i.natAbs ≤ 9223372036854775808) (w : World) :
    Calls Try.prog 34 #[.int .i64 i] w fun e' w' => ∃ v, e' = .returned v ∧ NumV w' v (decide (i < 0)) i.natAbs 0 ∧ Below w.heap.size w w' := by
  obtain ⟨k, hk⟩ : ∃ k : Nat, i.natAbs = k := ⟨_, rfl⟩
  rw [hk] at hi ⊢
  obtain ⟨a, ha⟩ : ∃ a : Nat, a = k % 4294967296 := ⟨_, rfl⟩
  obtain ⟨b, hb⟩ : ∃ b : Nat, b = k / 4294967296 := ⟨_, rfl⟩
  have hab : a + 4294967296 * b = k := by omega
  have al : a < 4294967296 := by omega
  have bl : b < 4294967296 := by omega
  have v2 : IntKind.u32.wrap (k : Int) = (a : Int) := by rw [IntKind.wrap_u32]; omega
  have v3 : (k : Int) / 4294967296 = (b : Int) := by omega
  have v4 : IntKind.u32.wrap (b : Int) = (b : Int) := by rw [IntKind.wrap_u32]; omega
  have HAB : Hid (dig [a, b] = k) := by show a + 4294967296 * (b + 4294967296 * 0) = k; omega
  clear ha hb
  by_cases h0 : i = 0
  · subst h0
    obtain rfl : k = 0 := by omega
    go_enter Try.func34, Try.ntmps34
    go_wp2_with fail
    refine bodyPost_ret (v := .agg #[.bool false, .slice none 0 0, .int .i64 0]) (res_num _ 2 (by kernel_rfl) _ _ w.heap.size _ _ _ (by rfl) (heap_alloc_new w _)) rfl ⟨_, rfl, ⟨none, 0, 0, [], rfl, rd4_none _, by exact Or.inl rfl, rfl⟩, (Below.refl _ w).alloc (Nat.le_refl _) _⟩
  · have n3 : (i == 0) = false := by simpa using h0
    have hrd : Rd4 ((w.alloc (Obj.cells #[Value.bool false, Value.slice none 0 0, Value.int IntKind.i64 0] 74)).alloc (Obj.cells #[Value.int IntKind.u32 (a : Int), Value.int IntKind.u32 (b : Int)] 82)) (some ⟨w.heap.size + 1, 0, none⟩) 2 2 [a, b] := by
      have h := rd4_fresh2 (w.alloc (Obj.cells #[Value.bool false, Value.slice none 0 0, Value.int IntKind.i64 0] 74)) a b (by intro x hx; simp only [List.mem_cons, List.mem_nil_iff, or_false] at hx; omega)
      rw [show (w.alloc (Obj.cells #[Value.bool false, Value.slice none 0 0, Value.int IntKind.i64 0] 74)).heap.size = w.heap.size + 1 by simp] at h
      exact h
    have HRD : Hid _ := hrd
    have hb0 : ∀ o1 o2, Below w.heap.size w ((w.alloc o1).alloc o2) := fun o1 o2 => ((Below.refl _ _).alloc (Nat.le_refl _) _).alloc (by simp) _
    have HB0 : Hid _ := hb0
    clear hrd hb0
    obtain ⟨U, hU⟩ : ∃ U, IntKind.u64.wrap i = U := ⟨_, rfl⟩
    by_cases hneg : i < 0
    · have hd : decide (i < 0) = true := decide_eq_true hneg
      have v1 : IntKind.u64.wrap (-U) = (k : Int) := by rw [← hU, IntKind.wrap_u64, IntKind.wrap_u64]; omega
      rw [hd]
      clear h0 hk hab
      go_enter Try.func34, Try.ntmps34
      go_wp2_with fail
      refine Calls.mono (trim_any _ 2 2 [a, b] _ HRD.out) ?_
      rintro ee ww ⟨ao', n, rfl, hw, hr', hn', hnm, hdg⟩
      rw [hw]; clear hw
      have HR' : Hid _ := hr'
      clear hr'
      go_wp2_with fail
      refine bodyPost_ret (v := .agg #[.bool true, .slice ao' n 2, .int .i64 0]) (res_num _ 2 (by kernel_rfl) _ _ w.heap.size _ _ _ (by rfl) (alloc2_first w _ _)) rfl ⟨_, rfl, ⟨ao', n, 2, _, rfl, rd4_other ⟨_, _, _, _, _, alloc2_first w _ _⟩ (fun b hb => alloc2_other w _ _ _ b hb) HR'.out, hnm, by rw [hdg]; exact HAB.out⟩, HB0.out _ _⟩
    · have hd : decide (i < 0) = false := decide_eq_false hneg
      have v1 : IntKind.u64.wrap i = (k : Int) := by rw [IntKind.wrap_u64]; omega
      rw [hd]
      clear h0 hk hU hab
      go_enter Try.func34, Try.ntmps34
      go_wp2_with fail
      refine Calls.mono (trim_any _ 2 2 [a, b] _ HRD.out) ?_
      rintro ee ww ⟨ao', n, rfl, hw, hr', hn', hnm, hdg⟩
      rw [hw]; clear hw
      have HR' : Hid _ := hr'
      clear hr'
      go_wp2_with fail
      refine bodyPost_ret (v := .agg #[.bool false, .slice ao' n 2, .int .i64 0]) (res_num _ 2 (by kernel_rfl) _ _ w.heap.size _ _ _ (by rfl) (alloc2_first w _ _)) rfl ⟨_, rfl, ⟨ao', n, 2, _, rfl, rd4_other ⟨_, _, _, _, _, alloc2_first w _ _⟩ (fun b hb => alloc2_other w _ _ _ b hb) HR'.out, hnm, by rw [hdg]; exact HAB.out⟩, HB0.out _ _⟩
end Go.Proofs.Ytaadhjdbieoieaa
