import Derived.Test.YtkfmffikfpmgdabHB
namespace Go.Proofs.Ytkfmffikfpmgdab
open Go.RowKit
set_option linter.unusedVariables false

set_option maxRecDepth 100000 in
set_option maxHeartbeats 2000000 in
theorem whole_any (i : Nat) (hi : i ≤ 1048576) (w : World) :
    Calls Try.prog 29 #[.int .i64 (i : Int)] w fun e' w' => ∃ v, e' = .returned v ∧ NumV w' v false i 0 ∧ Below w.heap.size w w' := by
  have v1 : IntKind.u64.wrap (i : Int) = (i : Int) := by rw [IntKind.wrap_u64]; omega
  have v2 : IntKind.u32.wrap (i : Int) = (i : Int) := by rw [IntKind.wrap_u32]; omega
  have v3 : (i : Int) / 4294967296 = 0 := by omega
  have n1 : ¬ ((i : Int) < 0) := by omega
  by_cases h0 : i = 0
  · subst h0
    go_enter Try.func29, Try.ntmps29
    go_wp2_with fail
    refine bodyPost_ret (v := .agg #[.bool false, .slice none 0 0, .int .i64 0]) (res_num _ 2 (by kernel_rfl) _ _ w.heap.size _ _ _ (by rfl) (heap_alloc_new w _)) rfl ⟨_, rfl, ⟨none, 0, 0, [], rfl, Rd4.none _, by exact Or.inl rfl, rfl⟩, (Below.refl _ w).alloc (Nat.le_refl _) _⟩
  · have n2 : ¬ ((i : Int) = 0) := by omega
    have n3 : ((i : Int) == 0) = false := by simpa using h0
    have hrd : Rd4 ((w.alloc (Obj.cells #[Value.bool false, Value.slice none 0 0, Value.int IntKind.i64 0] 27)).alloc (Obj.cells #[Value.int IntKind.u32 (i : Int), Value.int IntKind.u32 0] 74)) (some ⟨w.heap.size + 1, 0, none⟩) 2 2 [i, 0] := by
      have h := rd4_fresh2 (w.alloc (Obj.cells #[Value.bool false, Value.slice none 0 0, Value.int IntKind.i64 0] 27)) i 0 (by intro x hx; simp only [List.mem_cons, List.mem_nil_iff, or_false] at hx; omega)
      rw [show (w.alloc (Obj.cells #[Value.bool false, Value.slice none 0 0, Value.int IntKind.i64 0] 27)).heap.size = w.heap.size + 1 by simp] at h
      exact h
    have HRD : Hid _ := hrd
    have hb0 : ∀ o1 o2, Below w.heap.size w ((w.alloc o1).alloc o2) := fun o1 o2 => ((Below.refl _ _).alloc (Nat.le_refl _) _).alloc (by simp) _
    have HB0 : Hid _ := hb0
    clear hrd hb0
    go_enter Try.func29, Try.ntmps29
    go_wp2_with fail
    refine Calls.mono (trim_any _ 2 2 [i, 0] _ HRD.out) ?_
    rintro ee ww ⟨ao', n, rfl, hw, hr', hn', hnm, hdg⟩
    rw [hw]; clear hw
    have HR' : Hid _ := hr'
    clear hr'
    go_wp2_with fail
    refine bodyPost_ret (v := .agg #[.bool false, .slice ao' n 2, .int .i64 0]) (res_num _ 2 (by kernel_rfl) _ _ w.heap.size _ _ _ (by rfl) (alloc2_first w _ _)) rfl ⟨_, rfl, ⟨ao', n, 2, _, rfl, rd4_other ⟨_, _, _, _, _, alloc2_first w _ _⟩ (fun b hb => alloc2_other w _ _ _ b hb) HR'.out, hnm, by rw [hdg]; rfl⟩, HB0.out _ _⟩
/-- A whole number, moved down by n, in units of 2^-s. -/
theorem wholeMoved_any (v : Value) (i n s : Nat) (hi : i ≤ 1048576) (hn : n ≤ 20) (hs : 20 ≤ s) (w : World) (h : NumV w v false i 0) :
    Calls Try.prog 20 #[v, .int .i64 (-(n : Int))] w fun e' w' => ∃ v', e' = .returned v' ∧ NumZ w' v' s 1024 ((i : Int) * ((2 ^ (s - n) : Nat) : Int)) ∧ Below w.heap.size w w' := by
  refine Calls.mono (moved_any v false i 0 (-(n : Int)) (by omega) (by omega) w h) ?_
  rintro e' w' ⟨v', rfl, hN, hB⟩
  have hb : bl i ≤ 21 := bl_le_of_lt (by omega)
  refine ⟨v', rfl, ⟨false, i, _, hN, ?_, ?_, ?_⟩, hB⟩
  · split <;> omega
  · split <;> omega
  · by_cases h0 : i = 0
    · subst h0; unfold zv; simp [sv_zero]
    · rw [if_neg h0]
      unfold zv
      rw [show ((0 : Int) + -(n : Int) + (s : Int)).toNat = s - n by omega]
      unfold sv
      simp
end Go.Proofs.Ytkfmffikfpmgdab
