import Derived.Test.YtajopgndpomggaaXB
namespace Go.Proofs.Ytajopgndpomggaa
open Go.RowKit
set_option linter.unusedVariables false

set_option maxRecDepth 100000 in
set_option maxHeartbeats 1000000 in
theorem refAdd3_any (v : Value) (o : Option Int) (a : Nat) (ha : a < 18446744073709551616) (w : World) (h : RefO w v o) :
    Calls Try.prog 27 #[v, .int .u64 (a : Int)] w fun e' w' => ∃ v', e' = .returned v' ∧ RefO w' v' (prodO o a 4607182418800017408 0) ∧ Below w.heap.size w w' := by
  have HV : Hid (RefO w v o) := h
  obtain ⟨nb, ao, l, c, e, rfl, hz⟩ := h
  clear hz
  obtain ⟨a1, a2, a3, a4⟩ := alloc2_facts w (.cells #[.bool nb, .slice ao l c, .int .i64 e, .bool o.isNone] 29) (.cells #[.bool false, .slice none 0 0, .int .i64 0, .bool false] 29)
  go_enter Try.func27, Try.ntmps27
  go_wp2_with fail
  generalize (w.alloc (.cells #[.bool nb, .slice ao l c, .int .i64 e, .bool o.isNone] 29)).alloc (.cells #[.bool false, .slice none 0 0, .int .i64 0, .bool false] 29) = w1 at a1 a2 a3 a4 ⊢
  have A2 : Hid _ := a2
  have A3 : Hid _ := a3
  have B1 : Hid (Below w.heap.size w w1) := a4
  clear a1 a2 a3 a4
  refine (refProd_any _ o a 4607182418800017408 0 ha (by omega) _ (RefO.later HV.out B1.out)).mono ?_
  rintro e8 w8 ⟨v8, rfl, ⟨nb8, ao8, l8, c8, e9, rfl, hz8⟩, b8⟩
  have R8 : Hid (w8.heap[w.heap.size + 1]? = _) := (b8.block (w.heap.size + 1) (by have := A3.out; omega)).trans A2.out
  have Z8 : Hid (∀ y, prodO o a 4607182418800017408 0 = some y → NumC w8 (.agg #[.bool nb8, .slice ao8 l8 c8, .int .i64 e9]) 2240 2560 y) := hz8
  have B8 : Hid (Below w.heap.size w w8) := B1.out.trans (b8.mono B1.out.size)
  obtain ⟨r0, r1, r2, r3⟩ := four_cells R8.out
  have rf := fun j => frozen_of_row _ _ j _ _ R8.out
  clear hz8 b8
  go_wp2_with fail
  (try simp only [Exit.inBlock, Exit.then])
  refine bodyPost_ret (v := .agg #[.bool nb8, .slice ao8 l8 c8, .int .i64 e9, .bool (prodO o a 4607182418800017408 0).isNone]) (res_acc4 _ 4 (by kernel_rfl) _ _ (w.heap.size + 1) _ _ _ _ (by rfl) (set4_heap _ _ _ _ R8.out)) rfl ⟨_, rfl, ?_, below_set4 _ _ _ _ B8.out (by omega)⟩
  exact ⟨nb8, ao8, l8, c8, e9, rfl, fun y hy => NumC.keep (acc4_not R8.out) (heap_set4 _ _ _ _) (Z8.out y hy)⟩
set_option maxRecDepth 100000 in
set_option maxHeartbeats 1000000 in
theorem refRound3_any (v : Value) (o : Option Int) (d : Int) (hd0 : -9223372036854775808 ≤ d) (hd1 : d ≤ 9223372036854775807) (w : World) (h : RefO w v o) :
    Calls Try.prog 34 #[v, .int .i64 d] w fun e' w' => ∃ (u : Nat) (b : Bool), e' = .returned (.tuple #[.int .u64 (u : Int), .bool b]) ∧ RndO d o u b ∧ Below w.heap.size w w' := by
  obtain ⟨nb, ao, l, c, e, rfl, hz⟩ := h
  have HZ : Hid (∀ z, o = some z → NumC w (.agg #[.bool nb, .slice ao l c, .int .i64 e]) 2240 2560 z) := hz
  have B1 : Hid (Below w.heap.size w (w.alloc (.cells #[.bool nb, .slice ao l c, .int .i64 e, .bool o.isNone] 29))) := (Below.refl _ w).alloc (Nat.le_refl _) _
  clear hz
  cases o with
  | none =>
    go_enter Try.func34, Try.ntmps34
    go_wp2_with fail
    go_ret2
    exact ⟨0, false, rfl, ⟨rfl, rfl⟩, B1.out⟩
  | some z =>
    obtain ⟨E, hE⟩ : ∃ E : Nat, E = 1074 := ⟨_, rfl⟩
    obtain ⟨K, hK⟩ : ∃ K : Nat, K = 1166 := ⟨_, rfl⟩
    have HC : Hid (NumZ (w.alloc (.cells #[.bool nb, .slice ao l c, .int .i64 e, .bool false] 29)) (.agg #[.bool nb, .slice ao l c, .int .i64 e]) 2240 2560 z) := NumZ.later (NumC.toZ (HZ.out z rfl)) B1.out
    have HK : Hid _ := hK
    go_enter Try.func34, Try.ntmps34
    go_wp2_with fail
    refine (roundZ_any d _ 2240 K 2560 z _ HC.out E hE (by omega) (by omega) (by omega) hd0 hd1).mono ?_
    rintro e8 w8 ⟨u, b, rfl, r1, b8⟩
    have R1 : Hid (RndZ d z (2 ^ K) (u, b)) := r1
    have B8 : Hid (Below w.heap.size w w8) := B1.out.trans (b8.mono (by simp))
    clear r1 b8
    go_wp2_with fail
    go_ret2
    refine ⟨u, b, rfl, fun a ha => ?_, B8.out⟩
    have : a = K := by have := HK.out; omega
    subst this
    exact R1.out
end Go.Proofs.Ytajopgndpomggaa
