import Derived.Test.YtbeaggmiefpgoaaXC
namespace Go.Proofs.Ytbeaggmiefpgoaa
open Go.RowKit
set_option linter.unusedVariables false

/-- The document's Acc in a variable. -/
def RefB (w : World) (B : Nat) (o : Option Int) : Prop := ∃ nb ao l c e, w.heap[B]? = some (.cells #[.bool nb, .slice ao l c, .int .i64 e, .bool o.isNone] 29) ∧ ∀ z, o = some z → NumC w (.agg #[.bool nb, .slice ao l c, .int .i64 e]) 2240 2560 z
theorem refB_zero (w : World) : RefB (w.alloc (.cells #[.bool false, .slice none 0 0, .int .i64 0, .bool false] 29)) w.heap.size (some 0) := by
  refine ⟨false, none, 0, 0, 0, heap_alloc_new w _, fun z hz => ?_⟩
  cases hz
  exact ⟨false, 0, 0, ⟨none, 0, 0, [], rfl, Rd4.none _, .inl rfl, rfl⟩, by omega, by rw [bl_zero]; omega, zv_zero _ _ _, fun _ => rfl⟩
set_option maxRecDepth 100000 in
set_option maxHeartbeats 2000000 in
theorem refSum_any (d : Int) (hd0 : -9223372036854775808 ≤ d) (hd1 : d ≤ 9223372036854775807) (ao : Option Addr) (len cap : Nat) (xs : List Nat) (w : World) (h : RdU w ao len cap xs) (hm : len ≤ 1000000) :
    Calls Try.prog 15 #[.int .i64 d, .slice ao len cap] w fun e w' => ∃ (u : Nat) (b : Bool), e = .returned (.tuple #[.int .u64 (u : Int), .bool b]) ∧ RndO d (sumO (some 0) xs) u b ∧ Below w.heap.size w w' := by
  have HR : Hid (RdU w ao len cap xs) := h
  clear h
  go_enter Try.func15, Try.ntmps15
  go_wp2_with fail
  go_loopw [7] (fun iv wr => ∃ k : Nat, k ≤ len ∧ iv = .int .i64 k ∧ Hid (RefB wr w.heap.size (sumO (some 0) (xs.take k))) ∧ Hid (Below w.heap.size w wr)) (fun iv _ => len - (intOf iv).toNat)
  case atStart => exact ⟨0, by omega, rfl, refB_zero w, (Below.refl _ w).alloc (Nat.le_refl _) _⟩
  case round =>
    obtain ⟨k, hk, rfl, K1, K2⟩ := hrel
    by_cases hlt : k < len
    · have hd : decide ((k : Int) < (len : Int)) = true := decide_eq_true (by omega)
      have hr := HR.out.later K2.out
      rcases hr.cells with h0 | ⟨b, off, rfl, hc⟩
      · omega
      · have g0 := hc k hlt
        have hul := HR.out.lt _ (getD_mem (us := xs) (j := k) (by rw [HR.out.length]; exact hlt))
        have HSN : Hid _ := sumO_snoc (some 0) xs (k := k) (by rw [HR.out.length]; exact hlt)
        obtain ⟨u, hu⟩ : ∃ u, xs[k]?.getD 0 = u := ⟨_, rfl⟩
        rw [hu] at g0 hul HSN
        obtain ⟨o, ho⟩ : ∃ o, sumO (some 0) (xs.take k) = o := ⟨_, rfl⟩
        rw [ho] at K1 HSN
        obtain ⟨nb, xo, l, c, e, hblk, hz⟩ := K1.out
        have HBK : Hid _ := hblk
        have HRO : Hid (RefO wr.drew (.agg #[.bool nb, .slice xo l c, .int .i64 e, .bool o.isNone]) o) := ⟨nb, xo, l, c, e, rfl, fun z hz' => NumC.later (hz z hz') ((Below.refl _ wr).drew)⟩
        obtain ⟨x0, x1, x2, x3⟩ := four_cells hblk
        have i0 : (0 : Int) ≤ (k : Int) := by omega
        have i1 : (k : Int) < (len : Int) := by omega
        have HWL : Hid (w.heap.size < wr.heap.size) := (Array.getElem?_eq_some_iff.1 hblk).1
        clear hr hc hu ho hz hblk K1
        go_wp2_with fail
        go_region_with ((go_at_call 45; refine (refAdd3_any _ o u hul _ HRO.out).mono ?_; rintro e8 w8 ⟨v8, rfl, ⟨nb8, ao8, l8, c8, e9, rfl, hz8⟩, b8⟩; have R8 : Hid (w8.heap[w.heap.size]? = _) := (b8.block w.heap.size HWL.out).trans HBK.out; obtain ⟨r0, r1, r2, r3⟩ := four_cells R8.out; have rf := fun j => frozen_of_row _ _ j _ _ R8.out))
        all_goals
          have Z8 : Hid (∀ y, prodO o u 4607182418800017408 0 = some y → NumC w8 (.agg #[.bool nb8, .slice ao8 l8 c8, .int .i64 e9]) 2240 2560 y) := hz8
          have B8 : Hid (Below w.heap.size w w8) := K2.out.trans (((Below.refl _ wr).drew.trans b8).mono K2.out.size)
          clear hz8 b8 g0 x0 x1 x2 x3
          go_wp2_with fail
          go_roundw
          case rel =>
            refine ⟨k + 1, by omega, by go_num, ?_, below_set4 _ _ _ _ B8.out (by omega)⟩
            unfold Hid
            rw [HSN.out]
            exact ⟨nb8, ao8, l8, c8, e9, set4_heap _ _ _ _ R8.out, fun y hy => NumC.keep (acc4_not R8.out) (heap_set4 _ _ _ _) (Z8.out y hy)⟩
          case measure => simp [intOf]; omega
    · have hkl : k = len := by omega
      have hd : decide ((k : Int) < (len : Int)) = false := decide_eq_false (by omega)
      have K1' : Hid (RefB wr w.heap.size (sumO (some 0) xs)) := by
        have := K1.out
        rw [hkl, ← HR.out.length, List.take_length] at this
        exact this
      clear hkl
      obtain ⟨o, ho⟩ : ∃ o, sumO (some 0) xs = o := ⟨_, rfl⟩
      rw [ho] at K1'
      have HO : Hid _ := ho
      obtain ⟨nb, xo, l, c, e, hblk, hz⟩ := K1'.out
      obtain ⟨x0, x1, x2, x3⟩ := four_cells hblk
      have HRO : Hid (RefO wr (.agg #[.bool nb, .slice xo l c, .int .i64 e, .bool o.isNone]) o) := ⟨nb, xo, l, c, e, rfl, hz⟩
      clear hz hblk ho
      go_wp2_with fail
      refine (refRound3_any _ o d hd0 hd1 _ HRO.out).mono ?_
      rintro e1 w3 ⟨u, b, rfl, r1, r2⟩
      have R1 : Hid (RndO d o u b) := r1
      have R2 : Hid (Below w.heap.size w w3) := K2.out.trans (r2.mono K2.out.size)
      clear r1 r2
      go_wp2_with fail
      go_ret2
      exact ⟨u, b, rfl, by rw [HO.out]; exact R1.out, R2.out⟩
end Go.Proofs.Ytbeaggmiefpgoaa
