import Derived.Test.YtbeaggmiefpgoaaXD
namespace Go.Proofs.Ytbeaggmiefpgoaa
open Go.RowKit
set_option linter.unusedVariables false

theorem RdU.block {w : World} {ao : Option Addr} {len cap : Nat} {xs : List Nat} (h : RdU w ao len cap xs) {b off k : Nat} (hk : k < len) (e : ao = some ⟨b, off, none⟩) : b < w.heap.size := by
  rcases h.cells with h0 | ⟨b2, off2, e2, hc2⟩
  · omega
  · rw [e] at e2; cases e2; exact World.block_lt_of_cell? w _ (hc2 k hk)
set_option maxRecDepth 100000 in
set_option maxHeartbeats 2000000 in
theorem refDot_any (d : Int) (hd0 : -9223372036854775808 ≤ d) (hd1 : d ≤ 9223372036854775807) (ao bo : Option Addr) (len cap blen bcap : Nat) (xs ys : List Nat) (w : World) (h : RdU w ao len cap xs) (h' : RdU w bo blen bcap ys) (hm : len ≤ 1000000) (hm' : blen ≤ 1000000) :
    Calls Try.prog 17 #[.int .i64 d, .slice ao len cap, .slice bo blen bcap] w fun e w' => ∃ (u : Nat) (b : Bool), e = .returned (.tuple #[.int .u64 (u : Int), .bool b]) ∧ RndO d (dotP len blen xs ys) u b ∧ Below w.heap.size w w' := by
  have HR : Hid (RdU w ao len cap xs) := h
  have HQ : Hid (RdU w bo blen bcap ys) := h'
  clear h h'
  by_cases hne : len = blen
  · subst hne
    have HI : Hid (∀ u b, RndO d (dotO (some 0) xs ys) u b → RndO d (dotP len len xs ys) u b) := fun u b h => by unfold dotP; rw [if_pos rfl]; exact h
    go_enter Try.func17, Try.ntmps17
    go_wp2_with fail
    go_loopw [9] (fun iv wr => ∃ k : Nat, k ≤ len ∧ iv = .int .i64 k ∧ Hid (RefB wr w.heap.size (dotO (some 0) (xs.take k) (ys.take k))) ∧ Hid (Below w.heap.size w wr)) (fun iv _ => len - (intOf iv).toNat)
    case atStart => exact ⟨0, by omega, rfl, refB_zero w, (Below.refl _ w).alloc (Nat.le_refl _) _⟩
    case round =>
      obtain ⟨k, hk, rfl, K1, K2⟩ := hrel
      by_cases hlt : k < len
      · have hd : decide ((k : Int) < (len : Int)) = true := decide_eq_true (by omega)
        have hr := HR.out.later K2.out
        have hq := HQ.out.later K2.out
        rcases hr.cells with h0 | ⟨b, off, rfl, hc⟩
        · omega
        · rcases hq.cells with h0 | ⟨b', off', rfl, hc'⟩
          · omega
          · have g0 := hc k hlt
            have g1 := hc' k hlt
            have hul := HR.out.lt _ (getD_mem (us := xs) (j := k) (by rw [HR.out.length]; exact hlt))
            have hvl := HQ.out.lt _ (getD_mem (us := ys) (j := k) (by rw [HQ.out.length]; exact hlt))
            have HSN : Hid _ := dotO_snoc (some 0) xs ys (k := k) (by rw [HR.out.length]; exact hlt) (by rw [HQ.out.length]; exact hlt)
            have n0 : b < w.heap.size := HR.out.block hlt rfl
            have n1 : b' < w.heap.size := HQ.out.block hlt rfl
            obtain ⟨u, hu⟩ : ∃ u, xs[k]?.getD 0 = u := ⟨_, rfl⟩
            obtain ⟨v, hv⟩ : ∃ v, ys[k]?.getD 0 = v := ⟨_, rfl⟩
            rw [hu, hv] at HSN
            rw [hu] at g0 hul
            rw [hv] at g1 hvl
            obtain ⟨o, ho⟩ : ∃ o, dotO (some 0) (xs.take k) (ys.take k) = o := ⟨_, rfl⟩
            rw [ho] at K1 HSN
            obtain ⟨nb, xo, l, c, e, hblk, hz⟩ := K1.out
            have HBK : Hid _ := hblk
            have HRO : Hid (RefO wr.drew (.agg #[.bool nb, .slice xo l c, .int .i64 e, .bool o.isNone]) o) := ⟨nb, xo, l, c, e, rfl, fun z hz' => NumC.later (hz z hz') ((Below.refl _ wr).drew)⟩
            obtain ⟨x0, x1, x2, x3⟩ := four_cells hblk
            have i0 : (0 : Int) ≤ (k : Int) := by omega
            have i1 : (k : Int) < (len : Int) := by omega
            have HWL : Hid (w.heap.size < wr.heap.size) := (Array.getElem?_eq_some_iff.1 hblk).1
            have y0 : ¬ b = w.heap.size := by omega
            have y0' : ¬ w.heap.size = b := by omega
            have y1 : ¬ b' = w.heap.size := by omega
            have y1' : ¬ w.heap.size = b' := by omega
            have HG : Hid (∀ w3, Below wr.heap.size wr w3 → w3.cell? ⟨b, off + k, none⟩ = some (.int .u64 (u : Int)) ∧ w3.cell? ⟨b', off' + k, none⟩ = some (.int .u64 (v : Int))) := by
              intro w3 hc3
              have := HWL.out
              exact ⟨by rw [hc3.cell (p := ⟨b, off + k, none⟩) (by show b < _; omega)]; exact g0, by rw [hc3.cell (p := ⟨b', off' + k, none⟩) (by show b' < _; omega)]; exact g1⟩
            clear hr hq hc hc' hu hv ho hz hblk K1
            go_wp2_with fail
            go_region_with ((go_at_call 46; refine (refProd_any _ o u v 0 hul hvl _ HRO.out).mono ?_; rintro e8 w8 ⟨v8, rfl, ⟨nb8, ao8, l8, c8, e9, rfl, hz8⟩, b8⟩; have B8 : Hid (Below wr.heap.size wr w8) := (Below.refl _ wr).drew.trans b8; have R8 : Hid (w8.heap[w.heap.size]? = _) := (b8.block w.heap.size HWL.out).trans HBK.out; obtain ⟨r0, r1, r2, r3⟩ := four_cells R8.out; have rf := fun j => frozen_of_row _ _ j _ _ R8.out; obtain ⟨q1, q2⟩ := HG.out w8 B8.out; have Z8 : Hid (∀ y, prodO o u v 0 = some y → NumC w8 (.agg #[.bool nb8, .slice ao8 l8 c8, .int .i64 e9]) 2240 2560 y) := hz8; clear hz8 b8))
            all_goals
              have B8' : Hid (Below w.heap.size w w8) := K2.out.trans (B8.out.mono K2.out.size)
              clear g0 g1 x0 x1 x2 x3 q1 q2
              go_wp2_with fail
              go_roundw
              case rel =>
                refine ⟨k + 1, by omega, by go_num, ?_, below_set4 _ _ _ _ B8'.out (by omega)⟩
                unfold Hid
                rw [HSN.out]
                exact ⟨nb8, ao8, l8, c8, e9, set4_heap _ _ _ _ R8.out, fun y hy => NumC.keep (acc4_not R8.out) (heap_set4 _ _ _ _) (Z8.out y hy)⟩
              case measure => simp [intOf]; omega
      · have hkl : k = len := by omega
        have hd : decide ((k : Int) < (len : Int)) = false := decide_eq_false (by omega)
        have K1' : Hid (RefB wr w.heap.size (dotO (some 0) xs ys)) := by
          have := K1.out
          rw [hkl] at this
          have e1 : xs.take len = xs := by rw [← HR.out.length, List.take_length]
          have e2 : ys.take len = ys := by rw [← HQ.out.length, List.take_length]
          rw [e1, e2] at this
          exact this
        clear hkl
        obtain ⟨o, ho⟩ : ∃ o, dotO (some 0) xs ys = o := ⟨_, rfl⟩
        rw [ho] at K1'
        have HO : Hid _ := ho
        obtain ⟨nb, xo, l, c, e, hblk, hz⟩ := K1'.out
        obtain ⟨x0, x1, x2, x3⟩ := four_cells hblk
        have HRO : Hid (RefO wr (.agg #[.bool nb, .slice xo l c, .int .i64 e, .bool o.isNone]) o) := ⟨nb, xo, l, c, e, rfl, hz⟩
        clear hz hblk ho
        go_wp2_with fail
        refine (refRound3_any _ o d hd0 hd1 _ HRO.out).mono ?_
        rintro e1 w3 ⟨u, b, rfl, r1, r2⟩
        have R1 : Hid (RndO d o u b) := r1
        have R2 : Hid (Below w.heap.size w w3) := K2.out.trans (r2.mono K2.out.size)
        clear r1 r2
        go_wp2_with fail
        go_ret2
        exact ⟨u, b, rfl, HI.out u b (by rw [HO.out]; exact R1.out), R2.out⟩
  · have hnb : ((len : Int) != (blen : Int)) = true := by simp; omega
    have HI : Hid (RndO d (dotP len blen xs ys) 0 false) := by unfold Hid dotP; rw [if_neg hne]; exact ⟨rfl, rfl⟩
    clear hne
    go_enter Try.func17, Try.ntmps17
    go_wp2_with fail
    go_ret2
    exact ⟨0, false, rfl, HI.out, Below.refl _ _⟩
end Go.Proofs.Ytbeaggmiefpgoaa
