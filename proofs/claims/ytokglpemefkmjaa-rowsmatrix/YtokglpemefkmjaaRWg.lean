import Derived.Test.YtokglpemefkmjaaRWd
namespace Go.Proofs.Ytokglpemefkmjaa
open Go.RowKit
set_option linter.unusedVariables false
set_option linter.unusedSimpArgs false
theorem run_minI (x y : Int) : ∀ ts t w, (Builtin.min_ ts t #[.int .i64 x, .int .i64 y]).run Try.prog w = .ok (.int .i64 (min x y)) w := by
  intro ts t w
  rw [run_min_int2]
  congr 2
  split <;> omega
theorem run_maxI (x y : Int) : ∀ ts t w, (Builtin.max_ ts t #[.int .i64 x, .int .i64 y]).run Try.prog w = .ok (.int .i64 (max x y)) w := by
  intro ts t w
  rw [run_max_int2]
  congr 2
  split <;> omega

set_option maxRecDepth 100000 in
set_option maxHeartbeats 2000000 in
theorem withinP_any (x0 x1 x2 x3 x4 x5 x6 x7 x8 x9 x10 x11 x12 x13 : Value) (c h k t0 t1 t2 f0 f1 f2 b0 b1 b2 y0 y1 z0 z1 : Int)
    (hW : ∀ w, Calls Try.prog 42 #[.agg #[x0, x1, x2, x3, x4, x5, x6, x7, x8, x9, x10, x11, x12, x13], .agg #[.int .i64 c, .int .i64 h, .int .i64 k], .agg #[.int .i64 t0, .int .i64 t1, .int .i64 t2]] w fun e w' =>
      e = .returned (.tuple #[.agg #[.int .i64 f0, .int .i64 f1, .int .i64 f2], .agg #[.int .i64 b0, .int .i64 b1, .int .i64 b2]]) ∧ Below w.heap.size w w')
    (hf0 : -1000000 ≤ f0 ∧ f0 ≤ 1000000) (hy0 : max f1 0 = y0) (hy1 : min b1 h = y1) (hz0 : max f2 0 = z0) (hz1 : min b2 k = z1) (hh : h ≤ 256) (hkk : k ≤ 256) (hf1 : f1 ≤ 1000000) (hf2 : f2 ≤ 1000000) (hb0 : b0 ≤ f0 + 256) (hb1 : b1 ≤ f1 + 16) (hb2 : b2 ≤ f2 + 16) (w : World) :
    Calls Try.prog 26 #[.agg #[x0, x1, x2, x3, x4, x5, x6, x7, x8, x9, x10, x11, x12, x13], .agg #[.int .i64 c, .int .i64 h, .int .i64 k], .agg #[.int .i64 t0, .int .i64 t1, .int .i64 t2]] w fun e w' =>
      ∃ v, e = .returned v ∧ OwnP w' w.heap.size v (csP f0 b0 y0 y1 z0 z1) ∧ Below w.heap.size w w' := by
  have HW : Hid _ := hW
  clear hW
  have M1 := run_maxI f1 0
  have M2 := run_minI b1 h
  have M3 := run_maxI f2 0
  have M4 := run_minI b2 k
  rw [hy0] at M1
  rw [hy1] at M2
  rw [hz0] at M3
  rw [hz1] at M4
  have hyb : y1 - y0 ≤ 16 := by omega
  have hzb : z1 - z0 ≤ 16 := by omega
  have hy2 : 0 ≤ y0 ∧ y0 ≤ 1000000 ∧ y1 ≤ 256 := by omega
  have hz2 : 0 ≤ z0 ∧ z0 ≤ 1000000 ∧ z1 ≤ 256 := by omega
  clear hy0 hy1 hz0 hz1
  go_enter Try.func26, Try.ntmps26
  go_wp2_with fail
  refine Calls.mono (HW.out _) ?_
  rintro e w1 ⟨rfl, hb⟩
  have HB1 : Hid (Below w.heap.size w w1) := to_call ((((Below.refl _ w).alloc (Nat.le_refl _) _).alloc (by simp only [alloc_size]; omega) _).alloc (by simp only [alloc_size]; omega) _) hb
  have k1 := kept hb (alloc_kept (heap_at _ _ (w.heap.size + 1) (by simp only [alloc_size])) _)
  have hsz := HB1.out.size
  clear hb HW
  go_wp2_with fail
  have B0 : Hid (Below w.heap.size w ((w1.alloc (Obj.cells #[Value.int IntKind.i64 f0, Value.int IntKind.i64 f1, Value.int IntKind.i64 f2] 69)).alloc (Obj.cells #[Value.int IntKind.i64 b0, Value.int IntKind.i64 b1, Value.int IntKind.i64 b2] 69))) := (HB1.out.alloc hsz _).alloc (by simp only [alloc_size]; omega) _
  have m1 := alloc_kept (alloc_kept k1 (Obj.cells #[Value.int IntKind.i64 f0, Value.int IntKind.i64 f1, Value.int IntKind.i64 f2] 69)) (Obj.cells #[Value.int IntKind.i64 b0, Value.int IntKind.i64 b1, Value.int IntKind.i64 b2] 69)
  have m2 := alloc_kept (heap_alloc_new w1 (Obj.cells #[Value.int IntKind.i64 f0, Value.int IntKind.i64 f1, Value.int IntKind.i64 f2] 69)) (Obj.cells #[Value.int IntKind.i64 b0, Value.int IntKind.i64 b1, Value.int IntKind.i64 b2] 69)
  have m3 := heap_at (w1.alloc (Obj.cells #[Value.int IntKind.i64 f0, Value.int IntKind.i64 f1, Value.int IntKind.i64 f2] 69)) (Obj.cells #[Value.int IntKind.i64 b0, Value.int IntKind.i64 b1, Value.int IntKind.i64 b2] 69) (w1.heap.size + 1) (by simp only [alloc_size])
  have hsW : ((w1.alloc (Obj.cells #[Value.int IntKind.i64 f0, Value.int IntKind.i64 f1, Value.int IntKind.i64 f2] 69)).alloc (Obj.cells #[Value.int IntKind.i64 b0, Value.int IntKind.i64 b1, Value.int IntKind.i64 b2] 69)).heap.size = w1.heap.size + 1 + 1 := by simp only [alloc_size]
  generalize ((w1.alloc (Obj.cells #[Value.int IntKind.i64 f0, Value.int IntKind.i64 f1, Value.int IntKind.i64 f2] 69)).alloc (Obj.cells #[Value.int IntKind.i64 b0, Value.int IntKind.i64 b1, Value.int IntKind.i64 b2] 69)) = W at *
  have M : Hid (W.heap[w.heap.size + 1]? = _ ∧ W.heap[w1.heap.size]? = _ ∧ W.heap[w1.heap.size + 1]? = _) := ⟨m1, m2, m3⟩
  clear m1 m2 m3 k1 HB1
  go_loopw [9, 10] (fun v iv wr => ∃ c' : Int, iv = .int .i64 c' ∧ f0 ≤ c' ∧ c' ≤ max f0 b0 ∧ Hid (OwnP wr W.heap.size v (csP f0 c' y0 y1 z0 z1)) ∧ Hid (Below W.heap.size W wr)) (fun v iv _ => (max f0 b0 - intOf iv).toNat)
  case atStart => exact ⟨f0, rfl, by omega, by omega, by unfold Hid csP; rw [upto_none (Int.le_refl _)]; exact OwnP.nil _ _, Below.refl _ _⟩
  case round =>
    obtain ⟨c', rfl, hc0, hc1, O1, K1⟩ := hrel
    obtain ⟨g0, g1, g2⟩ := cells3 ((K1.out.block _ (blk_lt M.out.1)).trans M.out.1)
    obtain ⟨p0, p1, p2⟩ := cells3 ((K1.out.block _ (blk_lt M.out.2.1)).trans M.out.2.1)
    obtain ⟨q0, q1, q2⟩ := cells3 ((K1.out.block _ (blk_lt M.out.2.2)).trans M.out.2.2)
    by_cases hlt : c' < b0
    · have hd : decide (c' < b0) = true := decide_eq_true hlt
      go_wp2_with fail
      go_loopw [9, 11] (fun v iv wr => ∃ y : Int, iv = .int .i64 y ∧ y0 ≤ y ∧ y ≤ max y0 y1 ∧ Hid (OwnP wr W.heap.size v (csP f0 c' y0 y1 z0 z1 ++ ysP c' y0 y z0 z1)) ∧ Hid (Below W.heap.size W wr)) (fun v iv _ => (max y0 y1 - intOf iv).toNat)
      case atStart => exact ⟨y0, rfl, by omega, by omega, by unfold Hid ysP; rw [upto_none (Int.le_refl _)]; simpa using O1.out, K1.out⟩
      case round =>
        clear O1 K1 g0 g1 g2 p0 p1 p2 q0 q1 q2
        obtain ⟨y, rfl, hy0, hy1, O1, K1⟩ := hrel
        obtain ⟨g0, g1, g2⟩ := cells3 ((K1.out.block _ (blk_lt M.out.1)).trans M.out.1)
        obtain ⟨p0, p1, p2⟩ := cells3 ((K1.out.block _ (blk_lt M.out.2.1)).trans M.out.2.1)
        obtain ⟨q0, q1, q2⟩ := cells3 ((K1.out.block _ (blk_lt M.out.2.2)).trans M.out.2.2)
        by_cases hlt2 : y < y1
        · have hd2 : decide (y < y1) = true := decide_eq_true hlt2
          go_wp2_with fail
          go_loopw [9, 12] (fun v iv wr => ∃ x : Int, iv = .int .i64 x ∧ z0 ≤ x ∧ x ≤ max z0 z1 ∧ Hid (OwnP wr W.heap.size v (csP f0 c' y0 y1 z0 z1 ++ ysP c' y0 y z0 z1 ++ xsP c' y z0 x)) ∧ Hid (Below W.heap.size W wr)) (fun v iv _ => (max z0 z1 - intOf iv).toNat)
          case atStart => exact ⟨z0, rfl, by omega, by omega, by unfold Hid xsP; rw [upto_none (Int.le_refl _)]; simpa using O1.out, K1.out⟩
          case round =>
            clear O1 K1 g0 g1 g2 p0 p1 p2 q0 q1 q2
            obtain ⟨x, rfl, hx0, hx1, O1, K1⟩ := hrel
            obtain ⟨g0, g1, g2⟩ := cells3 ((K1.out.block _ (blk_lt M.out.1)).trans M.out.1)
            obtain ⟨p0, p1, p2⟩ := cells3 ((K1.out.block _ (blk_lt M.out.2.1)).trans M.out.2.1)
            obtain ⟨q0, q1, q2⟩ := cells3 ((K1.out.block _ (blk_lt M.out.2.2)).trans M.out.2.2)
            by_cases hlt3 : x < z1
            · have hd3 : decide (x < z1) = true := decide_eq_true hlt3
              have hlen : (csP f0 c' y0 y1 z0 z1 ++ ysP c' y0 y z0 z1 ++ xsP c' y z0 x).length + 1 ≤ 1000000 := by
                have l1 := csP_le (c0 := f0) (c := c') (y0 := y0) (y1 := y1) (x0 := z0) (x1 := z1) hzb hyb (by omega)
                have l2 := ysP_le (c := c') (y0 := y0) (y := y) (x0 := z0) (x1 := z1) hzb (by omega)
                have l3 := xsP_le (c := c') (y := y) (x0 := z0) (x := x) (by omega)
                rw [List.length_append, List.length_append]
                omega
              have hw3 : IntKind.i64.wrap (x + 1) = x + 1 := by rw [IntKind.wrap_i64]; omega
              have hbs := K1.out.size
              go_wp2_with (first
                | (at_builtin; refine appendP wr (by rfl) _ _ (by rfl) W.heap.size _ _ (by rfl) O1.out c' y x (by rfl) hlen hbs ?_; intro v5 w5 hO5 hb5 hk5; have HO5 : Hid _ := hO5; have HB5 : Hid (Below W.heap.size wr w5) := hb5; clear hO5 hb5 hk5))
              go_roundw
              case rel => exact ⟨x + 1, by simp, by omega, by omega, by have := HO5.out; rw [List.append_assoc, ← xsP_snoc hx0] at this; exact this, K1.out.trans HB5.out⟩
              case measure => simp [intOf]; omega
            · have hd3 : decide (x < z1) = false := decide_eq_false hlt3
              have hw2 : IntKind.i64.wrap (y + 1) = y + 1 := by rw [IntKind.wrap_i64]; omega
              have ex : x = max z0 z1 := by omega
              have HO6 : Hid _ := O1.out
              rw [ex] at HO6
              go_wp2_with fail
              go_roundw
              case rel => exact ⟨y + 1, by simp, by omega, by omega, by have := HO6.out; rw [List.append_assoc, show xsP c' y z0 (max z0 z1) = xsP c' y z0 z1 by unfold xsP; rw [upto_max], ← ysP_snoc hy0] at this; exact this, K1.out⟩
              case measure => simp [intOf]; omega
        · have hd2 : decide (y < y1) = false := decide_eq_false hlt2
          have hw1 : IntKind.i64.wrap (c' + 1) = c' + 1 := by rw [IntKind.wrap_i64]; omega
          have ey : y = max y0 y1 := by omega
          have HO6 : Hid _ := O1.out
          rw [ey] at HO6
          go_wp2_with fail
          go_roundw
          case rel => exact ⟨c' + 1, by simp, by omega, by omega, by have := HO6.out; rw [show ysP c' y0 (max y0 y1) z0 z1 = ysP c' y0 y1 z0 z1 by unfold ysP; rw [upto_max], ← csP_snoc hc0] at this; exact this, K1.out⟩
          case measure => simp [intOf]; omega
    · have hd : decide (c' < b0) = false := decide_eq_false hlt
      go_wp2_with fail
      go_ret
      refine ⟨_, rfl, ?_, B0.out.trans (K1.out.mono B0.out.size)⟩
      have e : c' = max f0 b0 := by omega
      have := O1.out
      rw [e] at this
      unfold csP at this ⊢
      rw [upto_max] at this
      exact this.mono B0.out.size
end Go.Proofs.Ytokglpemefkmjaa
