import Derived.Test.YtmbnbleahehdaaaKG
namespace Go.Proofs.Ytmbnbleahehdaaa
open Go.RowKit
set_option linter.unusedVariables false

theorem ix8_0 (g0 g1 g2 g3 g4 g5 g6 g7 : Int) (w : World) : (Instr.index 102 (.agg #[.int .i64 g0, .int .i64 g1, .int .i64 g2, .int .i64 g3, .int .i64 g4, .int .i64 g5, .int .i64 g6, .int .i64 g7]) (.int .i64 0)).run Try.prog w = .ok (.int .i64 g0) w := by kernel_rfl
theorem ix8_1 (g0 g1 g2 g3 g4 g5 g6 g7 : Int) (w : World) : (Instr.index 102 (.agg #[.int .i64 g0, .int .i64 g1, .int .i64 g2, .int .i64 g3, .int .i64 g4, .int .i64 g5, .int .i64 g6, .int .i64 g7]) (.int .i64 1)).run Try.prog w = .ok (.int .i64 g1) w := by kernel_rfl
theorem ix8_2 (g0 g1 g2 g3 g4 g5 g6 g7 : Int) (w : World) : (Instr.index 102 (.agg #[.int .i64 g0, .int .i64 g1, .int .i64 g2, .int .i64 g3, .int .i64 g4, .int .i64 g5, .int .i64 g6, .int .i64 g7]) (.int .i64 2)).run Try.prog w = .ok (.int .i64 g2) w := by kernel_rfl
theorem ix8_3 (g0 g1 g2 g3 g4 g5 g6 g7 : Int) (w : World) : (Instr.index 102 (.agg #[.int .i64 g0, .int .i64 g1, .int .i64 g2, .int .i64 g3, .int .i64 g4, .int .i64 g5, .int .i64 g6, .int .i64 g7]) (.int .i64 3)).run Try.prog w = .ok (.int .i64 g3) w := by kernel_rfl
theorem ix8_4 (g0 g1 g2 g3 g4 g5 g6 g7 : Int) (w : World) : (Instr.index 102 (.agg #[.int .i64 g0, .int .i64 g1, .int .i64 g2, .int .i64 g3, .int .i64 g4, .int .i64 g5, .int .i64 g6, .int .i64 g7]) (.int .i64 4)).run Try.prog w = .ok (.int .i64 g4) w := by kernel_rfl
theorem ix8_5 (g0 g1 g2 g3 g4 g5 g6 g7 : Int) (w : World) : (Instr.index 102 (.agg #[.int .i64 g0, .int .i64 g1, .int .i64 g2, .int .i64 g3, .int .i64 g4, .int .i64 g5, .int .i64 g6, .int .i64 g7]) (.int .i64 5)).run Try.prog w = .ok (.int .i64 g5) w := by kernel_rfl
theorem ix8_6 (g0 g1 g2 g3 g4 g5 g6 g7 : Int) (w : World) : (Instr.index 102 (.agg #[.int .i64 g0, .int .i64 g1, .int .i64 g2, .int .i64 g3, .int .i64 g4, .int .i64 g5, .int .i64 g6, .int .i64 g7]) (.int .i64 6)).run Try.prog w = .ok (.int .i64 g6) w := by kernel_rfl
theorem ix8_7 (g0 g1 g2 g3 g4 g5 g6 g7 : Int) (w : World) : (Instr.index 102 (.agg #[.int .i64 g0, .int .i64 g1, .int .i64 g2, .int .i64 g3, .int .i64 g4, .int .i64 g5, .int .i64 g6, .int .i64 g7]) (.int .i64 7)).run Try.prog w = .ok (.int .i64 g7) w := by kernel_rfl
theorem cellAt {W : World} {B : Nat} {c : Array Value} {t : TypeId} (h : W.heap[B]? = some (.cells c t)) (o : Nat) (v : Value) (hv : c[o]? = some v) : W.cell? ⟨B, o, none⟩ = some v := (cell_of_row _ _ o _ _ _ h).trans hv
theorem inB_true {a n b : Int} (h : a ≤ n ∧ n ≤ b) : inB a n b = true := inB_iff.2 h
set_option maxRecDepth 100000 in
set_option maxHeartbeats 2000000 in
theorem fields_ok (l0 l1 l2 l3 l4 l5 l6 l7 m0 m1 m2 m3 m4 m5 m6 m7 g0 g1 g2 g3 g4 g5 g6 g7 c h k n1 n2 n3 n4 K : Int) (v1 v2 v3 v4 : Value) (q0 : l0 ≤ g0 ∧ g0 ≤ m0) (q1 : l1 ≤ g1 ∧ g1 ≤ m1) (q2 : l2 ≤ g2 ∧ g2 ≤ m2) (q3 : l3 ≤ g3 ∧ g3 ≤ m3) (q4 : l4 ≤ g4 ∧ g4 ≤ m4) (q5 : l5 ≤ g5 ∧ g5 ≤ m5) (q6 : l6 ≤ g6 ∧ g6 ≤ m6) (q7 : l7 ≤ g7 ∧ g7 ≤ m7) (w : World) :
    Calls Try.prog 43 #[.agg #[.int .i64 l0, .int .i64 m0, .int .i64 l1, .int .i64 m1, .int .i64 l2, .int .i64 m2, .int .i64 l3, .int .i64 m3, .int .i64 l4, .int .i64 m4, .int .i64 l5, .int .i64 m5, .int .i64 l6, .int .i64 m6, .int .i64 l7, .int .i64 m7, .int .i64 0, .int .i64 c, .int .i64 h, .int .i64 k, .int .i64 n1, .int .i64 n2, .int .i64 n3, .int .i64 n4], .agg #[.int .i64 K, .int .i64 g0, .int .i64 g1, .int .i64 g2, .int .i64 g3, .int .i64 g4, .int .i64 g5, .int .i64 g6, .int .i64 g7, .float .f64 0, v1, v2, v3, v4]] w fun e w' => e = .returned (.int .i64 0) ∧ Below w.heap.size w w' := by
  go_enter Try.func43, Try.ntmps43
  go_upto_region 2 with fail
  go_loopg [24] 8 (fun g v wx => ∃ (i : Nat), v = .int .i64 i ∧ i + g = 8 ∧ Hid (Below w.heap.size w wx) ∧ Hid (wx.heap[w.heap.size]? = some (.cells #[.int .i64 l0, .int .i64 m0, .int .i64 l1, .int .i64 m1, .int .i64 l2, .int .i64 m2, .int .i64 l3, .int .i64 m3, .int .i64 l4, .int .i64 m4, .int .i64 l5, .int .i64 m5, .int .i64 l6, .int .i64 m6, .int .i64 l7, .int .i64 m7, .int .i64 0, .int .i64 c, .int .i64 h, .int .i64 k, .int .i64 n1, .int .i64 n2, .int .i64 n3, .int .i64 n4] 86) ∧ wx.heap[w.heap.size + 1]? = some (.cells #[.int .i64 K, .int .i64 g0, .int .i64 g1, .int .i64 g2, .int .i64 g3, .int .i64 g4, .int .i64 g5, .int .i64 g6, .int .i64 g7, .float .f64 0, v1, v2, v3, v4] 30)))
  case atStart => exact ⟨0, rfl, by omega, (((Below.refl _ w).alloc (Nat.le_refl _) _).alloc (by simp only [alloc_size]; omega) _), alloc_kept (heap_alloc_new w _) _, heap_at _ _ (w.heap.size + 1) (by simp only [alloc_size])⟩
  case round =>
    obtain ⟨i, rfl, hi, HB, HK⟩ := hrel
    obtain rfl | rfl | rfl | rfl | rfl | rfl | rfl | rfl | rfl : i = 0 ∨ i = 1 ∨ i = 2 ∨ i = 3 ∨ i = 4 ∨ i = 5 ∨ i = 6 ∨ i = 7 ∨ i = 8 := by omega
    · have hix := ix8_0 g0 g1 g2 g3 g4 g5 g6 g7 wr
      have c0 := cellAt HK.out.1 0 (.int .i64 l0) rfl
      have c1 := cellAt HK.out.1 1 (.int .i64 m0) rfl
      have HH : Hid _ := holds_in l0 m0 g0 wr
      rw [inB_true q0] at HH
      clear q0 q1 q2 q3 q4 q5 q6 q7
      go_wp2_with fail
      refine Calls.mono HH.out ?_
      rintro e w2 ⟨rfl, hb⟩
      have HB2 : Hid (Below w.heap.size w w2) := to_call HB.out hb
      have HK2 : Hid _ := (And.intro (kept hb HK.out.1) (kept hb HK.out.2))
      clear hb HH c0 c1 hix HB HK
      go_wp2
      go_roundg 7
      case measure => omega
      case rel => exact ⟨1, rfl, by omega, HB2, HK2⟩
    · have hix := ix8_1 g0 g1 g2 g3 g4 g5 g6 g7 wr
      have c0 := cellAt HK.out.1 2 (.int .i64 l1) rfl
      have c1 := cellAt HK.out.1 3 (.int .i64 m1) rfl
      have HH : Hid _ := holds_in l1 m1 g1 wr
      rw [inB_true q1] at HH
      clear q0 q1 q2 q3 q4 q5 q6 q7
      go_wp2_with fail
      refine Calls.mono HH.out ?_
      rintro e w2 ⟨rfl, hb⟩
      have HB2 : Hid (Below w.heap.size w w2) := to_call HB.out hb
      have HK2 : Hid _ := (And.intro (kept hb HK.out.1) (kept hb HK.out.2))
      clear hb HH c0 c1 hix HB HK
      go_wp2
      go_roundg 6
      case measure => omega
      case rel => exact ⟨2, rfl, by omega, HB2, HK2⟩
    · have hix := ix8_2 g0 g1 g2 g3 g4 g5 g6 g7 wr
      have c0 := cellAt HK.out.1 4 (.int .i64 l2) rfl
      have c1 := cellAt HK.out.1 5 (.int .i64 m2) rfl
      have HH : Hid _ := holds_in l2 m2 g2 wr
      rw [inB_true q2] at HH
      clear q0 q1 q2 q3 q4 q5 q6 q7
      go_wp2_with fail
      refine Calls.mono HH.out ?_
      rintro e w2 ⟨rfl, hb⟩
      have HB2 : Hid (Below w.heap.size w w2) := to_call HB.out hb
      have HK2 : Hid _ := (And.intro (kept hb HK.out.1) (kept hb HK.out.2))
      clear hb HH c0 c1 hix HB HK
      go_wp2
      go_roundg 5
      case measure => omega
      case rel => exact ⟨3, rfl, by omega, HB2, HK2⟩
    · have hix := ix8_3 g0 g1 g2 g3 g4 g5 g6 g7 wr
      have c0 := cellAt HK.out.1 6 (.int .i64 l3) rfl
      have c1 := cellAt HK.out.1 7 (.int .i64 m3) rfl
      have HH : Hid _ := holds_in l3 m3 g3 wr
      rw [inB_true q3] at HH
      clear q0 q1 q2 q3 q4 q5 q6 q7
      go_wp2_with fail
      refine Calls.mono HH.out ?_
      rintro e w2 ⟨rfl, hb⟩
      have HB2 : Hid (Below w.heap.size w w2) := to_call HB.out hb
      have HK2 : Hid _ := (And.intro (kept hb HK.out.1) (kept hb HK.out.2))
      clear hb HH c0 c1 hix HB HK
      go_wp2
      go_roundg 4
      case measure => omega
      case rel => exact ⟨4, rfl, by omega, HB2, HK2⟩
    · have hix := ix8_4 g0 g1 g2 g3 g4 g5 g6 g7 wr
      have c0 := cellAt HK.out.1 8 (.int .i64 l4) rfl
      have c1 := cellAt HK.out.1 9 (.int .i64 m4) rfl
      have HH : Hid _ := holds_in l4 m4 g4 wr
      rw [inB_true q4] at HH
      clear q0 q1 q2 q3 q4 q5 q6 q7
      go_wp2_with fail
      refine Calls.mono HH.out ?_
      rintro e w2 ⟨rfl, hb⟩
      have HB2 : Hid (Below w.heap.size w w2) := to_call HB.out hb
      have HK2 : Hid _ := (And.intro (kept hb HK.out.1) (kept hb HK.out.2))
      clear hb HH c0 c1 hix HB HK
      go_wp2
      go_roundg 3
      case measure => omega
      case rel => exact ⟨5, rfl, by omega, HB2, HK2⟩
    · have hix := ix8_5 g0 g1 g2 g3 g4 g5 g6 g7 wr
      have c0 := cellAt HK.out.1 10 (.int .i64 l5) rfl
      have c1 := cellAt HK.out.1 11 (.int .i64 m5) rfl
      have HH : Hid _ := holds_in l5 m5 g5 wr
      rw [inB_true q5] at HH
      clear q0 q1 q2 q3 q4 q5 q6 q7
      go_wp2_with fail
      refine Calls.mono HH.out ?_
      rintro e w2 ⟨rfl, hb⟩
      have HB2 : Hid (Below w.heap.size w w2) := to_call HB.out hb
      have HK2 : Hid _ := (And.intro (kept hb HK.out.1) (kept hb HK.out.2))
      clear hb HH c0 c1 hix HB HK
      go_wp2
      go_roundg 2
      case measure => omega
      case rel => exact ⟨6, rfl, by omega, HB2, HK2⟩
    · have hix := ix8_6 g0 g1 g2 g3 g4 g5 g6 g7 wr
      have c0 := cellAt HK.out.1 12 (.int .i64 l6) rfl
      have c1 := cellAt HK.out.1 13 (.int .i64 m6) rfl
      have HH : Hid _ := holds_in l6 m6 g6 wr
      rw [inB_true q6] at HH
      clear q0 q1 q2 q3 q4 q5 q6 q7
      go_wp2_with fail
      refine Calls.mono HH.out ?_
      rintro e w2 ⟨rfl, hb⟩
      have HB2 : Hid (Below w.heap.size w w2) := to_call HB.out hb
      have HK2 : Hid _ := (And.intro (kept hb HK.out.1) (kept hb HK.out.2))
      clear hb HH c0 c1 hix HB HK
      go_wp2
      go_roundg 1
      case measure => omega
      case rel => exact ⟨7, rfl, by omega, HB2, HK2⟩
    · have hix := ix8_7 g0 g1 g2 g3 g4 g5 g6 g7 wr
      have c0 := cellAt HK.out.1 14 (.int .i64 l7) rfl
      have c1 := cellAt HK.out.1 15 (.int .i64 m7) rfl
      have HH : Hid _ := holds_in l7 m7 g7 wr
      rw [inB_true q7] at HH
      clear q0 q1 q2 q3 q4 q5 q6 q7
      go_wp2_with fail
      refine Calls.mono HH.out ?_
      rintro e w2 ⟨rfl, hb⟩
      have HB2 : Hid (Below w.heap.size w w2) := to_call HB.out hb
      have HK2 : Hid _ := (And.intro (kept hb HK.out.1) (kept hb HK.out.2))
      clear hb HH c0 c1 hix HB HK
      go_wp2
      go_roundg 0
      case measure => omega
      case rel => exact ⟨8, rfl, by omega, HB2, HK2⟩
    · have c0 := cellAt HK.out.1 16 (.int .i64 0) rfl
      have c1 := cellAt HK.out.2 9 (.float .f64 0) rfl
      have HA : Hid _ := bits_any 0 wr
      clear q0 q1 q2 q3 q4 q5 q6 q7
      go_wp2_with (go_at_call 29; refine Calls.mono HA.out ?_; rintro e w2 ⟨rfl, hw⟩; rw [hw]; clear hw)
      go_ret
      exact ⟨rfl, HB.out⟩
end Go.Proofs.Ytmbnbleahehdaaa
