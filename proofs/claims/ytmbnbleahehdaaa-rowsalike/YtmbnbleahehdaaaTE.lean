import Derived.Test.YtmbnbleahehdaaaTD
namespace Go.Proofs.Ytmbnbleahehdaaa
open Go.RowKit
set_option linter.unusedVariables false

theorem one14q (a0 a1 a2 a3 a4 a5 a6 a7 a8 : Int) (x : Nat) (o1 o2 o3 o4 : Option Addr) (n1 n2 n3 n4 c1 c2 c3 c4 : Nat) : (#[.int .i64 a0, .int .i64 a1, .int .i64 a2, .int .i64 a3, .int .i64 a4, .int .i64 a5, .int .i64 a6, .int .i64 a7, .int .i64 a8, .float .f64 x, .slice o1 n1 c1, .slice o2 n2 c2, .slice o3 n3 c3, .slice o4 n4 c4] : Array Value).all (·.oneCell') = true := by
  simp only [Array.all_eq_true_iff_forall_mem]
  intro v hv
  simp only [List.mem_toArray, List.mem_cons, List.not_mem_nil, or_false] at hv
  rcases hv with rfl | rfl | rfl | rfl | rfl | rfl | rfl | rfl | rfl | rfl | rfl | rfl | rfl | rfl <;> rfl
theorem build_turn2 (z y : Nat) (w : World) : (Instr.build 30 #[(0, .int .i64 6), (1, .int .i64 1), (12, .slice (some ⟨z, 0, none⟩) 1 1), (13, .slice (some ⟨y, 0, none⟩) 1 1)]).run Try.prog w = .ok (.agg #[.int .i64 6, .int .i64 1, .int .i64 0, .int .i64 0, .int .i64 0, .int .i64 0, .int .i64 0, .int .i64 0, .int .i64 0, .float .f64 0, .slice none 0 0, .slice none 0 0, .slice (some ⟨z, 0, none⟩) 1 1, .slice (some ⟨y, 0, none⟩) 1 1]) w := by kernel_rfl
theorem RowV.two {w : World} {base : Nat} {v1 v2 : Value} {a b : Int} {x y : Nat} (h : RowV w base v1 v2 [a, b] [x, y]) :
    ∃ g1 c1 g2 c2, v1 = .slice (some ⟨g1, 0, none⟩) 2 c1 ∧ v2 = .slice (some ⟨g2, 0, none⟩) 2 c2 ∧ w.cell? ⟨g2, 0, none⟩ = some (.float .f64 x) ∧ w.cell? ⟨g2, 1, none⟩ = some (.float .f64 y) := by
  rcases h.o1.2 with ⟨_, h0⟩ | ⟨g1, c1, _, e1, _⟩
  · simp [inV] at h0
  · rcases h.o2.2 with ⟨_, h0⟩ | ⟨g2, c2, _, e2, _⟩
    · simp [flV'] at h0
    · have q0 := World.ownsRow.cells h.o2 (g := g2) (by rw [e2]; rfl) 0 (.float .f64 x) rfl
      have q1 := World.ownsRow.cells h.o2 (g := g2) (by rw [e2]; rfl) 1 (.float .f64 y) rfl
      rw [Addr.add_lit] at q0 q1
      exact ⟨g1, c1, g2, c2, e1, e2, q0, q1⟩
set_option maxRecDepth 100000 in
set_option maxHeartbeats 1000000 in
theorem told7 (w : World) : Calls Try.prog 6 #[] w fun e w' => e = .returned (.bool true) ∧ Below w.heap.size w w' := by
  have HL : Hid _ := linear_any
  have HT : Hid _ := bent_any
  go_enter Try.func6, Try.ntmps6
  go_upto_region 2 with (first
    | (refine wpList_build (by rfl) 30 _ (by rfl) _ (by rfl) _ (build_turn2 _ _) ?_)
    | (refine wpList_store_row (by rfl) 30 _ _ (by rfl) w w.heap.size (w.heap.size + 1 + 1) _ _ (by rfl) (by rfl) (heap_at _ _ (w.heap.size + 1 + 1) (by simp only [alloc_size])) ((((Below.refl _ w).alloc (Nat.le_refl _) _).alloc (by simp only [alloc_size]; omega) _).alloc (by simp only [alloc_size]; omega) _) (by omega) 14 Try.infoLy (by rfl) (by rfl) (by exact one14q ..) ?_; intro W2 e2 hb2 hs2 ho2))
  have HZ : Hid (W2.heap[w.heap.size]? = _) := (ho2 _ (by omega)).trans (alloc_kept (alloc_kept (heap_alloc_new w _) _) _)
  have HY : Hid (W2.heap[w.heap.size + 1]? = _) := (ho2 _ (by omega)).trans (alloc_kept (heap_at _ _ (w.heap.size + 1) (by simp only [alloc_size])) _)
  have HB2 : Hid _ := hb2
  have K2 : Hid _ := e2
  clear e2 hb2 hs2 ho2
  go_wp2_with (first | (refine wpList_load_row (by rfl) 30 _ (by rfl) (w.heap.size + 1 + 1) _ (by rfl) K2.out _ Try.underlying30 rfl 14 Try.infoLy (by rfl) ?_))
  refine Calls.mono (row1 _ _ _ HZ.out HY.out) ?_
  rintro e w3 ⟨v1, v2, rfl, ov, hb⟩
  have HB3 : Hid (Below w.heap.size w w3) := to_call HB2.out hb
  have K3 : Hid (w3.heap[w.heap.size + 1 + 1]? = _) := kept hb K2.out
  have HV : Hid _ := ov
  clear hb ov HZ HY K2 HB2
  go_wp2_with (first | (refine wpList_load_row (by rfl) 30 _ (by rfl) (w.heap.size + 1 + 1) _ (by rfl) K3.out _ Try.underlying30 rfl 14 Try.infoLy (by rfl) ?_))
  refine Calls.mono (countTurn _ _ _) ?_
  rintro e w4 ⟨rfl, hb⟩
  have HB4 : Hid (Below w.heap.size w w4) := to_call HB3.out hb
  obtain ⟨g1, c1, g2, c2, rfl, rfl, q0, q1⟩ := (HV.out.later hb).two
  clear hb HV K3 HB3
  have f1 : (FloatKind.f64.format.order 4607182418800017408 4607182418800017408 == some Ordering.eq) = true := by decide
  have f2 : (FloatKind.f64.format.order 13835058055282163712 13835058055282163712 == some Ordering.eq) = true := by decide
  have f3 : (FloatKind.f64.format.order 4613937818241073152 4613937818241073152 == some Ordering.eq) = true := by decide
  go_upto_region 5 with fail
  go_wp2_with (first
    | (go_at_call 16; refine Calls.mono (HL.out _ _) ?_; rintro e wz ⟨rfl, hw⟩; rw [hw]; clear hw)
    | (go_at_call 17; refine Calls.mono (HT.out _ _) ?_; rintro e wz ⟨rfl, hw⟩; rw [hw]; clear hw))
  go_ret
  exact ⟨rfl, HB4.out⟩
end Go.Proofs.Ytmbnbleahehdaaa
