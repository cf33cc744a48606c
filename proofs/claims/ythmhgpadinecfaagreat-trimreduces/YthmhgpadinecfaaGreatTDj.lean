import Derived.Test.YthmhgpadinecfaaGreatTDi
set_option maxRecDepth 100000
set_option maxHeartbeats 4000000
set_option linter.unusedVariables false
set_option linter.unusedSimpArgs false
namespace Go.Proofs.YthmhgpadinecfaaGreat
open Go.RowKit Go.Shelf
theorem goodD_any
  (N : Int) (co : Option Addr) (cn cc : Nat) (io : Option Addr) (dn dc : Nat) (go : Option Addr) (gn gc : Nat) (ro : Option Addr) (rn rc : Nat) (bad : Bool) (w : World) (ck : Int) (gd : Bool) (hgd : Hid (gd = (decide (ck = 0) && !bad)))
  (HC : Hid (∀ W, Below w.heap.size w W -> Calls Tryz.prog 25 #[.agg #[.int .i64 N, .slice co cn cc, .slice io dn dc, .slice go gn gc, .slice ro rn rc, .bool bad]] W fun e w' => e = .returned (.int .i64 ck) /\ Below W.heap.size W w')) :
  Calls Tryz.prog 23 #[.agg #[.int .i64 N, .slice co cn cc, .slice io dn dc, .slice go gn gc, .slice ro rn rc, .bool bad]] w fun e w' => e = .returned (.bool gd) /\ Below w.heap.size w w' := by
 have X0 : Below w.heap.size w (w.alloc (.cells #[.int .i64 N, .slice co cn cc, .slice io dn dc, .slice go gn gc, .slice ro rn rc, .bool bad] 32)) := (Below.refl _ w).alloc (Nat.le_refl _) _
 have Y0 : (w.alloc (.cells #[.int .i64 N, .slice co cn cc, .slice io dn dc, .slice go gn gc, .slice ro rn rc, .bool bad] 32)).heap[w.heap.size]? = some (.cells #[.int .i64 N, .slice co cn cc, .slice io dn dc, .slice go gn gc, .slice ro rn rc, .bool bad] 32) := heap_alloc_new w _
 go_enter Tryz.func23, Tryz.ntmps23
 go_upto_region 1 with fail
 obtain ⟨X, hX⟩ : ∃ X, (w.alloc (.cells #[.int .i64 N, .slice co cn cc, .slice io dn dc, .slice go gn gc, .slice ro rn rc, .bool bad] 32)) = X := ⟨_, rfl⟩
 rw [hX] at X0 Y0 ⊢
 have T0 : Hid (Below w.heap.size w X /\ X.heap[w.heap.size]? = some (.cells #[.int .i64 N, .slice co cn cc, .slice io dn dc, .slice go gn gc, .slice ro rn rc, .bool bad] 32)) := ⟨X0, Y0⟩
 clear hX X0 Y0
 by_cases h : ck = 0
 ·have e1 : (ck == 0) = true := by simp [h]
  have hg : Hid (gd = !bad) := by unfold Hid; rw [hgd.out, decide_eq_true h, Bool.true_and]
  clear h hgd
  go_wp2_with (first
   | (refine wpList_load_row (by rfl) 32 _ (by rfl) w.heap.size _ (by rfl) T0.out.2 _ Tryz.underlying32 rfl 6 Tryz.infoZu (by rfl) ?_)
   | (go_at_call 25; refine Calls.mono (HC.out _ T0.out.1) ?_; rintro e w1 ⟨rfl, b1⟩; have T1 : Hid (Below w.heap.size w w1 /\ w1.heap[w.heap.size]? = some (.cells #[.int .i64 N, .slice co cn cc, .slice io dn dc, .slice go gn gc, .slice ro rn rc, .bool bad] 32)) := ⟨to_callD T0.out.1 b1, kept b1 T0.out.2⟩; obtain ⟨d0, d1, d2, d3, d4, d5⟩ := cells6 T1.out.2; clear b1))
  go_ret
  exact ⟨by rw [hg.out]; rfl, T1.out.1⟩
 ·have e1 : (ck == 0) = false := by simp [h]
  have hg : Hid (gd = false) := by unfold Hid; rw [hgd.out, decide_eq_false h, Bool.false_and]
  clear h hgd
  go_wp2_with (first
   | (refine wpList_load_row (by rfl) 32 _ (by rfl) w.heap.size _ (by rfl) T0.out.2 _ Tryz.underlying32 rfl 6 Tryz.infoZu (by rfl) ?_)
   | (go_at_call 25; refine Calls.mono (HC.out _ T0.out.1) ?_; rintro e w1 ⟨rfl, b1⟩; have T1 : Hid (Below w.heap.size w w1 /\ w1.heap[w.heap.size]? = some (.cells #[.int .i64 N, .slice co cn cc, .slice io dn dc, .slice go gn gc, .slice ro rn rc, .bool bad] 32)) := ⟨to_callD T0.out.1 b1, kept b1 T0.out.2⟩; obtain ⟨d0, d1, d2, d3, d4, d5⟩ := cells6 T1.out.2; clear b1))
  go_ret
  exact ⟨by rw [hg.out]; rfl, T1.out.1⟩
end Go.Proofs.YthmhgpadinecfaaGreat
