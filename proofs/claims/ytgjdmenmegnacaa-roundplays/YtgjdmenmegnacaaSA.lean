import Derived.Test.YtgjdmenmegnacaaNZ
namespace Go.Proofs.Ytgjdmenmegnacaa
open Go.RowKit
set_option linter.unusedVariables false

theorem res_num3 (f : Func) (i j k : Nat) (hf : f.results = #[ResultVar.cell i 55, ResultVar.cell j 55, ResultVar.tmp k]) (tmps : Array Value) (W : World) (B C : Nat) (v0 v1 v2 u0 u1 u2 r : Value) (hp : tmps[i]? = some (.pointer (some ⟨B, 0, none⟩))) (hq : tmps[j]? = some (.pointer (some ⟨C, 0, none⟩))) (hr : tmps[k]? = some r)
    (h : W.heap[B]? = some (.cells #[v0, v1, v2] 55)) (h' : W.heap[C]? = some (.cells #[u0, u1, u2] 55)) : (results f tmps).run Try.prog W = .ok (.tuple #[.agg #[v0, v1, v2], .agg #[u0, u1, u2], r]) W := by
  obtain ⟨h0, h1, h2⟩ := three_cells h
  obtain ⟨k0, k1, k2⟩ := three_cells h'
  simp [results, hf, go_sem, hp, hq, hr, h0, h1, h2, k0, k1, k2]
theorem set3_other {w : World} {B C : Nat} (x y z : Value) (hB : C ≠ B) : (((w.setCell ⟨B, 0, none⟩ x).setCell ⟨B, 1, none⟩ y).setCell ⟨B, 2, none⟩ z).heap[C]? = w.heap[C]? := by
  rw [heap_setCell_other _ _ _ _ hB, heap_setCell_other _ _ _ _ hB, heap_setCell_other _ _ _ _ hB]
theorem decide_and2 (p q : Prop) [Decidable p] [Decidable q] : (decide p && decide q) = decide (p ∧ q) := by
  by_cases hp : p <;> by_cases hq : q <;> simp [hp, hq]
theorem drew_heap (w : World) : w.drew.heap = w.heap := rfl
/-- Two numbers are written over two blocks. -/
def wrote2 (W : World) (B C : Nat) (x0 x1 x2 y0 y1 y2 : Value) : World := ((((((W.setCell ⟨B, 0, none⟩ x0).setCell ⟨B, 1, none⟩ x1).setCell ⟨B, 2, none⟩ x2).setCell ⟨C, 0, none⟩ y0).setCell ⟨C, 1, none⟩ y1).setCell ⟨C, 2, none⟩ y2).drew
theorem wrote2_heap {W : World} {B C : Nat} (x0 x1 x2 y0 y1 y2 : Value) {a b c a' b' c' : Value} (h : C ≠ B) (h0 : W.heap[B]? = some (.cells #[a, b, c] 55)) (h1 : W.heap[C]? = some (.cells #[a', b', c'] 55)) :
    (wrote2 W B C x0 x1 x2 y0 y1 y2).heap[B]? = some (.cells #[x0, x1, x2] 55) ∧ (wrote2 W B C x0 x1 x2 y0 y1 y2).heap[C]? = some (.cells #[y0, y1, y2] 55) := by
  have k0 := set3_heap x0 x1 x2 h0
  have k1 := (set3_other (w := W) x0 x1 x2 h).trans h1
  unfold wrote2
  rw [drew_heap]
  generalize ((W.setCell ⟨B, 0, none⟩ x0).setCell ⟨B, 1, none⟩ x1).setCell ⟨B, 2, none⟩ x2 = W1 at *
  exact ⟨by rw [set3_other y0 y1 y2 (Ne.symm h)]; exact k0, set3_heap y0 y1 y2 k1⟩
theorem wrote2_num {W : World} {B C : Nat} (x0 x1 x2 y0 y1 y2 : Value) (h : C ≠ B) (h0 : NumB W B) (h1 : NumB W C) {v : Value} {s : Nat} {T r : Int} (hz : NumZ W v s T r) : NumZ (wrote2 W B C x0 x1 x2 y0 y1 y2) v s T r := by
  obtain ⟨n, a, l, c, e, h1⟩ := h1
  exact NumZ.later (NumZ.set3 y0 y1 y2 ⟨n, a, l, c, e, (set3_other x0 x1 x2 h).trans h1⟩ (NumZ.set3 x0 x1 x2 h0 hz)) (Below.refl _ _).drew
theorem wrote2_below {w0 W : World} {base B C : Nat} (x0 x1 x2 y0 y1 y2 : Value) (h : Below base w0 W) (hB : base ≤ B) (hC : base ≤ C) : Below base w0 (wrote2 W B C x0 x1 x2 y0 y1 y2) :=
  (below_set3 y0 y1 y2 (below_set3 x0 x1 x2 h hB) hC).drew
set_option maxRecDepth 100000 in
set_option maxHeartbeats 1000000 in
theorem two_any (a b : Nat) (ha : a < 18446744073709551616) (hb : b < 18446744073709551616) (w : World) (E : Nat) (hE : E = 1074) :
    Calls Try.prog 35 #[.int .u64 a, .int .u64 b] w fun e' w' => ∃ v u, e' = .returned (.tuple #[v, u, .bool (decide (Fin a ∧ Fin b))]) ∧ (∃ z, NumZ w' v E 1024 z ∧ (Fin a → z = fval a)) ∧ (∃ z, NumZ w' u E 1024 z ∧ (Fin b → z = fval b)) ∧ Below w.heap.size w w' := by
  have hnum : ∀ u : Nat, frung u < infK ∨ True := fun _ => .inr trivial
  obtain ⟨p0, p1, pz, pb⟩ := alloc2_facts w (Obj.cells #[Value.bool false, Value.slice none 0 0, Value.int IntKind.i64 0] 55) (Obj.cells #[Value.bool false, Value.slice none 0 0, Value.int IntKind.i64 0] 55)
  have P0 : Hid _ := p0
  have P1 : Hid _ := p1
  have PZ : Hid _ := pz
  have PB : Hid _ := pb
  clear p0 p1 pz pb hnum
  go_enter Try.func35, Try.ntmps35
  go_wp2_with fail
  refine (ofZ_any a ha _ E hE).mono ?_
  rintro e1 w1 ⟨v1, rfl, ⟨z1, hz1, hf1⟩, hb1⟩
  have Z1 : Hid (NumZ w1 v1 E 1024 z1) := hz1
  have F1 : Hid (Fin a → z1 = fval a) := hf1
  obtain ⟨nx, mx, ex, ⟨ao, len, cap, xs, rfl, -⟩, -⟩ := hz1
  have G0 : Hid _ := (hb1.block w.heap.size (by rw [PZ.out]; omega)).trans P0.out
  have G1 : Hid _ := (hb1.block (w.heap.size + 1) (by rw [PZ.out]; omega)).trans P1.out
  have hs1 : w.heap.size + 2 ≤ w1.heap.size := by have := hb1.size; rw [PZ.out] at this; exact this
  have HB1 : Hid (Below w.heap.size w w1) := PB.out.trans (hb1.mono (by rw [PZ.out]; omega))
  generalize hda : decide (Fin a) = da
  clear hb1 hf1 P0 P1 PZ PB
  go_wp2_with fail
  refine (ofZ_any b hb _ E hE).mono ?_
  rintro e2 w2 ⟨v2, rfl, ⟨z2, hz2, hf2⟩, hb2⟩
  have Z2 : Hid (NumZ w2 v2 E 1024 z2) := hz2
  have F2 : Hid (Fin b → z2 = fval b) := hf2
  obtain ⟨ny, my, ey, ⟨bo, blen, bcap, ys, rfl, -⟩, -⟩ := hz2
  have hz1' : (w1.alloc (Obj.cells #[Value.bool nx, Value.slice ao len cap, Value.int IntKind.i64 ex] 55)).heap.size = w1.heap.size + 1 := by simp
  have HB1' : Hid (Below w.heap.size w (w1.alloc (Obj.cells #[Value.bool nx, Value.slice ao len cap, Value.int IntKind.i64 ex] 55))) := HB1.out.alloc HB1.out.size _
  have hs2 : w1.heap.size + 1 ≤ w2.heap.size := by have := hb2.size; rw [hz1'] at this; exact this
  have HB2 : Hid (Below w.heap.size w w2) := HB1'.out.trans (hb2.mono (by rw [hz1']; omega))
  have Z1' : Hid (NumZ w2 _ E 1024 z1) := NumZ.later (NumZ.later Z1.out ((Below.refl _ _).alloc (Nat.le_refl _) (Obj.cells #[Value.bool nx, Value.slice ao len cap, Value.int IntKind.i64 ex] 55))) hb2
  have gx : (w2.alloc (Obj.cells #[Value.bool ny, Value.slice bo blen bcap, Value.int IntKind.i64 ey] 55)).heap[w1.heap.size]? = some (Obj.cells #[Value.bool nx, Value.slice ao len cap, Value.int IntKind.i64 ex] 55) := by
    rw [Below.heap_alloc _ _ _ (by omega), hb2.block _ (by rw [hz1']; omega)]; exact heap_alloc_new w1 _
  have gy : (w2.alloc (Obj.cells #[Value.bool ny, Value.slice bo blen bcap, Value.int IntKind.i64 ey] 55)).heap[w2.heap.size]? = some (Obj.cells #[Value.bool ny, Value.slice bo blen bcap, Value.int IntKind.i64 ey] 55) := heap_alloc_new w2 _
  have g0 : (w2.alloc (Obj.cells #[Value.bool ny, Value.slice bo blen bcap, Value.int IntKind.i64 ey] 55)).heap[w.heap.size]? = some (Obj.cells #[Value.bool false, Value.slice none 0 0, Value.int IntKind.i64 0] 55) := by
    rw [Below.heap_alloc _ _ _ (by omega), hb2.block _ (by rw [hz1']; omega), Below.heap_alloc _ _ _ (by omega)]; exact G0.out
  have g1 : (w2.alloc (Obj.cells #[Value.bool ny, Value.slice bo blen bcap, Value.int IntKind.i64 ey] 55)).heap[w.heap.size + 1]? = some (Obj.cells #[Value.bool false, Value.slice none 0 0, Value.int IntKind.i64 0] 55) := by
    rw [Below.heap_alloc _ _ _ (by omega), hb2.block _ (by rw [hz1']; omega), Below.heap_alloc _ _ _ (by omega)]; exact G1.out
  obtain ⟨x0, x1, x2⟩ := three_cells gx
  obtain ⟨y0, y1, y2⟩ := three_cells gy
  obtain ⟨r0, r1, r2⟩ := three_cells g0
  obtain ⟨q0, q1, q2⟩ := three_cells g1
  have f0 := fun j => frozen_of_row _ _ j _ _ g0
  have f1 := fun j => frozen_of_row _ _ j _ _ g1
  have G0' : Hid _ := g0
  have G1' : Hid _ := g1
  have HBF : Hid (Below w.heap.size w (w2.alloc (Obj.cells #[Value.bool ny, Value.slice bo blen bcap, Value.int IntKind.i64 ey] 55))) := HB2.out.alloc HB2.out.size _
  have ZA : Hid (NumZ (w2.alloc (Obj.cells #[Value.bool ny, Value.slice bo blen bcap, Value.int IntKind.i64 ey] 55)) _ E 1024 z1) := NumZ.later Z1'.out ((Below.refl _ _).alloc (Nat.le_refl _) (Obj.cells #[Value.bool ny, Value.slice bo blen bcap, Value.int IntKind.i64 ey] 55))
  have ZB : Hid (NumZ (w2.alloc (Obj.cells #[Value.bool ny, Value.slice bo blen bcap, Value.int IntKind.i64 ey] 55)) _ E 1024 z2) := NumZ.later Z2.out ((Below.refl _ _).alloc (Nat.le_refl _) (Obj.cells #[Value.bool ny, Value.slice bo blen bcap, Value.int IntKind.i64 ey] 55))
  generalize hdb : decide (Fin b) = db
  have HAB : Hid ((da && db) = decide (Fin a ∧ Fin b)) := by unfold Hid; rw [← hda, ← hdb, decide_and2]
  clear hb2 hf2 gx gy g0 g1 hda hdb
  have n1 : ¬ (w.heap.size = w1.heap.size) := by omega
  have n2 : ¬ (w1.heap.size = w.heap.size) := by omega
  have n3 : ¬ (w.heap.size + 1 = w1.heap.size) := by omega
  have n4 : ¬ (w1.heap.size = w.heap.size + 1) := by omega
  have n5 : ¬ (w.heap.size = w2.heap.size) := by omega
  have n6 : ¬ (w2.heap.size = w.heap.size) := by omega
  have n7 : ¬ (w.heap.size + 1 = w2.heap.size) := by omega
  have n8 : ¬ (w2.heap.size = w.heap.size + 1) := by omega
  go_wp2_with fail
  generalize w2.alloc (Obj.cells #[Value.bool ny, Value.slice bo blen bcap, Value.int IntKind.i64 ey] 55) = W3 at *
  cases da <;> cases db
  all_goals go_region
  all_goals
    change Exit.then _ _ Exit.normal _ (wrote2 W3 w.heap.size (w.heap.size + 1) (Value.bool nx) (Value.slice ao len cap) (Value.int IntKind.i64 ex) (Value.bool ny) (Value.slice bo blen bcap) (Value.int IntKind.i64 ey))
    have K := wrote2_heap (Value.bool nx) (Value.slice ao len cap) (Value.int IntKind.i64 ex) (Value.bool ny) (Value.slice bo blen bcap) (Value.int IntKind.i64 ey) (show w.heap.size + 1 ≠ w.heap.size by omega) G0'.out G1'.out
    have NA : Hid _ := wrote2_num (Value.bool nx) (Value.slice ao len cap) (Value.int IntKind.i64 ex) (Value.bool ny) (Value.slice bo blen bcap) (Value.int IntKind.i64 ey) (show w.heap.size + 1 ≠ w.heap.size by omega) ⟨_, _, _, _, _, G0'.out⟩ ⟨_, _, _, _, _, G1'.out⟩ ZA.out
    have NB : Hid _ := wrote2_num (Value.bool nx) (Value.slice ao len cap) (Value.int IntKind.i64 ex) (Value.bool ny) (Value.slice bo blen bcap) (Value.int IntKind.i64 ey) (show w.heap.size + 1 ≠ w.heap.size by omega) ⟨_, _, _, _, _, G0'.out⟩ ⟨_, _, _, _, _, G1'.out⟩ ZB.out
    have NC : Hid _ := wrote2_below (Value.bool nx) (Value.slice ao len cap) (Value.int IntKind.i64 ex) (Value.bool ny) (Value.slice bo blen bcap) (Value.int IntKind.i64 ey) HBF.out (Nat.le_refl _) (Nat.le_succ _)
    generalize wrote2 W3 w.heap.size (w.heap.size + 1) (Value.bool nx) (Value.slice ao len cap) (Value.int IntKind.i64 ex) (Value.bool ny) (Value.slice bo blen bcap) (Value.int IntKind.i64 ey) = WF at *
    have KK : Hid _ := K
    clear K
    go_wp2_with fail
    refine bodyPost_ret (res_num3 _ 4 5 6 (by kernel_rfl) _ _ w.heap.size (w.heap.size + 1) _ _ _ _ _ _ _ (by rfl) (by rfl) (by rfl) KK.out.1 KK.out.2) rfl ⟨_, _, by rw [← HAB.out]; rfl, ⟨z1, NA.out, F1.out⟩, ⟨z2, NB.out, F2.out⟩, NC.out⟩
end Go.Proofs.Ytgjdmenmegnacaa
