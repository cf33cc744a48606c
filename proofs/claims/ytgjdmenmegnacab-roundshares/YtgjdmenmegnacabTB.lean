import Derived.Test.YtgjdmenmegnacabTA
namespace Go.Proofs.Ytgjdmenmegnacab
open Go.RowKit
set_option linter.unusedVariables false

def ExactRes (c : Int) (E a b : Nat) (w : World) (e' : Ending) (w' : World) : Prop := ∃ v, e' = .returned (.tuple #[v, .bool (decide (Fin a ∧ Fin b))]) ∧ (∃ z, NumZ w' v (E + E) 2048 z ∧ (Fin a ∧ Fin b → z = exactX c E a b)) ∧ Below w.heap.size w w'
theorem noughtZ (w : World) (s : Nat) (T : Int) (hT : 0 ≤ T) : NumZ w (.agg #[.bool false, .slice none 0 0, .int .i64 0]) s T 0 :=
  ⟨false, 0, 0, ⟨none, 0, 0, [], rfl, rd4_none' _, .inl rfl, rfl⟩, by omega, by rw [bl_zero]; omega, zv_zero _ _ _⟩
set_option maxRecDepth 100000 in
set_option maxHeartbeats 1000000 in
theorem exact_any (c : Int) (hc : c = 1 ∨ c = 2 ∨ c = 3) (a b : Nat) (ha : a < 18446744073709551616) (hb : b < 18446744073709551616) (w : World) (E : Nat) (hE : E = 1074) :
    Calls Try.prog 9 #[.int .i64 c, .float .f64 a, .float .f64 b] w fun e' w' => ExactRes c E a b w e' w' := by
  have P0 : Hid ((w.alloc (Obj.cells #[Value.bool false, Value.slice none 0 0, Value.int IntKind.i64 0] 25)).heap[w.heap.size]? = some (Obj.cells #[Value.bool false, Value.slice none 0 0, Value.int IntKind.i64 0] 25)) := heap_alloc_new w _
  have HBA : Hid (Below w.heap.size w (w.alloc (Obj.cells #[Value.bool false, Value.slice none 0 0, Value.int IntKind.i64 0] 25))) := (Below.refl w.heap.size w).alloc (Nat.le_refl _) _
  have HZ0 : Hid ((w.alloc (Obj.cells #[Value.bool false, Value.slice none 0 0, Value.int IntKind.i64 0] 25)).heap.size = w.heap.size + 1) := by unfold Hid; simp
  go_enter Try.func9, Try.ntmps9
  go_wp2_with fail
  refine (num_any a ha _ E hE).mono ?_
  rintro e1 w1 ⟨v1, rfl, ⟨z1, hz1, hf1⟩, hb1⟩
  have Z1 : Hid (NumZ w1 v1 E 1024 z1) := hz1
  have F1 : Hid (Fin a → z1 = fval a) := hf1
  obtain ⟨nx, mx, ex, ⟨ao, len, cap, xs, rfl, -⟩, -⟩ := hz1
  have G1 : Hid (w1.heap[w.heap.size]? = some (Obj.cells #[Value.bool false, Value.slice none 0 0, Value.int IntKind.i64 0] 25)) := (hb1.block w.heap.size (by rw [HZ0.out]; omega)).trans P0.out
  have hs1 : w.heap.size + 1 ≤ w1.heap.size := by have := hb1.size; rw [HZ0.out] at this; exact this
  have HB1 : Hid (Below w.heap.size w w1) := HBA.out.trans (hb1.mono HBA.out.size)
  generalize hda : decide (Fin a) = da
  clear hb1 hf1 P0 HZ0 HBA
  go_wp2_with fail
  refine (num_any b hb _ E hE).mono ?_
  rintro e2 w2 ⟨v2, rfl, ⟨z2, hz2, hf2⟩, hb2⟩
  have Z2 : Hid (NumZ w2 v2 E 1024 z2) := hz2
  have F2 : Hid (Fin b → z2 = fval b) := hf2
  obtain ⟨ny, my, ey, ⟨bo, blen, bcap, ys, rfl, -⟩, -⟩ := hz2
  have hz1' : (w1.alloc (Obj.cells #[Value.bool nx, Value.slice ao len cap, Value.int IntKind.i64 ex] 25)).heap.size = w1.heap.size + 1 := by simp
  have HB1' : Hid (Below w.heap.size w (w1.alloc (Obj.cells #[Value.bool nx, Value.slice ao len cap, Value.int IntKind.i64 ex] 25))) := HB1.out.alloc HB1.out.size _
  have hs2 : w1.heap.size + 1 ≤ w2.heap.size := by have := hb2.size; rw [hz1'] at this; exact this
  have HB2 : Hid (Below w.heap.size w w2) := HB1'.out.trans (hb2.mono (by rw [hz1']; omega))
  have Z1' : Hid (NumZ w2 _ E 1024 z1) := NumZ.later (NumZ.later Z1.out ((Below.refl _ _).alloc (Nat.le_refl _) (Obj.cells #[Value.bool nx, Value.slice ao len cap, Value.int IntKind.i64 ex] 25))) hb2
  have gx : (w2.alloc (Obj.cells #[Value.bool ny, Value.slice bo blen bcap, Value.int IntKind.i64 ey] 25)).heap[w1.heap.size]? = some (Obj.cells #[Value.bool nx, Value.slice ao len cap, Value.int IntKind.i64 ex] 25) := by
    rw [Below.heap_alloc _ _ _ (by omega), hb2.block _ (by rw [hz1']; omega)]; exact heap_alloc_new w1 _
  have gy : (w2.alloc (Obj.cells #[Value.bool ny, Value.slice bo blen bcap, Value.int IntKind.i64 ey] 25)).heap[w2.heap.size]? = some (Obj.cells #[Value.bool ny, Value.slice bo blen bcap, Value.int IntKind.i64 ey] 25) := heap_alloc_new w2 _
  have g0 : (w2.alloc (Obj.cells #[Value.bool ny, Value.slice bo blen bcap, Value.int IntKind.i64 ey] 25)).heap[w.heap.size]? = some (Obj.cells #[Value.bool false, Value.slice none 0 0, Value.int IntKind.i64 0] 25) := by
    rw [Below.heap_alloc _ _ _ (by omega), hb2.block _ (by rw [hz1']; omega), Below.heap_alloc _ _ _ (by omega)]; exact G1.out
  obtain ⟨x0, x1, x2⟩ := three_cells gx
  obtain ⟨y0, y1, y2⟩ := three_cells gy
  obtain ⟨r0, r1, r2⟩ := three_cells g0
  have f0 := fun j => frozen_of_row _ _ j _ _ g0
  have G0 : Hid _ := g0
  have HBF : Hid (Below w.heap.size w (w2.alloc (Obj.cells #[Value.bool ny, Value.slice bo blen bcap, Value.int IntKind.i64 ey] 25))) := HB2.out.alloc HB2.out.size _
  have HS3 : Hid (w.heap.size + 2 < (w2.alloc (Obj.cells #[Value.bool ny, Value.slice bo blen bcap, Value.int IntKind.i64 ey] 25)).heap.size) := by unfold Hid; simp; omega
  have ZA : Hid (NumZ (w2.alloc (Obj.cells #[Value.bool ny, Value.slice bo blen bcap, Value.int IntKind.i64 ey] 25)) _ E 1024 z1) := NumZ.later Z1'.out ((Below.refl _ _).alloc (Nat.le_refl _) (Obj.cells #[Value.bool ny, Value.slice bo blen bcap, Value.int IntKind.i64 ey] 25))
  have ZB : Hid (NumZ (w2.alloc (Obj.cells #[Value.bool ny, Value.slice bo blen bcap, Value.int IntKind.i64 ey] 25)) _ E 1024 z2) := NumZ.later Z2.out ((Below.refl _ _).alloc (Nat.le_refl _) (Obj.cells #[Value.bool ny, Value.slice bo blen bcap, Value.int IntKind.i64 ey] 25))
  generalize hdb : decide (Fin b) = db
  clear hb2 hf2 gx gy g0
  by_cases hf : Fin a ∧ Fin b
  · have e1 : da = true := by rw [← hda]; exact decide_eq_true hf.1
    have e2 : db = true := by rw [← hdb]; exact decide_eq_true hf.2
    have HDF : Hid (decide (Fin a ∧ Fin b) = true) := decide_eq_true hf
    have hv1 := F1.out hf.1
    have hv2 := F2.out hf.2
    subst hv1 hv2
    clear hda hdb
    subst e1 e2
    rcases hc with rfl | rfl | rfl
    · skip
      go_wp2_with fail
      refine (plusZ_any _ _ E 1024 _ _ _ ZA.out ZB.out (by omega) (by omega)).mono ?_
      rintro e3 w3 ⟨v3, rfl, hz3, hb3⟩
      have Z3 : Hid (NumZ w3 v3 (E + E) 2048 (exactX 1 E a b)) := by
        unfold Hid exactX
        rw [if_pos rfl]; exact NumZ.mono (NumZ.more hz3 E) (by omega)
      obtain ⟨n3, m3, q3, ⟨a3, l3, c3, xs3, rfl, -⟩, -⟩ := hz3
      have HB3 : Hid (Below w.heap.size w w3) := HBF.out.trans (hb3.mono HBF.out.size)
      have g3 := (hb3.block w.heap.size (by have := HS3.out; omega)).trans G0.out
      obtain ⟨c0, c1, c2⟩ := three_cells g3
      have fc := fun j => frozen_of_row _ _ j _ _ g3
      have G3 : Hid _ := g3
      clear hb3 g3
      go_wp2_with fail
      refine bodyPost_ret (v := .tuple #[.agg #[.bool n3, .slice a3 l3 c3, .int .i64 q3], .bool true]) (res_num2 _ 6 7 (by kernel_rfl) _ _ w.heap.size _ _ _ _ (by rfl) (by rfl) (set3_heap _ _ _ G3.out)) rfl ⟨_, by rw [HDF.out], ⟨_, ?_, fun _ => rfl⟩, ?_⟩
      · exact NumZ.set3 _ _ _ ⟨_, _, _, _, _, G3.out⟩ Z3.out
      · exact below_set3 _ _ _ HB3.out (Nat.le_refl _)
    · skip
      go_wp2_with fail
      refine (minusZ_any _ _ E 1024 _ _ _ ZA.out ZB.out (by omega) (by omega)).mono ?_
      rintro e3 w3 ⟨v3, rfl, hz3, hb3⟩
      have Z3 : Hid (NumZ w3 v3 (E + E) 2048 (exactX 2 E a b)) := by
        unfold Hid exactX
        rw [if_neg (by decide), if_pos rfl]; exact NumZ.mono (NumZ.more hz3 E) (by omega)
      obtain ⟨n3, m3, q3, ⟨a3, l3, c3, xs3, rfl, -⟩, -⟩ := hz3
      have HB3 : Hid (Below w.heap.size w w3) := HBF.out.trans (hb3.mono HBF.out.size)
      have g3 := (hb3.block w.heap.size (by have := HS3.out; omega)).trans G0.out
      obtain ⟨c0, c1, c2⟩ := three_cells g3
      have fc := fun j => frozen_of_row _ _ j _ _ g3
      have G3 : Hid _ := g3
      clear hb3 g3
      go_wp2_with fail
      refine bodyPost_ret (v := .tuple #[.agg #[.bool n3, .slice a3 l3 c3, .int .i64 q3], .bool true]) (res_num2 _ 6 7 (by kernel_rfl) _ _ w.heap.size _ _ _ _ (by rfl) (by rfl) (set3_heap _ _ _ G3.out)) rfl ⟨_, by rw [HDF.out], ⟨_, ?_, fun _ => rfl⟩, ?_⟩
      · exact NumZ.set3 _ _ _ ⟨_, _, _, _, _, G3.out⟩ Z3.out
      · exact below_set3 _ _ _ HB3.out (Nat.le_refl _)
    · skip
      go_wp2_with fail
      refine (timesZ_any _ _ E 1024 1024 _ _ _ ZA.out ZB.out (by omega) (by omega) (by omega)).mono ?_
      rintro e3 w3 ⟨v3, rfl, hz3, hb3⟩
      have Z3 : Hid (NumZ w3 v3 (E + E) 2048 (exactX 3 E a b)) := by
        unfold Hid exactX
        rw [if_neg (by decide), if_neg (by decide)]; exact NumZ.mono hz3 (by omega)
      obtain ⟨n3, m3, q3, ⟨a3, l3, c3, xs3, rfl, -⟩, -⟩ := hz3
      have HB3 : Hid (Below w.heap.size w w3) := HBF.out.trans (hb3.mono HBF.out.size)
      have g3 := (hb3.block w.heap.size (by have := HS3.out; omega)).trans G0.out
      obtain ⟨c0, c1, c2⟩ := three_cells g3
      have fc := fun j => frozen_of_row _ _ j _ _ g3
      have G3 : Hid _ := g3
      clear hb3 g3
      go_wp2_with fail
      refine bodyPost_ret (v := .tuple #[.agg #[.bool n3, .slice a3 l3 c3, .int .i64 q3], .bool true]) (res_num2 _ 6 7 (by kernel_rfl) _ _ w.heap.size _ _ _ _ (by rfl) (by rfl) (set3_heap _ _ _ G3.out)) rfl ⟨_, by rw [HDF.out], ⟨_, ?_, fun _ => rfl⟩, ?_⟩
      · exact NumZ.set3 _ _ _ ⟨_, _, _, _, _, G3.out⟩ Z3.out
      · exact below_set3 _ _ _ HB3.out (Nat.le_refl _)
  · have HDF : Hid (decide (Fin a ∧ Fin b) = false) := decide_eq_false hf
    have hdd : (da = false) ∨ (da = true ∧ db = false) := by
      by_cases h : Fin a
      · right; exact ⟨by rw [← hda]; exact decide_eq_true h, by rw [← hdb]; exact decide_eq_false (fun x => hf ⟨h, x⟩)⟩
      · left; rw [← hda]; exact decide_eq_false h
    clear hda hdb
    rcases hdd with rfl | ⟨rfl, rfl⟩
    all_goals
      go_wp2_with fail
      refine bodyPost_ret (v := .tuple #[.agg #[.bool false, .slice none 0 0, .int .i64 0], .bool false]) (res_num2 _ 6 7 (by kernel_rfl) _ _ w.heap.size _ _ _ _ (by rfl) (by rfl) (set3_heap _ _ _ G0.out)) rfl ⟨_, by rw [HDF.out], ⟨0, noughtZ _ _ _ (by omega), fun h => absurd h hf⟩, ?_⟩
      exact below_set3 _ _ _ HBF.out (Nat.le_refl _)
end Go.Proofs.Ytgjdmenmegnacab
