import Derived.Test.YtmbnbleahehdaaaKG
import Derived.Deep.RegionHeld3
namespace Go.Proofs.Ytmbnbleahehdaaa
open Go.RowKit
set_option linter.unusedVariables false

theorem windows_told (a b c d r : Int) (w : World) (h : Calls Try.prog 60 #[.int .i64 a, .int .i64 b, .int .i64 c, .int .i64 d] w fun e w' => e = .returned (.int .i64 r) ∧ w' = w) :
    Calls Try.prog 60 #[.int .i64 a, .int .i64 b, .int .i64 c, .int .i64 d] w fun e w' => e = .returned (.int .i64 r) ∧ w' = w := h
theorem windows1 (w : World) : Calls Try.prog 60 #[.int .i64 4, .int .i64 0, .int .i64 3, .int .i64 5] w fun e w' => e = .returned (.int .i64 1) ∧ w' = w := by
  go_enter Try.func60, Try.ntmps60
  go_wp2
  go_ret
  exact ⟨rfl, rfl⟩
theorem windows2 (w : World) : Calls Try.prog 60 #[.int .i64 3, .int .i64 0, .int .i64 1, .int .i64 9] w fun e w' => e = .returned (.int .i64 1) ∧ w' = w := by
  go_enter Try.func60, Try.ntmps60
  go_wp2
  go_ret
  exact ⟨rfl, rfl⟩
theorem fz_row {w : World} {B : Nat} {c : Array Value} {t : TypeId} (h : w.heap[B]? = some (.cells c t)) (o : Nat) : w.frozen? ⟨B, o, none⟩ = false := by simp [World.frozen?, h]
theorem drew_heap (w : World) : w.drew.heap = w.heap := rfl
theorem set2 {w w0 : World} {base B o : Nat} {cur c : Array Value} {t : TypeId} {v1 v2 : Value} (h : w.heap[B]? = some (.cells cur t)) (hb : Below base w0 w) (hbB : base ≤ B) (hc : (cur.setIfInBounds o v1).setIfInBounds (o + 1) v2 = c) :
    ∃ W, ((w.setCell ⟨B, o, none⟩ v1).setCell ⟨B, o + 1, none⟩ v2).drew = W ∧ W.heap[B]? = some (.cells c t) ∧ Below base w0 W ∧ W.heap.size = w.heap.size ∧ ∀ k, k ≠ B → W.heap[k]? = w.heap[k]? := by
  have e1 : w.setCell ⟨B, o, none⟩ v1 = w.setRow B (cur.setIfInBounds o v1) := setCell_eq_setRow w B o cur t (0, 0) v1 h
  have h2 := setRow_heap w B _ (cur.setIfInBounds o v1) t _ h
  have e2 := setCell_eq_setRow (w.setRow B (cur.setIfInBounds o v1)) B (o + 1) _ t (0, 0) v2 h2
  refine ⟨_, rfl, ?_, ?_, ?_, ?_⟩
  · rw [e1, e2, drew_heap, hc]; exact setRow_heap _ B _ _ t _ h2
  · rw [e1, e2]; exact below_drewN (below_setRow (below_setRow hb hbB _) hbB _) 1
  · rw [e1, e2, drew_heap]; simp [World.setRow]
  · intro k hk; rw [e1, e2, drew_heap, setRow_other _ B k _ hk, setRow_other _ B k _ hk]
theorem wrap2 : IntKind.i64.wrap 2 = 2 := by decide
theorem wrap0 : IntKind.i64.wrap 0 = 0 := by decide
theorem cell_at {W : World} {B : Nat} {c : Array Value} {t : TypeId} (h : W.heap[B]? = some (.cells c t)) (o : Nat) (v : Value) (hv : c[o]? = some v) : W.cell? ⟨B, o, none⟩ = some v := (cell_of_row _ _ o _ _ _ h).trans hv
set_option maxRecDepth 100000 in
set_option maxHeartbeats 1000000 in
theorem goByTold_any (B : Nat) (w : World) (hB : w.heap[B]? = some (.cells #[.int .i64 0, .int .i64 0, .int .i64 0, .int .i64 0, .int .i64 0, .int .i64 0, .int .i64 0, .int .i64 0, .int .i64 0, .int .i64 0, .int .i64 0, .int .i64 0, .int .i64 0, .int .i64 0, .int .i64 0, .int .i64 0, .int .i64 0, .int .i64 2, .int .i64 4, .int .i64 3, .int .i64 0, .int .i64 0, .int .i64 0, .int .i64 0] 86)) :
    Calls Try.prog 50 #[.pointer (some ⟨B, 0, none⟩), .agg #[.int .i64 12, .int .i64 0, .int .i64 3, .int .i64 1, .int .i64 5, .int .i64 9, .int .i64 0, .int .i64 0, .int .i64 0, .float .f64 0, .slice none 0 0, .slice none 0 0, .slice none 0 0, .slice none 0 0], .agg #[.int .i64 2, .int .i64 4, .int .i64 3]] w fun e w' =>
      e = .returned (.tuple #[]) ∧ w'.heap[B]? = some (.cells #[.int .i64 0, .int .i64 0, .int .i64 1, .int .i64 16, .int .i64 1, .int .i64 16, .int .i64 1, .int .i64 16, .int .i64 1, .int .i64 16, .int .i64 0, .int .i64 2, .int .i64 0, .int .i64 0, .int .i64 0, .int .i64 0, .int .i64 0, .int .i64 2, .int .i64 1, .int .i64 1, .int .i64 0, .int .i64 0, .int .i64 0, .int .i64 0] 86) ∧ Below B w w' := by
  have HB0 : Hid _ := hB
  have hBl := blk_lt hB
  clear hB
  go_enter Try.func50, Try.ntmps50
  go_upto_region 1 with fail
  have hb1 : Below B w _ := ((Below.refl B w).alloc (by omega) (Obj.cells #[.int .i64 12, .int .i64 0, .int .i64 3, .int .i64 1, .int .i64 5, .int .i64 9, .int .i64 0, .int .i64 0, .int .i64 0, .float .f64 0, .slice none 0 0, .slice none 0 0, .slice none 0 0, .slice none 0 0] 30)).alloc (by simp only [alloc_size]; omega) (Obj.cells #[.int .i64 2, .int .i64 4, .int .i64 3] 25)
  have e1 := alloc_kept (alloc_kept HB0.out (Obj.cells #[.int .i64 12, .int .i64 0, .int .i64 3, .int .i64 1, .int .i64 5, .int .i64 9, .int .i64 0, .int .i64 0, .int .i64 0, .float .f64 0, .slice none 0 0, .slice none 0 0, .slice none 0 0, .slice none 0 0] 30)) (Obj.cells #[.int .i64 2, .int .i64 4, .int .i64 3] 25)
  have k0 := alloc_kept (heap_alloc_new w (Obj.cells #[.int .i64 12, .int .i64 0, .int .i64 3, .int .i64 1, .int .i64 5, .int .i64 9, .int .i64 0, .int .i64 0, .int .i64 0, .float .f64 0, .slice none 0 0, .slice none 0 0, .slice none 0 0, .slice none 0 0] 30)) (Obj.cells #[.int .i64 2, .int .i64 4, .int .i64 3] 25)
  have k1 := heap_at (w.alloc (Obj.cells #[.int .i64 12, .int .i64 0, .int .i64 3, .int .i64 1, .int .i64 5, .int .i64 9, .int .i64 0, .int .i64 0, .int .i64 0, .float .f64 0, .slice none 0 0, .slice none 0 0, .slice none 0 0, .slice none 0 0] 30)) (Obj.cells #[.int .i64 2, .int .i64 4, .int .i64 3] 25) (w.heap.size + 1) (by simp only [alloc_size])
  go_upto_region 5 with (first
    | (refine wpList_store_at (by rfl) 83 _ _ (by rfl) w B B 2 (.agg #[.int .i64 1, .int .i64 16]) _ #[.int .i64 0, .int .i64 0, .int .i64 1, .int .i64 16, .int .i64 0, .int .i64 0, .int .i64 0, .int .i64 0, .int .i64 0, .int .i64 0, .int .i64 0, .int .i64 0, .int .i64 0, .int .i64 0, .int .i64 0, .int .i64 0, .int .i64 0, .int .i64 2, .int .i64 4, .int .i64 3, .int .i64 0, .int .i64 0, .int .i64 0, .int .i64 0] 86 (by rfl) (by rfl) e1 hb1 (Nat.le_refl _) 2 Try.infoBound (by rfl) (Nat.le_of_ble_eq_true rfl) (by exact one_int2 _ _) (by rfl) ?_; intro W2 e2 hb2 hs2 ho2)
    | (refine wpList_store_at (by rfl) 83 _ _ (by rfl) w B B 4 (.agg #[.int .i64 1, .int .i64 16]) _ #[.int .i64 0, .int .i64 0, .int .i64 1, .int .i64 16, .int .i64 1, .int .i64 16, .int .i64 0, .int .i64 0, .int .i64 0, .int .i64 0, .int .i64 0, .int .i64 0, .int .i64 0, .int .i64 0, .int .i64 0, .int .i64 0, .int .i64 0, .int .i64 2, .int .i64 4, .int .i64 3, .int .i64 0, .int .i64 0, .int .i64 0, .int .i64 0] 86 (by rfl) (by rfl) e2 hb2 (Nat.le_refl _) 2 Try.infoBound (by rfl) (Nat.le_of_ble_eq_true rfl) (by exact one_int2 _ _) (by rfl) ?_; intro W3 e3 hb3 hs3 ho3)
    | (refine wpList_store_at (by rfl) 83 _ _ (by rfl) w B B 6 (.agg #[.int .i64 1, .int .i64 16]) _ #[.int .i64 0, .int .i64 0, .int .i64 1, .int .i64 16, .int .i64 1, .int .i64 16, .int .i64 1, .int .i64 16, .int .i64 0, .int .i64 0, .int .i64 0, .int .i64 0, .int .i64 0, .int .i64 0, .int .i64 0, .int .i64 0, .int .i64 0, .int .i64 2, .int .i64 4, .int .i64 3, .int .i64 0, .int .i64 0, .int .i64 0, .int .i64 0] 86 (by rfl) (by rfl) e3 hb3 (Nat.le_refl _) 2 Try.infoBound (by rfl) (Nat.le_of_ble_eq_true rfl) (by exact one_int2 _ _) (by rfl) ?_; intro W4 e4 hb4 hs4 ho4)
    | (refine wpList_store_at (by rfl) 83 _ _ (by rfl) w B B 8 (.agg #[.int .i64 1, .int .i64 16]) _ #[.int .i64 0, .int .i64 0, .int .i64 1, .int .i64 16, .int .i64 1, .int .i64 16, .int .i64 1, .int .i64 16, .int .i64 1, .int .i64 16, .int .i64 0, .int .i64 0, .int .i64 0, .int .i64 0, .int .i64 0, .int .i64 0, .int .i64 0, .int .i64 2, .int .i64 4, .int .i64 3, .int .i64 0, .int .i64 0, .int .i64 0, .int .i64 0] 86 (by rfl) (by rfl) e4 hb4 (Nat.le_refl _) 2 Try.infoBound (by rfl) (Nat.le_of_ble_eq_true rfl) (by exact one_int2 _ _) (by rfl) ?_; intro W5 e5 hb5 hs5 ho5))
  have K0 : Hid (W5.heap[w.heap.size]? = _) := (ho5 _ (by omega)).trans ((ho4 _ (by omega)).trans ((ho3 _ (by omega)).trans ((ho2 _ (by omega)).trans k0)))
  have K1 : Hid (W5.heap[w.heap.size + 1]? = _) := (ho5 _ (by omega)).trans ((ho4 _ (by omega)).trans ((ho3 _ (by omega)).trans ((ho2 _ (by omega)).trans k1)))
  clear hb1 e1 k0 k1 hb2 e2 ho2 hs2 hb3 e3 ho3 hs3 hb4 e4 ho4 hs4 ho5 hs5 HB0
  have a2 := cell_at K0.out 2 (.int .i64 3) rfl
  have f0 := cell_at e5 10 (.int .i64 0) rfl
  have f1 := cell_at e5 11 (.int .i64 0) rfl
  have fz := fz_row e5
  go_region
  rw [wrap2]
  obtain ⟨W6, hW, e6, hb6, hs6, ho6⟩ := set2 (o := 10) (v1 := .int .i64 0) (v2 := .int .i64 2) (c := #[.int .i64 0, .int .i64 0, .int .i64 1, .int .i64 16, .int .i64 1, .int .i64 16, .int .i64 1, .int .i64 16, .int .i64 1, .int .i64 16, .int .i64 0, .int .i64 2, .int .i64 0, .int .i64 0, .int .i64 0, .int .i64 0, .int .i64 0, .int .i64 2, .int .i64 4, .int .i64 3, .int .i64 0, .int .i64 0, .int .i64 0, .int .i64 0]) e5 hb5 (Nat.le_refl _) (by rfl)
  rw [hW]
  have K2 : Hid (W6.heap[w.heap.size]? = _) := (ho6 _ (by omega)).trans K0.out
  have K3 : Hid (W6.heap[w.heap.size + 1]? = _) := (ho6 _ (by omega)).trans K1.out
  clear hW ho6 hs6 e5 hb5 a2 f0 f1 fz K0 K1
  go_upto_region 6 with fail
  have a3 := cell_at K2.out 3 (.int .i64 1) rfl
  have f0 := cell_at e6 12 (.int .i64 0) rfl
  have f1 := cell_at e6 13 (.int .i64 0) rfl
  have fz := fz_row e6
  go_region
  obtain ⟨W7, hW, e7, hb7, hs7, ho7⟩ := set2 (o := 12) (v1 := .int .i64 0) (v2 := .int .i64 0) (c := #[.int .i64 0, .int .i64 0, .int .i64 1, .int .i64 16, .int .i64 1, .int .i64 16, .int .i64 1, .int .i64 16, .int .i64 1, .int .i64 16, .int .i64 0, .int .i64 2, .int .i64 0, .int .i64 0, .int .i64 0, .int .i64 0, .int .i64 0, .int .i64 2, .int .i64 4, .int .i64 3, .int .i64 0, .int .i64 0, .int .i64 0, .int .i64 0]) e6 hb6 (Nat.le_refl _) (by rfl)
  rw [hW]
  have K4 := (ho7 _ (by omega)).trans K2.out
  have K5 := (ho7 _ (by omega)).trans K3.out
  have K6 : Hid _ := (And.intro K4 K5)
  obtain ⟨a0, a1, a2, a3, a4, a5, a6, a7, a8, a9, a10, a11, a12, a13⟩ := cells14 K4
  obtain ⟨q0, q1, q2⟩ := cells3 K5
  clear hW ho7 hs7 e6 hb6 a3 f0 f1 fz K2 K3 K4 K5
  have HW1 : Hid _ := windows1
  have HW2 : Hid _ := windows2
  go_upto_region 8 with (first
    | (refine Calls.mono (HW1.out _) ?_; rintro e w' ⟨rfl, rfl⟩)
    | (refine wpList_store_at (by rfl) 3 _ _ (by rfl) w B B 18 (.int .i64 1) _ #[.int .i64 0, .int .i64 0, .int .i64 1, .int .i64 16, .int .i64 1, .int .i64 16, .int .i64 1, .int .i64 16, .int .i64 1, .int .i64 16, .int .i64 0, .int .i64 2, .int .i64 0, .int .i64 0, .int .i64 0, .int .i64 0, .int .i64 0, .int .i64 2, .int .i64 1, .int .i64 3, .int .i64 0, .int .i64 0, .int .i64 0, .int .i64 0] 86 (by rfl) (by rfl) e7 hb7 (Nat.le_refl _) 1 Try.infoInt (by rfl) (Nat.le_of_ble_eq_true rfl) (by exact one_int _) (by rfl) ?_; intro W8 e8 hb8 hs8 ho8))
  have K7 := (ho8 _ (by omega)).trans K6.out.1
  have K8 := (ho8 _ (by omega)).trans K6.out.2
  obtain ⟨p0, p1, p2, p3, p4, p5, p6, p7, p8, p9, p10, p11, p12, p13⟩ := cells14 K7
  obtain ⟨r0, r1, r2⟩ := cells3 K8
  go_wp2_with (first
    | (refine Calls.mono (HW2.out _) ?_; rintro e w' ⟨rfl, rfl⟩)
    | (refine wpList_store_at (by rfl) 3 _ _ (by rfl) w B B 19 (.int .i64 1) _ #[.int .i64 0, .int .i64 0, .int .i64 1, .int .i64 16, .int .i64 1, .int .i64 16, .int .i64 1, .int .i64 16, .int .i64 1, .int .i64 16, .int .i64 0, .int .i64 2, .int .i64 0, .int .i64 0, .int .i64 0, .int .i64 0, .int .i64 0, .int .i64 2, .int .i64 1, .int .i64 1, .int .i64 0, .int .i64 0, .int .i64 0, .int .i64 0] 86 (by rfl) (by rfl) e8 hb8 (Nat.le_refl _) 1 Try.infoInt (by rfl) (Nat.le_of_ble_eq_true rfl) (by exact one_int _) (by rfl) ?_; intro W9 e9 hb9 hs9 ho9))
  go_end0
  exact ⟨rfl, e9, hb9⟩
end Go.Proofs.Ytmbnbleahehdaaa
