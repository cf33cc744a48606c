import Derived.Test.YtmbnbleahehdaaaKI
import Derived.Test.YtmbnbleahehdaaaTE
namespace Go.Proofs.Ytmbnbleahehdaaa
open Go.RowKit
set_option linter.unusedVariables false

set_option maxRecDepth 100000 in
theorem windows_one (h : Int) (hh : 1 ≤ h ∧ h ≤ 256) (w : World) : Calls Try.prog 60 #[.int .i64 h, .int .i64 0, .int .i64 1, .int .i64 1] w fun e w' => e = .returned (.int .i64 h) ∧ w' = w := by
  have w1 : IntKind.i64.wrap h = h := by rw [IntKind.wrap_i64]; omega
  have w2 : IntKind.i64.wrap (h - 1) = h - 1 := by rw [IntKind.wrap_i64]; omega
  have w5 : IntKind.i64.wrap (h - 1 + 1) = h := by rw [IntKind.wrap_i64]; omega
  have w6 : wrap64 (h - 1) = h - 1 := by unfold wrap64; omega
  have n1 : ¬ h - 1 < 0 := by omega
  have n2 : ¬ h < 1 := by omega
  have d1 : decide (h - 1 < 0) = false := decide_eq_false (by omega)
  go_enter Try.func60, Try.ntmps60
  go_wp2_with fail
  go_ret
  exact ⟨rfl, rfl⟩
set_option maxRecDepth 100000 in
set_option maxHeartbeats 4000000 in
theorem goBy_any (B : Nat) (kd o kh kw sh sw ph pw fr : Int) (A : Nat) (v1 v2 v3 v4 : Value) (c h k y0 y1 y17 y20 y21 kh' kw' hh ww : Int) (hk1 : IntKind.i64.wrap (kh - 1) = kh') (hk2 : IntKind.i64.wrap (kw - 1) = kw')
    (hW1 : ∀ w, Calls Try.prog 60 #[.int .i64 h, .int .i64 ph, .int .i64 kh, .int .i64 sh] w fun e w' => e = .returned (.int .i64 hh) ∧ w' = w)
    (hW2 : ∀ w, Calls Try.prog 60 #[.int .i64 k, .int .i64 pw, .int .i64 kw, .int .i64 sw] w fun e w' => e = .returned (.int .i64 ww) ∧ w' = w)
    (w : World) (hB : w.heap[B]? = some (.cells #[.int .i64 y0, .int .i64 y1, .int .i64 0, .int .i64 0, .int .i64 0, .int .i64 0, .int .i64 0, .int .i64 0, .int .i64 0, .int .i64 0, .int .i64 0, .int .i64 0, .int .i64 0, .int .i64 0, .int .i64 0, .int .i64 0, .int .i64 0, .int .i64 y17, .int .i64 h, .int .i64 k, .int .i64 y20, .int .i64 y21, .int .i64 0, .int .i64 0] 86)) :
    Calls Try.prog 50 #[.pointer (some ⟨B, 0, none⟩), .agg #[.int .i64 kd, .int .i64 o, .int .i64 kh, .int .i64 kw, .int .i64 sh, .int .i64 sw, .int .i64 ph, .int .i64 pw, .int .i64 fr, .float .f64 A, v1, v2, v3, v4], .agg #[.int .i64 c, .int .i64 h, .int .i64 k]] w fun e w' =>
      e = .returned (.tuple #[]) ∧ w'.heap[B]? = some (.cells #[.int .i64 y0, .int .i64 y1, .int .i64 1, .int .i64 16, .int .i64 1, .int .i64 16, .int .i64 1, .int .i64 16, .int .i64 1, .int .i64 16, .int .i64 0, .int .i64 kh', .int .i64 0, .int .i64 kw', .int .i64 0, .int .i64 0, .int .i64 0, .int .i64 y17, .int .i64 hh, .int .i64 ww, .int .i64 y20, .int .i64 y21, .int .i64 0, .int .i64 0] 86) ∧ Below B w w' := by
  have HB0 : Hid _ := hB
  have HW1 : Hid _ := hW1
  have HW2 : Hid _ := hW2
  have hBl := blk_lt hB
  clear hB hW1 hW2
  go_enter Try.func50, Try.ntmps50
  go_upto_region 1 with fail
  have hb1 : Below B w _ := ((Below.refl B w).alloc (by omega) (Obj.cells #[.int .i64 kd, .int .i64 o, .int .i64 kh, .int .i64 kw, .int .i64 sh, .int .i64 sw, .int .i64 ph, .int .i64 pw, .int .i64 fr, .float .f64 A, v1, v2, v3, v4] 30)).alloc (by simp only [alloc_size]; omega) (Obj.cells #[.int .i64 c, .int .i64 h, .int .i64 k] 25)
  have e1 := alloc_kept (alloc_kept HB0.out (Obj.cells #[.int .i64 kd, .int .i64 o, .int .i64 kh, .int .i64 kw, .int .i64 sh, .int .i64 sw, .int .i64 ph, .int .i64 pw, .int .i64 fr, .float .f64 A, v1, v2, v3, v4] 30)) (Obj.cells #[.int .i64 c, .int .i64 h, .int .i64 k] 25)
  have k0 := alloc_kept (heap_alloc_new w (Obj.cells #[.int .i64 kd, .int .i64 o, .int .i64 kh, .int .i64 kw, .int .i64 sh, .int .i64 sw, .int .i64 ph, .int .i64 pw, .int .i64 fr, .float .f64 A, v1, v2, v3, v4] 30)) (Obj.cells #[.int .i64 c, .int .i64 h, .int .i64 k] 25)
  have k1 := heap_at (w.alloc (Obj.cells #[.int .i64 kd, .int .i64 o, .int .i64 kh, .int .i64 kw, .int .i64 sh, .int .i64 sw, .int .i64 ph, .int .i64 pw, .int .i64 fr, .float .f64 A, v1, v2, v3, v4] 30)) (Obj.cells #[.int .i64 c, .int .i64 h, .int .i64 k] 25) (w.heap.size + 1) (by simp only [alloc_size])
  go_upto_region 5 with (first
    | (refine wpList_store_at (by rfl) 83 _ _ (by rfl) w B B 2 (.agg #[.int .i64 1, .int .i64 16]) _ #[.int .i64 y0, .int .i64 y1, .int .i64 1, .int .i64 16, .int .i64 0, .int .i64 0, .int .i64 0, .int .i64 0, .int .i64 0, .int .i64 0, .int .i64 0, .int .i64 0, .int .i64 0, .int .i64 0, .int .i64 0, .int .i64 0, .int .i64 0, .int .i64 y17, .int .i64 h, .int .i64 k, .int .i64 y20, .int .i64 y21, .int .i64 0, .int .i64 0] 86 (by rfl) (by rfl) e1 hb1 (Nat.le_refl _) 2 Try.infoBound (by rfl) (Nat.le_of_ble_eq_true rfl) (by exact one_int2 _ _) (by rfl) ?_; intro W2 e2 hb2 hs2 ho2)
    | (refine wpList_store_at (by rfl) 83 _ _ (by rfl) w B B 4 (.agg #[.int .i64 1, .int .i64 16]) _ #[.int .i64 y0, .int .i64 y1, .int .i64 1, .int .i64 16, .int .i64 1, .int .i64 16, .int .i64 0, .int .i64 0, .int .i64 0, .int .i64 0, .int .i64 0, .int .i64 0, .int .i64 0, .int .i64 0, .int .i64 0, .int .i64 0, .int .i64 0, .int .i64 y17, .int .i64 h, .int .i64 k, .int .i64 y20, .int .i64 y21, .int .i64 0, .int .i64 0] 86 (by rfl) (by rfl) e2 hb2 (Nat.le_refl _) 2 Try.infoBound (by rfl) (Nat.le_of_ble_eq_true rfl) (by exact one_int2 _ _) (by rfl) ?_; intro W3 e3 hb3 hs3 ho3)
    | (refine wpList_store_at (by rfl) 83 _ _ (by rfl) w B B 6 (.agg #[.int .i64 1, .int .i64 16]) _ #[.int .i64 y0, .int .i64 y1, .int .i64 1, .int .i64 16, .int .i64 1, .int .i64 16, .int .i64 1, .int .i64 16, .int .i64 0, .int .i64 0, .int .i64 0, .int .i64 0, .int .i64 0, .int .i64 0, .int .i64 0, .int .i64 0, .int .i64 0, .int .i64 y17, .int .i64 h, .int .i64 k, .int .i64 y20, .int .i64 y21, .int .i64 0, .int .i64 0] 86 (by rfl) (by rfl) e3 hb3 (Nat.le_refl _) 2 Try.infoBound (by rfl) (Nat.le_of_ble_eq_true rfl) (by exact one_int2 _ _) (by rfl) ?_; intro W4 e4 hb4 hs4 ho4)
    | (refine wpList_store_at (by rfl) 83 _ _ (by rfl) w B B 8 (.agg #[.int .i64 1, .int .i64 16]) _ #[.int .i64 y0, .int .i64 y1, .int .i64 1, .int .i64 16, .int .i64 1, .int .i64 16, .int .i64 1, .int .i64 16, .int .i64 1, .int .i64 16, .int .i64 0, .int .i64 0, .int .i64 0, .int .i64 0, .int .i64 0, .int .i64 0, .int .i64 0, .int .i64 y17, .int .i64 h, .int .i64 k, .int .i64 y20, .int .i64 y21, .int .i64 0, .int .i64 0] 86 (by rfl) (by rfl) e4 hb4 (Nat.le_refl _) 2 Try.infoBound (by rfl) (Nat.le_of_ble_eq_true rfl) (by exact one_int2 _ _) (by rfl) ?_; intro W5 e5 hb5 hs5 ho5))
  have K0 : Hid (W5.heap[w.heap.size]? = _) := (ho5 _ (by omega)).trans ((ho4 _ (by omega)).trans ((ho3 _ (by omega)).trans ((ho2 _ (by omega)).trans k0)))
  have K1 : Hid (W5.heap[w.heap.size + 1]? = _) := (ho5 _ (by omega)).trans ((ho4 _ (by omega)).trans ((ho3 _ (by omega)).trans ((ho2 _ (by omega)).trans k1)))
  clear hb1 e1 k0 k1 hb2 e2 ho2 hs2 hb3 e3 ho3 hs3 hb4 e4 ho4 hs4 ho5 hs5 HB0
  have a2 := cell_at K0.out 2 (.int .i64 kh) rfl
  have f0 := cell_at e5 10 (.int .i64 0) rfl
  have f1 := cell_at e5 11 (.int .i64 0) rfl
  have fz := fz_row e5
  go_region
  obtain ⟨W6, hW, e6, hb6, hs6, ho6⟩ := set2 (o := 10) (v1 := .int .i64 0) (v2 := .int .i64 kh') (c := #[.int .i64 y0, .int .i64 y1, .int .i64 1, .int .i64 16, .int .i64 1, .int .i64 16, .int .i64 1, .int .i64 16, .int .i64 1, .int .i64 16, .int .i64 0, .int .i64 kh', .int .i64 0, .int .i64 0, .int .i64 0, .int .i64 0, .int .i64 0, .int .i64 y17, .int .i64 h, .int .i64 k, .int .i64 y20, .int .i64 y21, .int .i64 0, .int .i64 0]) e5 hb5 (Nat.le_refl _) (by rfl)
  rw [hW]
  have K2 : Hid (W6.heap[w.heap.size]? = _) := (ho6 _ (by omega)).trans K0.out
  have K3 : Hid (W6.heap[w.heap.size + 1]? = _) := (ho6 _ (by omega)).trans K1.out
  clear hW ho6 hs6 e5 hb5 a2 f0 f1 fz K0 K1
  go_upto_region 6 with fail
  have a3 := cell_at K2.out 3 (.int .i64 kw) rfl
  have f0 := cell_at e6 12 (.int .i64 0) rfl
  have f1 := cell_at e6 13 (.int .i64 0) rfl
  have fz := fz_row e6
  go_region
  obtain ⟨W7, hW, e7, hb7, hs7, ho7⟩ := set2 (o := 12) (v1 := .int .i64 0) (v2 := .int .i64 kw') (c := #[.int .i64 y0, .int .i64 y1, .int .i64 1, .int .i64 16, .int .i64 1, .int .i64 16, .int .i64 1, .int .i64 16, .int .i64 1, .int .i64 16, .int .i64 0, .int .i64 kh', .int .i64 0, .int .i64 kw', .int .i64 0, .int .i64 0, .int .i64 0, .int .i64 y17, .int .i64 h, .int .i64 k, .int .i64 y20, .int .i64 y21, .int .i64 0, .int .i64 0]) e6 hb6 (Nat.le_refl _) (by rfl)
  rw [hW]
  have K4 := (ho7 _ (by omega)).trans K2.out
  have K5 := (ho7 _ (by omega)).trans K3.out
  have K6 : Hid _ := (And.intro K4 K5)
  obtain ⟨a0, a1, a2, a3, a4, a5, a6, a7, a8, a9, a10, a11, a12, a13⟩ := cells14 K4
  obtain ⟨q0, q1, q2⟩ := cells3 K5
  clear hW ho7 hs7 e6 hb6 f0 f1 fz K2 K3 K4 K5
  go_upto_region 8 with (first
    | (go_at_call 60; refine Calls.mono (HW1.out _) ?_; rintro e w' ⟨rfl, rfl⟩)
    | (refine wpList_store_at (by rfl) 3 _ _ (by rfl) w B B 18 (.int .i64 hh) _ #[.int .i64 y0, .int .i64 y1, .int .i64 1, .int .i64 16, .int .i64 1, .int .i64 16, .int .i64 1, .int .i64 16, .int .i64 1, .int .i64 16, .int .i64 0, .int .i64 kh', .int .i64 0, .int .i64 kw', .int .i64 0, .int .i64 0, .int .i64 0, .int .i64 y17, .int .i64 hh, .int .i64 k, .int .i64 y20, .int .i64 y21, .int .i64 0, .int .i64 0] 86 (by rfl) (by rfl) e7 hb7 (Nat.le_refl _) 1 Try.infoInt (by rfl) (Nat.le_of_ble_eq_true rfl) (by exact one_int _) (by rfl) ?_; intro W8 e8 hb8 hs8 ho8))
  have K7 := (ho8 _ (by omega)).trans K6.out.1
  have K8 := (ho8 _ (by omega)).trans K6.out.2
  obtain ⟨p0, p1, p2, p3, p4, p5, p6, p7, p8, p9, p10, p11, p12, p13⟩ := cells14 K7
  obtain ⟨r0, r1, r2⟩ := cells3 K8
  go_wp2_with (first
    | (go_at_call 60; refine Calls.mono (HW2.out _) ?_; rintro e w' ⟨rfl, rfl⟩)
    | (refine wpList_store_at (by rfl) 3 _ _ (by rfl) w B B 19 (.int .i64 ww) _ #[.int .i64 y0, .int .i64 y1, .int .i64 1, .int .i64 16, .int .i64 1, .int .i64 16, .int .i64 1, .int .i64 16, .int .i64 1, .int .i64 16, .int .i64 0, .int .i64 kh', .int .i64 0, .int .i64 kw', .int .i64 0, .int .i64 0, .int .i64 0, .int .i64 y17, .int .i64 hh, .int .i64 ww, .int .i64 y20, .int .i64 y21, .int .i64 0, .int .i64 0] 86 (by rfl) (by rfl) e8 hb8 (Nat.le_refl _) 1 Try.infoInt (by rfl) (Nat.le_of_ble_eq_true rfl) (by exact one_int _) (by rfl) ?_; intro W9 e9 hb9 hs9 ho9))
  go_end0
  exact ⟨rfl, e9, hb9⟩
end Go.Proofs.Ytmbnbleahehdaaa
