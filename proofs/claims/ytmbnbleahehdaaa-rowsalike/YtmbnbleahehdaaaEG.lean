import Derived.Test.YtmbnbleahehdaaaEF
import Derived.Test.YtmbnbleahehdaaaVE
namespace Go.Proofs.Ytmbnbleahehdaaa
open Go.RowKit
set_option linter.unusedVariables false

theorem Wr.drewE {w0 x W : World} {base B : Nat} {t : TypeId} {cur : Array Value} (h : Wr w0 base B t x W cur) : Wr w0 base B t x W.drew cur := ⟨h.blk, h.bel.drew, h.oth⟩
set_option maxRecDepth 100000 in
set_option maxHeartbeats 4000000 in
theorem formScale_any (o kh kw sh sw ph pw fr : Int) (A : Nat) (v1 v2 v3 v4 : Value) (c h k : Int)  (w : World) :
    Calls Try.prog 42 #[.agg #[.int .i64 3, .int .i64 o, .int .i64 kh, .int .i64 kw, .int .i64 sh, .int .i64 sw, .int .i64 ph, .int .i64 pw, .int .i64 fr, .float .f64 A, v1, v2, v3, v4], .agg #[.int .i64 c, .int .i64 h, .int .i64 k]] w fun e w' =>
      e = .returned (.tuple #[.agg #[.int .i64 0, .int .i64 0, .int .i64 0, .int .i64 0, .int .i64 0, .int .i64 0, .int .i64 0, .int .i64 0, .int .i64 0, .int .i64 0, .int .i64 0, .int .i64 0, .int .i64 0, .int .i64 0, .int .i64 0, .int .i64 0, .int .i64 0, .int .i64 c, .int .i64 h, .int .i64 k, .int .i64 c, .int .i64 c, .int .i64 0, .int .i64 0], .bool true]) ∧ Below w.heap.size w w' := by
  have HS : Hid _ := size_any c h k
  go_enter Try.func42, Try.ntmps42
  go_wp2_with fail
  refine Calls.mono (HS.out _) ?_
  rintro e w1 ⟨rfl, hb⟩
  have HB1 : Hid (Below w.heap.size w w1) := to_call ((((Below.refl _ w).alloc (Nat.le_refl _) _).alloc (by simp only [alloc_size]; omega) _).alloc (by simp only [alloc_size]; omega) _) hb
  have k0 := kept hb (alloc_kept (alloc_kept (heap_alloc_new w _) _) _)
  have k1 := kept hb (alloc_kept (heap_at _ _ (w.heap.size + 1) (by simp only [alloc_size])) _)
  have k2 := kept hb (heap_at _ _ (w.heap.size + 1 + 1) (by simp only [alloc_size]))
  have HK : Hid (w1.heap[w.heap.size]? = _ ∧ w1.heap[w.heap.size + 1]? = _ ∧ w1.heap[w.heap.size + 1 + 1]? = _) := ⟨k0, k1, k2⟩
  have hsz := blk_lt k2
  obtain ⟨b0, b1, b2⟩ := cells3 k1
  clear k0 k1 k2 hb HS
  unfold szV
  generalize (szF [c, h, k] 1).1 = n1
  generalize (szF [c, h, k] 1).2 = n2
  go_upto_region 25 with (first | (refine wpList_store_row (by rfl) 86 _ _ (by rfl) w w.heap.size w1.heap.size _ _ (by rfl) (by rfl) (heap_alloc_new w1 _) (HB1.out.alloc (by omega) _) (by omega) 24 Try.infoForm (by rfl) (by rfl) (by exact one24 ..) ?_; intro W2 e2 hb2 hs2 ho2; obtain ⟨a0, a1, a2, a3, a4, a5, a6, a7, a8, a9, a10, a11, a12, a13⟩ := cells14 ((ho2 _ (by omega)).trans (alloc_kept HK.out.1 _))))
  have HK2 : Hid (W2.heap[w.heap.size]? = _ ∧ W2.heap[w.heap.size + 1]? = _ ∧ W2.heap[w.heap.size + 1 + 1]? = _) := ⟨(ho2 _ (by omega)).trans (alloc_kept HK.out.1 _), (ho2 _ (by omega)).trans (alloc_kept HK.out.2.1 _), (ho2 _ (by omega)).trans (alloc_kept HK.out.2.2 _)⟩
  have hsW : w1.heap.size < W2.heap.size := blk_lt e2
  obtain ⟨q0, q1, q2⟩ := cells3 HK2.out.2.1
  clear a0 a1 a2 a3 a4 a5 a6 a7 a8 a9 a10 a11 a12 a13 b0 b1 b2
  have f20 := cellAt e2 20 (.int .i64 0) rfl
  have f21 := cellAt e2 21 (.int .i64 0) rfl
  have fz := frz e2
  have hne : (20 : Nat) ≠ 21 := by decide
  go_region
  all_goals
    have HWR : Wr w w.heap.size w1.heap.size 86 W2 _ _ := (((Wr.mk e2 hb2 (fun _ _ => rfl) : Wr w w.heap.size w1.heap.size 86 W2 W2 _).step (by omega) 20 (.int .i64 c)).step (by omega) 21 (.int .i64 c)).drewE
    obtain ⟨W5, hW5⟩ : ∃ W5, ((W2.setCell ⟨w1.heap.size, 20, none⟩ (.int .i64 c)).setCell ⟨w1.heap.size, 21, none⟩ (.int .i64 c)).drew = W5 := ⟨_, rfl⟩
    rw [hW5] at HWR ⊢
    clear hW5
    have e5 : W5.heap[w1.heap.size]? = some (.cells #[.int .i64 0, .int .i64 0, .int .i64 0, .int .i64 0, .int .i64 0, .int .i64 0, .int .i64 0, .int .i64 0, .int .i64 0, .int .i64 0, .int .i64 0, .int .i64 0, .int .i64 0, .int .i64 0, .int .i64 0, .int .i64 0, .int .i64 0, .int .i64 c, .int .i64 h, .int .i64 k, .int .i64 c, .int .i64 c, .int .i64 0, .int .i64 0] 86) := HWR.blk
    have hb5 := HWR.bel
    have ho5 := HWR.oth
    have HK5 : Hid (W5.heap[w.heap.size]? = _ ∧ W5.heap[w.heap.size + 1]? = _ ∧ W5.heap[w.heap.size + 1 + 1]? = _) := ⟨(ho5 _ (by omega)).trans HK2.out.1, (ho5 _ (by omega)).trans HK2.out.2.1, (ho5 _ (by omega)).trans HK2.out.2.2⟩
    clear HWR f20 f21 fz
    go_upto_region 32 with fail
    go_wp2_with (first
      | (refine wpList_load_row (by rfl) 86 _ (by rfl) w1.heap.size _ (by rfl) e5 _ Try.underlying86 rfl 24 Try.infoForm (by rfl) ?_)
      | (refine wpList_store_row (by rfl) 86 _ _ (by rfl) w w.heap.size (w.heap.size + 1 + 1) _ _ (by rfl) (by rfl) HK5.out.2.2 hb5 (by omega) 24 Try.infoForm (by rfl) (by rfl) (by exact one24 ..) ?_; intro W9 e9 hb9 hs9 ho9))
    refine bodyPost_ret (res_form _ 4 5 (by kernel_rfl) _ _ (w.heap.size + 1 + 1) _ _ (by rfl) (by rfl) rfl e9) rfl ?_
    exact ⟨rfl, hb9⟩
set_option maxRecDepth 100000 in
set_option maxHeartbeats 4000000 in
theorem formMean_any (o kh kw sh sw ph pw fr : Int) (A : Nat) (v1 v2 v3 v4 : Value) (c h k : Int) (kh' kw' hh ww : Int) (hk1 : IntKind.i64.wrap (kh - 1) = kh') (hk2 : IntKind.i64.wrap (kw - 1) = kw')
    (hW1 : ∀ w, Calls Try.prog 60 #[.int .i64 h, .int .i64 ph, .int .i64 kh, .int .i64 sh] w fun e w' => e = .returned (.int .i64 hh) ∧ w' = w)
    (hW2 : ∀ w, Calls Try.prog 60 #[.int .i64 k, .int .i64 pw, .int .i64 kw, .int .i64 sw] w fun e w' => e = .returned (.int .i64 ww) ∧ w' = w) (w : World) :
    Calls Try.prog 42 #[.agg #[.int .i64 4, .int .i64 o, .int .i64 kh, .int .i64 kw, .int .i64 sh, .int .i64 sw, .int .i64 ph, .int .i64 pw, .int .i64 fr, .float .f64 A, v1, v2, v3, v4], .agg #[.int .i64 c, .int .i64 h, .int .i64 k]] w fun e w' =>
      e = .returned (.tuple #[.agg #[.int .i64 0, .int .i64 0, .int .i64 1, .int .i64 16, .int .i64 1, .int .i64 16, .int .i64 1, .int .i64 16, .int .i64 1, .int .i64 16, .int .i64 0, .int .i64 kh', .int .i64 0, .int .i64 kw', .int .i64 0, .int .i64 0, .int .i64 1, .int .i64 c, .int .i64 hh, .int .i64 ww, .int .i64 0, .int .i64 0, .int .i64 0, .int .i64 0], .bool true]) ∧ Below w.heap.size w w' := by
  have HW1 : Hid _ := hW1
  have HW2 : Hid _ := hW2
  clear hW1 hW2
  have HS : Hid _ := size_any c h k
  go_enter Try.func42, Try.ntmps42
  go_wp2_with fail
  refine Calls.mono (HS.out _) ?_
  rintro e w1 ⟨rfl, hb⟩
  have HB1 : Hid (Below w.heap.size w w1) := to_call ((((Below.refl _ w).alloc (Nat.le_refl _) _).alloc (by simp only [alloc_size]; omega) _).alloc (by simp only [alloc_size]; omega) _) hb
  have k0 := kept hb (alloc_kept (alloc_kept (heap_alloc_new w _) _) _)
  have k1 := kept hb (alloc_kept (heap_at _ _ (w.heap.size + 1) (by simp only [alloc_size])) _)
  have k2 := kept hb (heap_at _ _ (w.heap.size + 1 + 1) (by simp only [alloc_size]))
  have HK : Hid (w1.heap[w.heap.size]? = _ ∧ w1.heap[w.heap.size + 1]? = _ ∧ w1.heap[w.heap.size + 1 + 1]? = _) := ⟨k0, k1, k2⟩
  have hsz := blk_lt k2
  obtain ⟨b0, b1, b2⟩ := cells3 k1
  clear k0 k1 k2 hb HS
  unfold szV
  generalize (szF [c, h, k] 1).1 = n1
  generalize (szF [c, h, k] 1).2 = n2
  go_upto_region 22 with (first | (refine wpList_store_row (by rfl) 86 _ _ (by rfl) w w.heap.size w1.heap.size _ _ (by rfl) (by rfl) (heap_alloc_new w1 _) (HB1.out.alloc (by omega) _) (by omega) 24 Try.infoForm (by rfl) (by rfl) (by exact one24 ..) ?_; intro W2 e2 hb2 hs2 ho2; obtain ⟨a0, a1, a2, a3, a4, a5, a6, a7, a8, a9, a10, a11, a12, a13⟩ := cells14 ((ho2 _ (by omega)).trans (alloc_kept HK.out.1 _))))
  have HK2 : Hid (W2.heap[w.heap.size]? = _ ∧ W2.heap[w.heap.size + 1]? = _ ∧ W2.heap[w.heap.size + 1 + 1]? = _) := ⟨(ho2 _ (by omega)).trans (alloc_kept HK.out.1 _), (ho2 _ (by omega)).trans (alloc_kept HK.out.2.1 _), (ho2 _ (by omega)).trans (alloc_kept HK.out.2.2 _)⟩
  have hsW : w1.heap.size < W2.heap.size := blk_lt e2
  obtain ⟨q0, q1, q2⟩ := cells3 HK2.out.2.1
  have HG : Hid _ := goBy_any w1.heap.size 4 o kh kw sh sw ph pw fr A v1 v2 v3 v4 c h k 0 0 c 0 0 kh' kw' hh ww hk1 hk2 HW1.out HW2.out W2 e2
  go_upto_region 23 with (first
      | (refine wpList_load_row (by rfl) 30 _ (by rfl) w.heap.size _ (by rfl) HK2.out.1 _ Try.underlying30 rfl 14 Try.infoLy (by rfl) ?_)
      | (go_at_call 50; refine Calls.mono HG.out ?_; rintro e W6 ⟨rfl, e6, hb6⟩))
  have HK6 : Hid (W6.heap[w.heap.size]? = _ ∧ W6.heap[w.heap.size + 1]? = _ ∧ W6.heap[w.heap.size + 1 + 1]? = _) := ⟨(hb6.block _ (by omega)).trans HK2.out.1, (hb6.block _ (by omega)).trans HK2.out.2.1, (hb6.block _ (by omega)).trans HK2.out.2.2⟩
  have hb7 : Below w.heap.size w W6 := hb2.trans (hb6.mono (by omega))
  have p0 := cellAt HK6.out.1 0 (.int .i64 4) rfl
  have hs6 := blk_lt e6
  go_upto_region 32 with (first | (refine wpList_store_at (by rfl) 3 _ _ (by rfl) w w.heap.size w1.heap.size 16 (.int .i64 1) _ #[.int .i64 0, .int .i64 0, .int .i64 1, .int .i64 16, .int .i64 1, .int .i64 16, .int .i64 1, .int .i64 16, .int .i64 1, .int .i64 16, .int .i64 0, .int .i64 kh', .int .i64 0, .int .i64 kw', .int .i64 0, .int .i64 0, .int .i64 1, .int .i64 c, .int .i64 hh, .int .i64 ww, .int .i64 0, .int .i64 0, .int .i64 0, .int .i64 0] 86 (by rfl) (by rfl) e6 hb7 (by omega) 1 Try.infoInt (by rfl) (Nat.le_of_ble_eq_true rfl) (by exact one_int _) (by rfl) ?_; intro W8 e8 hb8 hs8 ho8))
  have HK8 : Hid (W8.heap[w.heap.size]? = _ ∧ W8.heap[w.heap.size + 1]? = _ ∧ W8.heap[w.heap.size + 1 + 1]? = _) := ⟨(ho8 _ (by omega)).trans HK6.out.1, (ho8 _ (by omega)).trans HK6.out.2.1, (ho8 _ (by omega)).trans HK6.out.2.2⟩
  go_wp2_with (first
    | (refine wpList_load_row (by rfl) 86 _ (by rfl) w1.heap.size _ (by rfl) e8 _ Try.underlying86 rfl 24 Try.infoForm (by rfl) ?_)
    | (refine wpList_store_row (by rfl) 86 _ _ (by rfl) w w.heap.size (w.heap.size + 1 + 1) _ _ (by rfl) (by rfl) HK8.out.2.2 hb8 (by omega) 24 Try.infoForm (by rfl) (by rfl) (by exact one24 ..) ?_; intro W9 e9 hb9 hs9 ho9))
  refine bodyPost_ret (res_form _ 4 5 (by kernel_rfl) _ _ (w.heap.size + 1 + 1) _ _ (by rfl) (by rfl) rfl e9) rfl ?_
  exact ⟨rfl, hb9⟩
end Go.Proofs.Ytmbnbleahehdaaa
