import Derived.Test.YtokglpemefkmjaaRWb4
namespace Go.Proofs.Ytokglpemefkmjaa
open Go.RowKit
set_option linter.unusedVariables false
set_option linter.unusedSimpArgs false
set_option maxRecDepth 100000 in
set_option maxHeartbeats 4000000 in
theorem windowsQ_any (s p k t r : Int) (hr : s + 2 * p - k = r) (hs : 0 ≤ s ∧ s ≤ 256) (hp : 0 ≤ p ∧ p ≤ 16) (hk : 0 ≤ k ∧ k ≤ 16) (h0 : 0 ≤ r) (ht : 1 ≤ t ∧ t ≤ 16) (w : World) : Calls Try.prog 63 #[.int .i64 s, .int .i64 p, .int .i64 k, .int .i64 t] w fun e w' => e = .returned (.int .i64 (r.tdiv t + 1)) ∧ w' = w := by
  have w1 : IntKind.i64.wrap (2 * p) = 2 * p := by rw [IntKind.wrap_i64]; omega
  have w2 : IntKind.i64.wrap (s + 2 * p) = s + 2 * p := by rw [IntKind.wrap_i64]; omega
  have w3 : IntKind.i64.wrap (s + 2 * p - k) = r := by rw [IntKind.wrap_i64]; omega
  have hq : 0 ≤ r.tdiv t ∧ r.tdiv t ≤ r := by
    obtain ⟨R, rfl⟩ : ∃ R : Nat, r = R := ⟨r.toNat, by omega⟩
    obtain ⟨T, rfl⟩ : ∃ T : Nat, t = T := ⟨t.toNat, by omega⟩
    exact ⟨Int.ofNat_le.2 (Nat.zero_le _), Int.ofNat_le.2 (Nat.div_le_self _ _)⟩
  obtain ⟨q, hqe⟩ : ∃ q, r.tdiv t = q := ⟨_, rfl⟩
  rw [hqe] at hq ⊢
  have w4 : wrap64 (r.tdiv t) = q := by rw [hqe]; unfold wrap64; omega
  have w5 : IntKind.i64.wrap (q + 1) = q + 1 := by rw [IntKind.wrap_i64]; omega
  have w6 : IntKind.i64.wrap q = q := by rw [IntKind.wrap_i64]; omega
  have w7 : IntKind.i64.wrap (r.tdiv t) = q := by rw [hqe, w6]
  have n1 : ¬ r < 0 := by omega
  have n2 : ¬ t < 1 := by omega
  have n3 : ¬ t = 0 := by omega
  have d1 : decide (r < 0) = false := decide_eq_false (by omega)
  clear hqe
  go_enter Try.func63, Try.ntmps63
  go_wp2_with fail
  go_ret
  exact ⟨rfl, rfl⟩
set_option maxRecDepth 100000 in
set_option maxHeartbeats 4000000 in
theorem formMax_any (o kh kw sh sw ph pw fr : Int) (A : Nat) (v1 v2 v3 v4 : Value) (c h k : Int) (kh' kw' hh ww : Int) (hk1 : IntKind.i64.wrap (kh - 1) = kh') (hk2 : IntKind.i64.wrap (kw - 1) = kw')
    (hW1 : ∀ w, Calls Try.prog 63 #[.int .i64 h, .int .i64 ph, .int .i64 kh, .int .i64 sh] w fun e w' => e = .returned (.int .i64 hh) ∧ w' = w)
    (hW2 : ∀ w, Calls Try.prog 63 #[.int .i64 k, .int .i64 pw, .int .i64 kw, .int .i64 sw] w fun e w' => e = .returned (.int .i64 ww) ∧ w' = w) (w : World) :
    Calls Try.prog 45 #[.agg #[.int .i64 12, .int .i64 o, .int .i64 kh, .int .i64 kw, .int .i64 sh, .int .i64 sw, .int .i64 ph, .int .i64 pw, .int .i64 fr, .float .f64 A, v1, v2, v3, v4], .agg #[.int .i64 c, .int .i64 h, .int .i64 k]] w fun e w' =>
      e = .returned (.tuple #[.agg #[.int .i64 0, .int .i64 0, .int .i64 1, .int .i64 16, .int .i64 1, .int .i64 16, .int .i64 1, .int .i64 16, .int .i64 1, .int .i64 16, .int .i64 0, .int .i64 kh', .int .i64 0, .int .i64 kw', .int .i64 0, .int .i64 0, .int .i64 0, .int .i64 c, .int .i64 hh, .int .i64 ww, .int .i64 0, .int .i64 0, .int .i64 0, .int .i64 0], .bool true]) ∧ Below w.heap.size w w' := by
  have HW1 : Hid _ := hW1
  have HW2 : Hid _ := hW2
  clear hW1 hW2
  have HS : Hid _ := size_any c h k
  go_enter Try.func45, Try.ntmps45
  go_wp2_with fail
  refine Calls.mono (HS.out _) ?_
  rintro e w1 ⟨rfl, hb⟩
  have HB1 : Hid (Below w.heap.size w w1) := to_call ((((Below.refl _ w).alloc (Nat.le_refl _) _).alloc (by simp only [alloc_size]; omega) _).alloc (by simp only [alloc_size]; omega) _) hb
  have k0 := kept hb (alloc_kept (alloc_kept (heap_alloc_new w _) _) _)
  have k1 := kept hb (alloc_kept (heap_at _ _ (w.heap.size + 1) (by simp only [alloc_size])) _)
  have k2 := kept hb (heap_at _ _ (w.heap.size + 1 + 1) (by simp only [alloc_size]))
  have HK : Hid (w1.heap[w.heap.size]? = _ ∧ w1.heap[w.heap.size + 1]? = _ ∧ w1.heap[w.heap.size + 1 + 1]? = _) := ⟨k0, k1, k2⟩
  have hsz := blk_lt k2
  obtain ⟨b0, b1, b2⟩ := cells3 k1
  clear k0 k1 k2 hb HS
  unfold szV
  generalize (szF [c, h, k] 1).1 = n1
  generalize (szF [c, h, k] 1).2 = n2
  go_upto_region 22 with (first | (refine wpList_store_row (by rfl) 87 _ _ (by rfl) w w.heap.size w1.heap.size _ _ (by rfl) (by rfl) (heap_alloc_new w1 _) (HB1.out.alloc (by omega) _) (by omega) 24 Try.infoForm (by rfl) (by rfl) (by exact one24 ..) ?_; intro W2 e2 hb2 hs2 ho2; obtain ⟨a0, a1, a2, a3, a4, a5, a6, a7, a8, a9, a10, a11, a12, a13⟩ := cells14 ((ho2 _ (by omega)).trans (alloc_kept HK.out.1 _))))
  have HK2 : Hid (W2.heap[w.heap.size]? = _ ∧ W2.heap[w.heap.size + 1]? = _ ∧ W2.heap[w.heap.size + 1 + 1]? = _) := ⟨(ho2 _ (by omega)).trans (alloc_kept HK.out.1 _), (ho2 _ (by omega)).trans (alloc_kept HK.out.2.1 _), (ho2 _ (by omega)).trans (alloc_kept HK.out.2.2 _)⟩
  have hsW : w1.heap.size < W2.heap.size := blk_lt e2
  obtain ⟨q0, q1, q2⟩ := cells3 HK2.out.2.1
  have HG : Hid _ := goBy_any w1.heap.size 12 o kh kw sh sw ph pw fr A v1 v2 v3 v4 c h k 0 0 c 0 0 kh' kw' hh ww hk1 hk2 HW1.out HW2.out W2 e2
  go_upto_region 23 with (first
      | (refine wpList_load_row (by rfl) 30 _ (by rfl) w.heap.size _ (by rfl) HK2.out.1 _ Try.underlying30 rfl 14 Try.infoLy (by rfl) ?_)
      | (go_at_call 53; refine Calls.mono HG.out ?_; rintro e W6 ⟨rfl, e6, hb6⟩))
  have HK6 : Hid (W6.heap[w.heap.size]? = _ ∧ W6.heap[w.heap.size + 1]? = _ ∧ W6.heap[w.heap.size + 1 + 1]? = _) := ⟨(hb6.block _ (by omega)).trans HK2.out.1, (hb6.block _ (by omega)).trans HK2.out.2.1, (hb6.block _ (by omega)).trans HK2.out.2.2⟩
  have hb7 : Below w.heap.size w W6 := hb2.trans (hb6.mono (by omega))
  have p0 := cellAt HK6.out.1 0 (.int .i64 12) rfl
  go_upto_region 32 with fail
  go_wp2_with (first
    | (refine wpList_load_row (by rfl) 87 _ (by rfl) w1.heap.size _ (by rfl) e6 _ Try.underlying87 rfl 24 Try.infoForm (by rfl) ?_)
    | (refine wpList_store_row (by rfl) 87 _ _ (by rfl) w w.heap.size (w.heap.size + 1 + 1) _ _ (by rfl) (by rfl) HK6.out.2.2 hb7 (by omega) 24 Try.infoForm (by rfl) (by rfl) (by exact one24 ..) ?_; intro W9 e9 hb9 hs9 ho9))
  refine bodyPost_ret (res_form _ 4 5 (by kernel_rfl) _ _ (w.heap.size + 1 + 1) _ _ (by rfl) (by rfl) rfl e9) rfl ?_
  exact ⟨rfl, hb9⟩
set_option maxRecDepth 100000 in
set_option maxHeartbeats 1000000 in
theorem windowX_any (o kh kw sh sw ph pw fr : Int) (A : Nat) (v1 v2 v3 v4 : Value) (c h k t0 t1 t2 a y b x yy xx cc : Int) (h1 : IntKind.i64.wrap (t1 * sh) = a) (h2 : IntKind.i64.wrap (a - ph) = y) (h3 : IntKind.i64.wrap (t2 * sw) = b) (h4 : IntKind.i64.wrap (b - pw) = x) (h5 : IntKind.i64.wrap (y + kh) = yy) (h6 : IntKind.i64.wrap (x + kw) = xx) (h7 : IntKind.i64.wrap (t0 + 1) = cc) (w : World) :
    Calls Try.prog 42 #[.agg #[.int .i64 12, .int .i64 o, .int .i64 kh, .int .i64 kw, .int .i64 sh, .int .i64 sw, .int .i64 ph, .int .i64 pw, .int .i64 fr, .float .f64 A, v1, v2, v3, v4], .agg #[.int .i64 c, .int .i64 h, .int .i64 k], .agg #[.int .i64 t0, .int .i64 t1, .int .i64 t2]] w fun e w' =>
      e = .returned (.tuple #[.agg #[.int .i64 t0, .int .i64 y, .int .i64 x], .agg #[.int .i64 cc, .int .i64 yy, .int .i64 xx]]) ∧ Below w.heap.size w w' := by
  have HB : Hid (∀ x1 x2 x3 x4 x5, Below w.heap.size w (((((w.alloc x1).alloc x2).alloc x3).alloc x4).alloc x5)) := fun x1 x2 x3 x4 x5 => (((((Below.refl _ w).alloc (Nat.le_refl _) _).alloc (by simp only [alloc_size]; omega) _).alloc (by simp only [alloc_size]; omega) _).alloc (by simp only [alloc_size]; omega) _).alloc (by simp only [alloc_size]; omega) _
  go_enter Try.func42, Try.ntmps42
  go_wp2_with fail
  go_region
  go_wp2_with fail
  exact bodyPost_ret (res_two _ 6 7 69 (by kernel_rfl) _ _ (w.heap.size + 1 + 1 + 1) (w.heap.size + 1 + 1 + 1 + 1) _ _ (by rfl) (by rfl) _ Try.underlying69 rfl 3 Try.infoPlace rfl rfl (alloc_kept (heap_at _ _ (w.heap.size + 1 + 1 + 1) (by simp only [alloc_size])) _) (heap_at _ _ (w.heap.size + 1 + 1 + 1 + 1) (by simp only [alloc_size]))) rfl ⟨rfl, (HB.out _ _ _ _ _).drew⟩
end Go.Proofs.Ytokglpemefkmjaa
