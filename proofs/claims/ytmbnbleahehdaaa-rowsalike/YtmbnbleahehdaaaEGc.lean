import Derived.Test.YtmbnbleahehdaaaEG
import Derived.Test.YtmbnbleahehdaaaGR
import Derived.Test.YtmbnbleahehdaaaVE
namespace Go.Proofs.Ytmbnbleahehdaaa
open Go.RowKit
set_option linter.unusedVariables false
set_option linter.unusedSimpArgs false

set_option maxRecDepth 100000 in
set_option maxHeartbeats 40000000 in
theorem formConv_any (o kh kw sh sw ph pw fr : Int) (A : Nat) (v1 v2 v3 v4 : Value) (c h k : Int) (kh' kw' hh ww : Int) (hk1 : IntKind.i64.wrap (kh - 1) = kh') (hk2 : IntKind.i64.wrap (kw - 1) = kw')
    (hW1 : ∀ w, Calls Try.prog 60 #[.int .i64 h, .int .i64 ph, .int .i64 kh, .int .i64 sh] w fun e w' => e = .returned (.int .i64 hh) ∧ w' = w)
    (hW2 : ∀ w, Calls Try.prog 60 #[.int .i64 k, .int .i64 pw, .int .i64 kw, .int .i64 sw] w fun e w' => e = .returned (.int .i64 ww) ∧ w' = w) (p1 p2 p : Int) (hp1 : IntKind.i64.wrap (o * c) = p1) (hp2 : IntKind.i64.wrap (p1 * kh) = p2) (hp : IntKind.i64.wrap (p2 * kw) = p) (w : World) :
    Calls Try.prog 42 #[.agg #[.int .i64 2, .int .i64 o, .int .i64 kh, .int .i64 kw, .int .i64 sh, .int .i64 sw, .int .i64 ph, .int .i64 pw, .int .i64 fr, .float .f64 A, v1, v2, v3, v4], .agg #[.int .i64 c, .int .i64 h, .int .i64 k]] w fun e w' =>
      e = .returned (.tuple #[.agg #[.int .i64 1, .int .i64 256, .int .i64 1, .int .i64 16, .int .i64 1, .int .i64 16, .int .i64 1, .int .i64 16, .int .i64 1, .int .i64 16, .int .i64 0, .int .i64 kh', .int .i64 0, .int .i64 kw', .int .i64 0, .int .i64 0, .int .i64 0, .int .i64 o, .int .i64 hh, .int .i64 ww, .int .i64 p, .int .i64 o, .int .i64 0, .int .i64 0], .bool true]) ∧ Below w.heap.size w w' := by
  have HW1 : Hid _ := hW1
  have HW2 : Hid _ := hW2
  clear hW1 hW2
  have HS : Hid _ := size_any c h k
  go_enter Try.func42, Try.ntmps42
  go_wp2_with fail
  refine Calls.mono (HS.out _) ?_
  rintro e w1 ⟨rfl, hb⟩
  have HB1 : Hid (Below w.heap.size w w1) := to_call ((((Below.refl _ w).alloc (Nat.le_refl _) _).alloc (by simp only [alloc_size]; omega) _).alloc (by simp only [alloc_size]; omega) _) hb
  have k0 := kept hb (alloc_kept (alloc_kept (heap_alloc_new w _) _) _)
  have k1 := kept hb (alloc_kept (heap_at _ _ (w.heap.size + 1) (by simp only [alloc_size])) _)
  have k2 := kept hb (heap_at _ _ (w.heap.size + 1 + 1) (by simp only [alloc_size]))
  have HK : Hid (w1.heap[w.heap.size]? = _ ∧ w1.heap[w.heap.size + 1]? = _ ∧ w1.heap[w.heap.size + 1 + 1]? = _) := ⟨k0, k1, k2⟩
  have hsz := blk_lt k2
  obtain ⟨b0, b1, b2⟩ := cells3 k1
  clear k0 k1 k2 hb HS
  unfold szV
  generalize (szF [c, h, k] 1).1 = n1
  generalize (szF [c, h, k] 1).2 = n2
  go_upto_region 19 with (first | (refine wpList_store_row (by rfl) 86 _ _ (by rfl) w w.heap.size w1.heap.size _ _ (by rfl) (by rfl) (heap_alloc_new w1 _) (HB1.out.alloc (by omega) _) (by omega) 24 Try.infoForm (by rfl) (by rfl) (by exact one24 ..) ?_; intro W2 e2 hb2 hs2 ho2; obtain ⟨a0, a1, a2, a3, a4, a5, a6, a7, a8, a9, a10, a11, a12, a13⟩ := cells14 ((ho2 _ (by omega)).trans (alloc_kept HK.out.1 _))))
  have HK2 : Hid (W2.heap[w.heap.size]? = _ ∧ W2.heap[w.heap.size + 1]? = _ ∧ W2.heap[w.heap.size + 1 + 1]? = _) := ⟨(ho2 _ (by omega)).trans (alloc_kept HK.out.1 _), (ho2 _ (by omega)).trans (alloc_kept HK.out.2.1 _), (ho2 _ (by omega)).trans (alloc_kept HK.out.2.2 _)⟩
  have hsW : w1.heap.size < W2.heap.size := blk_lt e2
  clear a0 a1 a2 a3 a4 a5 a6 a7 a8 a9 a10 a11 a12 a13 b0 b1 b2
  go_upto_region 20 with (first | (refine wpList_store_at (by rfl) 83 _ _ (by rfl) w w.heap.size w1.heap.size 0 (.agg #[.int .i64 1, .int .i64 256]) _ #[.int .i64 1, .int .i64 256, .int .i64 0, .int .i64 0, .int .i64 0, .int .i64 0, .int .i64 0, .int .i64 0, .int .i64 0, .int .i64 0, .int .i64 0, .int .i64 0, .int .i64 0, .int .i64 0, .int .i64 0, .int .i64 0, .int .i64 0, .int .i64 c, .int .i64 h, .int .i64 k, .int .i64 0, .int .i64 0, .int .i64 0, .int .i64 0] 86 (by rfl) (by rfl) e2 hb2 (by omega) 2 Try.infoBound (by rfl) (Nat.le_of_ble_eq_true rfl) (by exact one_int2 _ _) (by rfl) ?_; intro W3 e3 hb3 hs3 ho3))
  have HK3 : Hid (W3.heap[w.heap.size]? = _ ∧ W3.heap[w.heap.size + 1]? = _ ∧ W3.heap[w.heap.size + 1 + 1]? = _) := ⟨(ho3 _ (by omega)).trans HK2.out.1, (ho3 _ (by omega)).trans HK2.out.2.1, (ho3 _ (by omega)).trans HK2.out.2.2⟩
  have q1 := cellAt HK3.out.1 1 (.int .i64 o) rfl
  go_upto_region 21 with (first | (refine wpList_store_at (by rfl) 3 _ _ (by rfl) w w.heap.size w1.heap.size 17 (.int .i64 o) _ #[.int .i64 1, .int .i64 256, .int .i64 0, .int .i64 0, .int .i64 0, .int .i64 0, .int .i64 0, .int .i64 0, .int .i64 0, .int .i64 0, .int .i64 0, .int .i64 0, .int .i64 0, .int .i64 0, .int .i64 0, .int .i64 0, .int .i64 0, .int .i64 o, .int .i64 h, .int .i64 k, .int .i64 0, .int .i64 0, .int .i64 0, .int .i64 0] 86 (by rfl) (by rfl) e3 hb3 (by omega) 1 Try.infoInt (by rfl) (Nat.le_of_ble_eq_true rfl) (by exact one_int _) (by rfl) ?_; intro W4 e4 hb4 hs4 ho4))
  have HK4 : Hid (W4.heap[w.heap.size]? = _ ∧ W4.heap[w.heap.size + 1]? = _ ∧ W4.heap[w.heap.size + 1 + 1]? = _) := ⟨(ho4 _ (by omega)).trans HK3.out.1, (ho4 _ (by omega)).trans HK3.out.2.1, (ho4 _ (by omega)).trans HK3.out.2.2⟩
  clear q1 e2 hb2 hs2 ho2 hb3 hs3 ho3 e3 hs4 ho4
  have q1 := cellAt HK4.out.1 1 (.int .i64 o) rfl
  have q2 := cellAt HK4.out.1 2 (.int .i64 kh) rfl
  have q3 := cellAt HK4.out.1 3 (.int .i64 kw) rfl
  obtain ⟨b0, b1, b2⟩ := cells3 HK4.out.2.1
  have hS : (fun w' => w'.cell? ⟨w.heap.size, 1, none⟩ = some (.int .i64 o) ∧ w'.cell? ⟨w.heap.size, 2, none⟩ = some (.int .i64 kh) ∧ w'.cell? ⟨w.heap.size, 3, none⟩ = some (.int .i64 kw) ∧ w'.cell? ⟨w.heap.size + 1, 0, none⟩ = some (.int .i64 c)) W4.drew := ⟨cellAt (HK4.out.1) 1 (.int .i64 o) rfl, cellAt (HK4.out.1) 2 (.int .i64 kh) rfl, cellAt (HK4.out.1) 3 (.int .i64 kw) rfl, (cells3 (HK4.out.2.1)).1⟩
  clear q1 q2 q3 b0 b1 b2
  refine wp_region_noPanic ?_
  refine wp_region_held_drew (S := (fun w' => w'.cell? ⟨w.heap.size, 1, none⟩ = some (.int .i64 o) ∧ w'.cell? ⟨w.heap.size, 2, none⟩ = some (.int .i64 kh) ∧ w'.cell? ⟨w.heap.size, 3, none⟩ = some (.int .i64 kw) ∧ w'.cell? ⟨w.heap.size + 1, 0, none⟩ = some (.int .i64 c))) (by kernel_rfl) hS (fun _ => ?_)
  refine takeH 60 (i := 0) (v := ?_) rfl rfl (by kernel_rfl) (by kernel_rfl) (by kernel_rfl) (fun _ _ _ h => h) (Or.inl ⟨by kernel_rfl, ?_⟩) (by assumption) ?_
  rotate_left
  · intro w' hSw; (try dsimp only at hSw); go_simp; try with_reducible rfl
  try simp only [Act.put, List.setIfInBounds_toArray, List.set_cons_zero, List.set_cons_succ]
  refine takeH 61 (i := 1) (v := ?_) rfl rfl (by kernel_rfl) (by kernel_rfl) (by kernel_rfl) (fun _ _ _ h => h) (Or.inl ⟨by kernel_rfl, ?_⟩) (by assumption) ?_
  rotate_left
  · intro w' hSw; (try dsimp only at hSw); go_simp; try with_reducible rfl
  try simp only [Act.put, List.setIfInBounds_toArray, List.set_cons_zero, List.set_cons_succ]
  refine takeH 62 (i := 2) (v := ?_) rfl rfl (by kernel_rfl) (by kernel_rfl) (by kernel_rfl) (fun _ _ _ h => h) (Or.inl ⟨by kernel_rfl, ?_⟩) (by assumption) ?_
  rotate_left
  · intro w' hSw; (try dsimp only at hSw); go_simp; try with_reducible rfl
  try simp only [Act.put, List.setIfInBounds_toArray, List.set_cons_zero, List.set_cons_succ]
  refine takeH 63 (i := 3) (v := ?_) rfl rfl (by kernel_rfl) (by kernel_rfl) (by kernel_rfl) (fun _ _ _ h => h) (Or.inl ⟨by kernel_rfl, ?_⟩) (by assumption) ?_
  rotate_left
  · intro w' hSw; (try dsimp only at hSw); go_simp; try with_reducible rfl
  try simp only [Act.put, List.setIfInBounds_toArray, List.set_cons_zero, List.set_cons_succ]
  refine takeH 64 (i := 4) (v := ?_) rfl rfl (by kernel_rfl) (by kernel_rfl) (by kernel_rfl) (fun _ _ _ h => h) (Or.inl ⟨by kernel_rfl, ?_⟩) (by assumption) ?_
  rotate_left
  · intro w' hSw; (try dsimp only at hSw); go_simp; try with_reducible rfl
  try simp only [Act.put, List.setIfInBounds_toArray, List.set_cons_zero, List.set_cons_succ]
  refine takeH 65 (i := 5) (v := ?_) rfl rfl (by kernel_rfl) (by kernel_rfl) (by kernel_rfl) (fun _ _ _ h => h) (Or.inl ⟨by kernel_rfl, ?_⟩) (by assumption) ?_
  rotate_left
  · intro w' hSw; (try dsimp only at hSw); go_simp; try with_reducible rfl
  try simp only [Act.put, List.setIfInBounds_toArray, List.set_cons_zero, List.set_cons_succ]
  refine takeH 66 (i := 6) (v := ?_) rfl rfl (by kernel_rfl) (by kernel_rfl) (by kernel_rfl) (fun _ _ _ h => h) (Or.inl ⟨by kernel_rfl, ?_⟩) (by assumption) ?_
  rotate_left
  · intro w' hSw; (try dsimp only at hSw); go_simp; try with_reducible rfl
  try simp only [Act.put, List.setIfInBounds_toArray, List.set_cons_zero, List.set_cons_succ]
  refine takeH 67 (i := 7) (v := ?_) rfl rfl (by kernel_rfl) (by kernel_rfl) (by kernel_rfl) (fun _ _ _ h => h) (Or.inl ⟨by kernel_rfl, ?_⟩) (by assumption) ?_
  rotate_left
  · intro w' hSw; (try dsimp only at hSw); go_simp; try with_reducible rfl
  try simp only [Act.put, List.setIfInBounds_toArray, List.set_cons_zero, List.set_cons_succ]
  refine takeH 68 (i := 8) (v := ?_) rfl rfl (by kernel_rfl) (by kernel_rfl) (by kernel_rfl) (fun _ _ _ h => h) (Or.inl ⟨by kernel_rfl, ?_⟩) (by assumption) ?_
  rotate_left
  · intro w' hSw; (try dsimp only at hSw); go_simp; try with_reducible rfl
  try simp only [Act.put, List.setIfInBounds_toArray, List.set_cons_zero, List.set_cons_succ]
  refine takeH 69 (i := 9) (v := ?_) rfl rfl (by kernel_rfl) (by kernel_rfl) (by kernel_rfl) (fun _ _ _ h => h) (Or.inl ⟨by kernel_rfl, ?_⟩) (by assumption) ?_
  rotate_left
  · intro w' hSw; (try dsimp only at hSw); go_simp; try with_reducible rfl
  try simp only [Act.put, List.setIfInBounds_toArray, List.set_cons_zero, List.set_cons_succ]
  refine takeH 70 (i := 10) (v := ?_) rfl rfl (by kernel_rfl) (by kernel_rfl) (by kernel_rfl) (fun _ _ _ h => h) (Or.inl ⟨by kernel_rfl, ?_⟩) (by assumption) ?_
  rotate_left
  · intro w' hSw; (try dsimp only at hSw); go_simp; try with_reducible rfl
  try simp only [Act.put, List.setIfInBounds_toArray, List.set_cons_zero, List.set_cons_succ]
  refine takeH 71 (i := 11) (v := ?_) rfl rfl (by kernel_rfl) (by kernel_rfl) (by kernel_rfl) (fun _ _ _ h => h) (Or.inl ⟨by kernel_rfl, ?_⟩) (by assumption) ?_
  rotate_left
  · intro w' hSw; (try dsimp only at hSw); go_simp; try with_reducible rfl
  try simp only [Act.put, List.setIfInBounds_toArray, List.set_cons_zero, List.set_cons_succ]
  refine takeH 72 (i := 12) (v := ?_) rfl rfl (by kernel_rfl) (by kernel_rfl) (by kernel_rfl) (fun _ _ _ h => h) (Or.inl ⟨by kernel_rfl, ?_⟩) (by assumption) ?_
  rotate_left
  · intro w' hSw; (try dsimp only at hSw); go_simp; try with_reducible rfl
  try simp only [Act.put, List.setIfInBounds_toArray, List.set_cons_zero, List.set_cons_succ]
  refine takeH 73 (i := 13) (v := ?_) rfl rfl (by kernel_rfl) (by kernel_rfl) (by kernel_rfl) (fun _ _ _ h => h) (Or.inl ⟨by kernel_rfl, ?_⟩) (by assumption) ?_
  rotate_left
  · intro w' hSw; (try dsimp only at hSw); go_simp; try with_reducible rfl
  try simp only [Act.put, List.setIfInBounds_toArray, List.set_cons_zero, List.set_cons_succ]
  refine wpAnyH_ready (rs := [14]) (by kernel_rfl) (by simp) ?_
  refine consH _ rfl (hopL rfl (wpList_store_at (by rfl) 3 _ _ (by rfl) w w.heap.size w1.heap.size 20 (.int .i64 p) _ #[.int .i64 1, .int .i64 256, .int .i64 0, .int .i64 0, .int .i64 0, .int .i64 0, .int .i64 0, .int .i64 0, .int .i64 0, .int .i64 0, .int .i64 0, .int .i64 0, .int .i64 0, .int .i64 0, .int .i64 0, .int .i64 0, .int .i64 0, .int .i64 o, .int .i64 h, .int .i64 k, .int .i64 p, .int .i64 0, .int .i64 0, .int .i64 0] 86 (by kernel_rfl) (by kernel_rfl) e4 hb4.drew (by omega) 1 Try.infoInt (by rfl) (Nat.le_of_ble_eq_true rfl) (by exact one_int _) (by rfl) fun W6 e6 hb6 hs6 ho6 => ?_)) AllReadyH.nil
  have HK6 : Hid (W6.heap[w.heap.size]? = _ ∧ W6.heap[w.heap.size + 1]? = _ ∧ W6.heap[w.heap.size + 1 + 1]? = _) := ⟨(ho6 _ (by omega)).trans HK4.out.1, (ho6 _ (by omega)).trans HK4.out.2.1, (ho6 _ (by omega)).trans HK4.out.2.2⟩
  have hS6 : (fun w' => w'.cell? ⟨w.heap.size, 1, none⟩ = some (.int .i64 o) ∧ w'.cell? ⟨w.heap.size, 2, none⟩ = some (.int .i64 kh) ∧ w'.cell? ⟨w.heap.size, 3, none⟩ = some (.int .i64 kw) ∧ w'.cell? ⟨w.heap.size + 1, 0, none⟩ = some (.int .i64 c)) W6 := ⟨cellAt (HK6.out.1) 1 (.int .i64 o) rfl, cellAt (HK6.out.1) 2 (.int .i64 kh) rfl, cellAt (HK6.out.1) 3 (.int .i64 kw) rfl, (cells3 (HK6.out.2.1)).1⟩
  refine (And.intro hS6 ?_ : _ ∧ _)
  try simp only [Act.put, List.setIfInBounds_toArray, List.set_cons_zero, List.set_cons_succ]
  refine takeH 74 (i := 15) (v := ?_) rfl rfl (by kernel_rfl) (by kernel_rfl) (by kernel_rfl) (fun _ _ _ h => h) (Or.inl ⟨by kernel_rfl, ?_⟩) (by assumption) ?_
  rotate_left
  · intro w' hSw; (try dsimp only at hSw); go_simp; try with_reducible rfl
  try simp only [Act.put, List.setIfInBounds_toArray, List.set_cons_zero, List.set_cons_succ]
  refine wpAnyH_ready (rs := [16]) (by kernel_rfl) (by simp) ?_
  refine consH _ rfl (hopL rfl (wpList_store_at (by rfl) 3 _ _ (by rfl) w w.heap.size w1.heap.size 21 (.int .i64 o) _ #[.int .i64 1, .int .i64 256, .int .i64 0, .int .i64 0, .int .i64 0, .int .i64 0, .int .i64 0, .int .i64 0, .int .i64 0, .int .i64 0, .int .i64 0, .int .i64 0, .int .i64 0, .int .i64 0, .int .i64 0, .int .i64 0, .int .i64 0, .int .i64 o, .int .i64 h, .int .i64 k, .int .i64 p, .int .i64 o, .int .i64 0, .int .i64 0] 86 (by kernel_rfl) (by kernel_rfl) e6 hb6 (by omega) 1 Try.infoInt (by rfl) (Nat.le_of_ble_eq_true rfl) (by exact one_int _) (by rfl) fun W5 e5 hb5 hs5 ho5 => ?_)) AllReadyH.nil
  have HK5 : Hid (W5.heap[w.heap.size]? = _ ∧ W5.heap[w.heap.size + 1]? = _ ∧ W5.heap[w.heap.size + 1 + 1]? = _) := ⟨(ho5 _ (by omega)).trans HK6.out.1, (ho5 _ (by omega)).trans HK6.out.2.1, (ho5 _ (by omega)).trans HK6.out.2.2⟩
  have hS5 : (fun w' => w'.cell? ⟨w.heap.size, 1, none⟩ = some (.int .i64 o) ∧ w'.cell? ⟨w.heap.size, 2, none⟩ = some (.int .i64 kh) ∧ w'.cell? ⟨w.heap.size, 3, none⟩ = some (.int .i64 kw) ∧ w'.cell? ⟨w.heap.size + 1, 0, none⟩ = some (.int .i64 c)) W5 := ⟨cellAt (HK5.out.1) 1 (.int .i64 o) rfl, cellAt (HK5.out.1) 2 (.int .i64 kh) rfl, cellAt (HK5.out.1) 3 (.int .i64 kw) rfl, (cells3 (HK5.out.2.1)).1⟩
  refine (And.intro hS5 ?_ : _ ∧ _)
  try simp only [Act.put, List.setIfInBounds_toArray, List.set_cons_zero, List.set_cons_succ]
  refine wpAnyH_done (by kernel_rfl) ?_ _
  refine NoPanic.normal ?_
  try simp only [Act.put, List.setIfInBounds_toArray, List.set_cons_zero, List.set_cons_succ]
  clear hS hS5 hS6 hb6 hs6 ho6 e6 HK6 HK4 hb4 e4 hs5 ho5
  have HG : Hid _ := goBy_any w1.heap.size 2 o kh kw sh sw ph pw fr A v1 v2 v3 v4 c h k 1 256 o p o kh' kw' hh ww hk1 hk2 HW1.out HW2.out W5 e5
  obtain ⟨q0, q1, q2⟩ := cells3 HK5.out.2.1
  have K5 : Hid _ := HK5.out.1
  have hlt5 := blk_lt e5
  go_upto_region 23 with (first
    | (refine wpList_load_row (by rfl) 30 _ (by rfl) w.heap.size _ (by rfl) K5.out _ Try.underlying30 rfl 14 Try.infoLy (by rfl) ?_)
    | (go_at_call 50; refine Calls.mono HG.out ?_; rintro e W6 ⟨rfl, e6, hb6⟩))
  have HK6 : Hid (W6.heap[w.heap.size]? = _ ∧ W6.heap[w.heap.size + 1]? = _ ∧ W6.heap[w.heap.size + 1 + 1]? = _) := ⟨(hb6.block _ (by omega)).trans HK5.out.1, (hb6.block _ (by omega)).trans HK5.out.2.1, (hb6.block _ (by omega)).trans HK5.out.2.2⟩
  have hb7 : Below w.heap.size w W6 := hb5.trans (hb6.mono (by omega))
  have p0 := cellAt HK6.out.1 0 (.int .i64 2) rfl
  go_upto_region 32 with fail
  go_wp2_with (first
    | (refine wpList_load_row (by rfl) 86 _ (by rfl) w1.heap.size _ (by rfl) e6 _ Try.underlying86 rfl 24 Try.infoForm (by rfl) ?_)
    | (refine wpList_store_row (by rfl) 86 _ _ (by rfl) w w.heap.size (w.heap.size + 1 + 1) _ _ (by rfl) (by rfl) HK6.out.2.2 hb7 (by omega) 24 Try.infoForm (by rfl) (by rfl) (by exact one24 ..) ?_; intro W9 e9 hb9 hs9 ho9))
  refine bodyPost_ret (res_form _ 4 5 (by kernel_rfl) _ _ (w.heap.size + 1 + 1) _ _ (by rfl) (by rfl) rfl e9) rfl ?_
  exact ⟨rfl, hb9⟩
end Go.Proofs.Ytmbnbleahehdaaa
