import Derived.Test.YtogpkigpnflaoaaDoorKL
import Derived.BigQuiet
namespace Go.Proofs.YtogpkigpnflaoaaDoor
open Go.RowKit
set_option linter.unusedVariables false

set_option maxRecDepth 100000 in
set_option maxHeartbeats 2000000 in
theorem layerOf (y0 y1 y2 y3 y4 y5 y6 y7 y8 y9 y10 y11 y12 y13 y14 y15 y16 y17 y18 y19 y20 y21 y22 y23 c h k : Int) (x0 x1 x2 x3 x4 x5 x6 x7 x8 x9 x10 x11 x12 x13 : Value) (w : World)
    (hF : ∀ w, Calls Tryd.prog 17 #[.agg #[x0, x1, x2, x3, x4, x5, x6, x7, x8, x9, x10, x11, x12, x13], .agg #[.int .i64 c, .int .i64 h, .int .i64 k]] w fun e w' => e = .returned (.tuple #[.agg #[.int .i64 y0, .int .i64 y1, .int .i64 y2, .int .i64 y3, .int .i64 y4, .int .i64 y5, .int .i64 y6, .int .i64 y7, .int .i64 y8, .int .i64 y9, .int .i64 y10, .int .i64 y11, .int .i64 y12, .int .i64 y13, .int .i64 y14, .int .i64 y15, .int .i64 y16, .int .i64 y17, .int .i64 y18, .int .i64 y19, .int .i64 y20, .int .i64 y21, .int .i64 y22, .int .i64 y23], .int .i64 0]) ∧ Below w.heap.size w w')
    (hL : ∀ w', Below w.heap.size w w' → Calls Tryd.prog 33 #[.agg #[.int .i64 y0, .int .i64 y1, .int .i64 y2, .int .i64 y3, .int .i64 y4, .int .i64 y5, .int .i64 y6, .int .i64 y7, .int .i64 y8, .int .i64 y9, .int .i64 y10, .int .i64 y11, .int .i64 y12, .int .i64 y13, .int .i64 y14, .int .i64 y15, .int .i64 y16, .int .i64 y17, .int .i64 y18, .int .i64 y19, .int .i64 y20, .int .i64 y21, .int .i64 y22, .int .i64 y23], .agg #[x0, x1, x2, x3, x4, x5, x6, x7, x8, x9, x10, x11, x12, x13]] w' fun e w2 => e = .returned (.int .i64 0) ∧ Below w'.heap.size w' w2) :
    Calls Tryd.prog 25 #[.agg #[x0, x1, x2, x3, x4, x5, x6, x7, x8, x9, x10, x11, x12, x13], .agg #[.int .i64 c, .int .i64 h, .int .i64 k]] w fun e w' => e = .returned (.int .i64 0) ∧ Below w.heap.size w w' := by
  have HF : Hid _ := hF
  have HL : Hid _ := hL
  clear hF hL
  go_enter Tryd.func25, Tryd.ntmps25
  go_wp2_with fail
  refine Calls.mono (HF.out _) ?_
  rintro e w1 ⟨rfl, hb⟩
  have HB1 : Hid (Below w.heap.size w w1) := to_call (((Below.refl _ w).alloc (Nat.le_refl _) _).alloc (by simp only [alloc_size]; omega) _) hb
  have HK : Hid (w1.heap[w.heap.size]? = _) := kept hb (alloc_kept (heap_alloc_new w _) _)
  have hsz := blk_lt HK.out
  clear hb HF
  go_upto_region 4 with (first | (refine wpList_store_row (by rfl) 60 _ _ (by rfl) w w.heap.size w1.heap.size _ _ (by rfl) (by rfl) (heap_alloc_new w1 _) (HB1.out.alloc (by omega) _) (by omega) 24 Tryd.infoForm (by rfl) (by rfl) (by exact one24 ..) ?_; intro W2 e2 hb2 hs2 ho2))
  have HK2 : Hid (W2.heap[w.heap.size]? = _) := (ho2 _ (by omega)).trans (alloc_kept HK.out _)
  obtain ⟨a0, a1, a2, a3, a4, a5, a6, a7, a8, a9, a10, a11, a12, a13⟩ := cells14 HK2.out
  have HC : Hid _ := HL.out W2 hb2
  go_wp2_with (first | (refine wpList_load_row (by rfl) 60 _ (by rfl) w1.heap.size _ (by rfl) e2 _ Tryd.underlying60 rfl 24 Tryd.infoForm (by rfl) ?_))
  refine Calls.mono HC.out ?_
  rintro e W3 ⟨rfl, hb⟩
  have HB3 : Hid (Below w.heap.size w W3) := to_call hb2 hb
  clear hb
  go_wp2
  go_ret
  exact ⟨rfl, HB3.out⟩

/-- THE SLICE OF SHAPES READS AS s. -/
structure RdSh (w : World) (so : Option Addr) (n : Nat) (s : Nat → Int × Int × Int) : Prop where
  max : n ≤ 1000
  cells : n = 0 ∨ ∃ b off, so = some ⟨b, off, none⟩ ∧ ∀ j, j < n → w.cell? ⟨b, off + j * 3, none⟩ = some (.int .i64 (s j).1) ∧ w.cell? ⟨b, off + j * 3 + 1, none⟩ = some (.int .i64 (s j).2.1) ∧ w.cell? ⟨b, off + j * 3 + 2, none⟩ = some (.int .i64 (s j).2.2)
theorem RdSh.later {w w' : World} {so : Option Addr} {n : Nat} {s : Nat → Int × Int × Int} (h : RdSh w so n s) (hb : Below w.heap.size w w') : RdSh w' so n s := by
  refine ⟨h.max, ?_⟩
  rcases h.cells with h0 | ⟨b, off, ha, hc⟩
  · exact .inl h0
  · refine .inr ⟨b, off, ha, fun j hj => ?_⟩
    obtain ⟨h1, h2, h3⟩ := hc j hj
    have hl := World.block_lt_of_cell? w _ h1
    exact ⟨by rw [hb.cell (p := ⟨b, off + j * 3, none⟩) hl]; exact h1, by rw [hb.cell (p := ⟨b, off + j * 3 + 1, none⟩) hl]; exact h2, by rw [hb.cell (p := ⟨b, off + j * 3 + 2, none⟩) hl]; exact h3⟩
set_option maxRecDepth 100000 in
set_option maxHeartbeats 2000000 in
theorem nextOf (K fr c h k c' h' k' : Int) (x1 x2 x3 x4 x5 x6 x7 x9 x10 x11 x12 x13 : Value) (so : Option Addr) (m sc : Nat) (s : Nat → Int × Int × Int) (w : World) (hr : RdSh w so (m + 1) s) (hs : s m = (c, h, k)) (hK : (K == 5) = false)
    (hL : ∀ w', Below w.heap.size w w' → Calls Tryd.prog 25 #[.agg #[.int .i64 K, x1, x2, x3, x4, x5, x6, x7, .int .i64 fr, x9, x10, x11, x12, x13], .agg #[.int .i64 c, .int .i64 h, .int .i64 k]] w' fun e w2 => e = .returned (.int .i64 0) ∧ Below w'.heap.size w' w2)
    (hO : ∀ w', Below w.heap.size w w' → Calls Tryd.prog 9 #[.agg #[.int .i64 K, x1, x2, x3, x4, x5, x6, x7, .int .i64 fr, x9, x10, x11, x12, x13], .agg #[.int .i64 c, .int .i64 h, .int .i64 k]] w' fun e w2 => e = .returned (.tuple #[.agg #[.int .i64 c', .int .i64 h', .int .i64 k'], .int .i64 0]) ∧ Below w'.heap.size w' w2) :
    Calls Tryd.prog 19 #[.agg #[.int .i64 K, x1, x2, x3, x4, x5, x6, x7, .int .i64 fr, x9, x10, x11, x12, x13], .slice so (m + 1) sc] w fun e w' => e = .returned (.tuple #[.agg #[.int .i64 c', .int .i64 h', .int .i64 k'], .int .i64 0]) ∧ Below w.heap.size w w' := by
  have HL : Hid _ := hL
  have HO : Hid _ := hO
  have hm := hr.max
  rcases hr.cells with h0 | ⟨b, off, rfl, hc⟩
  · omega
  obtain ⟨g0, g1, g2⟩ := hc m (by omega)
  rw [hs] at g0 g1 g2
  simp only [] at g0 g1 g2
  have hbl : b < w.heap.size := World.block_lt_of_cell? w _ g0
  have hw1 : wrap64 ((m : Int) + 1 - 1) = (m : Int) := by rw [w64 _ (by omega)]; omega
  clear hL hO hr hc hs
  go_enter Tryd.func19, Tryd.ntmps19
  go_upto_region 2 with fail
  have hb1 := (((Below.refl _ w).alloc (Nat.le_refl _) (Obj.cells #[.int .i64 K, x1, x2, x3, x4, x5, x6, x7, .int .i64 fr, x9, x10, x11, x12, x13] 33)).alloc (by simp only [alloc_size]; omega) (Obj.cells #[.int .i64 0, .int .i64 0, .int .i64 0] 24)).alloc (by simp only [alloc_size]; omega) (Obj.cells #[.int .i64 c, .int .i64 h, .int .i64 k] 24)
  have k0 := alloc_kept (alloc_kept (heap_alloc_new w (Obj.cells #[.int .i64 K, x1, x2, x3, x4, x5, x6, x7, .int .i64 fr, x9, x10, x11, x12, x13] 33)) (Obj.cells #[.int .i64 0, .int .i64 0, .int .i64 0] 24)) (Obj.cells #[.int .i64 c, .int .i64 h, .int .i64 k] 24)
  have k1 := alloc_kept (heap_at (w.alloc (Obj.cells #[.int .i64 K, x1, x2, x3, x4, x5, x6, x7, .int .i64 fr, x9, x10, x11, x12, x13] 33)) (Obj.cells #[.int .i64 0, .int .i64 0, .int .i64 0] 24) (w.heap.size + 1) (by simp only [alloc_size])) (Obj.cells #[.int .i64 c, .int .i64 h, .int .i64 k] 24)
  have k2 := heap_at ((w.alloc (Obj.cells #[.int .i64 K, x1, x2, x3, x4, x5, x6, x7, .int .i64 fr, x9, x10, x11, x12, x13] 33)).alloc (Obj.cells #[.int .i64 0, .int .i64 0, .int .i64 0] 24)) (Obj.cells #[.int .i64 c, .int .i64 h, .int .i64 k] 24) (w.heap.size + 1 + 1) (by simp only [alloc_size])
  have HC : Hid _ := HL.out _ hb1
  go_wp2_with fail
  refine Calls.mono HC.out ?_
  rintro e W3 ⟨rfl, hb⟩
  have HB3 : Hid (Below w.heap.size w W3) := to_call hb1 hb
  have HK3 : Hid (W3.heap[w.heap.size]? = _ ∧ W3.heap[w.heap.size + 1]? = _ ∧ W3.heap[w.heap.size + 1 + 1]? = _) := ⟨kept hb k0, kept hb k1, kept hb k2⟩
  clear hb k0 k1 k2 hb1 HC HL g0 g1 g2
  obtain ⟨a0, a1, a2, a3, a4, a5, a6, a7, a8, a9, a10, a11, a12, a13⟩ := cells14 HK3.out.1
  obtain ⟨s0, s1, s2⟩ := cells3 HK3.out.2.2
  go_upto_region 5 with fail
  go_quiet (fail)
  have hd := below_drewN (Below.refl W3.heap.size W3) nq
  obtain ⟨W4, hW4⟩ : ∃ W4, W3.drewN nq = W4 := ⟨_, rfl⟩
  rw [hW4] at hd ⊢
  have HB4 : Hid (Below w.heap.size w W4) := to_call HB3.out hd
  have HK4 : Hid (W4.heap[w.heap.size]? = _ ∧ W4.heap[w.heap.size + 1]? = _ ∧ W4.heap[w.heap.size + 1 + 1]? = _) := ⟨kept hd HK3.out.1, kept hd HK3.out.2.1, kept hd HK3.out.2.2⟩
  clear hd hW4 HB3 HK3 a0 a1 a2 a3 a4 a5 a6 a7 a8 a9 a10 a11 a12 a13 s0 s1 s2
  obtain ⟨a0, a1, a2, a3, a4, a5, a6, a7, a8, a9, a10, a11, a12, a13⟩ := cells14 HK4.out.1
  obtain ⟨s0, s1, s2⟩ := cells3 HK4.out.2.2
  have HC : Hid _ := HO.out _ HB4.out
  go_wp2_with fail
  refine Calls.mono HC.out ?_
  rintro e W5 ⟨rfl, hb⟩
  have HB5 : Hid (Below w.heap.size w W5) := to_call HB4.out hb
  have HK5 : Hid (W5.heap[w.heap.size + 1]? = _) := kept hb HK4.out.2.1
  clear hb HB4 HK4 HO HC a0 a1 a2 a3 a4 a5 a6 a7 a8 a9 a10 a11 a12 a13 s0 s1 s2
  go_wp2_with (first
    | (refine wpList_store_row (by rfl) 24 _ _ (by rfl) w w.heap.size (w.heap.size + 1) _ _ (by rfl) (by rfl) HK5.out HB5.out (by omega) 3 Tryd.infoShape (by rfl) (by rfl) (by exact one3 ..) ?_; intro W9 e9 hb9 hs9 ho9))
  refine bodyPost_ret (res_shape _ 4 5 (by kernel_rfl) _ _ (w.heap.size + 1) _ _ (by rfl) (by rfl) rfl e9) rfl ?_
  exact ⟨rfl, hb9⟩
set_option maxRecDepth 100000 in
set_option maxHeartbeats 2000000 in
theorem nextFrom (fr c h k : Int) (x1 x2 x3 x4 x5 x6 x7 x9 x10 x11 x12 x13 : Value) (so : Option Addr) (m sc : Nat) (s : Nat → Int × Int × Int) (w : World) (hr : RdSh w so (m + 1) s) (hs : s m = (c, h, k)) (hfr : (m : Int) + 1 ≤ fr)
    (hL : ∀ w', Below w.heap.size w w' → Calls Tryd.prog 25 #[.agg #[.int .i64 5, x1, x2, x3, x4, x5, x6, x7, .int .i64 fr, x9, x10, x11, x12, x13], .agg #[.int .i64 c, .int .i64 h, .int .i64 k]] w' fun e w2 => e = .returned (.int .i64 0) ∧ Below w'.heap.size w' w2) :
    Calls Tryd.prog 19 #[.agg #[.int .i64 5, x1, x2, x3, x4, x5, x6, x7, .int .i64 fr, x9, x10, x11, x12, x13], .slice so (m + 1) sc] w fun e w' => e = .returned (.tuple #[.agg #[.int .i64 0, .int .i64 0, .int .i64 0], .int .i64 66]) ∧ Below w.heap.size w w' := by
  have HL : Hid _ := hL
  have hm := hr.max
  rcases hr.cells with h0 | ⟨b, off, rfl, hc⟩
  · omega
  obtain ⟨g0, g1, g2⟩ := hc m (by omega)
  rw [hs] at g0 g1 g2
  simp only [] at g0 g1 g2
  have hbl : b < w.heap.size := World.block_lt_of_cell? w _ g0
  have hw1 : wrap64 ((m : Int) + 1 - 1) = (m : Int) := by rw [w64 _ (by omega)]; omega
  have hfd : decide ((m : Int) + 1 ≤ fr) = true := decide_eq_true hfr
  clear hL hr hc hs
  go_enter Tryd.func19, Tryd.ntmps19
  go_upto_region 2 with fail
  have hb1 := (((Below.refl _ w).alloc (Nat.le_refl _) (Obj.cells #[.int .i64 5, x1, x2, x3, x4, x5, x6, x7, .int .i64 fr, x9, x10, x11, x12, x13] 33)).alloc (by simp only [alloc_size]; omega) (Obj.cells #[.int .i64 0, .int .i64 0, .int .i64 0] 24)).alloc (by simp only [alloc_size]; omega) (Obj.cells #[.int .i64 c, .int .i64 h, .int .i64 k] 24)
  have k0 := alloc_kept (alloc_kept (heap_alloc_new w (Obj.cells #[.int .i64 5, x1, x2, x3, x4, x5, x6, x7, .int .i64 fr, x9, x10, x11, x12, x13] 33)) (Obj.cells #[.int .i64 0, .int .i64 0, .int .i64 0] 24)) (Obj.cells #[.int .i64 c, .int .i64 h, .int .i64 k] 24)
  have k1 := alloc_kept (heap_at (w.alloc (Obj.cells #[.int .i64 5, x1, x2, x3, x4, x5, x6, x7, .int .i64 fr, x9, x10, x11, x12, x13] 33)) (Obj.cells #[.int .i64 0, .int .i64 0, .int .i64 0] 24) (w.heap.size + 1) (by simp only [alloc_size])) (Obj.cells #[.int .i64 c, .int .i64 h, .int .i64 k] 24)
  have HC : Hid _ := HL.out _ hb1
  go_wp2_with fail
  refine Calls.mono HC.out ?_
  rintro e W3 ⟨rfl, hb⟩
  have HB3 : Hid (Below w.heap.size w W3) := to_call hb1 hb
  have HK3 : Hid (W3.heap[w.heap.size]? = _ ∧ W3.heap[w.heap.size + 1]? = _) := ⟨kept hb k0, kept hb k1⟩
  clear hb k0 k1 hb1 HC HL g0 g1 g2
  obtain ⟨a0, a1, a2, a3, a4, a5, a6, a7, a8, a9, a10, a11, a12, a13⟩ := cells14 HK3.out.1
  go_upto_region 5 with fail
  go_quiet (fail)
  have hd := below_drewN (Below.refl W3.heap.size W3) nq
  obtain ⟨W4, hW4⟩ : ∃ W4, W3.drewN nq = W4 := ⟨_, rfl⟩
  rw [hW4] at hd ⊢
  have HB4 : Hid (Below w.heap.size w W4) := to_call HB3.out hd
  have HK4 : Hid (W4.heap[w.heap.size + 1]? = _) := kept hd HK3.out.2
  clear hd hW4 HB3 HK3 a0 a1 a2 a3 a4 a5 a6 a7 a8 a9 a10 a11 a12 a13
  go_wp2_with (first
    | (refine wpList_store_row (by rfl) 24 _ _ (by rfl) w w.heap.size (w.heap.size + 1) _ _ (by rfl) (by rfl) HK4.out HB4.out (by omega) 3 Tryd.infoShape (by rfl) (by rfl) (by exact one3 ..) ?_; intro W9 e9 hb9 hs9 ho9))
  refine bodyPost_ret (res_shape _ 4 5 (by kernel_rfl) _ _ (w.heap.size + 1) _ _ (by rfl) (by rfl) rfl e9) rfl ?_
  exact ⟨rfl, hb9⟩
end Go.Proofs.YtogpkigpnflaoaaDoor
