import Derived.Test.YtmbnbleahehdaaaTC
import Derived.Deep.LoopGhost
import Derived.BigQuiet
namespace Go.Proofs.Ytmbnbleahehdaaa
open Go.RowKit
set_option linter.unusedVariables false

theorem cutZ (z : Nat) (w : World) : (Instr.slice 28 (.slice (some ⟨z, 0, none⟩) 1 1) (some (.int .i64 0)) (some (.int .i64 1)) none).run Try.prog w = .ok (.slice (some ⟨z, 0, none⟩) 1 1) w := by kernel_rfl
theorem one_row (v1 v2 : Value) (b : Nat) (h1 : v1.oneCell' = true) (h2 : v2.oneCell' = true) : (#[v1, v2, .float .f64 b] : Array Value).all (·.oneCell') = true := by
  simp only [Array.all_eq_true_iff_forall_mem]
  intro v hv
  simp only [List.mem_toArray, List.mem_cons, List.not_mem_nil, or_false] at hv
  rcases hv with rfl | rfl | rfl
  · exact h1
  · exact h2
  · rfl
theorem one_fl (x : Nat) : ∀ u ∈ (Value.float .f64 x).cells.toList, u.oneCell' = true := by
  intro u hu
  simp only [Value.cells, List.mem_cons, List.not_mem_nil, or_false] at hu
  subst hu; rfl
set_option maxRecDepth 100000 in
set_option maxHeartbeats 1000000 in
theorem turnRow1 (z y : Nat) (w : World) (hz : w.heap[z]? = some (.cells #[.complex .f64 4607182418800017408 4611686018427387904] 58)) (hy : w.heap[y]? = some (.cells #[.complex .f64 4613937818241073152 4616189618054758400] 58)) :
    Calls Try.prog 39 #[.agg #[.int .i64 6, .int .i64 1, .int .i64 0, .int .i64 0, .int .i64 0, .int .i64 0, .int .i64 0, .int .i64 0, .int .i64 0, .float .f64 0, .slice none 0 0, .slice none 0 0, .slice (some ⟨z, 0, none⟩) 1 1, .slice (some ⟨y, 0, none⟩) 1 1], .agg #[.int .i64 1, .int .i64 1, .int .i64 2], .int .i64 0] w fun e w' => ∃ v1 v2, e = .returned (.agg #[v1, v2, .float .f64 4613937818241073152]) ∧ v1.oneCell' = true ∧ v2.oneCell' = true ∧ RowV w' w.heap.size v1 v2 [0, 1] [4607182418800017408, 13835058055282163712] ∧ Below w.heap.size w w' := by
  have HS : Hid _ := fun w => size_of sz112 w
  have HZ : Hid _ := hz
  have HY : Hid _ := hy
  have hlz := blk_lt hz
  have hly := blk_lt hy
  clear hz hy
  have hcut := cutZ z
  go_enter Try.func39, Try.ntmps39
  go_wp2_with fail
  refine Calls.mono (HS.out _) ?_
  rintro e w1 ⟨rfl, hb⟩
  have HB1 : Hid (Below w.heap.size w w1) := to_call ((((Below.refl _ w).alloc (Nat.le_refl _) _).alloc (by simp only [alloc_size]; omega) _).alloc (by simp only [alloc_size]; omega) _) hb
  have k0 := kept hb (alloc_kept (alloc_kept (heap_alloc_new w _) _) _)
  have k2 := kept hb (heap_at _ _ (w.heap.size + 1 + 1) (by simp only [alloc_size]))
  have hsz := blk_lt k2
  have HY1 : Hid (w1.heap[y]? = _) := kept HB1.out HY.out
  have HZ1 : Hid (w1.heap[z]? = _) := kept HB1.out HZ.out
  have c12 := cellOf k0 12 (.slice (some ⟨z, 0, none⟩) 1 1) rfl
  have c13 := cellOf k0 13 (.slice (some ⟨y, 0, none⟩) 1 1) rfl
  have cy := cellOf HY1.out 0 (.complex .f64 4613937818241073152 4616189618054758400) rfl
  have K0 : Hid _ := k0
  have K2 : Hid _ := k2
  clear hb HS k0 k2 HZ HY
  go_upto_region 7 with (first | (refine wpList_store_row (by rfl) 71 _ _ (by rfl) w w.heap.size w1.heap.size _ _ (by rfl) (by rfl) (heap_alloc_new w1 _) (HB1.out.alloc (by omega) _) (by omega) 3 Try.infoRow (by rfl) (by rfl) (by exact one_row _ _ _ rfl rfl) ?_; intro W2 e2 hb2 hs2 ho2))
  have K02 : Hid (W2.heap[w.heap.size]? = _) := (ho2 _ (by omega)).trans (alloc_kept K0.out _)
  have K22 : Hid (W2.heap[w.heap.size + 1 + 1]? = _) := (ho2 _ (by omega)).trans (alloc_kept K2.out _)
  have HY2 : Hid (W2.heap[y]? = _) := (ho2 _ (by omega)).trans (alloc_kept HY1.out _)
  have HZ2 : Hid (W2.heap[z]? = _) := (ho2 _ (by omega)).trans (alloc_kept HZ1.out _)
  clear c12 c13 cy ho2 K0 K2 HY1 HZ1 hs2
  have c13 := cellOf K02.out 13 (.slice (some ⟨y, 0, none⟩) 1 1) rfl
  have cy := cellOf HY2.out 0 (.complex .f64 4613937818241073152 4616189618054758400) rfl
  go_upto_region 8 with (first | (refine wpList_store_at (by rfl) 26 _ _ (by rfl) w w.heap.size w1.heap.size 2 (.float .f64 4613937818241073152) _ #[.slice none 0 0, .slice none 0 0, .float .f64 4613937818241073152] 71 (by rfl) (by rfl) e2 hb2 (by omega) 1 Try.infoFl1 (by rfl) (Nat.le_of_ble_eq_true rfl) (by exact one_fl _) (by rfl) ?_; intro W3 e3 hb3 hs3 ho3))
  have K03 : Hid (W3.heap[w.heap.size]? = _) := (ho3 _ (by omega)).trans K02.out
  have K23 : Hid (W3.heap[w.heap.size + 1 + 1]? = _) := (ho3 _ (by omega)).trans K22.out
  have HZ3 : Hid (W3.heap[z]? = _) := (ho3 _ (by omega)).trans HZ2.out
  have HO3 : Hid (RowO W3 W3.heap.size w1.heap.size [] [] 4613937818241073152) := ⟨_, _, e3, rfl, rfl, World.ownsRow_nil _ _ _ 1, World.ownsRow_nil _ _ _ 1⟩
  have HB3 : Hid _ := hb3
  have hl3 := blk_lt e3
  clear c13 cy ho3 hs3 K02 K22 HY2 HZ2 e2 hb2 e3 hb3
  have c12 := cellOf K03.out 12 (.slice (some ⟨z, 0, none⟩) 1 1) rfl
  have HP : Hid _ := put_any
  have HTR : Hid _ := turnedR
  go_upto_region 9 with fail
  go_loopg [53] 1 (fun g v wx => ∃ i : Nat, v = .int .i64 i ∧ i + g = 1 ∧ Hid (RowO wx W3.heap.size w1.heap.size (if i = 0 then [] else [0, 1]) (if i = 0 then [] else [4607182418800017408, 13835058055282163712]) 4613937818241073152) ∧ Hid (Below w.heap.size w wx) ∧ Hid (wx.heap[w.heap.size + 1 + 1]? = some (.cells #[.slice none 0 0, .slice none 0 0, .float .f64 0] 71)) ∧ Hid (wx.heap[z]? = some (.cells #[.complex .f64 4607182418800017408 4611686018427387904] 58)) ∧ W3.heap.size ≤ wx.heap.size)
  case atStart => exact ⟨0, rfl, by omega, HO3.out, HB3.out, K23.out, HZ3.out, Nat.le_refl _⟩
  case round =>
    obtain ⟨i, rfl, hi, HO, HB, HK, HZ, hwr⟩ := hrel
    by_cases hlt : i < 1
    · obtain rfl : i = 0 := by omega
      obtain rfl : gk = 1 := by omega
      have cz := cellOf HZ.out 0 (.complex .f64 4607182418800017408 4611686018427387904) rfl
      go_wp2_with fail
      refine Calls.mono (HP.out w1.heap.size W3.heap.size [] [] _ 0 4607182418800017408 _ HO.out hwr w.heap.size (by omega) (by omega) (by simp) (by simp)) ?_
      rintro e w4 ⟨rfl, o4, b4, t4⟩
      have HO4 : Hid _ := o4
      have HB4 : Hid (Below w.heap.size w w4) := HB.out.trans b4
      have HK4 : Hid (w4.heap[w.heap.size + 1 + 1]? = _) := (t4 _ (by omega) (by omega)).trans HK.out
      have HZ4 : Hid (w4.heap[z]? = _) := (t4 _ (by omega) (by omega)).trans HZ.out
      have hs4 := b4.size
      clear o4 b4 t4 cz
      go_wp2_with fail
      refine Calls.mono (HTR.out _) ?_
      rintro e w5 ⟨rfl, hw⟩
      rw [hw]
      clear hw
      go_wp2_with fail
      refine Calls.mono (HP.out w1.heap.size W3.heap.size [0] [4607182418800017408] _ 1 13835058055282163712 _ HO4.out (by omega) w.heap.size (by omega) (by omega) (by simp) (by simp)) ?_
      rintro e w6 ⟨rfl, o6, b6, t6⟩
      have HO6 : Hid _ := o6
      have HB6 : Hid (Below w.heap.size w w6) := HB4.out.trans b6
      have HK6 : Hid (w6.heap[w.heap.size + 1 + 1]? = _) := (t6 _ (by omega) (by omega)).trans HK4.out
      have HZ6 : Hid (w6.heap[z]? = _) := (t6 _ (by omega) (by omega)).trans HZ4.out
      have hs6 := b6.size
      clear o6 b6 t6
      go_wp2_with fail
      go_roundg 0
      case measure => omega
      case rel => exact ⟨1, rfl, rfl, HO6.out, HB6, HK6, HZ6, by omega⟩
    · obtain rfl : i = 1 := by omega
      obtain ⟨v1, v2, k1, p1, p2, ov⟩ := HO.out
      have HV : Hid (RowV wr w.heap.size v1 v2 [0, 1] [4607182418800017408, 13835058055282163712]) := ov.mono (by omega)
      have K1 : Hid (wr.heap[w1.heap.size]? = _) := k1
      clear k1 ov
      go_wp2_with (first
        | (refine wpList_load_row (by rfl) 71 _ (by rfl) w1.heap.size _ (by rfl) K1.out _ Try.underlying71 rfl 3 Try.infoRow (by rfl) ?_)
        | (refine wpList_store_row (by rfl) 71 _ _ (by rfl) w w.heap.size (w.heap.size + 1 + 1) _ _ (by rfl) (by rfl) HK.out HB.out (by omega) 3 Try.infoRow (by rfl) (by rfl) (by exact one_row _ _ _ p1 p2) ?_; intro W9 e9 hb9 hs9 ho9))
      refine bodyPost_ret (res_one _ 6 71 (by kernel_rfl) _ _ (w.heap.size + 1 + 1) _ (by rfl) _ Try.underlying71 rfl 3 Try.infoRow rfl e9) rfl ?_
      refine ⟨v1, v2, rfl, p1, p2, HV.out.keep fun k hk hv => ho9 k fun e => ?_, hb9⟩
      rcases hv with hv | hv
      · exact own_ne HV.out.o1 HK.out (by decide) (e ▸ hv)
      · exact own_ne HV.out.o2 HK.out (by decide) (e ▸ hv)
set_option maxRecDepth 100000 in
set_option maxHeartbeats 1000000 in
theorem rowOf1 (z y : Nat) (w : World) (hz : w.heap[z]? = some (.cells #[.complex .f64 4607182418800017408 4611686018427387904] 58)) (hy : w.heap[y]? = some (.cells #[.complex .f64 4613937818241073152 4616189618054758400] 58)) :
    Calls Try.prog 26 #[.agg #[.int .i64 6, .int .i64 1, .int .i64 0, .int .i64 0, .int .i64 0, .int .i64 0, .int .i64 0, .int .i64 0, .int .i64 0, .float .f64 0, .slice none 0 0, .slice none 0 0, .slice (some ⟨z, 0, none⟩) 1 1, .slice (some ⟨y, 0, none⟩) 1 1], .agg #[.int .i64 1, .int .i64 1, .int .i64 2], .int .i64 0] w fun e w' => ∃ v1 v2, e = .returned (.agg #[v1, v2, .float .f64 4613937818241073152]) ∧ v1.oneCell' = true ∧ v2.oneCell' = true ∧ RowV w' w.heap.size v1 v2 [0, 1] [4607182418800017408, 13835058055282163712] ∧ Below w.heap.size w w' := by
  have HT : Hid (∀ wx, Below w.heap.size w wx → Calls Try.prog 39 #[.agg #[.int .i64 6, .int .i64 1, .int .i64 0, .int .i64 0, .int .i64 0, .int .i64 0, .int .i64 0, .int .i64 0, .int .i64 0, .float .f64 0, .slice none 0 0, .slice none 0 0, .slice (some ⟨z, 0, none⟩) 1 1, .slice (some ⟨y, 0, none⟩) 1 1], .agg #[.int .i64 1, .int .i64 1, .int .i64 2], .int .i64 0] wx fun e w' => ∃ v1 v2, e = .returned (.agg #[v1, v2, .float .f64 4613937818241073152]) ∧ v1.oneCell' = true ∧ v2.oneCell' = true ∧ RowV w' wx.heap.size v1 v2 [0, 1] [4607182418800017408, 13835058055282163712] ∧ Below wx.heap.size wx w') := fun wx hb => turnRow1 z y wx (kept hb hz) (kept hb hy)
  clear hz hy
  go_enter Try.func26, Try.ntmps26
  go_wp2_with fail
  refine Calls.mono (HT.out _ ((((Below.refl _ w).alloc (Nat.le_refl _) _).alloc (by simp only [alloc_size]; omega) _).alloc (by simp only [alloc_size]; omega) _)) ?_
  rintro e w1 ⟨v1, v2, rfl, p1, p2, ov, hb⟩
  have k2 := kept hb (heap_at _ _ (w.heap.size + 1 + 1) (by simp only [alloc_size]))
  have HB1 : Hid (Below w.heap.size w w1) := to_call ((((Below.refl _ w).alloc (Nat.le_refl _) _).alloc (by simp only [alloc_size]; omega) _).alloc (by simp only [alloc_size]; omega) _) hb
  have HV : Hid (RowV w1 w.heap.size v1 v2 [0, 1] [4607182418800017408, 13835058055282163712]) := ov.mono (by simp only [alloc_size]; omega)
  have HK : Hid _ := k2
  clear k2 hb ov HT
  go_wp2_with (first
    | (refine wpList_store_row (by rfl) 71 _ _ (by rfl) w w.heap.size (w.heap.size + 1 + 1) _ _ (by rfl) (by rfl) HK.out HB1.out (by omega) 3 Try.infoRow (by rfl) (by rfl) (by exact one_row _ _ _ p1 p2) ?_; intro W9 e9 hb9 hs9 ho9))
  refine bodyPost_ret (res_one _ 6 71 (by kernel_rfl) _ _ (w.heap.size + 1 + 1) _ (by rfl) _ Try.underlying71 rfl 3 Try.infoRow rfl e9) rfl ?_
  refine ⟨v1, v2, rfl, p1, p2, HV.out.keep fun k hk hv => ho9 k fun e => ?_, hb9⟩
  rcases hv with hv | hv
  · exact own_ne HV.out.o1 HK.out (by decide) (e ▸ hv)
  · exact own_ne HV.out.o2 HK.out (by decide) (e ▸ hv)
set_option maxRecDepth 100000 in
set_option maxHeartbeats 1000000 in
theorem row1 (z y : Nat) (w : World) (hz : w.heap[z]? = some (.cells #[.complex .f64 4607182418800017408 4611686018427387904] 58)) (hy : w.heap[y]? = some (.cells #[.complex .f64 4613937818241073152 4616189618054758400] 58)) :
    Calls Try.prog 9 #[.agg #[.int .i64 6, .int .i64 1, .int .i64 0, .int .i64 0, .int .i64 0, .int .i64 0, .int .i64 0, .int .i64 0, .int .i64 0, .float .f64 0, .slice none 0 0, .slice none 0 0, .slice (some ⟨z, 0, none⟩) 1 1, .slice (some ⟨y, 0, none⟩) 1 1], .agg #[.int .i64 1, .int .i64 1, .int .i64 2], .int .i64 0] w fun e w' => ∃ v1 v2, e = .returned (.tuple #[v1, v2, .float .f64 4613937818241073152, .int .i64 0]) ∧ RowV w' w.heap.size v1 v2 [0, 1] [4607182418800017408, 13835058055282163712] ∧ Below w.heap.size w w' := by
  have HH : Hid _ := fun w => haveRow z y w
  have HT : Hid (∀ wx, Below w.heap.size w wx → Calls Try.prog 26 #[.agg #[.int .i64 6, .int .i64 1, .int .i64 0, .int .i64 0, .int .i64 0, .int .i64 0, .int .i64 0, .int .i64 0, .int .i64 0, .float .f64 0, .slice none 0 0, .slice none 0 0, .slice (some ⟨z, 0, none⟩) 1 1, .slice (some ⟨y, 0, none⟩) 1 1], .agg #[.int .i64 1, .int .i64 1, .int .i64 2], .int .i64 0] wx fun e w' => ∃ v1 v2, e = .returned (.agg #[v1, v2, .float .f64 4613937818241073152]) ∧ v1.oneCell' = true ∧ v2.oneCell' = true ∧ RowV w' wx.heap.size v1 v2 [0, 1] [4607182418800017408, 13835058055282163712] ∧ Below wx.heap.size wx w') := fun wx hb => rowOf1 z y wx (kept hb hz) (kept hb hy)
  clear hz hy
  go_enter Try.func9, Try.ntmps9
  go_wp2_with fail
  refine Calls.mono (HH.out _) ?_
  rintro e w1 ⟨rfl, hb⟩
  have HB1 : Hid (Below w.heap.size w w1) := to_call (((Below.refl _ w).alloc (Nat.le_refl _) _).alloc (by simp only [alloc_size]; omega) _) hb
  have k0 := kept hb (alloc_kept (heap_alloc_new w _) _)
  have k1 := kept hb (heap_at _ _ (w.heap.size + 1) (by simp only [alloc_size]))
  have K0 : Hid _ := k0
  obtain ⟨b0, b1, b2⟩ := cells3 k1
  clear hb HH k0 k1
  go_wp2_with (first | (refine wpList_load_row (by rfl) 30 _ (by rfl) w.heap.size _ (by rfl) K0.out _ Try.underlying30 rfl 14 Try.infoLy (by rfl) ?_))
  refine Calls.mono (HT.out _ HB1.out) ?_
  rintro e w2 ⟨v1, v2, rfl, p1, p2, ov, hb⟩
  have HB2 : Hid (Below w.heap.size w w2) := to_call HB1.out hb
  have hs2 := HB2.out.size
  have HV : Hid (RowV w2 w.heap.size v1 v2 [0, 1] [4607182418800017408, 13835058055282163712]) := ov.mono HB1.out.size
  clear hb ov HT
  go_upto_region 5 with (first | (refine wpList_store_row (by rfl) 71 _ _ (by rfl) w w.heap.size w2.heap.size _ _ (by rfl) (by rfl) (heap_alloc_new w2 _) (HB2.out.alloc (by omega) _) (by omega) 3 Try.infoRow (by rfl) (by rfl) (by exact one_row _ _ _ p1 p2) ?_; intro W9 e9 hb9 hs9 ho9))
  have q0 := cellOf e9 0 v1 rfl
  have q1 := cellOf e9 1 v2 rfl
  have q2 := cellOf e9 2 (.float .f64 4613937818241073152) rfl
  have HV9 : Hid (RowV W9 w.heap.size v1 v2 [0, 1] [4607182418800017408, 13835058055282163712]) := HV.out.keep fun k hk hv => (ho9 k (by omega)).trans (Below.heap_alloc w2 _ k hk)
  have HB9 : Hid _ := hb9
  clear hb9 hs9 ho9 e9 HV b0 b1 b2
  go_quiet (fail)
  go_wp2_with fail
  refine bodyPost_ret (res_tmp4 _ 6 7 8 9 (by kernel_rfl) _ _ _ _ _ _ (by rfl) (by rfl) (by rfl) (by rfl)) rfl ?_
  exact ⟨v1, v2, rfl, HV9.out.later (below_drewN (Below.refl _ _) _), below_drewN HB9.out _⟩
end Go.Proofs.Ytmbnbleahehdaaa
