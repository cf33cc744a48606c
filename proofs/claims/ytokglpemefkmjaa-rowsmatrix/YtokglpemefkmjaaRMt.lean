import Derived.Test.YtokglpemefkmjaaRWx
import Derived.Test.YtokglpemefkmjaaRMf
namespace Go.Proofs.Ytokglpemefkmjaa
open Go.RowKit
set_option linter.unusedVariables false
set_option linter.unusedSimpArgs false
theorem wrap64_eqT (x : Int) : wrap64 x = IntKind.i64.wrap x := by rw [IntKind.wrap_i64]; unfold wrap64; omega
set_option maxRecDepth 100000 in
theorem turnedG (o n t : Int) (hn : n.tmod 2 = 0) (ht : IntKind.i64.wrap (2 * o) = t) (w : World) : Calls Try.prog 54 #[.int .i64 o, .int .i64 n] w fun e w' => e = .returned (.agg #[.int .i64 t, .int .i64 1, .int .i64 1]) ∧ Below w.heap.size w w' := by
  have hd : (n.tmod 2 != 0) = false := by simp [hn]
  have ht2 : wrap64 (2 * o) = t := by rw [wrap64_eqT]; exact ht
  go_enter Try.func54, Try.ntmps54
  go_wp2_with (first | (refine wpList_store_row (by rfl) 25 _ _ (by rfl) w w.heap.size w.heap.size #[.int .i64 t, .int .i64 1, .int .i64 1] _ (by rfl) (by rfl) (heap_alloc_new w _) ((Below.refl _ w).alloc (Nat.le_refl _) _) (Nat.le_refl _) 3 Try.infoShape (by rfl) (by rfl) (by exact one3 ..) ?_; intro W2 e2 hb2 hs2 ho2))
  refine bodyPost_ret (res_one _ 4 25 (by kernel_rfl) _ _ w.heap.size _ (by rfl) _ Try.underlying25 rfl 3 Try.infoShape rfl e2) rfl ?_
  exact ⟨rfl, hb2⟩
set_option maxRecDepth 100000 in
set_option maxHeartbeats 4000000 in
theorem formTurnG (o kh kw sh sw ph pw fr : Int) (A : Nat) (v1 v2 v3 v4 : Value) (c h k n t hf p : Int) (hn : szF [c, h, k] 1 = (n, 0)) (hm : n.tmod 2 = 0) (ht : IntKind.i64.wrap (2 * o) = t) (hq : wrap64 (n.tdiv 2) = hf) (hp : IntKind.i64.wrap (o * hf) = p) (w : World) :
    Calls Try.prog 45 #[.agg #[.int .i64 6, .int .i64 o, .int .i64 kh, .int .i64 kw, .int .i64 sh, .int .i64 sw, .int .i64 ph, .int .i64 pw, .int .i64 fr, .float .f64 A, v1, v2, v3, v4], .agg #[.int .i64 c, .int .i64 h, .int .i64 k]] w fun e w' =>
      e = .returned (.tuple #[.agg #[.int .i64 1, .int .i64 128, .int .i64 0, .int .i64 0, .int .i64 0, .int .i64 0, .int .i64 0, .int .i64 0, .int .i64 0, .int .i64 0, .int .i64 0, .int .i64 0, .int .i64 0, .int .i64 0, .int .i64 0, .int .i64 0, .int .i64 0, .int .i64 t, .int .i64 1, .int .i64 1, .int .i64 0, .int .i64 0, .int .i64 p, .int .i64 o], .bool true]) ∧ Below w.heap.size w w' := by
  have HS : Hid _ := size_any c h k
  have HT : Hid _ := fun w => turnedG o n t hm ht w
  go_enter Try.func45, Try.ntmps45
  go_wp2_with fail
  refine Calls.mono (HS.out _) ?_
  rintro e w1 ⟨rfl, hb⟩
  have HB1 : Hid (Below w.heap.size w w1) := to_call ((((Below.refl _ w).alloc (Nat.le_refl _) _).alloc (by simp only [alloc_size]; omega) _).alloc (by simp only [alloc_size]; omega) _) hb
  have k0 := kept hb (alloc_kept (alloc_kept (heap_alloc_new w _) _) _)
  have k1 := kept hb (alloc_kept (heap_at _ _ (w.heap.size + 1) (by simp only [alloc_size])) _)
  have k2 := kept hb (heap_at _ _ (w.heap.size + 1 + 1) (by simp only [alloc_size]))
  have HK : Hid (w1.heap[w.heap.size]? = _ ∧ w1.heap[w.heap.size + 1]? = _ ∧ w1.heap[w.heap.size + 1 + 1]? = _) := ⟨k0, k1, k2⟩
  have hsz := blk_lt k2
  obtain ⟨b0, b1, b2⟩ := cells3 k1
  clear k0 k1 k2 hb HS
  unfold szV
  rw [hn]
  clear hn hm ht
  go_upto_region 27 with (first | (refine wpList_store_row (by rfl) 87 _ _ (by rfl) w w.heap.size w1.heap.size _ _ (by rfl) (by rfl) (heap_alloc_new w1 _) (HB1.out.alloc (by omega) _) (by omega) 24 Try.infoForm (by rfl) (by rfl) (by exact one24 ..) ?_; intro W2 e2 hb2 hs2 ho2; obtain ⟨a0, a1, a2, a3, a4, a5, a6, a7, a8, a9, a10, a11, a12, a13⟩ := cells14 ((ho2 _ (by omega)).trans (alloc_kept HK.out.1 _))))
  have HK2 : Hid (W2.heap[w.heap.size]? = _ ∧ W2.heap[w.heap.size + 1]? = _ ∧ W2.heap[w.heap.size + 1 + 1]? = _) := ⟨(ho2 _ (by omega)).trans (alloc_kept HK.out.1 _), (ho2 _ (by omega)).trans (alloc_kept HK.out.2.1 _), (ho2 _ (by omega)).trans (alloc_kept HK.out.2.2 _)⟩
  have hsW : w1.heap.size < W2.heap.size := blk_lt e2
  go_upto_region 28 with (first | (refine wpList_store_at (by rfl) 84 _ _ (by rfl) w w.heap.size w1.heap.size 0 (.agg #[.int .i64 1, .int .i64 128]) _ #[.int .i64 1, .int .i64 128, .int .i64 0, .int .i64 0, .int .i64 0, .int .i64 0, .int .i64 0, .int .i64 0, .int .i64 0, .int .i64 0, .int .i64 0, .int .i64 0, .int .i64 0, .int .i64 0, .int .i64 0, .int .i64 0, .int .i64 0, .int .i64 c, .int .i64 h, .int .i64 k, .int .i64 0, .int .i64 0, .int .i64 0, .int .i64 0] 87 (by rfl) (by rfl) e2 hb2 (by omega) 2 Try.infoBound (by rfl) (Nat.le_of_ble_eq_true rfl) (by exact one_int2 _ _) (by rfl) ?_; intro W3 e3 hb3 hs3 ho3))
  have HK3 : Hid (W3.heap[w.heap.size]? = _ ∧ W3.heap[w.heap.size + 1]? = _ ∧ W3.heap[w.heap.size + 1 + 1]? = _) := ⟨(ho3 _ (by omega)).trans HK2.out.1, (ho3 _ (by omega)).trans HK2.out.2.1, (ho3 _ (by omega)).trans HK2.out.2.2⟩
  have q1 := cellAt HK3.out.1 1 (.int .i64 o) rfl
  go_wp2_with fail
  refine Calls.mono (HT.out _) ?_
  rintro e w4 ⟨rfl, hb⟩
  have HB4 : Hid (Below w.heap.size w w4) := to_call hb3 hb
  have HK4 : Hid (w4.heap[w.heap.size]? = _ ∧ w4.heap[w.heap.size + 1]? = _ ∧ w4.heap[w.heap.size + 1 + 1]? = _) := ⟨kept hb HK3.out.1, kept hb HK3.out.2.1, kept hb HK3.out.2.2⟩
  have e4 := kept hb e3
  clear a0 a1 a2 a3 a4 a5 a6 a7 a8 a9 a10 a11 a12 a13 q1 b0 b1 b2 e2 hb2 hs2 ho2 hb3 hs3 ho3 e3 hb HK2 HK3 HT
  go_upto_region 29 with (first | (refine wpList_store_at (by rfl) 25 _ _ (by rfl) w w.heap.size w1.heap.size 17 (.agg #[.int .i64 t, .int .i64 1, .int .i64 1]) _ #[.int .i64 1, .int .i64 128, .int .i64 0, .int .i64 0, .int .i64 0, .int .i64 0, .int .i64 0, .int .i64 0, .int .i64 0, .int .i64 0, .int .i64 0, .int .i64 0, .int .i64 0, .int .i64 0, .int .i64 0, .int .i64 0, .int .i64 0, .int .i64 t, .int .i64 1, .int .i64 1, .int .i64 0, .int .i64 0, .int .i64 0, .int .i64 0] 87 (by rfl) (by rfl) e4 HB4.out (by omega) 3 Try.infoShape (by rfl) (Nat.le_of_ble_eq_true rfl) (by exact one_int3 _ _ _) (by rfl) ?_; intro W5 e5 hb5 hs5 ho5))
  have HK5 : Hid (W5.heap[w.heap.size]? = _ ∧ W5.heap[w.heap.size + 1]? = _ ∧ W5.heap[w.heap.size + 1 + 1]? = _) := ⟨(ho5 _ (by omega)).trans HK4.out.1, (ho5 _ (by omega)).trans HK4.out.2.1, (ho5 _ (by omega)).trans HK4.out.2.2⟩
  have q4 := cellAt HK5.out.1 1 (.int .i64 o) rfl
  have f22 := cellAt e5 22 (.int .i64 0) rfl
  have f23 := cellAt e5 23 (.int .i64 0) rfl
  have fz := frq e5
  have hne : (22 : Nat) ≠ 23 := by decide
  have hq2 : IntKind.i64.wrap (n.tdiv 2) = hf := by rw [← wrap64_eqT]; exact hq
  have hp2 : wrap64 (o * hf) = p := by rw [wrap64_eqT]; exact hp
  clear hs5 ho5 e4 HK4 HB4
  go_region
  all_goals
    have HWR : Wq w w.heap.size w1.heap.size 87 W5 _ _ := (((Wq.mk e5 hb5 (fun _ _ => rfl) : Wq w w.heap.size w1.heap.size 87 W5 W5 _).step (by omega) 22 (.int .i64 p)).step (by omega) 23 (.int .i64 o)).drew
    obtain ⟨W6, hW6⟩ : ∃ W6, ((W5.setCell ⟨w1.heap.size, 22, none⟩ (.int .i64 p)).setCell ⟨w1.heap.size, 23, none⟩ (.int .i64 o)).drew = W6 := ⟨_, rfl⟩
    rw [hW6]
    rw [hW6] at HWR
    clear hW6
    have e6 : W6.heap[w1.heap.size]? = some (.cells #[.int .i64 1, .int .i64 128, .int .i64 0, .int .i64 0, .int .i64 0, .int .i64 0, .int .i64 0, .int .i64 0, .int .i64 0, .int .i64 0, .int .i64 0, .int .i64 0, .int .i64 0, .int .i64 0, .int .i64 0, .int .i64 0, .int .i64 0, .int .i64 t, .int .i64 1, .int .i64 1, .int .i64 0, .int .i64 0, .int .i64 p, .int .i64 o] 87) := HWR.blk
    have hb6 := HWR.bel
    have ho6 := HWR.oth
    have HK6 : Hid (W6.heap[w.heap.size]? = _ ∧ W6.heap[w.heap.size + 1]? = _ ∧ W6.heap[w.heap.size + 1 + 1]? = _) := ⟨(ho6 _ (by omega)).trans HK5.out.1, (ho6 _ (by omega)).trans HK5.out.2.1, (ho6 _ (by omega)).trans HK5.out.2.2⟩
    clear HWR f22 f23 fz q4 HK5 hb5
    go_upto_region 32 with fail
    go_wp2_with (first
      | (refine wpList_load_row (by rfl) 87 _ (by rfl) w1.heap.size _ (by rfl) e6 _ Try.underlying87 rfl 24 Try.infoForm (by rfl) ?_)
      | (refine wpList_store_row (by rfl) 87 _ _ (by rfl) w w.heap.size (w.heap.size + 1 + 1) _ _ (by rfl) (by rfl) HK6.out.2.2 hb6 (by omega) 24 Try.infoForm (by rfl) (by rfl) (by exact one24 ..) ?_; intro W9 e9 hb9 hs9 ho9))
    refine bodyPost_ret (res_form _ 4 5 (by kernel_rfl) _ _ (w.heap.size + 1 + 1) _ _ (by rfl) (by rfl) rfl e9) rfl ?_
    exact ⟨rfl, hb9⟩
set_option maxRecDepth 100000 in
set_option maxHeartbeats 1000000 in
theorem rowOfTurn (c h k i : Int) (x1 x2 x3 x4 x5 x6 x7 x8 x9 x10 x11 x12 x13 : Value) (cs : List Int) (ws : List Nat) (b : Nat) (w : World)
    (hT : ∀ wx, Below w.heap.size w wx → Calls Try.prog 41 #[.agg #[.int .i64 6, x1, x2, x3, x4, x5, x6, x7, x8, x9, x10, x11, x12, x13], .agg #[.int .i64 c, .int .i64 h, .int .i64 k], .int .i64 i] wx fun e w' => ∃ v1 v2, e = .returned (.agg #[v1, v2, .float .f64 b]) ∧ v1.oneCell' = true ∧ v2.oneCell' = true ∧ RowV w' wx.heap.size v1 v2 cs ws ∧ Below wx.heap.size wx w') :
    Calls Try.prog 23 #[.agg #[.int .i64 6, x1, x2, x3, x4, x5, x6, x7, x8, x9, x10, x11, x12, x13], .agg #[.int .i64 c, .int .i64 h, .int .i64 k], .int .i64 i] w fun e w' => ∃ v1 v2, e = .returned (.agg #[v1, v2, .float .f64 b]) ∧ v1.oneCell' = true ∧ v2.oneCell' = true ∧ RowV w' w.heap.size v1 v2 cs ws ∧ Below w.heap.size w w' := by
  have HT : Hid _ := hT
  clear hT
  go_enter Try.func23, Try.ntmps23
  go_wp2_with fail
  refine Calls.mono (HT.out _ ((((Below.refl _ w).alloc (Nat.le_refl _) _).alloc (by simp only [alloc_size]; omega) _).alloc (by simp only [alloc_size]; omega) _)) ?_
  rintro e w1 ⟨v1, v2, rfl, p1, p2, ov, hb⟩
  have k2 := kept hb (heap_at _ _ (w.heap.size + 1 + 1) (by simp only [alloc_size]))
  have HB1 : Hid (Below w.heap.size w w1) := to_call ((((Below.refl _ w).alloc (Nat.le_refl _) _).alloc (by simp only [alloc_size]; omega) _).alloc (by simp only [alloc_size]; omega) _) hb
  have HV : Hid (RowV w1 w.heap.size v1 v2 cs ws) := ov.mono (by simp only [alloc_size]; omega)
  have HK : Hid _ := k2
  clear k2 hb ov HT
  go_wp2_with (first
    | (refine wpList_store_row (by rfl) 64 _ _ (by rfl) w w.heap.size (w.heap.size + 1 + 1) _ _ (by rfl) (by rfl) HK.out HB1.out (by omega) 3 Try.infoRow (by rfl) (by rfl) (by exact one_row _ _ _ p1 p2) ?_; intro W9 e9 hb9 hs9 ho9))
  refine bodyPost_ret (res_one _ 6 64 (by kernel_rfl) _ _ (w.heap.size + 1 + 1) _ (by rfl) _ Try.underlying64 rfl 3 Try.infoRow rfl e9) rfl ?_
  refine ⟨v1, v2, rfl, p1, p2, HV.out.keep fun k hk hv => ho9 k fun e => ?_, hb9⟩
  rcases hv with hv | hv
  · exact own_ne HV.out.o1 HK.out (by decide) (e ▸ hv)
  · exact own_ne HV.out.o2 HK.out (by decide) (e ▸ hv)
/-- A small whole number's float with its sign turned. -/
def tuZ (z : Int) : Nat := (bits .xor .u64 (flZ z : Int) 9223372036854775808).toNat
theorem tuZ_A : ∀ n : _root_.Fin 19, (bits .xor .u64 (flZ ((n : Nat) - 9 : Int) : Int) 9223372036854775808 = (tuZ ((n : Nat) - 9 : Int) : Int)) ∧ tuZ ((n : Nat) - 9 : Int) < 18446744073709551616 ∧ (FloatKind.f64.decode (tuZ ((n : Nat) - 9 : Int))).toInt .zero = some (-((n : Nat) - 9 : Int)) := by decide +kernel
theorem tuZ_ok {z : Int} (h : -9 ≤ z ∧ z ≤ 9) : bits .xor .u64 (flZ z : Int) 9223372036854775808 = (tuZ z : Int) ∧ tuZ z < 18446744073709551616 ∧ (FloatKind.f64.decode (tuZ z)).toInt .zero = some (-z) := by
  have hb := tuZ_A ⟨(z + 9).toNat, by omega⟩
  rw [show (((⟨(z + 9).toNat, by omega⟩ : _root_.Fin 19) : Nat) - 9 : Int) = z by simp; omega] at hb
  exact hb
set_option maxRecDepth 100000 in
theorem turnedF {z : Int} (h : -9 ≤ z ∧ z ≤ 9) (w : World) : Calls Try.prog 49 #[.float .f64 (flZ z)] w fun e w' => e = .returned (.float .f64 (tuZ z)) ∧ w' = w := by
  have HB : Hid _ := fun w => bits_any (flZ z) w
  have HF : Hid _ := fun w => floatF (tuZ z) w
  have hs := (tuZ_ok h).1
  go_enter Try.func49, Try.ntmps49
  go_wp2_with fail
  refine Calls.mono (HB.out _) ?_
  rintro e w1 ⟨rfl, hw⟩
  rw [hw]
  clear hw
  go_wp2_with fail
  refine Calls.mono (HF.out _) ?_
  rintro e w1 ⟨rfl, hw⟩
  rw [hw]
  clear hw
  go_wp2_with fail
  go_ret
  exact ⟨rfl, rfl⟩
theorem Try.elemC : Try.prog.elem 28 = 57 := by kernel_rfl
theorem sizeC128 (w : World) : (sizeOf 57).run Try.prog w = .ok 1 w := by kernel_rfl
theorem cutZH (b off len cap lo hi : Nat) (h1 : lo ≤ hi) (h2 : hi ≤ cap) (h3 : lo < cap) (w : World) :
    (Instr.slice 28 (.slice (some ⟨b, off, none⟩) len cap) (some (.int .i64 (lo : Int))) (some (.int .i64 (hi : Int))) none).run Try.prog w = .ok (.slice (some ⟨b, off + lo, none⟩) (hi - lo) (cap - lo)) w := by
  rw [run_slice_lh w _ _ _ _ (by rw [Try.elemC]; exact Try.underlying28) .i64 .i64 lo hi (by omega) (by omega) (by omega), Try.elemC, sizeC128]
  simp only [Result.andThen, sliced, Int.toNat_natCast]
  rw [if_neg (by omega)]
  simp only [Option.map_some, Addr.add_lit, Nat.mul_one]
theorem cutZHn (b off len cap lo hi n : Nat) (h0 : lo + n = hi) (h2 : hi ≤ cap) (h3 : lo < cap) (w : World) :
    (Instr.slice 28 (.slice (some ⟨b, off, none⟩) len cap) (some (.int .i64 (lo : Int))) (some (.int .i64 (hi : Int))) none).run Try.prog w = .ok (.slice (some ⟨b, off + lo, none⟩) n (cap - lo)) w := by
  have := cutZH b off len cap lo hi (by omega) h2 h3 w
  rw [show hi - lo = n by omega] at this
  exact this
/-- A turn's row: its real part, its imaginary part. -/
def twE (fz gz : Nat → Int) (lo : Nat) : Nat → List Nat
  | 0 => []
  | j + 1 => twE fz gz lo j ++ ([flZ (fz (lo + j))] ++ [tuZ (gz (lo + j))])
def twO (fz gz : Nat → Int) (lo : Nat) : Nat → List Nat
  | 0 => []
  | j + 1 => twO fz gz lo j ++ ([flZ (gz (lo + j))] ++ [flZ (fz (lo + j))])
theorem twE_len (fz gz : Nat → Int) (lo : Nat) : ∀ j, (twE fz gz lo j).length = 2 * j
  | 0 => rfl
  | j + 1 => by have := twE_len fz gz lo j; simp [twE, this]; omega
theorem twO_len (fz gz : Nat → Int) (lo : Nat) : ∀ j, (twO fz gz lo j).length = 2 * j
  | 0 => rfl
  | j + 1 => by have := twO_len fz gz lo j; simp [twO, this]; omega
theorem twE_snoc (fz gz : Nat → Int) (lo j : Nat) : twE fz gz lo (j + 1) = twE fz gz lo j ++ ([flZ (fz (lo + j))] ++ [tuZ (gz (lo + j))]) := rfl
theorem twO_snoc (fz gz : Nat → Int) (lo j : Nat) : twO fz gz lo (j + 1) = twO fz gz lo j ++ ([flZ (gz (lo + j))] ++ [flZ (fz (lo + j))]) := rfl
set_option maxRecDepth 100000 in
set_option maxHeartbeats 4000000 in
theorem turnRowE (x0 x1 x2 x3 x4 x5 x6 x7 x8 x9 x10 x11 : Value) (zo yo : Option Addr) (zn zc yn yc : Nat) (fz gz : Nat → Int) (f g fy gy : Nat → Nat) (hf : ∀ j, f j = flZ (fz j)) (hg : ∀ j, g j = flZ (gz j)) (hfz : ∀ j, -9 ≤ fz j ∧ fz j ≤ 9) (hgz : ∀ j, -9 ≤ gz j ∧ gz j ≤ 9) (c h k nn i : Int) (n q : Nat) (hn : szF [c, h, k] 1 = (nn, 0)) (hnn : wrap64 (nn.tdiv 2) = (n : Int)) (hi2 : wrap64 (i.tdiv 2) = (q : Int)) (hpar : i.tmod 2 = 0) (hn0 : 1 ≤ n ∧ n ≤ 128) (hib : q < yn) (hbn : yn ≤ 128) (hwn : (q + 1) * n ≤ zn)
    (w : World) (hW : RdC2 w zo zn zc f g) (hB : RdC2 w yo yn yc fy gy) :
    Calls Try.prog 41 #[.agg #[x0, x1, x2, x3, x4, x5, x6, x7, x8, x9, x10, x11, .slice zo zn zc, .slice yo yn yc], .agg #[.int .i64 c, .int .i64 h, .int .i64 k], .int .i64 i] w fun e w' => ∃ v1 v2, e = .returned (.agg #[v1, v2, .float .f64 (fy q)]) ∧ v1.oneCell' = true ∧ v2.oneCell' = true ∧ RowV w' w.heap.size v1 v2 (idx (2 * n)) (twE fz gz (q * n) n) ∧ Below w.heap.size w w' := by
  have HS : Hid _ := fun w => size_of hn w
  have HW : Hid _ := hW
  have HBB : Hid _ := hB
  have HZB : Hid ((∀ j, f j = flZ (fz j)) ∧ (∀ j, g j = flZ (gz j)) ∧ (∀ j, -9 ≤ fz j ∧ fz j ≤ 9) ∧ (∀ j, -9 ≤ gz j ∧ gz j ≤ 9)) := ⟨hf, hg, hfz, hgz⟩
  have hwc := hW.le
  clear hW hB hn hf hg hfz hgz
  obtain ⟨lo, hlo⟩ : ∃ lo, q * n = lo := ⟨_, rfl⟩
  obtain ⟨hi, hhi⟩ : ∃ hi, (q + 1) * n = hi := ⟨_, rfl⟩
  have hlh : hi = lo + n := by rw [← hhi, ← hlo, Nat.add_mul, Nat.one_mul]
  have hlb : hi ≤ 128 * 128 := by rw [← hhi]; exact Nat.mul_le_mul (show q + 1 ≤ 128 by omega) hn0.2
  rw [hhi] at hwn
  rw [hlo]
  have m1 : IntKind.i64.wrap ((q : Int) * (n : Int)) = (lo : Int) := by rw [← Int.natCast_mul, hlo, IntKind.wrap_i64]; omega
  have m2 : IntKind.i64.wrap ((q : Int) + 1) = ((q + 1 : Nat) : Int) := by rw [IntKind.wrap_i64]; omega
  have m2' : IntKind.i64.wrap ((q : Int) + 1) = (q : Int) + 1 := by rw [IntKind.wrap_i64]; omega
  have m3 : IntKind.i64.wrap (((q : Int) + 1) * (n : Int)) = (hi : Int) := by rw [show ((q : Int) + 1) * (n : Int) = (((q + 1) * n : Nat) : Int) by rw [Int.natCast_mul]; rfl, hhi, IntKind.wrap_i64]; omega
  have d1 : (i.tmod 2 == 0) = true := by simp [hpar]
  have hnn2 : IntKind.i64.wrap (nn.tdiv 2) = (n : Int) := by rw [← wrap64_eqT]; exact hnn
  have hi3 : IntKind.i64.wrap (i.tdiv 2) = (q : Int) := by rw [← wrap64_eqT]; exact hi2
  have j0 : (0 : Int) ≤ (q : Int) := by omega
  have j1 : (q : Int) < (yn : Int) := by omega
  clear hlo hhi m2
  go_enter Try.func41, Try.ntmps41
  go_wp2_with fail
  refine Calls.mono (HS.out _) ?_
  rintro e w1 ⟨rfl, hb⟩
  have HB1 : Hid (Below w.heap.size w w1) := to_call ((((Below.refl _ w).alloc (Nat.le_refl _) _).alloc (by simp only [alloc_size]; omega) _).alloc (by simp only [alloc_size]; omega) _) hb
  have k0 := kept hb (alloc_kept (alloc_kept (heap_alloc_new w _) _) _)
  have k2 := kept hb (heap_at _ _ (w.heap.size + 1 + 1) (by simp only [alloc_size]))
  have hsz := blk_lt k2
  rcases (HBB.out.later HB1.out).cells with z | ⟨bb, boff, rfl, hcB⟩
  · omega
  have gB := hcB q hib
  have c13 := cellOf k0 13 (.slice (some ⟨bb, boff, none⟩) yn yc) rfl
  have K0 : Hid _ := k0
  have K2 : Hid _ := k2
  clear hb HS hcB k0 k2
  go_upto_region 7 with (first | (refine wpList_store_row (by rfl) 64 _ _ (by rfl) w w.heap.size w1.heap.size _ _ (by rfl) (by rfl) (heap_alloc_new w1 _) (HB1.out.alloc (by omega) _) (by omega) 3 Try.infoRow (by rfl) (by rfl) (by exact one_row _ _ _ rfl rfl) ?_; intro W2 e2 hb2 hs2 ho2))
  have K02 : Hid (W2.heap[w.heap.size]? = _) := (ho2 _ (by omega)).trans (alloc_kept K0.out _)
  have K22 : Hid (W2.heap[w.heap.size + 1 + 1]? = _) := (ho2 _ (by omega)).trans (alloc_kept K2.out _)
  rcases (HBB.out.later hb2).cells with z | ⟨b', o', he, hcB⟩
  · omega
  cases he
  have gB2 := hcB q hib
  clear c13 gB ho2 K0 K2 hs2
  have c13 := cellOf K02.out 13 (.slice (some ⟨bb, boff, none⟩) yn yc) rfl
  go_upto_region 8 with (first | (refine wpList_store_at (by rfl) 26 _ _ (by rfl) w w.heap.size w1.heap.size 2 (.float .f64 (fy q)) _ #[.slice none 0 0, .slice none 0 0, .float .f64 (fy q)] 64 (by rfl) (by rfl) e2 hb2 (by omega) 1 Try.infoFl1 (by rfl) (Nat.le_of_ble_eq_true rfl) (by exact one_fl _) (by rfl) ?_; intro W3 e3 hb3 hs3 ho3))
  have K03 : Hid (W3.heap[w.heap.size]? = _) := (ho3 _ (by omega)).trans K02.out
  have K23 : Hid (W3.heap[w.heap.size + 1 + 1]? = _) := (ho3 _ (by omega)).trans K22.out
  have HO3 : Hid (RowO W3 W3.heap.size w1.heap.size [] [] (fy q)) := ⟨_, _, e3, rfl, rfl, World.ownsRow_nil _ _ _ 1, World.ownsRow_nil _ _ _ 1⟩
  have HB3 : Hid _ := hb3
  have hl3 := blk_lt e3
  clear c13 gB2 ho3 hs3 K02 K22 e2 hb2 e3 hb3 hcB
  rcases (HW.out.later HB3.out).cells with z | ⟨bw, woff, rfl, -⟩
  · omega
  have c12 := cellOf K03.out 12 (.slice (some ⟨bw, woff, none⟩) zn zc) rfl
  have hcut := fun (x : World) => cutZHn bw woff zn zc lo hi n hlh.symm (by omega) (by omega) x
  have hwn' : lo + n ≤ zn := by omega
  clear hlh
  go_upto_region 9 with fail
  go_loopg [53] n (fun g v wx => ∃ j : Nat, v = .int .i64 j ∧ j + g = n ∧ Hid (RowO wx W3.heap.size w1.heap.size (idx (2 * j)) (twE fz gz lo j) (fy q)) ∧ Hid (Below w.heap.size w wx) ∧ Hid (wx.heap[w.heap.size + 1 + 1]? = some (.cells #[.slice none 0 0, .slice none 0 0, .float .f64 0] 64)) ∧ W3.heap.size ≤ wx.heap.size)
  case atStart => exact ⟨0, rfl, by omega, HO3.out, HB3.out, K23.out, Nat.le_refl _⟩
  case round =>
    obtain ⟨j, rfl, hj, HO, HB, HK, hwr⟩ := hrel
    by_cases hlt : j < n
    · obtain ⟨g2, rfl⟩ : ∃ g2, gk = g2 + 1 := ⟨gk - 1, by omega⟩
      have hd : decide ((j : Int) < (n : Int)) = true := decide_eq_true (by omega)
      rcases (HW.out.later HB.out).cells with z | ⟨b', o', he, hcW⟩
      · omega
      cases he
      have gW := hcW (lo + j) (by omega)
      rw [← Nat.add_assoc, HZB.out.1, HZB.out.2.1] at gW
      obtain ⟨za, hza⟩ : ∃ za, fz (lo + j) = za := ⟨_, rfl⟩
      obtain ⟨zb, hzb⟩ : ∃ zb, gz (lo + j) = zb := ⟨_, rfl⟩
      rw [hza, hzb] at gW
      have HZA : Hid (fz (lo + j) = za ∧ gz (lo + j) = zb) := ⟨hza, hzb⟩
      have HTU : Hid (∀ w, _) := fun w => turnedF (z := zb) (hzb ▸ HZB.out.2.2.2 _) w
      have i0 : (0 : Int) ≤ (j : Int) := by omega
      have i1 : (j : Int) < (n : Int) := by omega
      have hw1 : IntKind.i64.wrap ((j : Int) + 1) = (j : Int) + 1 := by rw [IntKind.wrap_i64]; omega
      have hw2 : IntKind.i64.wrap (2 * (j : Int)) = ((2 * j : Nat) : Int) := by rw [IntKind.wrap_i64]; omega
      have hw4 : IntKind.i64.wrap (((2 * j : Nat) : Int) + 1) = ((2 * j + 1 : Nat) : Int) := by rw [IntKind.wrap_i64]; omega
      obtain ⟨jj, hjj⟩ : ∃ jj, 2 * j = jj := ⟨_, rfl⟩
      obtain ⟨jk, hjk⟩ : ∃ jk, jj + 1 = jk := ⟨_, rfl⟩
      have HJJ : Hid (2 * j = jj ∧ jj + 1 = jk) := ⟨hjj, hjk⟩
      rw [hjj] at hw2 hw4
      rw [hjk] at hw4
      have HO' : Hid (RowO wr W3.heap.size w1.heap.size (idx jj) (twE fz gz lo j) (fy q)) := by have := HO.out; rw [hjj] at this; exact this
      have hjb : jj ≤ 256 := by omega
      clear hcW hza hzb hjj hjk HO
      go_wp2_with fail
      refine Calls.mono (put_any w1.heap.size W3.heap.size (idx jj) (twE fz gz lo j) _ jj (flZ za) _ HO'.out hwr w.heap.size (by omega) (by omega) (by rw [idx_len]; omega) (by rw [twE_len]; omega)) ?_
      rintro e w4 ⟨rfl, o4, b4, t4⟩
      have HO4 : Hid _ := o4
      have HB4 : Hid (Below w.heap.size w w4) := HB.out.trans b4
      have HK4 : Hid (w4.heap[w.heap.size + 1 + 1]? = _) := (t4 _ (by omega) (by omega)).trans HK.out
      have hs4 := b4.size
      clear o4 b4 t4 gW
      go_wp2_with fail
      refine Calls.mono (HTU.out _) ?_
      rintro e w5 ⟨rfl, hw⟩
      rw [hw]
      clear hw
      go_wp2_with fail
      refine Calls.mono (put_any w1.heap.size W3.heap.size (idx jj ++ [(jj : Int)]) (twE fz gz lo j ++ [flZ za]) _ jk (tuZ zb) _ HO4.out (by omega) w.heap.size (by omega) (by omega) (by rw [List.length_append, idx_len]; simp; omega) (by rw [List.length_append, twE_len]; simp; omega)) ?_
      rintro e w6 ⟨rfl, o6, b6, t6⟩
      have HO6 : Hid _ := o6
      have HB6 : Hid (Below w.heap.size w w6) := HB4.out.trans b6
      have HK6 : Hid (w6.heap[w.heap.size + 1 + 1]? = _) := (t6 _ (by omega) (by omega)).trans HK4.out
      have hs6 := b6.size
      clear o6 b6 t6
      go_wp2_with fail
      go_roundg g2
      case measure => omega
      case rel => exact ⟨j + 1, by go_num, by omega, by
        have h6 := HO6.out
        rw [show 2 * (j + 1) = jj + 1 + 1 by have := HJJ.out; omega, idx_snoc, idx_snoc, twE_snoc, HZA.out.1, HZA.out.2, HJJ.out.2]
        rw [List.append_assoc] at h6 ⊢
        rw [List.append_assoc] at h6
        exact h6, HB6.out, HK6.out, by omega⟩
    · obtain rfl : j = n := by omega
      have hd : decide ((j : Int) < (j : Int)) = false := decide_eq_false (by omega)
      obtain ⟨v1, v2, k1, p1, p2, ov⟩ := HO.out
      have HV : Hid (RowV wr w.heap.size v1 v2 (idx (2 * j)) (twE fz gz lo j)) := ov.mono (by omega)
      have K1 : Hid (wr.heap[w1.heap.size]? = _) := k1
      clear k1 ov
      go_wp2_with (first
        | (refine wpList_load_row (by rfl) 64 _ (by rfl) w1.heap.size _ (by rfl) K1.out _ Try.underlying64 rfl 3 Try.infoRow (by rfl) ?_)
        | (refine wpList_store_row (by rfl) 64 _ _ (by rfl) w w.heap.size (w.heap.size + 1 + 1) _ _ (by rfl) (by rfl) HK.out HB.out (by omega) 3 Try.infoRow (by rfl) (by rfl) (by exact one_row _ _ _ p1 p2) ?_; intro W9 e9 hb9 hs9 ho9))
      refine bodyPost_ret (res_one _ 6 64 (by kernel_rfl) _ _ (w.heap.size + 1 + 1) _ (by rfl) _ Try.underlying64 rfl 3 Try.infoRow rfl e9) rfl ?_
      refine ⟨v1, v2, rfl, p1, p2, HV.out.keep fun k hk hv => ho9 k fun e => ?_, hb9⟩
      rcases hv with hv | hv
      · exact own_ne HV.out.o1 HK.out (by decide) (e ▸ hv)
      · exact own_ne HV.out.o2 HK.out (by decide) (e ▸ hv)
set_option maxRecDepth 100000 in
set_option maxHeartbeats 4000000 in
theorem turnRowO (x0 x1 x2 x3 x4 x5 x6 x7 x8 x9 x10 x11 : Value) (zo yo : Option Addr) (zn zc yn yc : Nat) (fz gz : Nat → Int) (f g fy gy : Nat → Nat) (hf : ∀ j, f j = flZ (fz j)) (hg : ∀ j, g j = flZ (gz j)) (hfz : ∀ j, -9 ≤ fz j ∧ fz j ≤ 9) (hgz : ∀ j, -9 ≤ gz j ∧ gz j ≤ 9) (c h k nn i : Int) (n q : Nat) (hn : szF [c, h, k] 1 = (nn, 0)) (hnn : wrap64 (nn.tdiv 2) = (n : Int)) (hi2 : wrap64 (i.tdiv 2) = (q : Int)) (hpar : i.tmod 2 = 1) (hn0 : 1 ≤ n ∧ n ≤ 128) (hib : q < yn) (hbn : yn ≤ 128) (hwn : (q + 1) * n ≤ zn)
    (w : World) (hW : RdC2 w zo zn zc f g) (hB : RdC2 w yo yn yc fy gy) :
    Calls Try.prog 41 #[.agg #[x0, x1, x2, x3, x4, x5, x6, x7, x8, x9, x10, x11, .slice zo zn zc, .slice yo yn yc], .agg #[.int .i64 c, .int .i64 h, .int .i64 k], .int .i64 i] w fun e w' => ∃ v1 v2, e = .returned (.agg #[v1, v2, .float .f64 (gy q)]) ∧ v1.oneCell' = true ∧ v2.oneCell' = true ∧ RowV w' w.heap.size v1 v2 (idx (2 * n)) (twO fz gz (q * n) n) ∧ Below w.heap.size w w' := by
  have HS : Hid _ := fun w => size_of hn w
  have HW : Hid _ := hW
  have HBB : Hid _ := hB
  have HZB : Hid ((∀ j, f j = flZ (fz j)) ∧ (∀ j, g j = flZ (gz j)) ∧ (∀ j, -9 ≤ fz j ∧ fz j ≤ 9) ∧ (∀ j, -9 ≤ gz j ∧ gz j ≤ 9)) := ⟨hf, hg, hfz, hgz⟩
  have hwc := hW.le
  clear hW hB hn hf hg hfz hgz
  obtain ⟨lo, hlo⟩ : ∃ lo, q * n = lo := ⟨_, rfl⟩
  obtain ⟨hi, hhi⟩ : ∃ hi, (q + 1) * n = hi := ⟨_, rfl⟩
  have hlh : hi = lo + n := by rw [← hhi, ← hlo, Nat.add_mul, Nat.one_mul]
  have hlb : hi ≤ 128 * 128 := by rw [← hhi]; exact Nat.mul_le_mul (show q + 1 ≤ 128 by omega) hn0.2
  rw [hhi] at hwn
  rw [hlo]
  have m1 : IntKind.i64.wrap ((q : Int) * (n : Int)) = (lo : Int) := by rw [← Int.natCast_mul, hlo, IntKind.wrap_i64]; omega
  have m2 : IntKind.i64.wrap ((q : Int) + 1) = ((q + 1 : Nat) : Int) := by rw [IntKind.wrap_i64]; omega
  have m2' : IntKind.i64.wrap ((q : Int) + 1) = (q : Int) + 1 := by rw [IntKind.wrap_i64]; omega
  have m3 : IntKind.i64.wrap (((q : Int) + 1) * (n : Int)) = (hi : Int) := by rw [show ((q : Int) + 1) * (n : Int) = (((q + 1) * n : Nat) : Int) by rw [Int.natCast_mul]; rfl, hhi, IntKind.wrap_i64]; omega
  have d1 : (i.tmod 2 == 0) = false := by simp [hpar]
  have hnn2 : IntKind.i64.wrap (nn.tdiv 2) = (n : Int) := by rw [← wrap64_eqT]; exact hnn
  have hi3 : IntKind.i64.wrap (i.tdiv 2) = (q : Int) := by rw [← wrap64_eqT]; exact hi2
  have j0 : (0 : Int) ≤ (q : Int) := by omega
  have j1 : (q : Int) < (yn : Int) := by omega
  clear hlo hhi m2
  go_enter Try.func41, Try.ntmps41
  go_wp2_with fail
  refine Calls.mono (HS.out _) ?_
  rintro e w1 ⟨rfl, hb⟩
  have HB1 : Hid (Below w.heap.size w w1) := to_call ((((Below.refl _ w).alloc (Nat.le_refl _) _).alloc (by simp only [alloc_size]; omega) _).alloc (by simp only [alloc_size]; omega) _) hb
  have k0 := kept hb (alloc_kept (alloc_kept (heap_alloc_new w _) _) _)
  have k2 := kept hb (heap_at _ _ (w.heap.size + 1 + 1) (by simp only [alloc_size]))
  have hsz := blk_lt k2
  rcases (HBB.out.later HB1.out).cells with z | ⟨bb, boff, rfl, hcB⟩
  · omega
  have gB := hcB q hib
  have c13 := cellOf k0 13 (.slice (some ⟨bb, boff, none⟩) yn yc) rfl
  have K0 : Hid _ := k0
  have K2 : Hid _ := k2
  clear hb HS hcB k0 k2
  go_upto_region 6 with (first | (refine wpList_store_row (by rfl) 64 _ _ (by rfl) w w.heap.size w1.heap.size _ _ (by rfl) (by rfl) (heap_alloc_new w1 _) (HB1.out.alloc (by omega) _) (by omega) 3 Try.infoRow (by rfl) (by rfl) (by exact one_row _ _ _ rfl rfl) ?_; intro W2 e2 hb2 hs2 ho2))
  have K03 : Hid (W2.heap[w.heap.size]? = _) := (ho2 _ (by omega)).trans (alloc_kept K0.out _)
  have K23 : Hid (W2.heap[w.heap.size + 1 + 1]? = _) := (ho2 _ (by omega)).trans (alloc_kept K2.out _)
  have HO3 : Hid (RowO W2 W2.heap.size w1.heap.size [] [] (gy q)) := ⟨_, _, e2, rfl, rfl, World.ownsRow_nil _ _ _ 1, World.ownsRow_nil _ _ _ 1⟩
  have HB3 : Hid _ := hb2
  have hl3 := blk_lt e2
  obtain ⟨W3, rfl⟩ : ∃ W3, W3 = W2 := ⟨_, rfl⟩
  clear c13 gB ho2 K0 K2 hs2 e2 hb2
  rcases (HW.out.later HB3.out).cells with z | ⟨bw, woff, rfl, -⟩
  · omega
  have c12 := cellOf K03.out 12 (.slice (some ⟨bw, woff, none⟩) zn zc) rfl
  have hcut := fun (x : World) => cutZHn bw woff zn zc lo hi n hlh.symm (by omega) (by omega) x
  have hwn' : lo + n ≤ zn := by omega
  clear hlh
  go_upto_region 9 with fail
  go_loopg [53] n (fun g v wx => ∃ j : Nat, v = .int .i64 j ∧ j + g = n ∧ Hid (RowO wx W3.heap.size w1.heap.size (idx (2 * j)) (twO fz gz lo j) (gy q)) ∧ Hid (Below w.heap.size w wx) ∧ Hid (wx.heap[w.heap.size + 1 + 1]? = some (.cells #[.slice none 0 0, .slice none 0 0, .float .f64 0] 64)) ∧ W3.heap.size ≤ wx.heap.size)
  case atStart => exact ⟨0, rfl, by omega, HO3.out, HB3.out, K23.out, Nat.le_refl _⟩
  case round =>
    obtain ⟨j, rfl, hj, HO, HB, HK, hwr⟩ := hrel
    by_cases hlt : j < n
    · obtain ⟨g2, rfl⟩ : ∃ g2, gk = g2 + 1 := ⟨gk - 1, by omega⟩
      have hd : decide ((j : Int) < (n : Int)) = true := decide_eq_true (by omega)
      rcases (HW.out.later HB.out).cells with z | ⟨b', o', he, hcW⟩
      · omega
      cases he
      have gW := hcW (lo + j) (by omega)
      rw [← Nat.add_assoc, HZB.out.1, HZB.out.2.1] at gW
      obtain ⟨za, hza⟩ : ∃ za, fz (lo + j) = za := ⟨_, rfl⟩
      obtain ⟨zb, hzb⟩ : ∃ zb, gz (lo + j) = zb := ⟨_, rfl⟩
      rw [hza, hzb] at gW
      have HZA : Hid (fz (lo + j) = za ∧ gz (lo + j) = zb) := ⟨hza, hzb⟩
      have HTU : Hid (∀ w, _) := fun w => turnedF (z := zb) (hzb ▸ HZB.out.2.2.2 _) w
      have i0 : (0 : Int) ≤ (j : Int) := by omega
      have i1 : (j : Int) < (n : Int) := by omega
      have hw1 : IntKind.i64.wrap ((j : Int) + 1) = (j : Int) + 1 := by rw [IntKind.wrap_i64]; omega
      have hw2 : IntKind.i64.wrap (2 * (j : Int)) = ((2 * j : Nat) : Int) := by rw [IntKind.wrap_i64]; omega
      have hw4 : IntKind.i64.wrap (((2 * j : Nat) : Int) + 1) = ((2 * j + 1 : Nat) : Int) := by rw [IntKind.wrap_i64]; omega
      obtain ⟨jj, hjj⟩ : ∃ jj, 2 * j = jj := ⟨_, rfl⟩
      obtain ⟨jk, hjk⟩ : ∃ jk, jj + 1 = jk := ⟨_, rfl⟩
      have HJJ : Hid (2 * j = jj ∧ jj + 1 = jk) := ⟨hjj, hjk⟩
      rw [hjj] at hw2 hw4
      rw [hjk] at hw4
      have HO' : Hid (RowO wr W3.heap.size w1.heap.size (idx jj) (twO fz gz lo j) (gy q)) := by have := HO.out; rw [hjj] at this; exact this
      have hjb : jj ≤ 256 := by omega
      clear hcW hza hzb hjj hjk HO
      go_wp2_with fail
      refine Calls.mono (put_any w1.heap.size W3.heap.size (idx jj) (twO fz gz lo j) _ jj (flZ zb) _ HO'.out hwr w.heap.size (by omega) (by omega) (by rw [idx_len]; omega) (by rw [twO_len]; omega)) ?_
      rintro e w4 ⟨rfl, o4, b4, t4⟩
      have HO4 : Hid _ := o4
      have HB4 : Hid (Below w.heap.size w w4) := HB.out.trans b4
      have HK4 : Hid (w4.heap[w.heap.size + 1 + 1]? = _) := (t4 _ (by omega) (by omega)).trans HK.out
      have hs4 := b4.size
      clear o4 b4 t4 gW
      go_wp2_with fail
      refine Calls.mono (put_any w1.heap.size W3.heap.size (idx jj ++ [(jj : Int)]) (twO fz gz lo j ++ [flZ zb]) _ jk (flZ za) _ HO4.out (by omega) w.heap.size (by omega) (by omega) (by rw [List.length_append, idx_len]; simp; omega) (by rw [List.length_append, twO_len]; simp; omega)) ?_
      rintro e w6 ⟨rfl, o6, b6, t6⟩
      have HO6 : Hid _ := o6
      have HB6 : Hid (Below w.heap.size w w6) := HB4.out.trans b6
      have HK6 : Hid (w6.heap[w.heap.size + 1 + 1]? = _) := (t6 _ (by omega) (by omega)).trans HK4.out
      have hs6 := b6.size
      clear o6 b6 t6
      go_wp2_with fail
      go_roundg g2
      case measure => omega
      case rel => exact ⟨j + 1, by go_num, by omega, by
        have h6 := HO6.out
        rw [show 2 * (j + 1) = jj + 1 + 1 by have := HJJ.out; omega, idx_snoc, idx_snoc, twO_snoc, HZA.out.1, HZA.out.2, HJJ.out.2]
        rw [List.append_assoc] at h6 ⊢
        rw [List.append_assoc] at h6
        exact h6, HB6.out, HK6.out, by omega⟩
    · obtain rfl : j = n := by omega
      have hd : decide ((j : Int) < (j : Int)) = false := decide_eq_false (by omega)
      obtain ⟨v1, v2, k1, p1, p2, ov⟩ := HO.out
      have HV : Hid (RowV wr w.heap.size v1 v2 (idx (2 * j)) (twO fz gz lo j)) := ov.mono (by omega)
      have K1 : Hid (wr.heap[w1.heap.size]? = _) := k1
      clear k1 ov
      go_wp2_with (first
        | (refine wpList_load_row (by rfl) 64 _ (by rfl) w1.heap.size _ (by rfl) K1.out _ Try.underlying64 rfl 3 Try.infoRow (by rfl) ?_)
        | (refine wpList_store_row (by rfl) 64 _ _ (by rfl) w w.heap.size (w.heap.size + 1 + 1) _ _ (by rfl) (by rfl) HK.out HB.out (by omega) 3 Try.infoRow (by rfl) (by rfl) (by exact one_row _ _ _ p1 p2) ?_; intro W9 e9 hb9 hs9 ho9))
      refine bodyPost_ret (res_one _ 6 64 (by kernel_rfl) _ _ (w.heap.size + 1 + 1) _ (by rfl) _ Try.underlying64 rfl 3 Try.infoRow rfl e9) rfl ?_
      refine ⟨v1, v2, rfl, p1, p2, HV.out.keep fun k hk hv => ho9 k fun e => ?_, hb9⟩
      rcases hv with hv | hv
      · exact own_ne HV.out.o1 HK.out (by decide) (e ▸ hv)
      · exact own_ne HV.out.o2 HK.out (by decide) (e ▸ hv)
end Go.Proofs.Ytokglpemefkmjaa
