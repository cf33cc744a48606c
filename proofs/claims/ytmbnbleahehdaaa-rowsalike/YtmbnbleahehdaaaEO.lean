import Derived.Test.YtmbnbleahehdaaaEG
import Derived.Test.YtmbnbleahehdaaaEH
import Derived.Test.YtmbnbleahehdaaaEL
namespace Go.Proofs.Ytmbnbleahehdaaa
open Go.RowKit
set_option linter.unusedVariables false

theorem szF_mk {c h k : Int} (hc : 1 ≤ c ∧ c ≤ 256) (hh : 1 ≤ h) (hk : 1 ≤ k) (hch : c * h ≤ 256) (hn : c * h * k ≤ 256) : szF [c, h, k] 1 = (c * h * k, 0) := by
  have e1 : ¬ (c < 1 ∨ (256 : Int) / 1 < c) := by omega
  rw [szF_ok _ _ _ e1, Int.one_mul]
  have h2 : h ≤ 256 / c := by rw [Int.le_ediv_iff_mul_le (by omega)]; rw [Int.mul_comm]; exact hch
  rw [szF_ok _ _ _ (by omega)]
  have hp : 0 < c * h := Int.mul_pos (by omega) (by omega)
  have h3 : k ≤ 256 / (c * h) := by rw [Int.le_ediv_iff_mul_le hp]; rw [Int.mul_comm]; exact hn
  rw [szF_ok _ _ _ (by omega)]
  rfl
theorem szF_one (c : Int) (hc : 1 ≤ c ∧ c ≤ 256) : szF [c, 1, 1] 1 = (c, 0) := by
  have := szF_mk (c := c) (h := 1) (k := 1) hc (by omega) (by omega) (by omega) (by omega)
  rw [this]; simp
set_option maxRecDepth 100000 in
set_option maxHeartbeats 1000000 in
theorem formDense_any (o kh kw sh sw ph pw fr : Int) (A : Nat) (v1 v2 v3 v4 : Value) (c h k : Int) (n p : Int) (hn : szF [c, h, k] 1 = (n, 0)) (hp : IntKind.i64.wrap (o * n) = p) (w : World) :
    Calls Try.prog 42 #[.agg #[.int .i64 1, .int .i64 o, .int .i64 kh, .int .i64 kw, .int .i64 sh, .int .i64 sw, .int .i64 ph, .int .i64 pw, .int .i64 fr, .float .f64 A, v1, v2, v3, v4], .agg #[.int .i64 c, .int .i64 h, .int .i64 k]] w fun e w' =>
      e = .returned (.tuple #[.agg #[.int .i64 1, .int .i64 256, .int .i64 0, .int .i64 0, .int .i64 0, .int .i64 0, .int .i64 0, .int .i64 0, .int .i64 0, .int .i64 0, .int .i64 0, .int .i64 0, .int .i64 0, .int .i64 0, .int .i64 0, .int .i64 0, .int .i64 0, .int .i64 o, .int .i64 1, .int .i64 1, .int .i64 p, .int .i64 o, .int .i64 0, .int .i64 0], .bool true]) ∧ Below w.heap.size w w' := by
  have HS : Hid _ := size_any c h k
  go_enter Try.func42, Try.ntmps42
  go_wp2_with fail
  refine Calls.mono (HS.out _) ?_
  rintro e w1 ⟨rfl, hb⟩
  have HB1 : Hid (Below w.heap.size w w1) := to_call ((((Below.refl _ w).alloc (Nat.le_refl _) _).alloc (by simp only [alloc_size]; omega) _).alloc (by simp only [alloc_size]; omega) _) hb
  have k0 := kept hb (alloc_kept (alloc_kept (heap_alloc_new w _) _) _)
  have k1 := kept hb (alloc_kept (heap_at _ _ (w.heap.size + 1) (by simp only [alloc_size])) _)
  have k2 := kept hb (heap_at _ _ (w.heap.size + 1 + 1) (by simp only [alloc_size]))
  have HK : Hid (w1.heap[w.heap.size]? = _ ∧ w1.heap[w.heap.size + 1]? = _ ∧ w1.heap[w.heap.size + 1 + 1]? = _) := ⟨k0, k1, k2⟩
  have hsz := blk_lt k2
  obtain ⟨b0, b1, b2⟩ := cells3 k1
  clear k0 k1 k2 hb HS
  unfold szV
  rw [hn]
  clear hn
  go_upto_region 16 with (first | (refine wpList_store_row (by rfl) 86 _ _ (by rfl) w w.heap.size w1.heap.size _ _ (by rfl) (by rfl) (heap_alloc_new w1 _) (HB1.out.alloc (by omega) _) (by omega) 24 Try.infoForm (by rfl) (by rfl) (by exact one24 ..) ?_; intro W2 e2 hb2 hs2 ho2; obtain ⟨a0, a1, a2, a3, a4, a5, a6, a7, a8, a9, a10, a11, a12, a13⟩ := cells14 ((ho2 _ (by omega)).trans (alloc_kept HK.out.1 _))))
  have HK2 : Hid (W2.heap[w.heap.size]? = _ ∧ W2.heap[w.heap.size + 1]? = _ ∧ W2.heap[w.heap.size + 1 + 1]? = _) := ⟨(ho2 _ (by omega)).trans (alloc_kept HK.out.1 _), (ho2 _ (by omega)).trans (alloc_kept HK.out.2.1 _), (ho2 _ (by omega)).trans (alloc_kept HK.out.2.2 _)⟩
  have hsW : w1.heap.size < W2.heap.size := blk_lt e2
  go_upto_region 17 with (first | (refine wpList_store_at (by rfl) 83 _ _ (by rfl) w w.heap.size w1.heap.size 0 (.agg #[.int .i64 1, .int .i64 256]) _ #[.int .i64 1, .int .i64 256, .int .i64 0, .int .i64 0, .int .i64 0, .int .i64 0, .int .i64 0, .int .i64 0, .int .i64 0, .int .i64 0, .int .i64 0, .int .i64 0, .int .i64 0, .int .i64 0, .int .i64 0, .int .i64 0, .int .i64 0, .int .i64 c, .int .i64 h, .int .i64 k, .int .i64 0, .int .i64 0, .int .i64 0, .int .i64 0] 86 (by rfl) (by rfl) e2 hb2 (by omega) 2 Try.infoBound (by rfl) (Nat.le_of_ble_eq_true rfl) (by exact one_int2 _ _) (by rfl) ?_; intro W3 e3 hb3 hs3 ho3))
  have HK3 : Hid (W3.heap[w.heap.size]? = _ ∧ W3.heap[w.heap.size + 1]? = _ ∧ W3.heap[w.heap.size + 1 + 1]? = _) := ⟨(ho3 _ (by omega)).trans HK2.out.1, (ho3 _ (by omega)).trans HK2.out.2.1, (ho3 _ (by omega)).trans HK2.out.2.2⟩
  have q1 := cellAt HK3.out.1 1 (.int .i64 o) rfl
  go_upto_region 18 with (first | (refine wpList_store_at (by rfl) 25 _ _ (by rfl) w w.heap.size w1.heap.size 17 (.agg #[.int .i64 o, .int .i64 1, .int .i64 1]) _ #[.int .i64 1, .int .i64 256, .int .i64 0, .int .i64 0, .int .i64 0, .int .i64 0, .int .i64 0, .int .i64 0, .int .i64 0, .int .i64 0, .int .i64 0, .int .i64 0, .int .i64 0, .int .i64 0, .int .i64 0, .int .i64 0, .int .i64 0, .int .i64 o, .int .i64 1, .int .i64 1, .int .i64 0, .int .i64 0, .int .i64 0, .int .i64 0] 86 (by rfl) (by rfl) e3 hb3 (by omega) 3 Try.infoShape (by rfl) (Nat.le_of_ble_eq_true rfl) (by exact one_int3 _ _ _) (by rfl) ?_; intro W4 e4 hb4 hs4 ho4))
  have HK4 : Hid (W4.heap[w.heap.size]? = _ ∧ W4.heap[w.heap.size + 1]? = _ ∧ W4.heap[w.heap.size + 1 + 1]? = _) := ⟨(ho4 _ (by omega)).trans HK3.out.1, (ho4 _ (by omega)).trans HK3.out.2.1, (ho4 _ (by omega)).trans HK3.out.2.2⟩
  have q4 := cellAt HK4.out.1 1 (.int .i64 o) rfl
  have f20 := cellAt e4 20 (.int .i64 0) rfl
  have f21 := cellAt e4 21 (.int .i64 0) rfl
  have fz := frz e4
  have hne : (20 : Nat) ≠ 21 := by decide
  clear a0 a1 a2 a3 a4 a5 a6 a7 a8 a9 a10 a11 a12 a13 q1 b0 b1 b2 e2 hb2 hs2 ho2 hb3 hs3 ho3 e3 hs4 ho4
  go_region
  all_goals
    have HWR : Wr w w.heap.size w1.heap.size 86 W4 _ _ := (((Wr.mk e4 hb4 (fun _ _ => rfl) : Wr w w.heap.size w1.heap.size 86 W4 W4 _).step (by omega) 20 (.int .i64 p)).step (by omega) 21 (.int .i64 o)).drewE
    obtain ⟨W5, hW5⟩ : ∃ W5, ((W4.setCell ⟨w1.heap.size, 20, none⟩ (.int .i64 p)).setCell ⟨w1.heap.size, 21, none⟩ (.int .i64 o)).drew = W5 := ⟨_, rfl⟩
    rw [hW5] at HWR ⊢
    clear hW5
    have e5 : W5.heap[w1.heap.size]? = some (.cells #[.int .i64 1, .int .i64 256, .int .i64 0, .int .i64 0, .int .i64 0, .int .i64 0, .int .i64 0, .int .i64 0, .int .i64 0, .int .i64 0, .int .i64 0, .int .i64 0, .int .i64 0, .int .i64 0, .int .i64 0, .int .i64 0, .int .i64 0, .int .i64 o, .int .i64 1, .int .i64 1, .int .i64 p, .int .i64 o, .int .i64 0, .int .i64 0] 86) := HWR.blk
    have hb5 := HWR.bel
    have ho5 := HWR.oth
    have HK5 : Hid (W5.heap[w.heap.size]? = _ ∧ W5.heap[w.heap.size + 1]? = _ ∧ W5.heap[w.heap.size + 1 + 1]? = _) := ⟨(ho5 _ (by omega)).trans HK4.out.1, (ho5 _ (by omega)).trans HK4.out.2.1, (ho5 _ (by omega)).trans HK4.out.2.2⟩
    clear HWR f20 f21 fz q4 HK4 hb4
    go_upto_region 32 with fail
    go_wp2_with (first
      | (refine wpList_load_row (by rfl) 86 _ (by rfl) w1.heap.size _ (by rfl) e5 _ Try.underlying86 rfl 24 Try.infoForm (by rfl) ?_)
      | (refine wpList_store_row (by rfl) 86 _ _ (by rfl) w w.heap.size (w.heap.size + 1 + 1) _ _ (by rfl) (by rfl) HK5.out.2.2 hb5 (by omega) 24 Try.infoForm (by rfl) (by rfl) (by exact one24 ..) ?_; intro W9 e9 hb9 hs9 ho9))
    refine bodyPost_ret (res_form _ 4 5 (by kernel_rfl) _ _ (w.heap.size + 1 + 1) _ _ (by rfl) (by rfl) rfl e9) rfl ?_
    exact ⟨rfl, hb9⟩

theorem leL (a : Int) : a ≤ a ∧ a ≤ a := ⟨Int.le_refl _, Int.le_refl _⟩
theorem rowDense (o c i : Nat) (ho : 1 ≤ o ∧ o ≤ 30) (hc : 1 ≤ c ∧ c ≤ 30) (hi : i < o) (wo bo : Option Addr) (wc bc : Nat) (us vs : List Nat) (hwc : o * c ≤ wc) (w : World) (hW : RdF w wo (o * c) wc us) (hB : RdF w bo o bc vs) :
    Calls Try.prog 9 #[.agg #[.int .i64 1, .int .i64 (o : Int), .int .i64 0, .int .i64 0, .int .i64 0, .int .i64 0, .int .i64 0, .int .i64 0, .int .i64 0, .float .f64 0, .slice wo (o * c) wc, .slice bo o bc, .slice none 0 0, .slice none 0 0], .agg #[.int .i64 (c : Int), .int .i64 1, .int .i64 1], .int .i64 (i : Int)] w fun e w' =>
      ∃ v1 v2, e = .returned (.tuple #[v1, v2, .float .f64 (vs[i]?.getD 0), .int .i64 0]) ∧ RowV w' w.heap.size v1 v2 (idx c) (pk us (i * c) c) ∧ Below w.heap.size w w' := by
  have hm : o * c ≤ 900 := Nat.mul_le_mul ho.2 hc.2
  have hp : IntKind.i64.wrap ((o : Int) * (c : Int)) = ((o * c : Nat) : Int) := by rw [← Int.natCast_mul, IntKind.wrap_i64]; omega
  have hsc := szF_one (c : Int) (by omega)
  have hso := szF_one (o : Int) (by omega)
  have hfit := fun (v1 v2 v3 v4 : Value) (w : World) => fit_ok 1 256 0 0 0 0 0 0 0 0 0 0 0 0 0 0 0 (o : Int) 1 1 ((o * c : Nat) : Int) (o : Int) 0 0 (c : Int) 1 1 (c : Int) (o : Int) (.int .i64 1) (.int .i64 (o : Int)) (.int .i64 0) (.int .i64 0) (.int .i64 0) (.int .i64 0) (.int .i64 0) (.int .i64 0) (.int .i64 0) (.float .f64 0) v1 v2 v3 v4 w
    (fun w => formDense_any (o : Int) 0 0 0 0 0 0 0 0 v1 v2 v3 v4 (c : Int) 1 1 (c : Int) ((o * c : Nat) : Int) hsc hp w)
    (fun w => fields_ok 1 0 0 0 0 0 0 0 256 0 0 0 0 0 0 0 (o : Int) 0 0 0 0 0 0 0 (o : Int) 1 1 ((o * c : Nat) : Int) (o : Int) 0 0 1 v1 v2 v3 v4 (by omega) (leL 0) (leL 0) (leL 0) (leL 0) (leL 0) (leL 0) (leL 0) w) hsc hso
  have hout := fun (v1 v2 v3 v4 : Value) (w : World) => outOf 1 256 0 0 0 0 0 0 0 0 0 0 0 0 0 0 0 (o : Int) 1 1 ((o * c : Nat) : Int) (o : Int) 0 0 (c : Int) 1 1 (.int .i64 1) (.int .i64 (o : Int)) (.int .i64 0) (.int .i64 0) (.int .i64 0) (.int .i64 0) (.int .i64 0) (.int .i64 0) (.int .i64 0) (.float .f64 0) v1 v2 v3 v4 w (hfit v1 v2 v3 v4)
  have hlis := fun (v1 v2 v3 v4 : Value) (w : World) => listsOf 1 256 0 0 0 0 0 0 0 0 0 0 0 0 0 0 0 (o : Int) 1 1 ((o * c : Nat) : Int) (o : Int) 0 0 (c : Int) 1 1 (.int .i64 1) (.int .i64 (o : Int)) (.int .i64 0) (.int .i64 0) (.int .i64 0) (.int .i64 0) (.int .i64 0) (.int .i64 0) (.int .i64 0) (.float .f64 0) v1 v2 v3 v4 w (hfit v1 v2 v3 v4)
  have hcnt := fun (v1 v2 v3 v4 : Value) (w : World) => countOf (c : Int) 1 1 (o : Int) 1 1 (o : Int) (.int .i64 1) (.int .i64 (o : Int)) (.int .i64 0) (.int .i64 0) (.int .i64 0) (.int .i64 0) (.int .i64 0) (.int .i64 0) (.int .i64 0) (.float .f64 0) v1 v2 v3 v4 w (hout v1 v2 v3 v4) (szF_one (o : Int) (by omega))
  have htol := fun (v1 v2 v3 v4 : Value) (w : World) => toldOf (c : Int) 1 1 (o : Int) (i : Int) (.int .i64 1) (.int .i64 (o : Int)) (.int .i64 0) (.int .i64 0) (.int .i64 0) (.int .i64 0) (.int .i64 0) (.int .i64 0) (.int .i64 0) (.float .f64 0) v1 v2 v3 v4 w (hcnt v1 v2 v3 v4) (by omega) (by omega)
  have hhav := fun (w : World) => haveOf 1 (c : Int) 1 1 (i : Int) (.int .i64 (o : Int)) (.int .i64 0) (.int .i64 0) (.int .i64 0) (.int .i64 0) (.int .i64 0) (.int .i64 0) (.int .i64 0) (.float .f64 0) wo bo none none (o * c) wc o bc 0 0 0 0 w ⟨by omega, by omega⟩ (by decide) (hlis _ _ _ _) (htol _ _ _ _)
  refine rowFrom (c : Int) 1 1 (i : Int) (.int .i64 1) (.int .i64 (o : Int)) (.int .i64 0) (.int .i64 0) (.int .i64 0) (.int .i64 0) (.int .i64 0) (.int .i64 0) (.int .i64 0) (.float .f64 0) _ _ _ _ _ _ _ w hhav fun wx hb => ?_
  refine rowOfDense (c : Int) 1 1 (i : Int) (.int .i64 (o : Int)) (.int .i64 0) (.int .i64 0) (.int .i64 0) (.int .i64 0) (.int .i64 0) (.int .i64 0) (.int .i64 0) (.float .f64 0) _ _ _ _ _ _ _ wx fun wy hb' => ?_
  have hby : Below w.heap.size w wy := to_call hb hb'
  exact denseRow_any (.int .i64 1) (.int .i64 (o : Int)) (.int .i64 0) (.int .i64 0) (.int .i64 0) (.int .i64 0) (.int .i64 0) (.int .i64 0) (.int .i64 0) (.float .f64 0) _ _ wo bo (o * c) wc o bc us vs (c : Int) 1 1 c i (szF_one (c : Int) (by omega)) (by omega) hi (by omega) (Nat.mul_le_mul (by omega) (Nat.le_refl _)) hwc wy (hW.later hby) (hB.later hby)
end Go.Proofs.Ytmbnbleahehdaaa
