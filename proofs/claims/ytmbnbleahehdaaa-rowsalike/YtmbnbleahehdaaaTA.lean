import Derived.Test.YtmbnbleahehdaaaKL
import Derived.BigQuiet
namespace Go.Proofs.Ytmbnbleahehdaaa
open Go.RowKit
set_option linter.unusedVariables false

/-- A block that is written cell by cell. -/
structure Wq (w0 : World) (base B : Nat) (t : TypeId) (x W : World) (cur : Array Value) : Prop where
  blk : W.heap[B]? = some (.cells cur t)
  bel : Below base w0 W
  oth : ∀ k, k ≠ B → W.heap[k]? = x.heap[k]?
theorem Wq.step {w0 x W : World} {base B : Nat} {t : TypeId} {cur : Array Value} (hB : base ≤ B) (h : Wq w0 base B t x W cur) (o : Nat) (v : Value) : Wq w0 base B t x (W.setCell ⟨B, o, none⟩ v) (cur.setIfInBounds o v) := by
  have e : W.setCell ⟨B, o, none⟩ v = W.setRow B (cur.setIfInBounds o v) := setCell_eq_setRow W B o cur t (0, 0) v h.blk
  rw [e]
  exact ⟨setRow_heap W B _ _ t _ h.blk, below_setRow h.bel hB _, fun k hk => (setRow_other W B k _ hk).trans (h.oth k hk)⟩
theorem Wq.drew {w0 x W : World} {base B : Nat} {t : TypeId} {cur : Array Value} (h : Wq w0 base B t x W cur) : Wq w0 base B t x W.drew cur := ⟨h.blk, h.bel.drew, h.oth⟩
theorem frq {w : World} {B : Nat} {c : Array Value} {t : TypeId} (h : w.heap[B]? = some (.cells c t)) (o : Nat) : w.frozen? ⟨B, o, none⟩ = false := by simp [World.frozen?, h]
/-- One struct that is told. -/
theorem res_one (f : Func) (i : Nat) (ty : TypeId) (hf : f.results = #[ResultVar.cell i ty]) (tmps : Array Value) (W : World) (B : Nat) (c : Array Value) (hp : tmps[i]? = some (.pointer (some ⟨B, 0, none⟩)))
    (d : TypeDesc) (hu : Try.prog.underlying ty = some d) (hd : d.isRow = true) (n : Nat) (hi : (Try.prog.info? ty).map (·.size) = some n) (hc : c.size = n) (h : W.heap[B]? = some (.cells c ty)) : (results f tmps).run Try.prog W = .ok (.agg c) W := by
  have hr : W.rangeAt B 0 c.toList := by
    have := World.rangeAt_of_block h 0 c.size
    simpa using this
  have hl := run_loadVar_mid (P := Try.prog) W B 0 ty c.toList d hr hu hd (by rw [hi]; simp [hc])
  have hl2 : (loadVar ty ⟨B, 0, none⟩).run Try.prog W = .ok (.agg c) W := by simpa using hl
  simp [results, hf, hp, hl2, asAddr]
theorem res_tmp4 (f : Func) (i j k l : Nat) (hf : f.results = #[ResultVar.tmp i, ResultVar.tmp j, ResultVar.tmp k, ResultVar.tmp l]) (tmps : Array Value) (W : World) (a b c d : Value) (h1 : tmps[i]? = some a) (h2 : tmps[j]? = some b) (h3 : tmps[k]? = some c) (h4 : tmps[l]? = some d) : (results f tmps).run Try.prog W = .ok (.tuple #[a, b, c, d]) W := by
  simp [results, hf, h1, h2, h3, h4]
theorem res_tmp5 (f : Func) (i j k l m : Nat) (hf : f.results = #[ResultVar.tmp i, ResultVar.tmp j, ResultVar.tmp k, ResultVar.tmp l, ResultVar.tmp m]) (tmps : Array Value) (W : World) (a b c d e : Value) (h1 : tmps[i]? = some a) (h2 : tmps[j]? = some b) (h3 : tmps[k]? = some c) (h4 : tmps[l]? = some d) (h5 : tmps[m]? = some e) : (results f tmps).run Try.prog W = .ok (.tuple #[a, b, c, d, e]) W := by
  simp [results, hf, h1, h2, h3, h4, h5]
theorem sz112 : szF [1, 1, 2] 1 = (2, 0) := by decide
theorem sz211 : szF [2, 1, 1] 1 = (2, 0) := by decide
set_option maxRecDepth 100000 in
theorem turnedM (w : World) : Calls Try.prog 51 #[.int .i64 1, .int .i64 2] w fun e w' => e = .returned (.agg #[.int .i64 2, .int .i64 1, .int .i64 1]) ∧ Below w.heap.size w w' := by
  go_enter Try.func51, Try.ntmps51
  go_wp2_with (first | (refine wpList_store_row (by rfl) 25 _ _ (by rfl) w w.heap.size w.heap.size #[.int .i64 2, .int .i64 1, .int .i64 1] _ (by rfl) (by rfl) (heap_alloc_new w _) ((Below.refl _ w).alloc (Nat.le_refl _) _) (Nat.le_refl _) 3 Try.infoShape (by rfl) (by rfl) (by exact one3 ..) ?_; intro W2 e2 hb2 hs2 ho2))
  refine bodyPost_ret (res_one _ 4 25 (by kernel_rfl) _ _ w.heap.size _ (by rfl) _ Try.underlying25 rfl 3 Try.infoShape rfl e2) rfl ?_
  exact ⟨rfl, hb2⟩
set_option maxRecDepth 100000 in
set_option maxHeartbeats 1000000 in
theorem formTurn (v3 v4 : Value) (w : World) :
    Calls Try.prog 42 #[.agg #[.int .i64 6, .int .i64 1, .int .i64 0, .int .i64 0, .int .i64 0, .int .i64 0, .int .i64 0, .int .i64 0, .int .i64 0, .float .f64 0, .slice none 0 0, .slice none 0 0, v3, v4], .agg #[.int .i64 1, .int .i64 1, .int .i64 2]] w fun e w' =>
      e = .returned (.tuple #[.agg #[.int .i64 1, .int .i64 128, .int .i64 0, .int .i64 0, .int .i64 0, .int .i64 0, .int .i64 0, .int .i64 0, .int .i64 0, .int .i64 0, .int .i64 0, .int .i64 0, .int .i64 0, .int .i64 0, .int .i64 0, .int .i64 0, .int .i64 0, .int .i64 2, .int .i64 1, .int .i64 1, .int .i64 0, .int .i64 0, .int .i64 1, .int .i64 1], .bool true]) ∧ Below w.heap.size w w' := by
  have HS : Hid _ := fun w => size_of sz112 w
  have HT : Hid _ := turnedM
  go_enter Try.func42, Try.ntmps42
  go_wp2_with fail
  refine Calls.mono (HS.out _) ?_
  rintro e w1 ⟨rfl, hb⟩
  have HB1 : Hid (Below w.heap.size w w1) := to_call ((((Below.refl _ w).alloc (Nat.le_refl _) _).alloc (by simp only [alloc_size]; omega) _).alloc (by simp only [alloc_size]; omega) _) hb
  have k0 := kept hb (alloc_kept (alloc_kept (heap_alloc_new w _) _) _)
  have k1 := kept hb (alloc_kept (heap_at _ _ (w.heap.size + 1) (by simp only [alloc_size])) _)
  have k2 := kept hb (heap_at _ _ (w.heap.size + 1 + 1) (by simp only [alloc_size]))
  have HK : Hid (w1.heap[w.heap.size]? = _ ∧ w1.heap[w.heap.size + 1]? = _ ∧ w1.heap[w.heap.size + 1 + 1]? = _) := ⟨k0, k1, k2⟩
  have hsz := blk_lt k2
  obtain ⟨b0, b1, b2⟩ := cells3 k1
  clear k0 k1 k2 hb HS
  go_upto_region 27 with (first | (refine wpList_store_row (by rfl) 86 _ _ (by rfl) w w.heap.size w1.heap.size _ _ (by rfl) (by rfl) (heap_alloc_new w1 _) (HB1.out.alloc (by omega) _) (by omega) 24 Try.infoForm (by rfl) (by rfl) (by exact one24 ..) ?_; intro W2 e2 hb2 hs2 ho2; obtain ⟨a0, a1, a2, a3, a4, a5, a6, a7, a8, a9, a10, a11, a12, a13⟩ := cells14 ((ho2 _ (by omega)).trans (alloc_kept HK.out.1 _))))
  have HK2 : Hid (W2.heap[w.heap.size]? = _ ∧ W2.heap[w.heap.size + 1]? = _ ∧ W2.heap[w.heap.size + 1 + 1]? = _) := ⟨(ho2 _ (by omega)).trans (alloc_kept HK.out.1 _), (ho2 _ (by omega)).trans (alloc_kept HK.out.2.1 _), (ho2 _ (by omega)).trans (alloc_kept HK.out.2.2 _)⟩
  have hsW : w1.heap.size < W2.heap.size := blk_lt e2
  go_upto_region 28 with (first | (refine wpList_store_at (by rfl) 83 _ _ (by rfl) w w.heap.size w1.heap.size 0 (.agg #[.int .i64 1, .int .i64 128]) _ #[.int .i64 1, .int .i64 128, .int .i64 0, .int .i64 0, .int .i64 0, .int .i64 0, .int .i64 0, .int .i64 0, .int .i64 0, .int .i64 0, .int .i64 0, .int .i64 0, .int .i64 0, .int .i64 0, .int .i64 0, .int .i64 0, .int .i64 0, .int .i64 1, .int .i64 1, .int .i64 2, .int .i64 0, .int .i64 0, .int .i64 0, .int .i64 0] 86 (by rfl) (by rfl) e2 hb2 (by omega) 2 Try.infoBound (by rfl) (Nat.le_of_ble_eq_true rfl) (by exact one_int2 _ _) (by rfl) ?_; intro W3 e3 hb3 hs3 ho3))
  have HK3 : Hid (W3.heap[w.heap.size]? = _ ∧ W3.heap[w.heap.size + 1]? = _ ∧ W3.heap[w.heap.size + 1 + 1]? = _) := ⟨(ho3 _ (by omega)).trans HK2.out.1, (ho3 _ (by omega)).trans HK2.out.2.1, (ho3 _ (by omega)).trans HK2.out.2.2⟩
  have q1 := cellAt HK3.out.1 1 (.int .i64 1) rfl
  go_wp2_with fail
  refine Calls.mono (HT.out _) ?_
  rintro e w4 ⟨rfl, hb⟩
  have HB4 : Hid (Below w.heap.size w w4) := to_call hb3 hb
  have HK4 : Hid (w4.heap[w.heap.size]? = _ ∧ w4.heap[w.heap.size + 1]? = _ ∧ w4.heap[w.heap.size + 1 + 1]? = _) := ⟨kept hb HK3.out.1, kept hb HK3.out.2.1, kept hb HK3.out.2.2⟩
  have e4 := kept hb e3
  clear a0 a1 a2 a3 a4 a5 a6 a7 a8 a9 a10 a11 a12 a13 q1 b0 b1 b2 e2 hb2 hs2 ho2 hb3 hs3 ho3 e3 hb HK2 HK3 HT
  go_upto_region 29 with (first | (refine wpList_store_at (by rfl) 25 _ _ (by rfl) w w.heap.size w1.heap.size 17 (.agg #[.int .i64 2, .int .i64 1, .int .i64 1]) _ #[.int .i64 1, .int .i64 128, .int .i64 0, .int .i64 0, .int .i64 0, .int .i64 0, .int .i64 0, .int .i64 0, .int .i64 0, .int .i64 0, .int .i64 0, .int .i64 0, .int .i64 0, .int .i64 0, .int .i64 0, .int .i64 0, .int .i64 0, .int .i64 2, .int .i64 1, .int .i64 1, .int .i64 0, .int .i64 0, .int .i64 0, .int .i64 0] 86 (by rfl) (by rfl) e4 HB4.out (by omega) 3 Try.infoShape (by rfl) (Nat.le_of_ble_eq_true rfl) (by exact one_int3 _ _ _) (by rfl) ?_; intro W5 e5 hb5 hs5 ho5))
  have HK5 : Hid (W5.heap[w.heap.size]? = _ ∧ W5.heap[w.heap.size + 1]? = _ ∧ W5.heap[w.heap.size + 1 + 1]? = _) := ⟨(ho5 _ (by omega)).trans HK4.out.1, (ho5 _ (by omega)).trans HK4.out.2.1, (ho5 _ (by omega)).trans HK4.out.2.2⟩
  have q4 := cellAt HK5.out.1 1 (.int .i64 1) rfl
  have f22 := cellAt e5 22 (.int .i64 0) rfl
  have f23 := cellAt e5 23 (.int .i64 0) rfl
  have fz := frq e5
  have hne : (22 : Nat) ≠ 23 := by decide
  have hw1 : IntKind.i64.wrap 1 = 1 := by decide
  clear hs5 ho5 e4 HK4 HB4
  go_region
  all_goals
    have HWR : Wq w w.heap.size w1.heap.size 86 W5 _ _ := (((Wq.mk e5 hb5 (fun _ _ => rfl) : Wq w w.heap.size w1.heap.size 86 W5 W5 _).step (by omega) 22 (.int .i64 1)).step (by omega) 23 (.int .i64 1)).drew
    obtain ⟨W6, hW6⟩ : ∃ W6, ((W5.setCell ⟨w1.heap.size, 22, none⟩ (.int .i64 1)).setCell ⟨w1.heap.size, 23, none⟩ (.int .i64 1)).drew = W6 := ⟨_, rfl⟩
    rw [hW6]
    rw [hW6] at HWR
    clear hW6
    have e6 : W6.heap[w1.heap.size]? = some (.cells #[.int .i64 1, .int .i64 128, .int .i64 0, .int .i64 0, .int .i64 0, .int .i64 0, .int .i64 0, .int .i64 0, .int .i64 0, .int .i64 0, .int .i64 0, .int .i64 0, .int .i64 0, .int .i64 0, .int .i64 0, .int .i64 0, .int .i64 0, .int .i64 2, .int .i64 1, .int .i64 1, .int .i64 0, .int .i64 0, .int .i64 1, .int .i64 1] 86) := HWR.blk
    have hb6 := HWR.bel
    have ho6 := HWR.oth
    have HK6 : Hid (W6.heap[w.heap.size]? = _ ∧ W6.heap[w.heap.size + 1]? = _ ∧ W6.heap[w.heap.size + 1 + 1]? = _) := ⟨(ho6 _ (by omega)).trans HK5.out.1, (ho6 _ (by omega)).trans HK5.out.2.1, (ho6 _ (by omega)).trans HK5.out.2.2⟩
    clear HWR f22 f23 fz q4 HK5 hb5
    go_upto_region 32 with fail
    go_wp2_with (first
      | (refine wpList_load_row (by rfl) 86 _ (by rfl) w1.heap.size _ (by rfl) e6 _ Try.underlying86 rfl 24 Try.infoForm (by rfl) ?_)
      | (refine wpList_store_row (by rfl) 86 _ _ (by rfl) w w.heap.size (w.heap.size + 1 + 1) _ _ (by rfl) (by rfl) HK6.out.2.2 hb6 (by omega) 24 Try.infoForm (by rfl) (by rfl) (by exact one24 ..) ?_; intro W9 e9 hb9 hs9 ho9))
    refine bodyPost_ret (res_form _ 4 5 (by kernel_rfl) _ _ (w.heap.size + 1 + 1) _ _ (by rfl) (by rfl) rfl e9) rfl ?_
    exact ⟨rfl, hb9⟩

theorem fitTurn (v3 v4 : Value) (w : World) : Calls Try.prog 32 #[.agg #[.int .i64 6, .int .i64 1, .int .i64 0, .int .i64 0, .int .i64 0, .int .i64 0, .int .i64 0, .int .i64 0, .int .i64 0, .float .f64 0, .slice none 0 0, .slice none 0 0, v3, v4], .agg #[.int .i64 1, .int .i64 1, .int .i64 2]] w fun e w' => e = .returned (.tuple #[.agg #[.int .i64 1, .int .i64 128, .int .i64 0, .int .i64 0, .int .i64 0, .int .i64 0, .int .i64 0, .int .i64 0, .int .i64 0, .int .i64 0, .int .i64 0, .int .i64 0, .int .i64 0, .int .i64 0, .int .i64 0, .int .i64 0, .int .i64 0, .int .i64 2, .int .i64 1, .int .i64 1, .int .i64 0, .int .i64 0, .int .i64 1, .int .i64 1], .int .i64 0]) ∧ Below w.heap.size w w' :=
  fit_ok 1 128 0 0 0 0 0 0 0 0 0 0 0 0 0 0 0 2 1 1 0 0 1 1 1 1 2 2 2 (.int .i64 6) (.int .i64 1) (.int .i64 0) (.int .i64 0) (.int .i64 0) (.int .i64 0) (.int .i64 0) (.int .i64 0) (.int .i64 0) (.float .f64 0) (.slice none 0 0) (.slice none 0 0) v3 v4 w (fun w => formTurn v3 v4 w) (fun w => fields_ok 1 0 0 0 0 0 0 0 128 0 0 0 0 0 0 0 1 0 0 0 0 0 0 0 2 1 1 0 0 1 1 6 (.slice none 0 0) (.slice none 0 0) v3 v4 ⟨by omega, by omega⟩ ⟨Int.le_refl _, Int.le_refl _⟩ ⟨Int.le_refl _, Int.le_refl _⟩ ⟨Int.le_refl _, Int.le_refl _⟩ ⟨Int.le_refl _, Int.le_refl _⟩ ⟨Int.le_refl _, Int.le_refl _⟩ ⟨Int.le_refl _, Int.le_refl _⟩ ⟨Int.le_refl _, Int.le_refl _⟩ w) sz112 sz211
theorem outTurn (v3 v4 : Value) (w : World) : Calls Try.prog 18 #[.agg #[.int .i64 6, .int .i64 1, .int .i64 0, .int .i64 0, .int .i64 0, .int .i64 0, .int .i64 0, .int .i64 0, .int .i64 0, .float .f64 0, .slice none 0 0, .slice none 0 0, v3, v4], .agg #[.int .i64 1, .int .i64 1, .int .i64 2]] w fun e w' => e = .returned (.tuple #[.agg #[.int .i64 2, .int .i64 1, .int .i64 1], .int .i64 0]) ∧ Below w.heap.size w w' :=
  outOf 1 128 0 0 0 0 0 0 0 0 0 0 0 0 0 0 0 2 1 1 0 0 1 1 1 1 2 (.int .i64 6) (.int .i64 1) (.int .i64 0) (.int .i64 0) (.int .i64 0) (.int .i64 0) (.int .i64 0) (.int .i64 0) (.int .i64 0) (.float .f64 0) (.slice none 0 0) (.slice none 0 0) v3 v4 w (fun w => fitTurn v3 v4 w)
set_option maxRecDepth 100000 in
set_option maxHeartbeats 1000000 in
theorem listsTurn (v3 v4 : Value) (w : World) : Calls Try.prog 34 #[.agg #[.int .i64 6, .int .i64 1, .int .i64 0, .int .i64 0, .int .i64 0, .int .i64 0, .int .i64 0, .int .i64 0, .int .i64 0, .float .f64 0, .slice none 0 0, .slice none 0 0, v3, v4], .agg #[.int .i64 1, .int .i64 1, .int .i64 2]] w fun e w' => e = .returned (.tuple #[.int .i64 0, .int .i64 0, .int .i64 1, .int .i64 1, .int .i64 0]) ∧ Below w.heap.size w w' := by
  have HF : Hid _ := fun w => fitTurn v3 v4 w
  go_enter Try.func34, Try.ntmps34
  go_wp2_with fail
  refine Calls.mono (HF.out _) ?_
  rintro e w1 ⟨rfl, hb⟩
  have HB1 : Hid (Below w.heap.size w w1) := to_call (((Below.refl _ w).alloc (Nat.le_refl _) _).alloc (by simp only [alloc_size]; omega) _) hb
  have hsz := HB1.out.size
  clear hb HF
  go_upto_region 2 with (first | (refine wpList_store_row (by rfl) 86 _ _ (by rfl) w w.heap.size w1.heap.size _ _ (by rfl) (by rfl) (heap_alloc_new w1 _) (HB1.out.alloc (by omega) _) (by omega) 24 Try.infoForm (by rfl) (by rfl) (by exact one24 ..) ?_; intro W2 e2 hb2 hs2 ho2))
  have t0 := cellAt e2 20 (.int .i64 0) rfl
  have t1 := cellAt e2 21 (.int .i64 0) rfl
  have t2 := cellAt e2 22 (.int .i64 1) rfl
  have t3 := cellAt e2 23 (.int .i64 1) rfl
  clear e2 hs2 ho2
  go_quiet (fail)
  go_wp2_with fail
  refine bodyPost_ret (res_tmp5 _ 4 5 6 7 8 (by kernel_rfl) _ _ _ _ _ _ _ (by rfl) (by rfl) (by rfl) (by rfl) (by rfl)) rfl ?_
  exact ⟨rfl, below_drewN hb2 _⟩
end Go.Proofs.Ytmbnbleahehdaaa
