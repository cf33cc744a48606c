import Derived.Test.YtmbnbleahehdaaaTB
namespace Go.Proofs.Ytmbnbleahehdaaa
open Go.RowKit
set_option linter.unusedVariables false

theorem Try.infoLy : (Try.prog.info? 30).map (·.size) = some 14 := by kernel_rfl
set_option maxRecDepth 100000 in
set_option maxHeartbeats 1000000 in
theorem countTurn (v3 v4 : Value) (w : World) : Calls Try.prog 7 #[.agg #[.int .i64 6, .int .i64 1, .int .i64 0, .int .i64 0, .int .i64 0, .int .i64 0, .int .i64 0, .int .i64 0, .int .i64 0, .float .f64 0, .slice none 0 0, .slice none 0 0, v3, v4], .agg #[.int .i64 1, .int .i64 1, .int .i64 2]] w fun e w' => e = .returned (.tuple #[.int .i64 2, .int .i64 0]) ∧ Below w.heap.size w w' := by
  have HF : Hid _ := fun w => outTurn v3 v4 w
  have HS : Hid _ := fun w => size_of sz211 w
  go_enter Try.func7, Try.ntmps7
  go_wp2_with fail
  refine Calls.mono (HF.out _) ?_
  rintro e w1 ⟨rfl, hb⟩
  have HB1 : Hid (Below w.heap.size w w1) := to_call (((Below.refl _ w).alloc (Nat.le_refl _) _).alloc (by simp only [alloc_size]; omega) _) hb
  have hsz := HB1.out.size
  clear hb HF
  go_wp2_with (first | (refine wpList_store_row (by rfl) 25 _ _ (by rfl) w w.heap.size w1.heap.size _ _ (by rfl) (by rfl) (heap_alloc_new w1 _) (HB1.out.alloc (by omega) _) (by omega) 3 Try.infoShape (by rfl) (by rfl) (by exact one3 ..) ?_; intro W2 e2 hb2 hs2 ho2; obtain ⟨a0, a1, a2⟩ := cells3 e2))
  refine Calls.mono (HS.out _) ?_
  rintro e w3 ⟨rfl, hb⟩
  have HB3 : Hid (Below w.heap.size w w3) := to_call hb2 hb
  clear hb
  go_wp2_with fail
  go_ret2
  exact ⟨rfl, HB3.out⟩
set_option maxRecDepth 100000 in
set_option maxHeartbeats 1000000 in
theorem beTold (v3 v4 : Value) (w : World) : Calls Try.prog 21 #[.agg #[.int .i64 6, .int .i64 1, .int .i64 0, .int .i64 0, .int .i64 0, .int .i64 0, .int .i64 0, .int .i64 0, .int .i64 0, .float .f64 0, .slice none 0 0, .slice none 0 0, v3, v4], .agg #[.int .i64 1, .int .i64 1, .int .i64 2], .int .i64 0] w fun e w' => e = .returned (.int .i64 0) ∧ Below w.heap.size w w' := by
  have HF : Hid _ := fun w => countTurn v3 v4 w
  go_enter Try.func21, Try.ntmps21
  go_wp2_with fail
  refine Calls.mono (HF.out _) ?_
  rintro e w1 ⟨rfl, hb⟩
  have HB1 : Hid (Below w.heap.size w w1) := to_call (((Below.refl _ w).alloc (Nat.le_refl _) _).alloc (by simp only [alloc_size]; omega) _) hb
  clear hb HF
  go_wp2_with fail
  go_ret
  exact ⟨rfl, HB1.out⟩
set_option maxRecDepth 100000 in
set_option maxHeartbeats 1000000 in
theorem haveRow (z y : Nat) (w : World) : Calls Try.prog 25 #[.agg #[.int .i64 6, .int .i64 1, .int .i64 0, .int .i64 0, .int .i64 0, .int .i64 0, .int .i64 0, .int .i64 0, .int .i64 0, .float .f64 0, .slice none 0 0, .slice none 0 0, .slice (some ⟨z, 0, none⟩) 1 1, .slice (some ⟨y, 0, none⟩) 1 1], .agg #[.int .i64 1, .int .i64 1, .int .i64 2], .int .i64 0] w fun e w' => e = .returned (.int .i64 0) ∧ Below w.heap.size w w' := by
  have HF : Hid _ := fun w => listsTurn (.slice (some ⟨z, 0, none⟩) 1 1) (.slice (some ⟨y, 0, none⟩) 1 1) w
  have HT : Hid _ := fun w => beTold (.slice (some ⟨z, 0, none⟩) 1 1) (.slice (some ⟨y, 0, none⟩) 1 1) w
  have HL : Hid _ := fun w => linear_any 6 w
  go_enter Try.func25, Try.ntmps25
  go_wp2_with fail
  refine Calls.mono (HF.out _) ?_
  rintro e w1 ⟨rfl, hb⟩
  have HB1 : Hid (Below w.heap.size w w1) := to_call (((Below.refl _ w).alloc (Nat.le_refl _) _).alloc (by simp only [alloc_size]; omega) _) hb
  have k0 := kept hb (alloc_kept (heap_alloc_new w _) _)
  have k1 := kept hb (heap_at _ _ (w.heap.size + 1) (by simp only [alloc_size]))
  have hsz := blk_lt k1
  obtain ⟨a0, a1, a2, a3, a4, a5, a6, a7, a8, a9, a10, a11, a12, a13⟩ := cells14 k0
  obtain ⟨b0, b1, b2⟩ := cells3 k1
  clear hb HF
  go_wp2_with fail
  refine Calls.mono (HL.out _) ?_
  rintro e wz ⟨rfl, hw⟩
  rw [hw]
  clear hw
  go_wp2_with (first | (refine wpList_load_row (by rfl) 30 _ (by rfl) w.heap.size _ (by rfl) k0 _ Try.underlying30 rfl 14 Try.infoLy (by rfl) ?_))
  refine Calls.mono (HT.out _) ?_
  rintro e w2 ⟨rfl, hb⟩
  have HB2 : Hid (Below w.heap.size w w2) := to_call HB1.out hb
  clear hb HT
  go_wp2_with fail
  go_ret
  exact ⟨rfl, HB2.out⟩
theorem signT : bits .xor .u64 4611686018427387904 9223372036854775808 = 13835058055282163712 := by decide
set_option maxRecDepth 100000 in
theorem turnedR (w : World) : Calls Try.prog 46 #[.float .f64 4611686018427387904] w fun e w' => e = .returned (.float .f64 13835058055282163712) ∧ w' = w := by
  have HB : Hid _ := fun w => bits_any 4611686018427387904 w
  have HF : Hid _ := fun w => floatF 13835058055282163712 w
  have hs := signT
  go_enter Try.func46, Try.ntmps46
  go_wp2_with fail
  refine Calls.mono (HB.out _) ?_
  rintro e w1 ⟨rfl, hw⟩
  rw [hw]
  clear hw
  go_wp2_with fail
  refine Calls.mono (HF.out _) ?_
  rintro e w1 ⟨rfl, hw⟩
  rw [hw]
  clear hw
  go_wp2_with fail
  go_ret
  exact ⟨rfl, rfl⟩
end Go.Proofs.Ytmbnbleahehdaaa
