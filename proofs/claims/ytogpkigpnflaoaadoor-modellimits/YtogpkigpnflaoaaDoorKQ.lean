import Derived.Test.YtogpkigpnflaoaaDoorKP
import Derived.Test.YtogpkigpnflaoaaDoorKF
import Derived.Laws.StructEq
namespace Go.Proofs.YtogpkigpnflaoaaDoor
open Go.RowKit
set_option linter.unusedVariables false

theorem sz60 : szF [3, 4, 5] 1 = (60, 0) := by decide
theorem sz2 : szF [1, 1, 2] 1 = (2, 0) := by decide
theorem prop0 : propE [0, 0] [] 0 [] 1 0 1 2 2 = (0, 0) := by decide +kernel
theorem nameE : nameB ⟨#[195, 169]⟩ = true := by decide +kernel
theorem shEq (w : World) : (binOp .eql 24 (.agg #[.int .i64 2, .int .i64 1, .int .i64 1]) (.agg #[.int .i64 2, .int .i64 1, .int .i64 1])).run Tryd.prog w = .ok (.bool true) w := by kernel_rfl
theorem one14 (i0 i1 i2 i3 i4 i5 i6 i7 i8 : Int) (A : Nat) (o1 o2 o3 o4 : Option Addr) (n1 c1 n2 c2 n3 c3 n4 c4 : Nat) : (#[.int .i64 i0, .int .i64 i1, .int .i64 i2, .int .i64 i3, .int .i64 i4, .int .i64 i5, .int .i64 i6, .int .i64 i7, .int .i64 i8, .float .f64 A, .slice o1 n1 c1, .slice o2 n2 c2, .slice o3 n3 c3, .slice o4 n4 c4] : Array Value).all (·.oneCell') = true := by
  simp only [Array.all_eq_true_iff_forall_mem]
  intro v hv
  simp only [List.mem_toArray, List.mem_cons, List.not_mem_nil, or_false] at hv
  rcases hv with rfl | rfl | rfl | rfl | rfl | rfl | rfl | rfl | rfl | rfl | rfl | rfl | rfl | rfl <;> rfl
def toldL (j : Nat) : Array Value := if j = 0 then #[.int .i64 7, .int .i64 0, .int .i64 0, .int .i64 0, .int .i64 0, .int .i64 0, .int .i64 0, .int .i64 0, .int .i64 0, .float .f64 0, .slice none 0 0, .slice none 0 0, .slice none 0 0, .slice none 0 0] else #[.int .i64 5, .int .i64 0, .int .i64 0, .int .i64 0, .int .i64 0, .int .i64 0, .int .i64 0, .int .i64 0, .int .i64 2, .float .f64 0, .slice none 0 0, .slice none 0 0, .slice none 0 0, .slice none 0 0]
theorem toldLay (w : World) (B : Nat) (hB : w.heap[B]? = some (.cells #[.int .i64 7, .int .i64 0, .int .i64 0, .int .i64 0, .int .i64 0, .int .i64 0, .int .i64 0, .int .i64 0, .int .i64 0, .float .f64 0, .slice none 0 0, .slice none 0 0, .slice none 0 0, .slice none 0 0, .int .i64 5, .int .i64 0, .int .i64 0, .int .i64 0, .int .i64 0, .int .i64 0, .int .i64 0, .int .i64 0, .int .i64 2, .float .f64 0, .slice none 0 0, .slice none 0 0, .slice none 0 0, .slice none 0 0] 33)) : RdLay w (some ⟨B, 0, none⟩) 2 toldL := by
  refine ⟨by decide, .inr ⟨B, 0, rfl, fun j hj => ?_⟩⟩
  obtain rfl | rfl : j = 0 ∨ j = 1 := by omega
  · refine ⟨rfl, one14 .., ?_⟩
    have := World.rangeAt_of_block hB 0 14
    exact this
  · refine ⟨rfl, one14 .., ?_⟩
    have := World.rangeAt_of_block hB 14 14
    exact this
theorem toldCheck (w : World) (B : Nat) (hB : w.heap[B]? = some (.cells #[.int .i64 7, .int .i64 0, .int .i64 0, .int .i64 0, .int .i64 0, .int .i64 0, .int .i64 0, .int .i64 0, .int .i64 0, .float .f64 0, .slice none 0 0, .slice none 0 0, .slice none 0 0, .slice none 0 0, .int .i64 5, .int .i64 0, .int .i64 0, .int .i64 0, .int .i64 0, .int .i64 0, .int .i64 0, .int .i64 0, .int .i64 2, .float .f64 0, .slice none 0 0, .slice none 0 0, .slice none 0 0, .slice none 0 0] 33)) :
    Calls Tryd.prog 6 #[.agg #[.int .i64 1, .int .i64 1, .int .i64 2, .slice (some ⟨B, 0, none⟩) 2 2, .slice none 0 0]] w fun e w' => e = .returned (.tuple #[.int .i64 66, .int .i64 2]) ∧ Below w.heap.size w w' := by
  refine check_of 1 1 2 _ none 2 2 0 66 2 w fun w' hb => ?_
  have hR := (toldLay w B hB).later hb
  refine shapesRun 1 1 2 2 _ none 2 2 0 toldL (fun _ => (1, 1, 2)) (fun _ => 0) 1 66 2 w' sz2 (by omega) rfl hR (by omega) (fun _ => by omega) ?_ ?_ ?_ (.inr (.inl ⟨by omega, by omega, by omega, addNext 2 1 1 2 2 (by omega) sz2 1 (by omega) w'⟩))
  · intro j hj
    obtain rfl | rfl : j = 0 ∨ j = 1 := by omega
    · simp [wsum]
    · simp [wsum]
  · intro j hj
    obtain rfl : j = 0 := by omega
    exact reluNext 1 1 2 2 sz2 0 w'
  · intro j hj
    obtain rfl | rfl : j = 0 ∨ j = 1 := by omega
    · exact emptyWeight _ _ _ _ _ _ _ _ _ _ w'
    · exact emptyWeight _ _ _ _ _ _ _ _ _ _ w'
theorem rdF_two (w : World) (B : Nat) (hB : w.heap[B]? = some (.cells #[.float .f64 0, .float .f64 0] 29)) : RdF w (some ⟨B, 0, none⟩) 2 2 [0, 0] := by
  refine ⟨rfl, by decide, fun u hu => by simp at hu; omega, .inr ⟨B, 0, rfl, fun j hj => ?_⟩⟩
  obtain rfl | rfl : j = 0 ∨ j = 1 := by omega
  · exact cellAt hB 0 _ rfl
  · exact cellAt hB 1 _ rfl
theorem toldProp (w : World) (B : Nat) (hB : w.heap[B]? = some (.cells #[.float .f64 0, .float .f64 0] 29)) :
    Calls Tryd.prog 8 #[.agg #[.slice (some ⟨B, 0, none⟩) 2 2, .slice none 0 0, .int .i64 0, .slice none 0 0, .int .i64 1, .int .i64 0, .int .i64 1], .int .i64 2, .int .i64 2] w fun e w' => e = .returned (.tuple #[.int .i64 0, .int .i64 0]) ∧ Below w.heap.size w w' := by
  have := checkProp_any (some ⟨B, 0, none⟩) none none 2 2 0 0 0 0 [0, 0] [] [] 0 1 0 1 2 2 w (rdF_two w B hB) (RdLL.nil w 0) (RdLL.nil w 0)
  rw [prop0] at this
  exact this
theorem sizeTold (w : World) : Calls Tryd.prog 5 #[.agg #[.int .i64 3, .int .i64 4, .int .i64 5]] w fun e w' => e = .returned (.tuple #[.int .i64 60, .int .i64 0]) ∧ Below w.heap.size w w' := size_of sz60 w
theorem nameTold (w : World) (hT : U8 w) : Calls Tryd.prog 10 #[.string ⟨#[195, 169]⟩] w fun e w' => e = .returned (.bool true) ∧ Below w.heap.size w w' := by
  have := name_any ⟨#[195, 169]⟩ w hT (by decide)
  rw [nameE] at this
  exact this
set_option maxRecDepth 100000 in
set_option maxHeartbeats 2000000 in
theorem told_any (w : World) (hT : U8 w) : Calls Tryd.prog 4 #[] w fun e w' => e = .returned (.bool true) ∧ Below w.heap.size w w' := by
  have HT : Hid (U8 w) := hT
  have H1 : Hid _ := sizeTold
  have H2 : Hid _ := maxOut
  have hse := shEq
  clear hT
  go_enter Tryd.func4, Tryd.ntmps4
  go_wp2_with fail
  refine Calls.mono (H1.out _) ?_
  rintro e w1 ⟨rfl, hb1⟩
  have HB1 : Hid _ := hb1
  clear hb1 H1
  go_wp2_with fail
  refine Calls.mono (H2.out _) ?_
  rintro e w2 ⟨rfl, hb2⟩
  have HB2 : Hid (Below w.heap.size w w2) := to_call HB1.out hb2
  have hs2 := HB2.out.size
  clear hb2 H2 HB1
  go_wp2_with fail
  refine Calls.mono (toldCheck _ (w2.heap.size + 1) (heap_at _ _ (w2.heap.size + 1) (by simp only [alloc_size]))) ?_
  rintro e w3 ⟨rfl, hb3⟩
  have HB3 : Hid (Below w.heap.size w w3) := to_call ((HB2.out.alloc (by omega) _).alloc (by simp only [alloc_size]; omega) _) hb3
  have HK3 : Hid _ := kept hb3 (alloc_kept (heap_alloc_new w2 _) _)
  have hs3 := HB3.out.size
  clear hb3 HB2
  go_wp2_with fail
  refine Calls.mono (toldProp _ w3.heap.size (heap_alloc_new w3 _)) ?_
  rintro e w4 ⟨rfl, hb4⟩
  have HB4 : Hid (Below w.heap.size w w4) := to_call (HB3.out.alloc (by omega) _) hb4
  have k4 := kept hb4 (alloc_kept HK3.out _)
  obtain ⟨q0, q1, q2⟩ := cells3 k4
  have H5 : Hid _ := nameTold w4 (HT.out.later HB4.out)
  clear hb4 HB3 HK3 k4
  go_wp2_with fail
  refine Calls.mono H5.out ?_
  rintro e w5 ⟨rfl, hb5⟩
  have HB5 : Hid (Below w.heap.size w w5) := to_call HB4.out hb5
  clear hb5
  go_wp2
  go_ret
  exact ⟨rfl, HB5.out⟩
end Go.Proofs.YtogpkigpnflaoaaDoor
