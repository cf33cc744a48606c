import Derived.Test.YtigaggkipmcgeaaZN
namespace Go.Proofs.Ytigaggkipmcgeaa
open Go.RowKit
set_option linter.unusedVariables false

set_option maxRecDepth 100000 in
set_option maxHeartbeats 2000000 in
theorem from_any (lo hi : Nat) (bad : Bool) (w : World) :
    Calls Try.prog 91 #[.agg #[Value.float .f64 lo, .float .f64 hi, .bool bad]] w fun e w' => e = .returned (.agg #[Value.int .u64 (lo : Int), .int .u64 (hi : Int), .bool bad]) ∧ Below w.heap.size w w' := by
  obtain ⟨g0, g1, -, gb⟩ := alloc2_facts w (Obj.cells #[Value.float .f64 lo, .float .f64 hi, .bool bad] 68) (Obj.cells #[Value.int .u64 0, .int .u64 0, .bool false] 71)
  have G1 : Hid _ := g1
  have GB : Hid _ := gb
  obtain ⟨a0, a1, a2⟩ := cells3 g0
  obtain ⟨r0, r1, r2⟩ := cells3 g1
  have fz := fun j => frozen_of_row _ _ j _ _ g1
  clear g0 g1 gb
  have n1 : ¬ (w.heap.size + 1 = w.heap.size) := by omega
  have n2 : ¬ (w.heap.size = w.heap.size + 1) := by omega
  go_enter Try.func91, Try.ntmps91
  go_upto_region 1 with fail
  generalize ((w.alloc (Obj.cells #[Value.float .f64 lo, .float .f64 hi, .bool bad] 68)).alloc (Obj.cells #[Value.int .u64 0, .int .u64 0, .bool false] 71)) = W0 at a0 a1 a2 r0 r1 r2 fz G1 GB ⊢
  have G1' : Hid (W0.drew.heap[w.heap.size + 1]? = _) := G1.out
  have HB1 : Hid (∀ w, Calls Try.prog 25 #[.float .f64 lo] w fun e w' => e = .returned (.int .u64 (lo : Int)) ∧ w' = w) := fun w => bits_any lo w
  have HB2 : Hid (∀ w, Calls Try.prog 25 #[.float .f64 hi] w fun e w' => e = .returned (.int .u64 (hi : Int)) ∧ w' = w) := fun w => bits_any hi w
  go_region_held3 (fun w' => (w'.cell? ⟨w.heap.size, 0, none⟩ = some (.float .f64 lo) ∧ w'.cell? ⟨w.heap.size, 1, none⟩ = some (.float .f64 hi) ∧ w'.cell? ⟨w.heap.size, 2, none⟩ = some (.bool bad))) (go_keep) ((first | (go_at_call_of 25 (Value.float FloatKind.f64 lo); refine Calls.mono (HB1.out _) ?_; rintro e wf ⟨rfl, rfl⟩) | (go_at_call_of 25 (Value.float FloatKind.f64 hi); refine Calls.mono (HB2.out _) ?_; rintro e wf ⟨rfl, rfl⟩)))
  all_goals
    go_wp2_with fail
    refine bodyPost_ret (v := .agg #[Value.int .u64 (lo : Int), .int .u64 (hi : Int), .bool bad]) (res_su _ 2 (by kernel_rfl) _ _ (w.heap.size + 1) _ _ _ ?_ (setsp_heap _ _ _ G1'.out)) rfl ?_
    · rfl
    · exact ⟨rfl, below_setsp _ _ _ GB.out.drew (by omega)⟩
set_option maxRecDepth 100000 in
set_option maxHeartbeats 2000000 in
theorem of_any4 (lo hi : Nat) (bad : Bool) (w : World) :
    Calls Try.prog 35 #[.agg #[Value.float .f64 lo, .float .f64 hi, .bool bad]] w fun e w' => e = .returned (.agg #[Value.int .u64 (lo : Int), .int .u64 (hi : Int), .bool bad]) ∧ Below w.heap.size w w' := by
  obtain ⟨g0, g1, -, gb⟩ := alloc2_facts w (Obj.cells #[Value.float .f64 lo, .float .f64 hi, .bool bad] 68) (Obj.cells #[Value.int .u64 0, .int .u64 0, .bool false] 71)
  have G1 : Hid _ := g1
  have GB : Hid _ := gb
  obtain ⟨a0, a1, a2⟩ := cells3 g0
  clear g0 g1 gb
  go_enter Try.func35, Try.ntmps35
  go_upto_region 1 with fail
  generalize ((w.alloc (Obj.cells #[Value.float .f64 lo, .float .f64 hi, .bool bad] 68)).alloc (Obj.cells #[Value.int .u64 0, .int .u64 0, .bool false] 71)) = W0 at a0 a1 a2 G1 GB ⊢
  go_wp2_with fail
  refine Calls.mono (from_any lo hi bad _) ?_
  rintro e w4 ⟨rfl, bw⟩
  have R4 : Hid _ := (bw.block _ (blk_lt G1.out)).trans G1.out
  have C4 : Hid (Below w.heap.size w w4) := GB.out.trans (bw.mono GB.out.size)
  clear bw G1 GB a0 a1 a2
  obtain ⟨r0, r1, r2⟩ := cells3 R4.out
  have fz := fun j => frozen_of_row _ _ j _ _ R4.out
  go_wp2_with fail
  refine bodyPost_ret (v := .agg #[.int .u64 (lo : Int), .int .u64 (hi : Int), .bool bad]) (res_su _ 2 (by kernel_rfl) _ _ (w.heap.size + 1) _ _ _ ?_ (setsp_heap _ _ _ R4.out)) rfl ?_
  · rfl
  · exact ⟨rfl, below_setsp _ _ _ C4.out (by omega)⟩
set_option maxRecDepth 100000 in
set_option maxHeartbeats 2000000 in
theorem sameRef_any (lo hi : Nat) (bad : Bool) (w : World) :
    Calls Try.prog 79 #[.agg #[Value.float .f64 lo, .float .f64 hi, .bool bad], .agg #[Value.int .u64 (lo : Int), .int .u64 (hi : Int), .bool bad]] w fun e w' => e = .returned (.bool true) ∧ Below w.heap.size w w' := by
  obtain ⟨g0, g1, -, gb⟩ := alloc2_facts w (Obj.cells #[Value.float .f64 lo, .float .f64 hi, .bool bad] 68) (Obj.cells #[Value.int .u64 (lo : Int), .int .u64 (hi : Int), .bool bad] 71)
  have GB : Hid _ := gb
  obtain ⟨a0, a1, a2⟩ := cells3 g0
  obtain ⟨r0, r1, r2⟩ := cells3 g1
  clear g0 g1 gb
  have HB1 : Hid (∀ w, Calls Try.prog 25 #[.float .f64 lo] w fun e w' => e = .returned (.int .u64 (lo : Int)) ∧ w' = w) := fun w => bits_any lo w
  have HB2 : Hid (∀ w, Calls Try.prog 25 #[.float .f64 hi] w fun e w' => e = .returned (.int .u64 (hi : Int)) ∧ w' = w) := fun w => bits_any hi w
  have qb : (bad == bad) = true := by cases bad <;> rfl
  go_enter Try.func79, Try.ntmps79
  go_upto_region 1 with fail
  generalize ((w.alloc (Obj.cells #[Value.float .f64 lo, .float .f64 hi, .bool bad] 68)).alloc (Obj.cells #[Value.int .u64 (lo : Int), .int .u64 (hi : Int), .bool bad] 71)) = W0 at a0 a1 a2 r0 r1 r2 GB ⊢
  go_region_held3 (fun w' => (w'.cell? ⟨w.heap.size, 0, none⟩ = some (.float .f64 lo) ∧ w'.cell? ⟨w.heap.size, 1, none⟩ = some (.float .f64 hi) ∧ w'.cell? ⟨w.heap.size, 2, none⟩ = some (.bool bad)) ∧ (w'.cell? ⟨w.heap.size + 1, 0, none⟩ = some (.int .u64 (lo : Int)) ∧ w'.cell? ⟨w.heap.size + 1, 1, none⟩ = some (.int .u64 (hi : Int)) ∧ w'.cell? ⟨w.heap.size + 1, 2, none⟩ = some (.bool bad))) (go_keep) ((first | (go_at_call_of 25 (Value.float FloatKind.f64 lo); refine Calls.mono (HB1.out _) ?_; rintro e wf ⟨rfl, rfl⟩) | (go_at_call_of 25 (Value.float FloatKind.f64 hi); refine Calls.mono (HB2.out _) ?_; rintro e wf ⟨rfl, rfl⟩)))
  all_goals
    go_wp2_with fail
    go_ret
    exact ⟨rfl, GB.out.drew⟩
set_option maxRecDepth 100000 in
set_option maxHeartbeats 2000000 in
theorem same_any4 (lo hi : Nat) (bad : Bool) (w : World) :
    Calls Try.prog 30 #[.agg #[Value.float .f64 lo, .float .f64 hi, .bool bad], .agg #[Value.int .u64 (lo : Int), .int .u64 (hi : Int), .bool bad]] w fun e w' => e = .returned (.bool true) ∧ Below w.heap.size w w' := by
  obtain ⟨g0, g1, -, gb⟩ := alloc2_facts w (Obj.cells #[Value.float .f64 lo, .float .f64 hi, .bool bad] 68) (Obj.cells #[Value.int .u64 (lo : Int), .int .u64 (hi : Int), .bool bad] 71)
  have GB : Hid _ := gb
  obtain ⟨a0, a1, a2⟩ := cells3 g0
  obtain ⟨r0, r1, r2⟩ := cells3 g1
  clear g0 g1 gb
  go_enter Try.func30, Try.ntmps30
  go_upto_region 1 with fail
  generalize ((w.alloc (Obj.cells #[Value.float .f64 lo, .float .f64 hi, .bool bad] 68)).alloc (Obj.cells #[Value.int .u64 (lo : Int), .int .u64 (hi : Int), .bool bad] 71)) = W0 at a0 a1 a2 r0 r1 r2 GB ⊢
  go_wp2_with fail
  refine Calls.mono (sameRef_any lo hi bad _) ?_
  rintro e w4 ⟨rfl, bw⟩
  have C4 : Hid (Below w.heap.size w w4) := GB.out.trans (bw.mono GB.out.size)
  clear bw GB a0 a1 a2 r0 r1 r2
  go_wp2_with fail
  go_ret
  exact ⟨rfl, C4.out⟩
end Go.Proofs.Ytigaggkipmcgeaa
