import Derived.Test.YtigaggkipmcgeaaNR
import Derived.Test.YtigaggkipmcgeaaNQ
namespace Go.Proofs.Ytigaggkipmcgeaa
open Go.RowKit
set_option linter.unusedVariables false

set_option maxRecDepth 100000 in
theorem turned_any (v : Value) (neg : Bool) (m : Nat) (e : Int) (w : World) (h : NumV w v neg m e) :
    Calls Try.prog 74 #[v] w fun e' w' => ∃ v', e' = .returned v' ∧ NumV w' v' (if m = 0 then neg else !neg) m e ∧ Below w.heap.size w w' := by
  obtain ⟨ao, len, cap, xs, rfl, hr, hnm, hm⟩ := h
  have hz := len_zero hr.length hr.lt hnm
  rw [hm] at hz
  have hbel : ∀ c1 c2 : Obj, Below w.heap.size w ((w.alloc c1).alloc c2) := fun c1 c2 => ((Below.refl _ _).alloc (Nat.le_refl _) _).alloc (by simp) _
  have HR : Hid _ := hr
  have HB : Hid _ := hbel
  clear hr hbel
  by_cases h0 : 0 < len
  · rw [if_neg (by omega)]
    go_enter Try.func74, Try.ntmps74
    go_wp2_with fail
    refine bodyPost_ret (v := .agg #[.bool (!neg), .slice ao len cap, .int .i64 e]) (res_num _ 2 (by kernel_rfl) _ _ (w.heap.size + 1) _ _ _ (by rfl) (by have := heap_alloc_new (w.alloc (Obj.cells #[Value.bool (!neg), Value.slice ao len cap, Value.int IntKind.i64 e] 27)) (Obj.cells #[Value.bool (!neg), Value.slice ao len cap, Value.int IntKind.i64 e] 27); simpa using this)) rfl ⟨_, rfl, ?_, HB.out _ _⟩
    exact ⟨ao, len, cap, xs, rfl, HR.out.later (HB.out _ _), hnm, hm⟩
  · rw [if_pos (by omega)]
    go_enter Try.func74, Try.ntmps74
    go_wp2_with fail
    refine bodyPost_ret (v := .agg #[.bool neg, .slice ao len cap, .int .i64 e]) (res_num _ 2 (by kernel_rfl) _ _ (w.heap.size + 1) _ _ _ (by rfl) (by have := heap_alloc_new (w.alloc (Obj.cells #[Value.bool neg, Value.slice ao len cap, Value.int IntKind.i64 e] 27)) (Obj.cells #[Value.bool neg, Value.slice ao len cap, Value.int IntKind.i64 e] 27); simpa using this)) rfl ⟨_, rfl, ?_, HB.out _ _⟩
    exact ⟨ao, len, cap, xs, rfl, HR.out.later (HB.out _ _), hnm, hm⟩
end Go.Proofs.Ytigaggkipmcgeaa
