import Derived.Test.YtigaggkipmcgeaaND
namespace Go.Proofs.Ytigaggkipmcgeaa
open Go.RowKit
set_option linter.unusedVariables false

/-- v is the exact real m 2^e, turned if neg. -/
def NumV (w : World) (v : Value) (neg : Bool) (m : Nat) (e : Int) : Prop := ∃ ao len cap xs, v = .agg #[.bool neg, .slice ao len cap, .int .i64 e] ∧ Rd4 w ao len cap xs ∧ Nm xs ∧ dig xs = m
theorem NumV.later {w w' : World} {v : Value} {neg : Bool} {m : Nat} {e : Int} (h : NumV w v neg m e) (hb : Below w.heap.size w w') : NumV w' v neg m e := by
  obtain ⟨ao, len, cap, xs, h1, h2, h3, h4⟩ := h
  exact ⟨ao, len, cap, xs, h1, h2.later hb, h3, h4⟩
theorem len_zero {xs : List Nat} {len : Nat} (hl : xs.length = len) (hu : U4 xs) (hn : Nm xs) : (len = 0 ↔ dig xs = 0) := by
  constructor
  · intro h; have : xs = [] := List.eq_nil_of_length_eq_zero (by omega)
    subst this; rfl
  · intro h
    rcases Nat.eq_zero_or_pos len with h0 | h0
    · exact h0
    · exact absurd h (bl_dig hu hn (fun e => by rw [e] at hl; simp at hl; omega)).2

theorem len_bl {xs : List Nat} {len : Nat} (hl : xs.length = len) (hu : U4 xs) (hn : Nm xs) : 32 * len ≤ bl (dig xs) + 31 := by
  rcases Nat.eq_zero_or_pos len with h0 | h0
  · omega
  · have h := bl_dig hu hn (fun e => by rw [e] at hl; simp at hl; omega)
    have h1 : xs[xs.length - 1]?.getD 0 ≠ 0 := by
      rcases hn with e | e
      · rw [e] at hl; simp at hl; omega
      · exact e
    have := bl_spec h1
    rw [hl] at h this
    omega
theorem three_cells {W : World} {B : Nat} {v0 v1 v2 : Value} (h : W.heap[B]? = some (.cells #[v0, v1, v2] 27)) :
    W.cell? ⟨B, 0, none⟩ = some v0 ∧ W.cell? ⟨B, 1, none⟩ = some v1 ∧ W.cell? ⟨B, 2, none⟩ = some v2 :=
  ⟨cell_of_row _ _ 0 _ _ _ h, cell_of_row _ _ 1 _ _ _ h, cell_of_row _ _ 2 _ _ _ h⟩
theorem res_num (f : Func) (i : Nat) (hf : f.results = #[ResultVar.cell i 27]) (tmps : Array Value) (W : World) (B : Nat) (v0 v1 v2 : Value) (hp : tmps[i]? = some (.pointer (some ⟨B, 0, none⟩)))
    (h : W.heap[B]? = some (.cells #[v0, v1, v2] 27)) : (results f tmps).run Try.prog W = .ok (.agg #[v0, v1, v2]) W := by
  obtain ⟨h0, h1, h2⟩ := three_cells h
  simp [results, hf, go_sem, hp, h0, h1, h2]
theorem res_num2 (f : Func) (i j : Nat) (hf : f.results = #[ResultVar.cell i 27, ResultVar.tmp j]) (tmps : Array Value) (W : World) (B : Nat) (v0 v1 v2 u : Value) (hp : tmps[i]? = some (.pointer (some ⟨B, 0, none⟩))) (hq : tmps[j]? = some u)
    (h : W.heap[B]? = some (.cells #[v0, v1, v2] 27)) : (results f tmps).run Try.prog W = .ok (.tuple #[.agg #[v0, v1, v2], u]) W := by
  obtain ⟨h0, h1, h2⟩ := three_cells h
  simp [results, hf, go_sem, hp, hq, h0, h1, h2]

set_option maxRecDepth 100000 in
theorem moved_any (v : Value) (neg : Bool) (m : Nat) (e n : Int) (he : -1000000 ≤ e ∧ e ≤ 1000000) (hn : -1000000 ≤ n ∧ n ≤ 1000000) (w : World) (h : NumV w v neg m e) :
    Calls Try.prog 16 #[v, .int .i64 n] w fun e' w' => ∃ v', e' = .returned v' ∧ NumV w' v' neg m (if m = 0 then e else e + n) ∧ Below w.heap.size w w' := by
  obtain ⟨ao, len, cap, xs, rfl, hr, hnm, hm⟩ := h
  have hz := len_zero hr.length hr.lt hnm
  rw [hm] at hz
  have hbel : ∀ c1 c2 : Obj, Below w.heap.size w ((w.alloc c1).alloc c2) := fun c1 c2 => ((Below.refl _ _).alloc (Nat.le_refl _) _).alloc (by simp) _
  have HR : Hid _ := hr
  have HB : Hid _ := hbel
  clear hr hbel
  by_cases h0 : 0 < len
  · rw [if_neg (by omega)]
    go_enter Try.func16, Try.ntmps16
    go_wp2_with fail
    refine bodyPost_ret (v := .agg #[.bool neg, .slice ao len cap, .int .i64 (e + n)]) (res_num _ 4 (by kernel_rfl) _ _ (w.heap.size + 1) _ _ _ (by rfl) (by have := heap_alloc_new (w.alloc (Obj.cells #[Value.bool neg, Value.slice ao len cap, Value.int IntKind.i64 (e + n)] 27)) (Obj.cells #[Value.bool neg, Value.slice ao len cap, Value.int IntKind.i64 (e + n)] 27); simpa using this)) rfl ⟨_, rfl, ?_, HB.out _ _⟩
    exact ⟨ao, len, cap, xs, rfl, HR.out.later (HB.out _ _), hnm, hm⟩
  · rw [if_pos (by omega)]
    go_enter Try.func16, Try.ntmps16
    go_wp2_with fail
    refine bodyPost_ret (v := .agg #[.bool neg, .slice ao len cap, .int .i64 e]) (res_num _ 4 (by kernel_rfl) _ _ (w.heap.size + 1) _ _ _ (by rfl) (by have := heap_alloc_new (w.alloc (Obj.cells #[Value.bool neg, Value.slice ao len cap, Value.int IntKind.i64 e] 27)) (Obj.cells #[Value.bool neg, Value.slice ao len cap, Value.int IntKind.i64 e] 27); simpa using this)) rfl ⟨_, rfl, ?_, HB.out _ _⟩
    exact ⟨ao, len, cap, xs, rfl, HR.out.later (HB.out _ _), hnm, hm⟩
set_option maxRecDepth 100000 in
theorem size_any (v : Value) (neg : Bool) (m : Nat) (e : Int) (w : World) (h : NumV w v neg m e) :
    Calls Try.prog 28 #[v] w fun e' w' => ∃ v', e' = .returned v' ∧ NumV w' v' false m e ∧ Below w.heap.size w w' := by
  obtain ⟨ao, len, cap, xs, rfl, hr, hnm, hm⟩ := h
  have hbel : ∀ c1 c2 : Obj, Below w.heap.size w ((w.alloc c1).alloc c2) := fun c1 c2 => ((Below.refl _ _).alloc (Nat.le_refl _) _).alloc (by simp) _
  have HR : Hid _ := hr
  have HB : Hid _ := hbel
  clear hr hbel
  go_enter Try.func28, Try.ntmps28
  go_wp2_with fail
  refine bodyPost_ret (v := .agg #[.bool false, .slice ao len cap, .int .i64 e]) (res_num _ 2 (by kernel_rfl) _ _ (w.heap.size + 1) _ _ _ (by rfl) (by have := heap_alloc_new (w.alloc (Obj.cells #[Value.bool false, Value.slice ao len cap, Value.int IntKind.i64 e] 27)) (Obj.cells #[Value.bool false, Value.slice ao len cap, Value.int IntKind.i64 e] 27); simpa using this)) rfl ⟨_, rfl, ?_, HB.out _ _⟩
  exact ⟨ao, len, cap, xs, rfl, HR.out.later (HB.out _ _), hnm, hm⟩
end Go.Proofs.Ytigaggkipmcgeaa
