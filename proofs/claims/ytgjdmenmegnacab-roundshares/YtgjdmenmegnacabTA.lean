import Derived.Test.YtgjdmenmegnacabNZa
import Derived.Test.YtgjdmenmegnacabRMa
namespace Go.Proofs.Ytgjdmenmegnacab
open Go.RowKit
set_option linter.unusedVariables false

theorem RndZ.scale {d V : Int} {D : Nat} {p : Nat × Bool} (h : RndZ d V D p) (c : Nat) (hc : 0 < c) : RndZ d (V * (c : Int)) (D * c) p := by
  have hc' : (0 : Int) < c := by omega
  have hs : decide (V * (c : Int) < 0) = decide (V < 0) := by
    by_cases k : V < 0
    · rw [decide_eq_true k]; exact decide_eq_true (Int.mul_neg_of_neg_of_pos k hc')
    · rw [decide_eq_false k]; exact decide_eq_false (by have := Int.mul_nonneg (show 0 ≤ V by omega) (show (0 : Int) ≤ c by omega); omega)
  unfold RndZ
  rw [hs, Int.natAbs_mul, Int.natAbs_natCast]
  exact Rnd.scale h c hc
theorem mul_rndZ' {d : Int} {a b E : Nat} {p : Nat × Bool} (h : Rnd d (fneg a ^^ fneg b) (rmag (frung a) * rmag (frung b)) (2 ^ E) p) : RndZ d (fval a * fval b) (2 ^ E) p := by
  have hz : (fval a * fval b).natAbs = rmag (frung a) * rmag (frung b) := by rw [Int.natAbs_mul, fval_abs, fval_abs]
  rw [← hz] at h
  refine h.toZ (fun hne => ?_)
  have h1 := fval_signs a
  have h2 := fval_signs b
  have h3 := mul_sign h1 h2
  cases hh : (fneg a ^^ fneg b)
  · have := h3.2 hh; exact (decide_eq_false (by omega)).symm
  · have := h3.1 hh; exact (decide_eq_true (by omega)).symm
/-- The exact result of a call, in units of 2^-2148. -/
def exactX (c : Int) (E a b : Nat) : Int := if c = 1 then (fval a + fval b) * ((2 ^ E : Nat) : Int) else if c = 2 then (fval a - fval b) * ((2 ^ E : Nat) : Int) else fval a * fval b
theorem asked_any (c d : Int) (hc : c = 1 ∨ c = 2 ∨ c = 3) (a b : Nat) (ha : a < 18446744073709551616) (hb : b < 18446744073709551616) (E : Nat) (hE : E = 1074) : ∃ p, (Fin a ∧ Fin b → RndZ d (exactX c E a b) (2 ^ E) p) ∧ (¬ (Fin a ∧ Fin b) → p = (0, false)) ∧
    ∀ w, Calls Try.prog 10 #[.int .i64 c, .int .i64 d, .float .f64 a, .float .f64 b] w fun e w' => e = .returned (.tuple #[.float .f64 p.1, .bool p.2]) ∧ w' = w := by
  have hp := Nat.two_pow_pos E
  rcases hc with rfl | rfl | rfl
  · obtain ⟨p, h1, h2, c1⟩ := add_any d a b ha hb
    refine ⟨p, fun hf => ?_, h2, asked1 c1⟩
    have := (h1 hf.1 hf.2).scale (2 ^ E) hp
    rw [Nat.one_mul] at this
    exact this
  · obtain ⟨p, h1, h2, c1⟩ := sub_any d a b ha hb
    refine ⟨p, fun hf => ?_, h2, asked2 c1⟩
    have := (h1 hf.1 hf.2).scale (2 ^ E) hp
    rw [Nat.one_mul] at this
    exact this
  · obtain ⟨p, h1, h2, c1⟩ := mul_any d a b ha hb
    exact ⟨p, fun hf => mul_rndZ' (h1 hf.1 hf.2 E hE), h2, asked3 c1⟩
set_option maxRecDepth 100000 in
theorem num_any (u : Nat) (hu : u < 18446744073709551616) (w : World) (E : Nat) (hE : E = 1074) :
    Calls Try.prog 15 #[.float .f64 u] w fun e' w' => ∃ v, e' = .returned (.tuple #[v, .bool (decide (Fin u))]) ∧ (∃ z, NumZ w' v E 1024 z ∧ (Fin u → z = fval u)) ∧ Below w.heap.size w w' := by
  have P0 : Hid ((w.alloc (Obj.cells #[Value.bool false, Value.slice none 0 0, Value.int IntKind.i64 0] 25)).heap[w.heap.size]? = some (Obj.cells #[Value.bool false, Value.slice none 0 0, Value.int IntKind.i64 0] 25)) := heap_alloc_new w _
  have HBA : Hid (Below w.heap.size w (w.alloc (Obj.cells #[Value.bool false, Value.slice none 0 0, Value.int IntKind.i64 0] 25))) := (Below.refl w.heap.size w).alloc (Nat.le_refl _) _
  have HZ0 : Hid ((w.alloc (Obj.cells #[Value.bool false, Value.slice none 0 0, Value.int IntKind.i64 0] 25)).heap.size = w.heap.size + 1) := by unfold Hid; simp
  go_enter Try.func15, Try.ntmps15
  go_wp2_with (go_at_call 19; refine (bits_any u _).mono ?_; rintro e w0 ⟨rfl, rfl⟩)
  refine (ofZ_any u hu _ E hE).mono ?_
  rintro e1 w1 ⟨v1, rfl, ⟨z1, hz1, hf1⟩, hb1⟩
  have Z1 : Hid (NumZ w1 v1 E 1024 z1) := hz1
  have F1 : Hid (Fin u → z1 = fval u) := hf1
  obtain ⟨nx, mx, ex, ⟨ao, len, cap, xs, rfl, -⟩, -⟩ := hz1
  have g1 := (hb1.block w.heap.size (by rw [HZ0.out]; omega)).trans P0.out
  have HB1 : Hid (Below w.heap.size w w1) := HBA.out.trans (hb1.mono HBA.out.size)
  obtain ⟨x0, x1, x2⟩ := three_cells g1
  have fz := fun j => frozen_of_row _ _ j _ _ g1
  have G1 : Hid _ := g1
  clear hb1 hf1 g1
  obtain ⟨dq, hq⟩ : ∃ q, decide (Fin u) = q := ⟨_, rfl⟩
  have HQ : Hid (decide (Fin u) = dq) := hq
  rw [hq]
  clear hq
  go_wp2_with fail
  refine bodyPost_ret (v := .tuple #[.agg #[.bool nx, .slice ao len cap, .int .i64 ex], .bool dq]) (res_num2 _ 2 3 (by kernel_rfl) _ _ w.heap.size _ _ _ _ (by rfl) (by rfl) (set3_heap _ _ _ G1.out)) rfl ⟨_, by rw [HQ.out], ⟨z1, ?_, F1.out⟩, ?_⟩
  · exact NumZ.set3 _ _ _ ⟨_, _, _, _, _, G1.out⟩ Z1.out
  · exact below_set3 _ _ _ HB1.out (Nat.le_refl _)
end Go.Proofs.Ytgjdmenmegnacab
