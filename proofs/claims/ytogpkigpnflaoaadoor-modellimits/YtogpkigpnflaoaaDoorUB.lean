import Derived.Test.YtogpkigpnflaoaaDoorUA
namespace Go.Proofs.YtogpkigpnflaoaaDoor
open Go.RowKit
set_option linter.unusedVariables false

theorem and255 (n : Int) : ∃ N : Nat, bits .and .i64 n 255 = (N : Int) ∧ N ≤ 255 := by
  have h1 : (BitVec.ofInt 64 255).toNat = 2 ^ 8 - 1 := by decide
  have h2 : (BitVec.ofInt 64 n &&& BitVec.ofInt 64 255).toNat = (BitVec.ofInt 64 n).toNat % 2 ^ 8 := by
    rw [BitVec.toNat_and, h1, Nat.and_two_pow_sub_one_eq_mod]
  have h3 : (BitVec.ofInt 64 n).toNat % 2 ^ 8 < 256 := Nat.mod_lt _ (by decide)
  refine ⟨(BitVec.ofInt 64 n).toNat % 2 ^ 8, ?_, by omega⟩
  show IntKind.i64.wrap ((BitVec.ofInt 64 n &&& BitVec.ofInt 64 255).toNat : Nat) = _
  rw [h2, IntKind.wrap_i64]
  omega
theorem ex_bs {P : Program} {ρ : Operand → Value} (o : Oper) (t : TypeId) (n : Nat) (parts : Array (Nat × Operand)) (ho : o.op = .buildSlice t n parts) (vals : Array (Nat × Value)) (hv : (parts.map fun p => (p.1, ρ p.2)) = vals) (v : Value) (w w' : World) (h : (Instr.buildSlice t n vals).run P w = .ok v w') : (execOp ρ o).run P w = .ok (.value v) w' := by
  unfold execOp
  simp only [ho, hv, h, Sem.run_bind, Sem.run_pure, Result.andThen_ok]
theorem bs2 (gw gb gv gu : Nat) (w : World) : (Instr.buildSlice 28 2 #[(0, .agg #[.int .i64 1, .int .i64 255, .int .i64 0, .int .i64 0, .int .i64 0, .int .i64 0, .int .i64 0, .int .i64 0, .int .i64 0, .float .f64 0, .slice (some ⟨gw, 0, none⟩) 65280 65280, .slice (some ⟨gb, 0, none⟩) 255 255, .slice none 0 0, .slice none 0 0]), (1, .agg #[.int .i64 1, .int .i64 1, .int .i64 0, .int .i64 0, .int .i64 0, .int .i64 0, .int .i64 0, .int .i64 0, .int .i64 0, .float .f64 0, .slice (some ⟨gv, 0, none⟩) 255 255, .slice (some ⟨gu, 0, none⟩) 1 1, .slice none 0 0, .slice none 0 0])]).run Tryd.prog w = .ok (.slice (some ⟨w.heap.size, 0, none⟩) 2 2) (w.alloc (.cells #[.int .i64 1, .int .i64 255, .int .i64 0, .int .i64 0, .int .i64 0, .int .i64 0, .int .i64 0, .int .i64 0, .int .i64 0, .float .f64 0, .slice (some ⟨gw, 0, none⟩) 65280 65280, .slice (some ⟨gb, 0, none⟩) 255 255, .slice none 0 0, .slice none 0 0, .int .i64 1, .int .i64 1, .int .i64 0, .int .i64 0, .int .i64 0, .int .i64 0, .int .i64 0, .int .i64 0, .int .i64 0, .float .f64 0, .slice (some ⟨gv, 0, none⟩) 255 255, .slice (some ⟨gu, 0, none⟩) 1 1, .slice none 0 0, .slice none 0 0] 33)) := by kernel_rfl
theorem bs1 (gw gb : Nat) (w : World) : (Instr.buildSlice 28 1 #[(0, .agg #[.int .i64 1, .int .i64 255, .int .i64 0, .int .i64 0, .int .i64 0, .int .i64 0, .int .i64 0, .int .i64 0, .int .i64 0, .float .f64 0, .slice (some ⟨gw, 0, none⟩) 65280 65280, .slice (some ⟨gb, 0, none⟩) 255 255, .slice none 0 0, .slice none 0 0])]).run Tryd.prog w = .ok (.slice (some ⟨w.heap.size, 0, none⟩) 1 1) (w.alloc (.cells #[.int .i64 1, .int .i64 255, .int .i64 0, .int .i64 0, .int .i64 0, .int .i64 0, .int .i64 0, .int .i64 0, .int .i64 0, .float .f64 0, .slice (some ⟨gw, 0, none⟩) 65280 65280, .slice (some ⟨gb, 0, none⟩) 255 255, .slice none 0 0, .slice none 0 0] 33)) := by kernel_rfl
def Ls2 (gw gb gv gu : Nat) (j : Nat) : Array Value := if j = 0 then #[.int .i64 1, .int .i64 255, .int .i64 0, .int .i64 0, .int .i64 0, .int .i64 0, .int .i64 0, .int .i64 0, .int .i64 0, .float .f64 0, .slice (some ⟨gw, 0, none⟩) 65280 65280, .slice (some ⟨gb, 0, none⟩) 255 255, .slice none 0 0, .slice none 0 0] else #[.int .i64 1, .int .i64 1, .int .i64 0, .int .i64 0, .int .i64 0, .int .i64 0, .int .i64 0, .int .i64 0, .int .i64 0, .float .f64 0, .slice (some ⟨gv, 0, none⟩) 255 255, .slice (some ⟨gu, 0, none⟩) 1 1, .slice none 0 0, .slice none 0 0]
theorem rng28 {w : World} {b : Nat} {C L : Array Value} {t : TypeId} (h : w.heap[b]? = some (.cells C t)) (o : Nat) (hL : ∀ i, i < 14 → C[o + i]? = L[i]?) (hz : L.size = 14) : w.rangeAt b o L.toList := by
  intro i v hv
  have hi : i < 14 := by
    have := (List.getElem?_eq_some_iff.1 hv).1
    simpa [hz] using this
  rw [cell_of_row _ b _ _ _ _ h, hL i hi, ← Array.getElem?_toList]
  exact hv
theorem lay2 {w : World} {b gw gb gv gu : Nat} (h : w.heap[b]? = some (.cells #[.int .i64 1, .int .i64 255, .int .i64 0, .int .i64 0, .int .i64 0, .int .i64 0, .int .i64 0, .int .i64 0, .int .i64 0, .float .f64 0, .slice (some ⟨gw, 0, none⟩) 65280 65280, .slice (some ⟨gb, 0, none⟩) 255 255, .slice none 0 0, .slice none 0 0, .int .i64 1, .int .i64 1, .int .i64 0, .int .i64 0, .int .i64 0, .int .i64 0, .int .i64 0, .int .i64 0, .int .i64 0, .float .f64 0, .slice (some ⟨gv, 0, none⟩) 255 255, .slice (some ⟨gu, 0, none⟩) 1 1, .slice none 0 0, .slice none 0 0] 33)) : RdLay w (some ⟨b, 0, none⟩) 2 (Ls2 gw gb gv gu) := by
  refine ⟨by decide, .inr ⟨b, 0, rfl, fun j hj => ?_⟩⟩
  have hj' : j = 0 ∨ j = 1 := by omega
  rcases hj' with rfl | rfl
  · refine ⟨rfl, one14 .., rng28 h _ (fun i hi => ?_) rfl⟩
    have : i = 0 ∨ i = 1 ∨ i = 2 ∨ i = 3 ∨ i = 4 ∨ i = 5 ∨ i = 6 ∨ i = 7 ∨ i = 8 ∨ i = 9 ∨ i = 10 ∨ i = 11 ∨ i = 12 ∨ i = 13 := by omega
    rcases this with rfl | rfl | rfl | rfl | rfl | rfl | rfl | rfl | rfl | rfl | rfl | rfl | rfl | rfl <;> rfl
  · refine ⟨rfl, one14 .., rng28 h _ (fun i hi => ?_) rfl⟩
    have : i = 0 ∨ i = 1 ∨ i = 2 ∨ i = 3 ∨ i = 4 ∨ i = 5 ∨ i = 6 ∨ i = 7 ∨ i = 8 ∨ i = 9 ∨ i = 10 ∨ i = 11 ∨ i = 12 ∨ i = 13 := by omega
    rcases this with rfl | rfl | rfl | rfl | rfl | rfl | rfl | rfl | rfl | rfl | rfl | rfl | rfl | rfl <;> rfl
theorem lay1 {w : World} {b gw gb : Nat} (h : w.heap[b]? = some (.cells #[.int .i64 1, .int .i64 255, .int .i64 0, .int .i64 0, .int .i64 0, .int .i64 0, .int .i64 0, .int .i64 0, .int .i64 0, .float .f64 0, .slice (some ⟨gw, 0, none⟩) 65280 65280, .slice (some ⟨gb, 0, none⟩) 255 255, .slice none 0 0, .slice none 0 0] 33)) : RdLay w (some ⟨b, 0, none⟩) 1 (Ls2 gw gb 0 0) := by
  refine ⟨by decide, .inr ⟨b, 0, rfl, fun j hj => ?_⟩⟩
  obtain rfl : j = 0 := by omega
  refine ⟨rfl, one14 .., rng28 h _ (fun i hi => ?_) rfl⟩
  rw [show 0 + 0 * 14 + i = i by omega]
  rfl
/-- The noughts of both layers. -/
structure Nts (w : World) (gw gb gv gu : Nat) : Prop where
  w1 : w.heap[gw]? = some (.cells (flN 65280) 29)
  b1 : w.heap[gb]? = some (.cells (flN 255) 29)
  w2 : w.heap[gv]? = some (.cells (flN 255) 29)
  b2 : w.heap[gu]? = some (.cells (flN 1) 29)
theorem Nts.later {w w' : World} {gw gb gv gu : Nat} (h : Nts w gw gb gv gu) (hb : Below w.heap.size w w') : Nts w' gw gb gv gu := ⟨kept hb h.w1, kept hb h.b1, kept hb h.w2, kept hb h.b2⟩
theorem next1 {w : World} {gw gb : Nat} (h1 : w.heap[gw]? = some (.cells (flN 65280) 29)) (h2 : w.heap[gb]? = some (.cells (flN 255) 29)) (hs : szF [1, 1, 256] 1 = (256, 0)) (hs2 : szF [255, 1, 1] 1 = (255, 0)) : NextIs w #[.int .i64 1, .int .i64 255, .int .i64 0, .int .i64 0, .int .i64 0, .int .i64 0, .int .i64 0, .int .i64 0, .int .i64 0, .float .f64 0, .slice (some ⟨gw, 0, none⟩) 65280 65280, .slice (some ⟨gb, 0, none⟩) 255 255, .slice none 0 0, .slice none 0 0] 0 (1, 1, 256) 255 1 1 0 :=
  denseNext (some ⟨gw, 0, none⟩) (some ⟨gb, 0, none⟩) 255 255 65280 65280 1 1 256 256 255 (by omega) (by omega) hs hs2 (by decide) (List.replicate 65280 0) (List.replicate 255 0) (numsB_zero _) (numsB_zero _) 0 w (rdF_zero (by omega) h1) (rdF_zero (by omega) h2)
theorem next2 {w : World} {gv gu : Nat} (h1 : w.heap[gv]? = some (.cells (flN 255) 29)) (h2 : w.heap[gu]? = some (.cells (flN 1) 29)) (hs : szF [255, 1, 1] 1 = (255, 0)) (hs2 : szF [1, 1, 1] 1 = (1, 0)) : NextIs w #[.int .i64 1, .int .i64 1, .int .i64 0, .int .i64 0, .int .i64 0, .int .i64 0, .int .i64 0, .int .i64 0, .int .i64 0, .float .f64 0, .slice (some ⟨gv, 0, none⟩) 255 255, .slice (some ⟨gu, 0, none⟩) 1 1, .slice none 0 0, .slice none 0 0] 1 (255, 1, 1) 1 1 1 0 :=
  denseNext (some ⟨gv, 0, none⟩) (some ⟨gu, 0, none⟩) 1 1 255 255 255 1 1 255 1 (by omega) (by omega) hs hs2 (by decide) (List.replicate 255 0) (List.replicate 1 0) (numsB_zero _) (numsB_zero _) 1 w (rdF_zero (by omega) h1) (rdF_zero (by omega) h2)
theorem wt1 (gw gb : Nat) (w : World) : WeightIs w #[.int .i64 1, .int .i64 255, .int .i64 0, .int .i64 0, .int .i64 0, .int .i64 0, .int .i64 0, .int .i64 0, .int .i64 0, .float .f64 0, .slice (some ⟨gw, 0, none⟩) 65280 65280, .slice (some ⟨gb, 0, none⟩) 255 255, .slice none 0 0, .slice none 0 0] 65535 := denseWeight (some ⟨gw, 0, none⟩) (some ⟨gb, 0, none⟩) 255 255 65280 65280 (by omega) (by omega) w
theorem wt2 (gv gu : Nat) (w : World) : WeightIs w #[.int .i64 1, .int .i64 1, .int .i64 0, .int .i64 0, .int .i64 0, .int .i64 0, .int .i64 0, .int .i64 0, .int .i64 0, .float .f64 0, .slice (some ⟨gv, 0, none⟩) 255 255, .slice (some ⟨gu, 0, none⟩) 1 1, .slice none 0 0, .slice none 0 0] 256 := denseWeight (some ⟨gv, 0, none⟩) (some ⟨gu, 0, none⟩) 1 1 255 255 (by omega) (by omega) w
def wtN (j : Nat) : Int := if j = 0 then 65535 else 256
def shN (j : Nat) : Int × Int × Int := if j = 0 then (1, 1, 256) else if j = 1 then (255, 1, 1) else (1, 1, 1)
theorem wtN_le (j : Nat) : 0 ≤ wtN j ∧ wtN j ≤ 1000000 := by unfold wtN; split <;> omega
theorem wts2 (gw gb gv gu : Nat) (w : World) : ∀ j, j < 2 → WeightIs w (Ls2 gw gb gv gu j) (wtN j) := by
  intro j hj
  have hj' : j = 0 ∨ j = 1 := by omega
  rcases hj' with rfl | rfl
  · exact wt1 gw gb w
  · exact wt2 gv gu w
theorem chk2 (w : World) (b gw gb gv gu : Nat) (h : w.heap[b]? = some (.cells #[.int .i64 1, .int .i64 255, .int .i64 0, .int .i64 0, .int .i64 0, .int .i64 0, .int .i64 0, .int .i64 0, .int .i64 0, .float .f64 0, .slice (some ⟨gw, 0, none⟩) 65280 65280, .slice (some ⟨gb, 0, none⟩) 255 255, .slice none 0 0, .slice none 0 0, .int .i64 1, .int .i64 1, .int .i64 0, .int .i64 0, .int .i64 0, .int .i64 0, .int .i64 0, .int .i64 0, .int .i64 0, .float .f64 0, .slice (some ⟨gv, 0, none⟩) 255 255, .slice (some ⟨gu, 0, none⟩) 1 1, .slice none 0 0, .slice none 0 0] 33)) (hn : Nts w gw gb gv gu) (s1 : szF [1, 1, 256] 1 = (256, 0)) (s2 : szF [255, 1, 1] 1 = (255, 0)) (s3 : szF [1, 1, 1] 1 = (1, 0)) :
    Calls Tryd.prog 6 #[.agg #[.int .i64 1, .int .i64 1, .int .i64 256, .slice (some ⟨b, 0, none⟩) 2 2, .slice none 0 0]] w fun e w' => e = .returned (.tuple #[.int .i64 65, .int .i64 2]) ∧ Below w.heap.size w w' := by
  refine check_of 1 1 256 _ none 2 2 0 65 2 w fun w' hb => ?_
  have hn' := hn.later hb
  refine shapesRun 1 1 256 256 _ none 2 2 0 (Ls2 gw gb gv gu) shN wtN 1 65 2 w' s1 (by omega) rfl ((lay2 h).later hb) (by omega) wtN_le (fun j hj => ?_) (fun j hj => ?_) (wts2 gw gb gv gu w') (.inr (.inr ⟨by omega, rfl, rfl, by decide, next2 hn'.w2 hn'.b2 s2 s3⟩))
  · have hj' : j = 0 ∨ j = 1 := by omega
    rcases hj' with rfl | rfl <;> decide
  · obtain rfl : j = 0 := by omega
    exact next1 hn'.w1 hn'.b1 s1 s2
theorem chk1 (w : World) (b gw gb : Nat) (h : w.heap[b]? = some (.cells #[.int .i64 1, .int .i64 255, .int .i64 0, .int .i64 0, .int .i64 0, .int .i64 0, .int .i64 0, .int .i64 0, .int .i64 0, .float .f64 0, .slice (some ⟨gw, 0, none⟩) 65280 65280, .slice (some ⟨gb, 0, none⟩) 255 255, .slice none 0 0, .slice none 0 0] 33)) (h1 : w.heap[gw]? = some (.cells (flN 65280) 29)) (h2 : w.heap[gb]? = some (.cells (flN 255) 29)) (s1 : szF [1, 1, 256] 1 = (256, 0)) (s2 : szF [255, 1, 1] 1 = (255, 0)) :
    Calls Tryd.prog 6 #[.agg #[.int .i64 1, .int .i64 1, .int .i64 256, .slice (some ⟨b, 0, none⟩) 1 1, .slice none 0 0]] w fun e w' => e = .returned (.tuple #[.int .i64 0, .int .i64 0]) ∧ Below w.heap.size w w' := by
  refine check_of 1 1 256 _ none 1 1 0 0 0 w fun w' hb => ?_
  refine shapesRun 1 1 256 256 _ none 1 1 0 (Ls2 gw gb 0 0) shN wtN 1 0 0 w' s1 (by omega) rfl ((lay1 h).later hb) (by omega) wtN_le (fun j hj => ?_) (fun j hj => ?_) (fun j hj => wts2 gw gb 0 0 w' j (by omega)) (.inl ⟨rfl, rfl, rfl⟩)
  · have hj' : j = 0 ∨ j = 1 := by omega
    rcases hj' with rfl | rfl <;> decide
  · obtain rfl : j = 0 := by omega
    exact next1 (kept hb h1) (kept hb h2) s1 s2
theorem wgt2 (w : World) (b gw gb gv gu : Nat) (h : w.heap[b]? = some (.cells #[.int .i64 1, .int .i64 255, .int .i64 0, .int .i64 0, .int .i64 0, .int .i64 0, .int .i64 0, .int .i64 0, .int .i64 0, .float .f64 0, .slice (some ⟨gw, 0, none⟩) 65280 65280, .slice (some ⟨gb, 0, none⟩) 255 255, .slice none 0 0, .slice none 0 0, .int .i64 1, .int .i64 1, .int .i64 0, .int .i64 0, .int .i64 0, .int .i64 0, .int .i64 0, .int .i64 0, .int .i64 0, .float .f64 0, .slice (some ⟨gv, 0, none⟩) 255 255, .slice (some ⟨gu, 0, none⟩) 1 1, .slice none 0 0, .slice none 0 0] 33)) :
    Calls Tryd.prog 7 #[.agg #[.int .i64 0, .int .i64 0, .int .i64 0, .slice (some ⟨b, 0, none⟩) 2 2, .slice none 0 0]] w fun e w' => e = .returned (.int .i64 65791) ∧ Below w.heap.size w w' := by
  refine weights_any 0 0 0 _ none 2 2 0 0 (Ls2 gw gb gv gu) wtN w (by omega) (lay2 h) wtN_le (fun j hj => ?_) (wts2 gw gb gv gu w)
  have hj' : j = 0 ∨ j = 1 ∨ j = 2 := by omega
  rcases hj' with rfl | rfl | rfl <;> decide
end Go.Proofs.YtogpkigpnflaoaaDoor
