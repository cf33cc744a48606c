import Derived.Test.YtogpkigpnflaoaaDoorKR
namespace Go.Proofs.YtogpkigpnflaoaaDoor
open Go.RowKit
set_option linter.unusedVariables false

theorem denseFit (wo bo : Option Addr) (bn bc wn wc : Nat) (c h k n n' : Int) (hb1 : 1 ≤ bn) (hb2 : bn ≤ 256) (hs : szF [c, h, k] 1 = (n, 0)) (ht : szF [(bn : Int), 1, 1] 1 = (n', 0)) (hp : IntKind.i64.wrap ((bn : Int) * n) = (wn : Int)) (w : World) :
    Calls Tryd.prog 17 #[.agg #[.int .i64 1, .int .i64 (bn : Int), .int .i64 0, .int .i64 0, .int .i64 0, .int .i64 0, .int .i64 0, .int .i64 0, .int .i64 0, .float .f64 0, .slice wo wn wc, .slice bo bn bc, .slice none 0 0, .slice none 0 0], .agg #[.int .i64 c, .int .i64 h, .int .i64 k]] w fun e w' => e = .returned (.tuple #[.agg #[.int .i64 1, .int .i64 256, .int .i64 0, .int .i64 0, .int .i64 0, .int .i64 0, .int .i64 0, .int .i64 0, .int .i64 0, .int .i64 0, .int .i64 0, .int .i64 0, .int .i64 0, .int .i64 0, .int .i64 0, .int .i64 0, .int .i64 0, .int .i64 (bn : Int), .int .i64 1, .int .i64 1, .int .i64 (wn : Int), .int .i64 (bn : Int), .int .i64 0, .int .i64 0], .int .i64 0]) ∧ Below w.heap.size w w' :=
  fit_ok 1 256 0 0 0 0 0 0 0 0 0 0 0 0 0 0 0 (bn : Int) 1 1 (wn : Int) (bn : Int) 0 0 c h k n n' (.int .i64 1) (.int .i64 (bn : Int)) (.int .i64 0) (.int .i64 0) (.int .i64 0) (.int .i64 0) (.int .i64 0) (.int .i64 0) (.int .i64 0) (.float .f64 0) (.slice wo wn wc) (.slice bo bn bc) (.slice none 0 0) (.slice none 0 0) w (fun w => formDense_any (bn : Int) 0 0 0 0 0 0 0 0 (.slice wo wn wc) (.slice bo bn bc) (.slice none 0 0) (.slice none 0 0) c h k n (wn : Int) hs hp w) (fun w => fields_ok 1 0 0 0 0 0 0 0 256 0 0 0 0 0 0 0 (bn : Int) 0 0 0 0 0 0 0 (bn : Int) 1 1 (wn : Int) (bn : Int) 0 0 1 (.slice wo wn wc) (.slice bo bn bc) (.slice none 0 0) (.slice none 0 0) ⟨by omega, by omega⟩ ⟨Int.le_refl _, Int.le_refl _⟩ ⟨Int.le_refl _, Int.le_refl _⟩ ⟨Int.le_refl _, Int.le_refl _⟩ ⟨Int.le_refl _, Int.le_refl _⟩ ⟨Int.le_refl _, Int.le_refl _⟩ ⟨Int.le_refl _, Int.le_refl _⟩ ⟨Int.le_refl _, Int.le_refl _⟩ w) hs ht
theorem denseOut (wo bo : Option Addr) (bn bc wn wc : Nat) (c h k n n' : Int) (hb1 : 1 ≤ bn) (hb2 : bn ≤ 256) (hs : szF [c, h, k] 1 = (n, 0)) (ht : szF [(bn : Int), 1, 1] 1 = (n', 0)) (hp : IntKind.i64.wrap ((bn : Int) * n) = (wn : Int)) (w : World) :
    Calls Tryd.prog 9 #[.agg #[.int .i64 1, .int .i64 (bn : Int), .int .i64 0, .int .i64 0, .int .i64 0, .int .i64 0, .int .i64 0, .int .i64 0, .int .i64 0, .float .f64 0, .slice wo wn wc, .slice bo bn bc, .slice none 0 0, .slice none 0 0], .agg #[.int .i64 c, .int .i64 h, .int .i64 k]] w fun e w' => e = .returned (.tuple #[.agg #[.int .i64 (bn : Int), .int .i64 1, .int .i64 1], .int .i64 0]) ∧ Below w.heap.size w w' :=
  outOf 1 256 0 0 0 0 0 0 0 0 0 0 0 0 0 0 0 (bn : Int) 1 1 (wn : Int) (bn : Int) 0 0 c h k (.int .i64 1) (.int .i64 (bn : Int)) (.int .i64 0) (.int .i64 0) (.int .i64 0) (.int .i64 0) (.int .i64 0) (.int .i64 0) (.int .i64 0) (.float .f64 0) (.slice wo wn wc) (.slice bo bn bc) (.slice none 0 0) (.slice none 0 0) w (fun w => denseFit wo bo bn bc wn wc c h k n n' hb1 hb2 hs ht hp w)
theorem denseLayer (wo bo : Option Addr) (bn bc wn wc : Nat) (c h k n n' : Int) (hb1 : 1 ≤ bn) (hb2 : bn ≤ 256) (hs : szF [c, h, k] 1 = (n, 0)) (ht : szF [(bn : Int), 1, 1] 1 = (n', 0)) (hp : IntKind.i64.wrap ((bn : Int) * n) = (wn : Int)) (us vs : List Nat) (n1 : numsB us = true) (n2 : numsB vs = true) (w : World) (h1 : RdF w wo wn wc us) (h2 : RdF w bo bn bc vs) :
    Calls Tryd.prog 25 #[.agg #[.int .i64 1, .int .i64 (bn : Int), .int .i64 0, .int .i64 0, .int .i64 0, .int .i64 0, .int .i64 0, .int .i64 0, .int .i64 0, .float .f64 0, .slice wo wn wc, .slice bo bn bc, .slice none 0 0, .slice none 0 0], .agg #[.int .i64 c, .int .i64 h, .int .i64 k]] w fun e w' => e = .returned (.int .i64 0) ∧ Below w.heap.size w w' :=
  layerOf 1 256 0 0 0 0 0 0 0 0 0 0 0 0 0 0 0 (bn : Int) 1 1 (wn : Int) (bn : Int) 0 0 c h k (.int .i64 1) (.int .i64 (bn : Int)) (.int .i64 0) (.int .i64 0) (.int .i64 0) (.int .i64 0) (.int .i64 0) (.int .i64 0) (.int .i64 0) (.float .f64 0) (.slice wo wn wc) (.slice bo bn bc) (.slice none 0 0) (.slice none 0 0) w (fun w => denseFit wo bo bn bc wn wc c h k n n' hb1 hb2 hs ht hp w)
    (fun w' hb => lists_ok 1 256 0 0 0 0 0 0 0 0 0 0 0 0 0 0 0 (bn : Int) 1 1 (.int .i64 1) (.int .i64 (bn : Int)) (.int .i64 0) (.int .i64 0) (.int .i64 0) (.int .i64 0) (.int .i64 0) (.int .i64 0) (.int .i64 0) (.float .f64 0) wo bo none none wn wc bn bc 0 0 us vs w' (h1.later hb) (h2.later hb) n1 n2)
theorem denseNext (wo bo : Option Addr) (bn bc wn wc : Nat) (c h k n n' : Int) (hb1 : 1 ≤ bn) (hb2 : bn ≤ 256) (hs : szF [c, h, k] 1 = (n, 0)) (ht : szF [(bn : Int), 1, 1] 1 = (n', 0)) (hp : IntKind.i64.wrap ((bn : Int) * n) = (wn : Int)) (us vs : List Nat) (n1 : numsB us = true) (n2 : numsB vs = true) (j : Nat) (w : World) (h1 : RdF w wo wn wc us) (h2 : RdF w bo bn bc vs) : NextIs w #[.int .i64 1, .int .i64 (bn : Int), .int .i64 0, .int .i64 0, .int .i64 0, .int .i64 0, .int .i64 0, .int .i64 0, .int .i64 0, .float .f64 0, .slice wo wn wc, .slice bo bn bc, .slice none 0 0, .slice none 0 0] j (c, h, k) (bn : Int) 1 1 0 :=
  fun w' hb so sc s' hr hps => nextOf 1 0 c h k (bn : Int) 1 1 (.int .i64 (bn : Int)) (.int .i64 0) (.int .i64 0) (.int .i64 0) (.int .i64 0) (.int .i64 0) (.int .i64 0) (.float .f64 0) (.slice wo wn wc) (.slice bo bn bc) (.slice none 0 0) (.slice none 0 0) so j sc s' w' hr hps rfl (fun w2 hb2' => denseLayer wo bo bn bc wn wc c h k n n' hb1 hb2 hs ht hp us vs n1 n2 w2 (h1.later (to_call hb hb2')) (h2.later (to_call hb hb2'))) (fun w2 _ => denseOut wo bo bn bc wn wc c h k n n' hb1 hb2 hs ht hp w2)
theorem denseWeight (wo bo : Option Addr) (bn bc wn wc : Nat) (hw : wn ≤ 1000000000) (hb : bn ≤ 1000000000) (w : World) : WeightIs w #[.int .i64 1, .int .i64 (bn : Int), .int .i64 0, .int .i64 0, .int .i64 0, .int .i64 0, .int .i64 0, .int .i64 0, .int .i64 0, .float .f64 0, .slice wo wn wc, .slice bo bn bc, .slice none 0 0, .slice none 0 0] ((wn : Int) + (bn : Int)) :=
  fun w' _ => weightsOf_any (.int .i64 1) (.int .i64 (bn : Int)) (.int .i64 0) (.int .i64 0) (.int .i64 0) (.int .i64 0) (.int .i64 0) (.int .i64 0) (.int .i64 0) (.float .f64 0) wo bo none none wn wc bn bc 0 0 hw hb w'
/-- Noughts are numbers. -/
theorem numsB_zero (n : Nat) : numsB (List.replicate n 0) = true := by
  unfold numsB
  rw [List.all_eq_true]
  intro u hu
  rw [List.mem_replicate] at hu
  rw [hu.2]
  decide
set_option maxRecDepth 100000 in
/-- More than 64 layers. -/
theorem shapesLong (c h k nIn : Int) (lo no : Option Addr) (n lc m nc : Nat) (hsz : szF [c, h, k] 1 = (nIn, 0)) (hn : 64 < n) (hn2 : n ≤ 1000000) (w : World) :
    Calls Tryd.prog 11 #[.agg #[.int .i64 c, .int .i64 h, .int .i64 k, .slice lo n lc, .slice no m nc]] w fun e w' => (∃ v, e = .returned (.tuple #[v, .int .i64 65, .int .i64 0])) ∧ Below w.heap.size w w' := by
  have HS : Hid (∀ w, Calls Tryd.prog 5 #[.agg #[.int .i64 c, .int .i64 h, .int .i64 k]] w fun e w' => e = .returned (.tuple #[.int .i64 nIn, .int .i64 0]) ∧ Below w.heap.size w w') := fun w => size_of hsz w
  have hd64 : decide (64 < (n : Int)) = true := decide_eq_true (by omega)
  have hd64' : decide (64 < n) = true := decide_eq_true (by omega)
  clear hsz
  go_enter Tryd.func11, Tryd.ntmps11
  go_wp2_with fail
  refine Calls.mono (HS.out _) ?_
  rintro e w1 ⟨rfl, hb⟩
  have HB1 : Hid (Below w.heap.size w w1) := to_call ((Below.refl _ w).alloc (Nat.le_refl _) _) hb
  have k0 := kept hb (heap_alloc_new w _)
  obtain ⟨a0, a1, a2, a3, a4⟩ := cells5 k0
  clear hb HS k0
  go_wp2
  go_ret3
  exact ⟨⟨_, rfl⟩, HB1.out⟩
end Go.Proofs.YtogpkigpnflaoaaDoor
