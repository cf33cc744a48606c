import Derived.Test.YtoehhnildocihaaSPp
namespace Go.Proofs.Ytoehhnildocihaa
open Go.RowKit
set_option linter.unusedVariables false
set_option linter.unusedSimpArgs false
theorem RgV.stored {W W' : World} {base P n B1 B2 b : Nat} {ls bs : List Int} {c : Array Value} (h : RgV W base P n B1 B2 ls bs) (hb : W.heap[b]? = some (.cells c 30)) (hne : P ≠ b) (ho : ∀ k, k ≠ b → W'.heap[k]? = W.heap[k]?) : RgV W' base P n B1 B2 ls bs := ⟨(ho P hne).trans h.v, h.r.stored hb ho, h.g⟩
theorem by_key {F G : Nat → Nat → Option Addr → Option Addr → Option Addr → Option Addr → Nat → World → Prop} {goal : Prop} (main : (∀ b c a1 a2 a3 a4 N W, F b c a1 a2 a3 a4 N W → G b c a1 a2 a3 a4 N W) → goal) (pf : ∀ b c a1 a2 a3 a4 N W, F b c a1 a2 a3 a4 N W → G b c a1 a2 a3 a4 N W) : goal := main pf
theorem RgO.monoB {W : World} {base base' B1 B2 : Nat} {ls bs : List Int} (h : RgO W base B1 B2 ls bs) (hb : base' ≤ base) : RgO W base' B1 B2 ls bs := ⟨Nat.le_trans hb h.b1, Nat.le_trans hb h.b2, h.ne, h.l, h.a⟩
theorem HvX.mono {W : World} {base base' n : Nat} {ls bs : List Int} {s : Int} {a1 a2 a3 a4 : Option Addr} {N : Nat} (h : HvX W base n ls bs s a1 a2 a3 a4 N) (hb : base' ≤ base) : HvX W base' n ls bs s a1 a2 a3 a4 N := by
  refine ⟨fun h0 => ?_, h.bad⟩
  obtain ⟨e, B1, B2, C1, C2, e1, e2, e3, e4, r1, r2, o⟩ := h.ok h0
  exact ⟨e, B1, B2, C1, C2, e1, e2, e3, e4, r1.monoB hb, r2.monoB hb, o⟩
end Go.Proofs.Ytoehhnildocihaa
