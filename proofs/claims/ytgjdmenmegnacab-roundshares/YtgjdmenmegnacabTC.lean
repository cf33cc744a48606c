import Derived.Test.YtgjdmenmegnacabTB
namespace Go.Proofs.Ytgjdmenmegnacab
open Go.RowKit
set_option linter.unusedVariables false

/-- One of the three calls, as the law turns any int into it. -/
theorem callOf_is (n : Int) : wrap64 (1 + (wrap64 (n.tmod 3 + 3)).tmod 3) = 1 ∨ wrap64 (1 + (wrap64 (n.tmod 3 + 3)).tmod 3) = 2 ∨ wrap64 (1 + (wrap64 (n.tmod 3 + 3)).tmod 3) = 3 := by
  have h1 : -3 < n.tmod 3 := Int.lt_tmod_of_pos n (by decide)
  have h2 : n.tmod 3 < 3 := Int.tmod_lt_of_pos n (by decide)
  have h3 : wrap64 (n.tmod 3 + 3) = n.tmod 3 + 3 := by unfold wrap64; omega
  rw [h3, Int.tmod_eq_emod_of_nonneg (show 0 ≤ n.tmod 3 + 3 by omega)]
  unfold wrap64
  omega
theorem fle_true {p q : Nat} (hp : Fin p) (hq : Fin q) (h : srung p ≤ srung q) : (FloatKind.f64.format.order p q == some .lt || FloatKind.f64.format.order p q == some .eq) = true := by
  rw [f64_fmt, ord_le]; exact decide_eq_true ⟨Nat.le_of_lt hp, Nat.le_of_lt hq, h⟩
/-- What the answers of two calls are to each other. -/
theorem rises_of {c1 c2 d : Int} {E a b e f : Nat} {p q : Nat × Bool} (h1 : RndZ d (exactX c1 E a b) (2 ^ E) p) (h2 : RndZ d (exactX c2 E e f) (2 ^ E) q) (hp : p.2 = true) (hq : q.2 = true) :
    (sgi (exactX c1 E a b - exactX c2 E e f) ≤ 0 → (FloatKind.f64.format.order p.1 q.1 == some .lt || FloatKind.f64.format.order p.1 q.1 == some .eq) = true) ∧ (0 < sgi (exactX c1 E a b - exactX c2 E e f) → (FloatKind.f64.format.order q.1 p.1 == some .lt || FloatKind.f64.format.order q.1 p.1 == some .eq) = true) := by
  have f1 := rndZ_fin h1
  have f2 := rndZ_fin h2
  refine ⟨fun h => fle_true f1.1 f2.1 (rz_rises (Nat.two_pow_pos E) h1 h2 hp hq ?_), fun h => fle_true f2.1 f1.1 (rz_rises (Nat.two_pow_pos E) h2 h1 hq hp ?_)⟩
  · unfold sgi at h; split at h
    · omega
    · split at h <;> omega
  · unfold sgi at h; split at h
    · omega
    · split at h <;> omega
end Go.Proofs.Ytgjdmenmegnacab
