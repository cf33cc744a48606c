import Derived.Test.YtfldgjkpkmnkbabDoorCrcMath
namespace Go.Proofs.YtfldgjkpkmnkbabDoor
/-! 1 does not come back within 163840 bits: by the kernel's own arithmetic. -/
theorem run_17 : run? 17 1 ≠ 0 := by decide +kernel
theorem run_15 : run? 15 (run? 17 1) ≠ 0 := by decide +kernel
theorem no_return (k : Nat) (h0 : 0 < k) (h1 : k ≤ 163840) : stpN k 1 ≠ 1 := by
  obtain ⟨e1, n1⟩ := run?_ok 17 1 run_17
  obtain ⟨e2, n2⟩ := run?_ok 15 _ run_15
  by_cases h : k ≤ 2 ^ 17
  · exact n1 k h0 h
  · have := n2 (k - 2 ^ 17) (by omega) (by have : (2 : Nat) ^ 17 = 131072 := rfl; have : (2 : Nat) ^ 15 = 32768 := rfl; omega)
    rw [e1, ← stpN_add, show 2 ^ 17 + (k - 2 ^ 17) = k from by omega] at this
    exact this
end Go.Proofs.YtfldgjkpkmnkbabDoor
