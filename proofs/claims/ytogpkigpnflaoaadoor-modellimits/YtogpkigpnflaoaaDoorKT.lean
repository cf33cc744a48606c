import Derived.Test.YtogpkigpnflaoaaDoorKS
import Derived.Laws.MakeOwn
namespace Go.Proofs.YtogpkigpnflaoaaDoor
open Go.RowKit
set_option linter.unusedVariables false

/-- The cells of n noughts. -/
def flN (n : Nat) : Array Value := madeCells #[.float .f64 0] n
theorem flN_at (n j : Nat) (h : j < n) : (flN n)[j]? = some (.float .f64 0) := by
  unfold flN madeCells
  simp [h, Nat.mod_one]
theorem makeF (n : Nat) (hn : n ≤ 1000000) (w : World) :
    (Instr.makeSlice 30 (.int .i64 (n : Int)) (.int .i64 (n : Int))).run Tryd.prog w = .ok (.slice (some ⟨w.heap.size, 0, none⟩) n n) (w.alloc (.cells (flN n) 29)) := by
  obtain ⟨i0, hi, hz0, hz1, hz2⟩ := info3 Tryd.infoF
  have h := run_makeSlice (P := Tryd.prog) w 30 29 i0 (.float .f64 0) Tryd.underlying30 hi hz0 .i64 .i64 (n : Int) (n : Int) (by omega) (by omega) (by rw [hz1, Int.toNat_natCast]; omega) (by rw [hz2]; omega) (by omega)
  rw [Int.toNat_natCast, hz1, Nat.mul_one] at h
  exact h
/-- A row of noughts. -/
theorem rdF_zero {w : World} {B n : Nat} (hn : n ≤ 1000000) (h : w.heap[B]? = some (.cells (flN n) 29)) : RdF w (some ⟨B, 0, none⟩) n n (List.replicate n 0) := by
  refine ⟨by simp, by simp only [maxLen]; omega, fun u hu => by rw [List.mem_replicate] at hu; omega, .inr ⟨B, 0, rfl, fun j hj => ?_⟩⟩
  rw [Nat.zero_add, cell_of_row _ B j _ _ _ h, flN_at n j hj]
  simp [hj]
end Go.Proofs.YtogpkigpnflaoaaDoor
