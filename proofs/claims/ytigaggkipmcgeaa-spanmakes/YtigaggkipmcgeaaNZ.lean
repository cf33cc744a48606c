import Derived.Test.YtigaggkipmcgeaaNZa
import Derived.Test.YtigaggkipmcgeaaNK
namespace Go.Proofs.Ytigaggkipmcgeaa
open Go.RowKit
set_option linter.unusedVariables false

def RoundZ (d z : Int) (D : Nat) (w : World) (e' : Ending) (w' : World) : Prop := ∃ (a : Nat) (b : Bool), e' = .returned (.tuple #[.int .u64 (a : Int), .bool b]) ∧ RndZ d z D (a, b) ∧ Below w.heap.size w w'
theorem roundZ_any (d : Int) (v : Value) (s k : Nat) (T z : Int) (w : World) (h : NumZ w v s T z) (E : Nat) (hE : E = 1074) (hs : s = E + k) (hs2 : s ≤ 4000) (hT : 0 ≤ T ∧ T ≤ 4000) (hd0 : -9223372036854775808 ≤ d) (hd1 : d ≤ 9223372036854775807) :
    Calls Try.prog 75 #[.int .i64 d, v] w fun e' w' => RoundZ d z (2 ^ k) w e' w' := by
  obtain ⟨neg, m, e, h1, h2, h3, h4⟩ := h
  refine (round_any d v neg m e w h1 (by omega) (by omega) hd0 hd1).mono ?_
  rintro e' w' ⟨a, b, rfl, hR, hB⟩
  refine ⟨a, b, rfl, ?_, hB⟩
  have hz := zv_abs s neg m e
  rw [h4] at hz
  refine Rnd.toZ (g := neg) ?_ ?_
  · rw [hz]
    refine hR.of_eq (Nat.two_pow_pos _) ?_
    unfold nume deno
    rw [Nat.mul_assoc, Nat.mul_assoc, ← Nat.pow_add, ← Nat.pow_add]
    congr 2; omega
  · intro hne
    rw [← h4] at hne ⊢
    exact zv_lt hne
end Go.Proofs.Ytigaggkipmcgeaa
