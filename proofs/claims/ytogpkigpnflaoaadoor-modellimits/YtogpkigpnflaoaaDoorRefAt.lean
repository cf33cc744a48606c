import Derived.Test.YtogpkigpnflaoaaDoorRefPoint
import Derived.Test.YtogpkigpnflaoaaDoorStr
import Derived.Deep.QuietTactic
import Derived.BigQuiet
namespace Go.Proofs.YtogpkigpnflaoaaDoor
open Go.RowKit
set_option linter.unusedVariables false

def atRes (s : ByteArray) (i : Nat) (p : Int) (n : Nat) : Int × Int := if i + n ≤ s.size ∧ (ptB p).length = n ∧ strB (ptB p) = s.extract i (i + n) then (p, (n : Int)) else (0, 0)
def atV (r : Int × Int) : Value := .tuple #[.int .i64 r.1, .int .i64 r.2]
theorem atRes_short (s : ByteArray) (i : Nat) (p : Int) (n : Nat) (h : s.size < i + n) : atRes s i p n = (0, 0) := by
  unfold atRes; rw [if_neg (by omega)]
theorem atRes_len (s : ByteArray) (i : Nat) (p : Int) (n : Nat) (h : (ptB p).length ≠ n) : atRes s i p n = (0, 0) := by
  unfold atRes; rw [if_neg (fun k => h k.2.1)]
theorem atRes_ne (s : ByteArray) (i : Nat) (p : Int) (n : Nat) (h : strB (ptB p) ≠ s.extract i (i + n)) : atRes s i p n = (0, 0) := by
  unfold atRes; rw [if_neg (fun k => h k.2.2)]
theorem atRes_eq (s : ByteArray) (i : Nat) (p : Int) (n : Nat) (h : i + n ≤ s.size) (h1 : (ptB p).length = n) (h2 : strB (ptB p) = s.extract i (i + n)) : atRes s i p n = (p, (n : Int)) := by
  unfold atRes; rw [if_pos ⟨h, h1, h2⟩]
theorem toList_ne {a b : ByteArray} (h : a ≠ b) : (a.toList == b.toList) = false := by
  rw [beq_eq_false_iff_ne, ByteArray.toList_eq, ByteArray.toList_eq]
  intro k
  apply h
  cases a; cases b
  exact congrArg ByteArray.mk (Array.toList_inj.1 k)
theorem lowV_ge (s : ByteArray) (i : Nat) : -1099511627776 ≤ lowV s i ∧ lowV s i ≤ 63 := by
  unfold lowV; split <;> omega
end Go.Proofs.YtogpkigpnflaoaaDoor
