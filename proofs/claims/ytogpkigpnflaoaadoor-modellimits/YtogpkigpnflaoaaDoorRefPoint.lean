import Derived.Test.YtogpkigpnflaoaaDoorRunesA
import Derived.Test.YtogpkigpnflaoaaDoorMem
namespace Go.Proofs.YtogpkigpnflaoaaDoor
open Go.RowKit
set_option linter.unusedVariables false

/-- The byte at a place (0 behind the end). -/
def by' (s : ByteArray) (i : Nat) : Nat := (s.get! i).toNat
def lowV (s : ByteArray) (i : Nat) : Int := if i < s.size ∧ 128 ≤ by' s i ∧ by' s i ≤ 191 then (by' s i : Int) - 128 else -1099511627776

/-- The form of a code point. -/
def ptB (p : Int) : List Int :=
  if p < 0 ∨ 1114111 < p ∨ (55296 ≤ p ∧ p ≤ 57343) then []
  else if p < 128 then [p]
  else if p < 2048 then [192 + p / 64, 128 + p % 64]
  else if p < 65536 then [224 + p / 4096, 128 + p / 64 % 64, 128 + p % 64]
  else [240 + p / 262144, 128 + p / 4096 % 64, 128 + p / 64 % 64, 128 + p % 64]
theorem ptB_byt (p : Int) : Byt (ptB p) := by
  unfold ptB
  repeat' split
  all_goals first | exact Byt.nil | (intro x hx; simp only [List.mem_cons, List.mem_nil_iff, or_false] at hx; omega)

theorem by'_eq (s : ByteArray) (i : Nat) (h : i < s.size) : by' s i = (s[i]'h).toNat := by
  have e : s.get! i = s[i]'h := by
    simp [ByteArray.get!, getElem!_pos, h]
    rfl
  unfold by'
  rw [e]
theorem lowV_none (s : ByteArray) (i : Nat) (h : s.size ≤ i ∨ by' s i < 128 ∨ 191 < by' s i) : lowV s i = -1099511627776 := by
  unfold lowV; rw [if_neg (by omega)]
theorem lowV_some (s : ByteArray) (i : Nat) (h : i < s.size) (h1 : 128 ≤ by' s i) (h2 : by' s i ≤ 191) : lowV s i = (by' s i : Int) - 128 := by
  unfold lowV; rw [if_pos ⟨h, h1, h2⟩]
end Go.Proofs.YtogpkigpnflaoaaDoor
