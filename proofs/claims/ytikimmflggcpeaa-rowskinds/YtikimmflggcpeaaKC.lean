import Derived.Test.YtikimmflggcpeaaKB
namespace Go.Proofs.Ytikimmflggcpeaa
open Go.RowKit
set_option linter.unusedVariables false

/-- THE SLICE OF SLICES OF FLOATS READS AS uss. -/
structure RdLL (w : World) (ao : Option Addr) (len cap : Nat) (uss : List (List Nat)) : Prop where
  length : uss.length = len
  max : len ≤ maxLen
  cells : len = 0 ∨ ∃ b off, ao = some ⟨b, off, none⟩ ∧ ∀ j, j < len → ∃ aj lj cj, w.cell? ⟨b, off + j, none⟩ = some (.slice aj lj cj) ∧ RdF w aj lj cj (uss[j]?.getD [])
theorem RdLL.later {w w' : World} {ao : Option Addr} {len cap : Nat} {uss : List (List Nat)} (h : RdLL w ao len cap uss) (hb : Below w.heap.size w w') : RdLL w' ao len cap uss := by
  refine ⟨h.length, h.max, ?_⟩
  rcases h.cells with h0 | ⟨b, off, ha, hc⟩
  · exact .inl h0
  · refine .inr ⟨b, off, ha, fun j hj => ?_⟩
    obtain ⟨aj, lj, cj, h1, h2⟩ := hc j hj
    refine ⟨aj, lj, cj, ?_, h2.later hb⟩
    have hlt := World.block_lt_of_cell? w _ h1
    rw [hb.cell (p := ⟨b, off + j, none⟩) hlt]
    exact h1
theorem RdLL.nil (w : World) (cap : Nat) : RdLL w none 0 cap [] := ⟨rfl, Nat.zero_le _, .inl rfl⟩
def eachF : List (List Nat) → Int → Nat → Int × Int
  | [], _, _ => (0, 0)
  | us :: r, n, i => if listE us n ≠ 0 then (listE us n, (i : Int)) else eachF r n (i + 1)
theorem eachF_drop (uss : List (List Nat)) (n : Int) {k : Nat} (h : k < uss.length) : eachF (uss.drop k) n k = if listE (uss[k]?.getD []) n ≠ 0 then (listE (uss[k]?.getD []) n, (k : Int)) else eachF (uss.drop (k + 1)) n (k + 1) := by
  rw [List.drop_eq_getElem_cons h, List.getElem?_eq_getElem h]
  rfl
theorem listE_range (us : List Nat) (n : Int) : listE us n = 0 ∨ listE us n = 63 ∨ listE us n = 64 := by unfold listE; repeat' split <;> simp_all
def inB (a n b : Int) : Bool := decide (a ≤ n) && decide (n ≤ b)
def budE (K D L : Int) : Int := if inB 1 K 8 && inB 0 D 8 && inB 1 L 1024 then 0 else 69
theorem holds_in (a b n : Int) (w : World) :
    Calls Try.prog 59 #[.agg #[.int .i64 a, .int .i64 b], .int .i64 n] w fun e w' => e = .returned (.bool (inB a n b)) ∧ Below w.heap.size w w' := holds_any a b n w
end Go.Proofs.Ytikimmflggcpeaa
