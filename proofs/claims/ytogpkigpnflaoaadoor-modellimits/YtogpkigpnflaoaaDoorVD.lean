import Derived.Test.YtogpkigpnflaoaaDoorVC
namespace Go.Proofs.YtogpkigpnflaoaaDoor
open Go.RowKit
set_option linter.unusedVariables false

def uV (us : List Nat) : List Value := us.map fun (u : Nat) => Value.int .u64 (u : Int)
theorem uV_len (us : List Nat) : (uV us).length = us.length := by simp [uV]
theorem uV_snoc (us : List Nat) (u : Nat) : uV (us ++ [u]) = uV us ++ [.int .u64 (u : Int)] := by simp [uV]
theorem uV_at (us : List Nat) (j : Nat) (h : j < us.length) : (uV us)[j]? = some (.int .u64 ((us[j]?.getD 0 : Nat) : Int)) := by
  simp [uV, List.getElem?_eq_getElem h]
/-- A row of bits that the call made. -/
def OwnUi (w : World) (base : Nat) (v : Value) (us : List Nat) : Prop := w.ownsRow base 78 1 v (uV us).length (uV us)
theorem OwnUi.nil (w : World) (base : Nat) : OwnUi w base (.slice none 0 0) [] := World.ownsRow_nil w base _ 1
theorem OwnUi.keep {w w' : World} {base : Nat} {v : Value} {us : List Nat} (h : OwnUi w base v us) (hb : ∀ k, k < w.heap.size → (∀ cur, w.heap[k]? = some (.cells cur 78) → w'.heap[k]? = w.heap[k]?)) : OwnUi w' base v us := by
  refine ⟨h.1, ?_⟩
  rcases h.2 with h2 | ⟨g, cap, cur, hv, hg, hh, r⟩
  · exact .inl h2
  · exact .inr ⟨g, cap, cur, hv, hg, (hb g (Array.getElem?_eq_some_iff.1 hh).1 cur hh).trans hh, r⟩
theorem OwnUi.later {w w' : World} {base : Nat} {v : Value} {us : List Nat} (h : OwnUi w base v us) (hb : Below w.heap.size w w') : OwnUi w' base v us := h.keep fun k hk _ _ => hb.block k hk
theorem OwnUi.mono {w : World} {base b : Nat} {v : Value} {us : List Nat} (h : OwnUi w base v us) (hb : b ≤ base) : OwnUi w b v us := by
  refine ⟨h.1, ?_⟩
  rcases h.2 with h2 | ⟨g, cap, cur, hv, hg, r⟩
  · exact .inl h2
  · exact .inr ⟨g, cap, cur, hv, by omega, r⟩
/-- THE SLICE OF uint64 '.slice ao len cap' READS AS us. -/
structure RdU (w : World) (ao : Option Addr) (len cap : Nat) (us : List Nat) : Prop where
  length : us.length = len
  max : len ≤ maxLen
  cells : len = 0 ∨ ∃ b off, ao = some ⟨b, off, none⟩ ∧ ∀ j, j < len → w.cell? ⟨b, off + j, none⟩ = some (.int .u64 ((us[j]?.getD 0 : Nat) : Int))
theorem RdU.later {w w' : World} {ao : Option Addr} {len cap : Nat} {us : List Nat} (h : RdU w ao len cap us) (hb : Below w.heap.size w w') : RdU w' ao len cap us := by
  refine ⟨h.length, h.max, ?_⟩
  rcases h.cells with h0 | ⟨b, off, ha, hc⟩
  · exact .inl h0
  · refine .inr ⟨b, off, ha, fun j hj => ?_⟩
    have hlt := World.block_lt_of_cell? w _ (hc j hj)
    rw [hb.cell (p := ⟨b, off + j, none⟩) hlt]
    exact hc j hj
theorem OwnUi.rd {w : World} {base : Nat} {v : Value} {us : List Nat} (h : OwnUi w base v us) (hm : us.length ≤ 1000) : ∃ ao cap, v = .slice ao us.length cap ∧ RdU w ao us.length cap us := by
  have h' := h
  unfold OwnUi at h'
  rw [uV_len] at h'
  rcases h'.2 with ⟨rfl, h0⟩ | ⟨g, cap, cur, rfl, hg, hh, r⟩
  · exact ⟨none, 0, by rw [h0], rfl, by simp only [maxLen]; omega, .inl h0⟩
  · refine ⟨_, cap, rfl, rfl, by simp only [maxLen]; omega, .inr ⟨g, 0, rfl, fun j hj => ?_⟩⟩
    have := World.ownsRow.cells h' (g := g) rfl j _ (uV_at us j hj)
    rw [Addr.add_lit] at this
    exact this
theorem take_snoc' {us : List Nat} {k : Nat} (h : k < us.length) : us.take (k + 1) = us.take k ++ [us[k]?.getD 0] := by
  rw [List.take_succ_eq_append_getElem h, List.getElem?_eq_getElem h]; rfl
theorem OwnUi.sl {w : World} {base : Nat} {v : Value} {us : List Nat} (h : OwnUi w base v us) : ∃ ao n cap, v = .slice ao n cap := by
  rcases h.2 with ⟨rfl, h0⟩ | ⟨g, cap, cur, rfl, _⟩
  · exact ⟨none, 0, 0, rfl⟩
  · exact ⟨_, _, cap, rfl⟩
end Go.Proofs.YtogpkigpnflaoaaDoor
