import Derived.Test.YtoehhnildocihaaSPn
namespace Go.Proofs.Ytoehhnildocihaa
open Go.RowKit
set_option linter.unusedVariables false
set_option linter.unusedSimpArgs false
/-- A list of ints, told in a block of its own. -/
def OwI (W : World) (base : Nat) (v : Value) (is : List Int) : Prop := W.ownsRow base 3 1 v is.length (is.map (Value.int .i64))
theorem OwI.nil (W : World) (base : Nat) : OwI W base (.slice none 0 0) [] := World.ownsRow_nil _ _ _ _
theorem OwI.later {W W' : World} {base : Nat} {v : Value} {is : List Int} (h : OwI W base v is) (hb : Below W.heap.size W W') : OwI W' base v is := owns_keep h fun k hk => hb.block k (World.ownsRow.lt h k hk).2
theorem OwI.mono {W : World} {base base' : Nat} {v : Value} {is : List Int} (h : OwI W base v is) (hb : base' ≤ base) : OwI W base' v is := owns_monoJ h hb
theorem OwI.rd {W : World} {base : Nat} {v : Value} {is : List Int} (h : OwI W base v is) : ∃ ao c, v = .slice ao is.length c ∧ RdIs W ao is.length c is := by
  obtain ⟨ao, cap, hv, hm, hc⟩ := owns_slice h
  refine ⟨ao, cap, hv, rfl, hm, ?_⟩
  rcases hc with h0 | ⟨g, hg, hc⟩
  · exact .inl h0
  · refine .inr ⟨g, 0, hg, fun j hj => ?_⟩
    rw [Nat.zero_add, hc j hj, List.getElem?_map, List.getElem?_eq_getElem hj]
    rfl
theorem OwI.push {W : World} {base : Nat} {v : Value} {is : List Int} {x : Int} (h : W.ownsRow base 3 1 v (is.map (Value.int .i64) ++ [Value.int .i64 x]).length (is.map (Value.int .i64) ++ [Value.int .i64 x])) : OwI W base v (is ++ [x]) := by
  unfold OwI
  rw [List.map_append]
  simpa using h
end Go.Proofs.Ytoehhnildocihaa
