import Derived.Test.YtfldgjkpkmnkbaaDoorFrame
import Derived.Deep.OwnRows
import Derived.Laws.AppendOwn
import Derived.OwnWalk
namespace Go.Proofs.YtfldgjkpkmnkbaaDoor
open Go.RowKit
set_option linter.unusedVariables false

theorem made_rep (n : Nat) : madeCells #[Value.int .u8 0] n = ((List.replicate n (0 : Int)).map (Value.int .u8)).toArray := by
  apply Array.ext
  · simp [madeCells]
  · intro i h1 h2
    simp [madeCells, Nat.mod_one]
theorem byt_rep (n : Nat) : Byt (List.replicate n 0) := by
  intro x hx
  obtain ⟨_, rfl⟩ := List.mem_replicate.1 hx
  omega
/-- make([]byte, n) -/
theorem Rd.made (w : World) (n : Nat) (h : n ≤ 9223372036854775807) : Rd (w.alloc (.cells (madeCells #[Value.int .u8 0] n) 5)) (some ⟨w.heap.size, 0, none⟩) n n (List.replicate n 0) := by
  refine ⟨by simp, Nat.le_refl _, h, byt_rep n, (fun h => by cases h), ?_⟩
  refine .inr ⟨_, _, rfl, fun j hj => ?_⟩
  rw [Nat.zero_add, cell_of_row _ w.heap.size j _ _ _ (heap_alloc_new w _), made_rep]
  simp [hj]

/-- append(l, make([]byte, 20)...) of eight bytes that fill their room. -/
theorem run_append_made (w : World) (ty : TypeId) (b : Addr) (olds : List Value) (hlo : olds.length = 8) (holds : ∀ j v, olds[j]? = some v → w.cell? (b.add j) = some v) :
    (Builtin.append_ #[33, 3] ty #[.slice (some b) 8 8, .int .i64 20]).run Tryd.prog w =
      .ok (.slice (some ⟨w.heap.size, 0, none⟩) 28 (grownCap w 28 8 5))
        (w.drew.alloc (.cells (olds.toArray ++ Builtin.zeroCells #[.int .u8 0] 20 ++ Builtin.zeroCells #[.int .u8 0] (grownCap w 28 8 5 - 28)) 5)) := by
  obtain ⟨i0, hi, hz0, hz1, hz2⟩ := info_parts Tryd.infoByte
  have hw : IntKind.i64.wrap 20 = 20 := by decide
  have hfo := run_firstCells_some (P := Tryd.prog) w.drew 1 8 b 8 8 olds (by omega) (by simpa using holds)
  have hcap : Builtin.nextslicecap 28 8 = 28 := by decide
  have hcl : (Value.int .u8 0).cells = #[Value.int .u8 0] := rfl
  simp [Builtin.append_, run_underlying Tryd.underlying33, run_underlying Tryd.underlying3, sizeOf, typeInfo, zeroValue, hi, hz0, hz1, hz2, asInt, asIntOf, hw, hcap, Question.forced, hfo, newRow, grownCap, hcl]
  intro h
  exact absurd h (by decide)

theorem zero_rep (n : Nat) : Builtin.zeroCells #[Value.int .u8 0] n = ((List.replicate n (0 : Int)).map (Value.int .u8)).toArray := by
  apply Array.ext
  · simp [Builtin.zeroCells]
  · intro i h1 h2
    simp [Builtin.zeroCells, Nat.mod_one]

theorem append_made {ops : Array Oper} {rest : List Oper} {o : Oper} {a : Act} {Q : Exit → Act → World → Prop} (W : World) (hgd : o.guard = none) (s x : Operand)
    (ho : o.op = .call { callee := .builtin .append, args := #[s, x], argTypes := #[33, 3] }) (hx : a.eval x = .int .i64 20)
    (b off : Nat) (ys : List Int) (hs : a.eval s = .slice (some ⟨b, off, none⟩) 8 8) (hr : Rd W (some ⟨b, off, none⟩) 8 8 ys)
    (h : ∀ v' w', Own w' W.heap.size v' (ys ++ List.replicate 20 0) → Below W.heap.size W w' → wpList Tryd.prog ops Q rest (a.put o.dst v') w') : wpList Tryd.prog ops Q (o :: rest) a W := by
  have hlen := hr.length
  have hge := grownCap_ge W 28 8 5
  have hcm : grownCap W 28 8 5 ≤ maxLen := grownCap_le_maxLen W 28 8 5 (by decide)
  have hrun := run_append_made W o.type ⟨b, off, none⟩ (ys.map (Value.int .u8)) (by simp [hlen]) (fun j v hv => by
    rw [List.getElem?_map] at hv
    have hj : j < ys.length := by
      by_cases hj : j < ys.length
      · exact hj
      · rw [List.getElem?_eq_none (by omega)] at hv; simp at hv
    rcases hr.cells with h0 | ⟨b', off', he, hc⟩
    · omega
    · cases he
      rw [Addr.add_lit, hc j (by omega), List.getElem?_eq_getElem hj]
      rw [List.getElem?_eq_getElem hj] at hv
      simpa using hv)
  refine wpList_plain hgd fun K hK => ?_
  unfold Oper.wp execOp
  simp only [ho, resolve, invoke, builtin, Sem.run_bind, Sem.run_pure, Result.andThen_ok, List.map_toArray, List.map_cons, List.map_nil, hs, hx, hrun]
  refine hK _ _ (h _ _ ⟨by simp [hlen], .inr ⟨W.heap.size, _, _, ?_, Nat.le_refl _, heap_alloc_new W.drew _, ?_, hcm, ?_, ?_⟩⟩ ⟨rfl, rfl, rfl, by simp, fun k hk => Below.heap_alloc W.drew _ k hk⟩)
  · simp [hlen]
  · simp [hlen]; exact hge
  · rw [zero_rep, zero_rep]; simp [hlen]; omega
  · rw [zero_rep, zero_rep]
    simp only [Array.toList_append, List.map_append]
    rw [List.take_left' (by simp [hlen])]
end Go.Proofs.YtfldgjkpkmnkbaaDoor
