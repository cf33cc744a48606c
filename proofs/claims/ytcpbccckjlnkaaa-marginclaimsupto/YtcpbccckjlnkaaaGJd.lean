import Derived.Test.YtcpbccckjlnkaaaGJc
namespace Go.Proofs.Ytcpbccckjlnkaaa
open Go.RowKit Go.Shelf
set_option linter.unusedVariables false
set_option linter.unusedSimpArgs false

end Go.Proofs.Ytcpbccckjlnkaaa


namespace Go.Proofs.Ytcpbccckjlnkaaa
open Go.RowKit Go.Shelf
set_option linter.unusedVariables false
set_option linter.unusedSimpArgs false

end Go.Proofs.Ytcpbccckjlnkaaa


namespace Go.Proofs.Ytcpbccckjlnkaaa
open Go.RowKit Go.Shelf
set_option linter.unusedVariables false
set_option linter.unusedSimpArgs false

end Go.Proofs.Ytcpbccckjlnkaaa


namespace Go.Proofs.Ytcpbccckjlnkaaa
open Go.RowKit Go.Shelf
set_option linter.unusedVariables false
set_option linter.unusedSimpArgs false

theorem wpList_load_rowG {P : Program} {ops : Array Oper} {rest : List Oper} {op : Oper} {a : Act} {w : World} {Q : Exit → Act → World → Prop} (hgd : Region.wanted op (yielded ops a.tmps) = true) (ty : TypeId) (x : Operand) (ho : op.op = .load ty x)
    (B : Nat) (c : Array Value) (hx : a.eval x = .pointer (some ⟨B, 0, none⟩)) (hB : w.heap[B]? = some (.cells c ty)) (d : TypeDesc) (hu : P.underlying ty = some d) (hd : d.isRow = true)
    (n : Nat) (hi : (P.info? ty).map (·.size) = some n) (hn : c.size = n)
    (h : wpList P ops Q rest (a.put op.dst (.agg c)) w) : wpList P ops Q (op :: rest) a w := by
  have hr : w.rangeAt B 0 c.toList := by
    have := World.rangeAt_of_block hB 0 c.size
    simpa using this
  refine wpList_step fun K hK => ?_
  rw [if_pos hgd]
  refine wp_load_mid ty x ho B 0 hx c.toList d hr hu hd (by simpa [hn] using hi) ?_
  refine hK _ _ ?_
  simpa using h
end Go.Proofs.Ytcpbccckjlnkaaa


namespace Go.Proofs.Ytcpbccckjlnkaaa
open Go.RowKit Go.Shelf
set_option linter.unusedVariables false
set_option linter.unusedSimpArgs false

theorem rdF2 {W : World} {B x y : Nat} {t : TypeId} (h : W.heap[B]? = some (.cells #[.float .f64 x, .float .f64 y] t)) (hx : x < 18446744073709551616) (hy : y < 18446744073709551616) : RdF W (some ⟨B, 0, none⟩) 2 2 [x, y] := by
  refine ⟨rfl, by decide, fun u hu => ?_, .inr ⟨B, 0, rfl, fun j hj => ?_⟩⟩
  · simp only [List.mem_cons, List.not_mem_nil, or_false] at hu
    rcases hu with rfl | rfl <;> assumption
  · match j, hj with
    | 0, _ => exact cellAtJ h 0 _ rfl
    | 1, _ => exact cellAtJ h 1 _ rfl
theorem rdG2 {W : World} {B : Nat} {p q : Option Addr × Nat × Nat} {us vs : List Nat} {t : TypeId} (h : W.heap[B]? = some (.cells #[.slice p.1 p.2.1 p.2.2, .slice q.1 q.2.1 q.2.2] t)) (hp : RdF W p.1 p.2.1 p.2.2 us) (hq : RdF W q.1 q.2.1 q.2.2 vs) : RdGs W (some ⟨B, 0, none⟩) 2 2 (fun j => if j = 0 then p else q) [us, vs] := by
  refine ⟨rfl, by decide, .inr ⟨B, 0, rfl, fun j hj => ?_⟩, fun j hj => ?_⟩
  · match j, hj with
    | 0, _ => exact cellAtJ h 0 _ rfl
    | 1, _ => exact cellAtJ h 1 _ rfl
  · match j, hj with
    | 0, _ => exact hp
    | 1, _ => exact hq
end Go.Proofs.Ytcpbccckjlnkaaa


namespace Go.Proofs.Ytcpbccckjlnkaaa
open Go.RowKit Go.Shelf
set_option linter.unusedVariables false
set_option linter.unusedSimpArgs false

end Go.Proofs.Ytcpbccckjlnkaaa

