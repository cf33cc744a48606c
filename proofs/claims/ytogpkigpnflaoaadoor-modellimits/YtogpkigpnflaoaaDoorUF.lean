import Derived.Test.YtogpkigpnflaoaaDoorUE
namespace Go.Proofs.YtogpkigpnflaoaaDoor
open Go.RowKit
set_option linter.unusedVariables false

theorem Tryd.infoPr : (Tryd.prog.info? 42).map (·.size) = some 7 := by kernel_rfl
theorem bsS (ao : Option Addr) (n c : Nat) (w : World) : (Instr.buildSlice 40 1 #[(0, .slice ao n c)]).run Tryd.prog w = .ok (.slice (some ⟨w.heap.size, 0, none⟩) 1 1) (w.alloc (.cells #[.slice ao n c] 30)) := by kernel_rfl
theorem ex_loadS {ρ : Operand → Value} (o : Oper) (x : Operand) (ho : o.op = .load 40 x) (p : Addr) (hx : ρ x = .pointer (some p)) (u : Value) (w : World) (hc : w.cell? p = some u) : (execOp ρ o).run Tryd.prog w = .ok (.value u) w := by
  have hu := Tryd.underlying40
  unfold execOp
  simp [ho, hx, Instr.loadAt, Instr.sureAddr, loadVar, hc]
end Go.Proofs.YtogpkigpnflaoaaDoor
