import Derived.Test.YtokglpemefkmjaaChecked
import Derived.Deep.Strs
import Derived.ChangeSame
namespace Go.Proofs.Ytokglpemefkmjaa
open Go.ChangeShapes Go.WideShapes
set_option linter.unusedVariables false

section
variable {H : Type} {enc : TypeId × Value → H} {P : Program} {w : World} {base : Nat} {spare : Nat → Bool} {held : Bool}
theorem trodS_int {t : TypeId} {k : IntKind} {fuel : Nat} {cs : List Value} {x : DataW H × List MemPlace} (ht : P.underlying t = some (.int k)) (h : DataW.trod enc P w base spare held fuel t cs = some x) : ∃ n, cs = [.int k n] ∧ (Lit.int k n).wf = true := by
  cases fuel with
  | zero => simp [DataW.trod] at h
  | succ n =>
    unfold DataW.trod at h
    rw [ht] at h
    split at h <;> simp_all
end
theorem lit_bd {n : Int} (h : (Lit.int .i64 n).wf = true) : -9223372036854775808 ≤ n ∧ n ≤ 9223372036854775807 := by
  have h2 : (decide ((-9223372036854775808 : Int) ≤ n) && decide (n ≤ 9223372036854775807)) = true := h
  simpa using h2
/-- A struct of three whole numbers that came in. -/
theorem shape_of_trod {P : Program} {H : Type} {enc : TypeId × Value → H} {W : World} {T : TypeId} {f0 f1 f2 : Field} {v : Value} {d : DataW H} {p : List MemPlace}
    (hv : ∃ cs, v = .agg cs ∧ cs.size = P.cellsOf T) (hT : P.underlying T = some (.struct #[f0, f1, f2])) (ce : P.cellsOf T = 3) (o0 : f0.offset = 0 ∧ P.cellsOf f0.type = 1) (o1 : f1.offset = 1 ∧ P.cellsOf f1.type = 1) (o2 : f2.offset = 2 ∧ P.cellsOf f2.type = 1)
    (q0 : P.underlying f0.type = some (.int .i64)) (q1 : P.underlying f1.type = some (.int .i64)) (q2 : P.underlying f2.type = some (.int .i64)) (h : DataW.Trod enc P W 0 (fun _ => true) true T v d p) :
    ∃ a b c, v = .agg #[.int .i64 a, .int .i64 b, .int .i64 c] ∧ (-9223372036854775808 ≤ a ∧ a ≤ 9223372036854775807) ∧ (-9223372036854775808 ≤ b ∧ b ≤ 9223372036854775807) ∧ (-9223372036854775808 ≤ c ∧ c ≤ 9223372036854775807) := by
  obtain ⟨cs, rfl, hs⟩ := hv
  obtain ⟨fuel, hf⟩ := h
  obtain ⟨y0, y1, y2, n, -, hl, h0, h1, h2⟩ := Deep.trod_struct3 hT hf
  rw [o0.1, o0.2] at h0
  rw [o1.1, o1.2] at h1
  rw [o2.1, o2.2] at h2
  obtain ⟨a, ha, wa⟩ := trodS_int q0 h0
  obtain ⟨b, hb, wb⟩ := trodS_int q1 h1
  obtain ⟨c, hc, wc⟩ := trodS_int q2 h2
  have hcs : (Value.agg cs).cells = cs := by simp [Value.cells]
  rw [hcs] at ha hb hc hl
  rw [ce] at hl
  obtain ⟨l⟩ := cs
  simp only at ha hb hc hl
  match l, hl with
  | [x, y, z], _ =>
    simp at ha hb hc
    refine ⟨a, b, c, ?_, lit_bd wa, lit_bd wb, lit_bd wc⟩
    rw [ha, hb, hc]
end Go.Proofs.Ytokglpemefkmjaa
