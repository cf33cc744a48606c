import Derived.Test.YtbncdcenckagcaaGreatChecked
import Derived.Deep.Strs
import Derived.ChangeSame
namespace Go.Proofs.YtbncdcenckagcaaGreat
open Go.ChangeShapes Go.WideShapes
set_option linter.unusedVariables false

section
variable {H : Type} {enc : TypeId × Value → H} {P : Program} {w : World} {base : Nat} {spare : Nat → Bool} {held : Bool}
theorem trodS_float {t : TypeId} {k : FloatKind} {fuel : Nat} {cs : List Value} {x : DataW H × List MemPlace} (ht : P.underlying t = some (.float k)) (h : DataW.trod enc P w base spare held fuel t cs = some x) : ∃ n, cs = [.float k n] ∧ (Lit.float k n).wf = true := by
  cases fuel with
  | zero => simp [DataW.trod] at h
  | succ n =>
    unfold DataW.trod at h
    rw [ht] at h
    split at h <;> simp_all
theorem trodS_bool {t : TypeId} {fuel : Nat} {cs : List Value} {x : DataW H × List MemPlace} (ht : P.underlying t = some .bool) (h : DataW.trod enc P w base spare held fuel t cs = some x) : ∃ b, cs = [.bool b] := by
  cases fuel with
  | zero => simp [DataW.trod] at h
  | succ n =>
    unfold DataW.trod at h
    rw [ht] at h
    split at h <;> simp_all
end
/-- A struct of two numbers and a bool that came in. -/
theorem span_of_trod {P : Program} {H : Type} {enc : TypeId × Value → H} {W : World} {T : TypeId} {f0 f1 f2 : Field} {v : Value} {d : DataW H} {p : List MemPlace}
    (hv : ∃ cs, v = .agg cs ∧ cs.size = P.cellsOf T) (hT : P.underlying T = some (.struct #[f0, f1, f2])) (ce : P.cellsOf T = 3) (o0 : f0.offset = 0 ∧ P.cellsOf f0.type = 1) (o1 : f1.offset = 1 ∧ P.cellsOf f1.type = 1) (o2 : f2.offset = 2 ∧ P.cellsOf f2.type = 1)
    (q0 : P.underlying f0.type = some (.float .f64)) (q1 : P.underlying f1.type = some (.float .f64)) (q2 : P.underlying f2.type = some .bool) (h : DataW.Trod enc P W 0 (fun _ => true) true T v d p) :
    ∃ a b c, v = .agg #[.float .f64 a, .float .f64 b, .bool c] ∧ a < 18446744073709551616 ∧ b < 18446744073709551616 := by
  obtain ⟨cs, rfl, hs⟩ := hv
  obtain ⟨fuel, hf⟩ := h
  obtain ⟨y0, y1, y2, n, -, hl, h0, h1, h2⟩ := Deep.trod_struct3 hT hf
  rw [o0.1, o0.2] at h0
  rw [o1.1, o1.2] at h1
  rw [o2.1, o2.2] at h2
  obtain ⟨a, ha, wa⟩ := trodS_float q0 h0
  obtain ⟨b, hb, wb⟩ := trodS_float q1 h1
  obtain ⟨c, hc⟩ := trodS_bool q2 h2
  have hcs : (Value.agg cs).cells = cs := by simp [Value.cells]
  rw [hcs] at ha hb hc hl
  rw [ce] at hl
  obtain ⟨l⟩ := cs
  simp only at ha hb hc hl
  match l, hl with
  | [x, y, z], _ =>
    simp at ha hb hc
    refine ⟨a, b, c, ?_, by simpa [Lit.wf] using wa, by simpa [Lit.wf] using wb⟩
    rw [ha, hb, hc]
end Go.Proofs.YtbncdcenckagcaaGreat
