import Derived.Test.YtokglpemefkmjaaWU
namespace Go.Proofs.Ytokglpemefkmjaa
open Go.ChangeShapes Go.WideShapes
set_option linter.unusedVariables false
set_option maxHeartbeats 1000000 in
theorem whole_of_trod {P : Program} {H : Type} {enc : TypeId × Value → H} {W : World} {T : TypeId} {f0 f1 f2 f3 f4 f5 f6 f7 f8 : Field} {v : Value} {d : DataW H} {p : List MemPlace}
    (hv : ∃ cs, v = .agg cs ∧ cs.size = P.cellsOf T) (hT : P.underlying T = some (.struct #[f0, f1, f2, f3, f4, f5, f6, f7, f8])) (ce : P.cellsOf T = 9) (o0 : f0.offset = 0 ∧ P.cellsOf f0.type = 1) (o1 : f1.offset = 1 ∧ P.cellsOf f1.type = 1) (o2 : f2.offset = 2 ∧ P.cellsOf f2.type = 1) (o3 : f3.offset = 3 ∧ P.cellsOf f3.type = 1) (o4 : f4.offset = 4 ∧ P.cellsOf f4.type = 1) (o5 : f5.offset = 5 ∧ P.cellsOf f5.type = 1) (o6 : f6.offset = 6 ∧ P.cellsOf f6.type = 1) (o7 : f7.offset = 7 ∧ P.cellsOf f7.type = 1) (o8 : f8.offset = 8 ∧ P.cellsOf f8.type = 1)
    (q0 : P.underlying f0.type = some (.int .i64)) (q1 : P.underlying f1.type = some (.int .i64)) (q2 : P.underlying f2.type = some (.int .i64)) (q3 : P.underlying f3.type = some (.int .i64)) (q4 : P.underlying f4.type = some (.int .i64)) (q5 : P.underlying f5.type = some (.int .i64)) (q6 : P.underlying f6.type = some (.int .i64)) (q7 : P.underlying f7.type = some (.int .i64)) (q8 : P.underlying f8.type = some (.int .i64)) (h : DataW.Trod enc P W 0 (fun _ => true) true T v d p) :
    ∃ a0 a1 a2 a3 a4 a5 a6 a7 a8, v = .agg #[.int .i64 a0, .int .i64 a1, .int .i64 a2, .int .i64 a3, .int .i64 a4, .int .i64 a5, .int .i64 a6, .int .i64 a7, .int .i64 a8] ∧ (-9223372036854775808 ≤ a0 ∧ a0 ≤ 9223372036854775807) ∧ (-9223372036854775808 ≤ a1 ∧ a1 ≤ 9223372036854775807) ∧ (-9223372036854775808 ≤ a2 ∧ a2 ≤ 9223372036854775807) ∧ (-9223372036854775808 ≤ a3 ∧ a3 ≤ 9223372036854775807) ∧ (-9223372036854775808 ≤ a4 ∧ a4 ≤ 9223372036854775807) ∧ (-9223372036854775808 ≤ a5 ∧ a5 ≤ 9223372036854775807) ∧ (-9223372036854775808 ≤ a6 ∧ a6 ≤ 9223372036854775807) ∧ (-9223372036854775808 ≤ a7 ∧ a7 ≤ 9223372036854775807) ∧ (-9223372036854775808 ≤ a8 ∧ a8 ≤ 9223372036854775807) := by
  obtain ⟨cs, rfl, hs⟩ := hv
  obtain ⟨fuel, hf⟩ := h
  obtain ⟨xs, n, _, -, hl, hlen, hg⟩ := DataW.trod_struct hT hf
  obtain ⟨y0, y1, y2, y3, y4, y5, y6, y7, y8, rfl⟩ : ∃ y0 y1 y2 y3 y4 y5 y6 y7 y8, xs = [y0, y1, y2, y3, y4, y5, y6, y7, y8] := by
    match xs, hlen with
    | [y0, y1, y2, y3, y4, y5, y6, y7, y8], _ => exact ⟨y0, y1, y2, y3, y4, y5, y6, y7, y8, rfl⟩
  have h0 : DataW.trod enc P W 0 (fun _ => true) true n f0.type (((Value.agg cs).cells.toList.drop f0.offset).take (P.cellsOf f0.type)) = some y0 := by simpa using hg 0 f0 rfl
  rw [o0.1, o0.2] at h0
  obtain ⟨a0, ha0, wa0⟩ := trodS_int q0 h0
  have h1 : DataW.trod enc P W 0 (fun _ => true) true n f1.type (((Value.agg cs).cells.toList.drop f1.offset).take (P.cellsOf f1.type)) = some y1 := by simpa using hg 1 f1 rfl
  rw [o1.1, o1.2] at h1
  obtain ⟨a1, ha1, wa1⟩ := trodS_int q1 h1
  have h2 : DataW.trod enc P W 0 (fun _ => true) true n f2.type (((Value.agg cs).cells.toList.drop f2.offset).take (P.cellsOf f2.type)) = some y2 := by simpa using hg 2 f2 rfl
  rw [o2.1, o2.2] at h2
  obtain ⟨a2, ha2, wa2⟩ := trodS_int q2 h2
  have h3 : DataW.trod enc P W 0 (fun _ => true) true n f3.type (((Value.agg cs).cells.toList.drop f3.offset).take (P.cellsOf f3.type)) = some y3 := by simpa using hg 3 f3 rfl
  rw [o3.1, o3.2] at h3
  obtain ⟨a3, ha3, wa3⟩ := trodS_int q3 h3
  have h4 : DataW.trod enc P W 0 (fun _ => true) true n f4.type (((Value.agg cs).cells.toList.drop f4.offset).take (P.cellsOf f4.type)) = some y4 := by simpa using hg 4 f4 rfl
  rw [o4.1, o4.2] at h4
  obtain ⟨a4, ha4, wa4⟩ := trodS_int q4 h4
  have h5 : DataW.trod enc P W 0 (fun _ => true) true n f5.type (((Value.agg cs).cells.toList.drop f5.offset).take (P.cellsOf f5.type)) = some y5 := by simpa using hg 5 f5 rfl
  rw [o5.1, o5.2] at h5
  obtain ⟨a5, ha5, wa5⟩ := trodS_int q5 h5
  have h6 : DataW.trod enc P W 0 (fun _ => true) true n f6.type (((Value.agg cs).cells.toList.drop f6.offset).take (P.cellsOf f6.type)) = some y6 := by simpa using hg 6 f6 rfl
  rw [o6.1, o6.2] at h6
  obtain ⟨a6, ha6, wa6⟩ := trodS_int q6 h6
  have h7 : DataW.trod enc P W 0 (fun _ => true) true n f7.type (((Value.agg cs).cells.toList.drop f7.offset).take (P.cellsOf f7.type)) = some y7 := by simpa using hg 7 f7 rfl
  rw [o7.1, o7.2] at h7
  obtain ⟨a7, ha7, wa7⟩ := trodS_int q7 h7
  have h8 : DataW.trod enc P W 0 (fun _ => true) true n f8.type (((Value.agg cs).cells.toList.drop f8.offset).take (P.cellsOf f8.type)) = some y8 := by simpa using hg 8 f8 rfl
  rw [o8.1, o8.2] at h8
  obtain ⟨a8, ha8, wa8⟩ := trodS_int q8 h8
  have hcs : (Value.agg cs).cells = cs := by simp [Value.cells]
  rw [hcs] at ha0 ha1 ha2 ha3 ha4 ha5 ha6 ha7 ha8 hl
  rw [ce] at hl
  obtain ⟨l⟩ := cs
  simp only at ha0 ha1 ha2 ha3 ha4 ha5 ha6 ha7 ha8 hl
  match l, hl with
  | [x0, x1, x2, x3, x4, x5, x6, x7, x8], _ =>
    simp at ha0 ha1 ha2 ha3 ha4 ha5 ha6 ha7 ha8
    refine ⟨a0, a1, a2, a3, a4, a5, a6, a7, a8, ?_, lit_bd wa0, lit_bd wa1, lit_bd wa2, lit_bd wa3, lit_bd wa4, lit_bd wa5, lit_bd wa6, lit_bd wa7, lit_bd wa8⟩
    rw [ha0, ha1, ha2, ha3, ha4, ha5, ha6, ha7, ha8]
end Go.Proofs.Ytokglpemefkmjaa
