import Derived.Test.YtajopgndpomggaaPC
import Derived.Test.YtajopgndpomggaaFlat
import Derived.Test.YtajopgndpomggaaWP
import Derived.OpenShut
namespace Go.Proofs.Ytajopgndpomggaa
open Go.ChangeShapes Go.WideShapes
set_option linter.unusedVariables false

theorem i64_bdS {n : Int} (h : (Lit.int .i64 n).wf = true) : -9223372036854775808 ≤ n ∧ n ≤ 9223372036854775807 := by
  have h2 : (decide ((-9223372036854775808 : Int) ≤ n) && decide (n ≤ 9223372036854775807)) = true := h
  simpa using h2
def intOfVS : Value → Int
  | .int _ n => n
  | _ => 0
def cellOfS (W : World) (a : Addr) : Value := (W.cell? a).getD undef
def stAt (W : World) (b off : Nat) (j : Nat) : StV := ⟨intOfVS (cellOfS W ⟨b, off + j * 6, none⟩), intOfVS (cellOfS W ⟨b, off + j * 6 + 1, none⟩), intOfVS (cellOfS W ⟨b, off + j * 6 + 2, none⟩), numOfV (cellOfS W ⟨b, off + j * 6 + 3, none⟩), numOfV (cellOfS W ⟨b, off + j * 6 + 4, none⟩), intOfVS (cellOfS W ⟨b, off + j * 6 + 5, none⟩)⟩
def stD : StV := ⟨0, 0, 0, 0, 0, 0⟩
/-- A slice of Steps that came in. -/
theorem rdSt_of_trod {P : Program} {H : Type} {enc : TypeId × Value → H} {W : World} {T E : TypeId} {f0 f1 f2 f3 f4 f5 : Field} {a : Option Addr} {len cap : Nat} {d : DataW H} {p : List MemPlace}
    (hT : P.underlying T = some (.slice E)) (hE : P.underlying E = some (.struct #[f0, f1, f2, f3, f4, f5])) (ce : P.cellsOf E = 6) (o0 : f0.offset = 0 ∧ P.cellsOf f0.type = 1) (o1 : f1.offset = 1 ∧ P.cellsOf f1.type = 1) (o2 : f2.offset = 2 ∧ P.cellsOf f2.type = 1) (o3 : f3.offset = 3 ∧ P.cellsOf f3.type = 1) (o4 : f4.offset = 4 ∧ P.cellsOf f4.type = 1) (o5 : f5.offset = 5 ∧ P.cellsOf f5.type = 1)
    (q0 : P.underlying f0.type = some (.int .i64)) (q1 : P.underlying f1.type = some (.int .i64)) (q2 : P.underlying f2.type = some (.int .i64)) (q3 : P.underlying f3.type = some (.int .u64)) (q4 : P.underlying f4.type = some (.int .u64)) (q5 : P.underlying f5.type = some (.int .i64)) (h : DataW.Trod enc P W 0 (fun _ => true) true T (.slice a len cap) d p) : ∃ F, RdSt W a len cap F := by
  obtain ⟨fuel, hf⟩ := h
  rcases open_slice_flat hT hE ce (by
      intro k f hk
      match k, hk with
      | 0, hk => cases hk; exact o0
      | 1, hk => cases hk; exact o1
      | 2, hk => cases hk; exact o2
      | 3, hk => cases hk; exact o3
      | 4, hk => cases hk; exact o4
      | 5, hk => cases hk; exact o5) hf with hcs | ⟨x, l, c, m, n, hcs, hl, hm, hmm, hcell⟩
  · simp [Value.cells] at hcs
    obtain ⟨rfl, rfl, rfl⟩ := hcs
    exact ⟨fun _ => stD, Nat.le_refl _, by decide, (fun j hj => by omega), .inl rfl⟩
  · simp [Value.cells] at hcs
    obtain ⟨rfl, rfl, rfl⟩ := hcs
    simp only [if_true] at hmm
    subst hmm
    by_cases h0 : len = 0
    · subst h0
      exact ⟨fun _ => stD, hl, hm, (fun j hj => by omega), .inl rfl⟩
    obtain ⟨b, off, spot⟩ := x
    have hspot : spot = none := by
      obtain ⟨v, y, hc, _⟩ := hcell 0 (by omega) 0 f0 rfl
      simpa [Addr.add] using World.cell?_spot hc
    subst hspot
    have key : ∀ j, j < len → (W.cell? ⟨b, off + j * 6, none⟩ = some (.int .i64 (stAt W b off j).kd) ∧ W.cell? ⟨b, off + j * 6 + 1, none⟩ = some (.int .i64 (stAt W b off j).i) ∧ W.cell? ⟨b, off + j * 6 + 2, none⟩ = some (.int .i64 (stAt W b off j).j) ∧ W.cell? ⟨b, off + j * 6 + 3, none⟩ = some (.int .u64 ((stAt W b off j).a : Int)) ∧ W.cell? ⟨b, off + j * 6 + 4, none⟩ = some (.int .u64 ((stAt W b off j).b : Int)) ∧ W.cell? ⟨b, off + j * 6 + 5, none⟩ = some (.int .i64 (stAt W b off j).n)) ∧ (stAt W b off j).a < 18446744073709551616 ∧ (stAt W b off j).b < 18446744073709551616 := by
      intro j hj
      obtain ⟨v0, y0, c0, t0⟩ := hcell j (by omega) 0 f0 rfl
      obtain ⟨v1, y1, c1, t1⟩ := hcell j (by omega) 1 f1 rfl
      obtain ⟨v2, y2, c2, t2⟩ := hcell j (by omega) 2 f2 rfl
      obtain ⟨v3, y3, c3, t3⟩ := hcell j (by omega) 3 f3 rfl
      obtain ⟨v4, y4, c4, t4⟩ := hcell j (by omega) 4 f4 rfl
      obtain ⟨v5, y5, c5, t5⟩ := hcell j (by omega) 5 f5 rfl
      obtain ⟨a0, e0, _, w0⟩ := DataW.trod_int q0 t0
      obtain ⟨a1, e1, _, w1⟩ := DataW.trod_int q1 t1
      obtain ⟨a2, e2, _, w2⟩ := DataW.trod_int q2 t2
      obtain ⟨a3, e3, _, w3⟩ := DataW.trod_int q3 t3
      obtain ⟨a4, e4, _, w4⟩ := DataW.trod_int q4 t4
      obtain ⟨a5, e5, _, w5⟩ := DataW.trod_int q5 t5
      simp only [List.cons.injEq, and_true] at e0 e1 e2 e3 e4 e5
      subst e0 e1 e2 e3 e4 e5
      have hs : (#[f0, f1, f2, f3, f4, f5] : Array Field).size = 6 := rfl
      rw [hs, Addr.add_lit] at c0 c1 c2 c3 c4 c5
      rw [Nat.add_zero] at c0
      rw [← Nat.add_assoc] at c1 c2 c3 c4 c5
      have b3 := u64_bounds w3
      have b4 := u64_bounds w4
      unfold stAt cellOfS
      rw [c0, c1, c2, c3, c4, c5]
      show (some (Value.int .i64 a0) = some (.int .i64 a0) ∧ some (Value.int .i64 a1) = some (.int .i64 a1) ∧ some (Value.int .i64 a2) = some (.int .i64 a2) ∧ some (Value.int .u64 a3) = some (.int .u64 ((a3.toNat : Nat) : Int)) ∧ some (Value.int .u64 a4) = some (.int .u64 ((a4.toNat : Nat) : Int)) ∧ some (Value.int .i64 a5) = some (.int .i64 a5)) ∧ a3.toNat < _ ∧ a4.toNat < _
      rw [show ((a3.toNat : Nat) : Int) = a3 by omega, show ((a4.toNat : Nat) : Int) = a4 by omega]
      exact ⟨⟨rfl, rfl, rfl, rfl, rfl, rfl⟩, by omega, by omega⟩
    exact ⟨stAt W b off, hl, hm, fun j hj => (key j hj).2, .inr ⟨b, off, rfl, fun j hj => (key j hj).1⟩⟩
end Go.Proofs.Ytajopgndpomggaa
