import Derived.Test.YtkpoikjikkailaaYD
import Derived.Test.YtkpoikjikkailaaFlat
import Derived.Test.YtkpoikjikkailaaWP
import Derived.OpenShut
namespace Go.Proofs.Ytkpoikjikkailaa
open Go.ChangeShapes Go.WideShapes
set_option linter.unusedVariables false

theorem i64_bd {n : Int} (h : (Lit.int .i64 n).wf = true) : -9223372036854775808 ≤ n ∧ n ≤ 9223372036854775807 := by
  have h2 : (decide ((-9223372036854775808 : Int) ≤ n) && decide (n ≤ 9223372036854775807)) = true := h
  simpa using h2
def intOfV : Value → Int
  | .int _ n => n
  | _ => 0
/-- A slice of ints that came in. -/
theorem rdI_of_trod {P : Program} {H : Type} {enc : TypeId × Value → H} {W : World} {T E : TypeId} {a : Option Addr} {len cap : Nat} {d : DataW H} {p : List MemPlace}
    (hT : P.underlying T = some (.slice E)) (hE : P.underlying E = some (.int .i64)) (ce : P.cellsOf E = 1) (h : DataW.Trod enc P W 0 (fun _ => true) true T (.slice a len cap) d p) : ∃ G, RdI W a len cap G := by
  obtain ⟨fuel, hf⟩ := h
  rcases Deep.open_slice1 hT ce hf with ⟨hcs, _⟩ | ⟨x, l, c, m, n, V, D, Pl, hcs, hb, hl, hm, hmm, _, hcell⟩
  · simp [Value.cells] at hcs
    obtain ⟨rfl, rfl, rfl⟩ := hcs
    exact ⟨fun _ => 0, Nat.le_refl _, by decide, fun j hj => (by omega), .inl rfl⟩
  · simp [Value.cells] at hcs
    obtain ⟨rfl, rfl, rfl⟩ := hcs
    simp only [if_true] at hmm
    subst hmm
    have key : ∀ j, j < m → W.cell? (x.add j) = some (.int .i64 (intOfV (V j))) ∧ -9223372036854775808 ≤ intOfV (V j) ∧ intOfV (V j) ≤ 9223372036854775807 := by
      intro j hj
      obtain ⟨h1, h2⟩ := hcell j hj
      obtain ⟨k, e, _, hw⟩ := DataW.trod_int hE h2
      simp only [List.cons.injEq, and_true] at e
      have hbd := i64_bd hw
      rw [h1, e]
      exact ⟨rfl, hbd⟩
    refine ⟨fun j => intOfV (V j), hl, hm, fun j hj => (key j (by omega)).2, ?_⟩
    by_cases h0 : len = 0
    · exact .inl h0
    · right
      obtain ⟨b, off, spot⟩ := x
      have hspot : spot = none := by
        obtain ⟨h1, _⟩ := hcell 0 (by omega)
        simpa [Addr.add] using World.cell?_spot h1
      subst hspot
      refine ⟨b, off, rfl, fun j hj => ?_⟩
      have := (key j (by omega)).1
      rw [Addr.add_lit] at this
      exact this
def cellOfT (W : World) (a : Addr) : Value := (W.cell? a).getD undef
def tmAt (W : World) (b off : Nat) (j : Nat) : TmV := ⟨numOfV (cellOfT W ⟨b, off + j * 3, none⟩), numOfV (cellOfT W ⟨b, off + j * 3 + 1, none⟩), intOfV (cellOfT W ⟨b, off + j * 3 + 2, none⟩)⟩
/-- A slice of Terms that came in. -/
theorem rdT_of_trod {P : Program} {H : Type} {enc : TypeId × Value → H} {W : World} {T E : TypeId} {f0 f1 f2 : Field} {a : Option Addr} {len cap : Nat} {d : DataW H} {p : List MemPlace}
    (hT : P.underlying T = some (.slice E)) (hE : P.underlying E = some (.struct #[f0, f1, f2])) (ce : P.cellsOf E = 3) (o0 : f0.offset = 0 ∧ P.cellsOf f0.type = 1) (o1 : f1.offset = 1 ∧ P.cellsOf f1.type = 1) (o2 : f2.offset = 2 ∧ P.cellsOf f2.type = 1)
    (q0 : P.underlying f0.type = some (.int .u64)) (q1 : P.underlying f1.type = some (.int .u64)) (q2 : P.underlying f2.type = some (.int .i64)) (h : DataW.Trod enc P W 0 (fun _ => true) true T (.slice a len cap) d p) : ∃ F, RdT W a len cap F := by
  obtain ⟨fuel, hf⟩ := h
  rcases open_slice_flat hT hE ce (by
      intro k f hk
      match k, hk with
      | 0, hk => cases hk; exact o0
      | 1, hk => cases hk; exact o1
      | 2, hk => cases hk; exact o2) hf with hcs | ⟨x, l, c, m, n, hcs, hl, hm, hmm, hcell⟩
  · simp [Value.cells] at hcs
    obtain ⟨rfl, rfl, rfl⟩ := hcs
    exact ⟨fun _ => tmD, Nat.le_refl _, by decide, (fun j hj => by omega), .inl rfl⟩
  · simp [Value.cells] at hcs
    obtain ⟨rfl, rfl, rfl⟩ := hcs
    simp only [if_true] at hmm
    subst hmm
    by_cases h0 : len = 0
    · subst h0
      exact ⟨fun _ => tmD, hl, hm, (fun j hj => by omega), .inl rfl⟩
    obtain ⟨b, off, spot⟩ := x
    have hspot : spot = none := by
      obtain ⟨v, y, hc, _⟩ := hcell 0 (by omega) 0 f0 rfl
      simpa [Addr.add] using World.cell?_spot hc
    subst hspot
    have key : ∀ j, j < len → (W.cell? ⟨b, off + j * 3, none⟩ = some (.int .u64 ((tmAt W b off j).a : Int)) ∧ W.cell? ⟨b, off + j * 3 + 1, none⟩ = some (.int .u64 ((tmAt W b off j).b : Int)) ∧ W.cell? ⟨b, off + j * 3 + 2, none⟩ = some (.int .i64 (tmAt W b off j).n)) ∧ (tmAt W b off j).a < 18446744073709551616 ∧ (tmAt W b off j).b < 18446744073709551616 ∧ -9223372036854775808 ≤ (tmAt W b off j).n ∧ (tmAt W b off j).n ≤ 9223372036854775807 := by
      intro j hj
      obtain ⟨v0, y0, c0, t0⟩ := hcell j (by omega) 0 f0 rfl
      obtain ⟨v1, y1, c1, t1⟩ := hcell j (by omega) 1 f1 rfl
      obtain ⟨v2, y2, c2, t2⟩ := hcell j (by omega) 2 f2 rfl
      obtain ⟨a0, e0, _, w0⟩ := DataW.trod_int q0 t0
      obtain ⟨a1, e1, _, w1⟩ := DataW.trod_int q1 t1
      obtain ⟨a2, e2, _, w2⟩ := DataW.trod_int q2 t2
      simp only [List.cons.injEq, and_true] at e0 e1 e2
      subst e0 e1 e2
      have hs : (#[f0, f1, f2] : Array Field).size = 3 := rfl
      rw [hs, Addr.add_lit] at c0 c1 c2
      rw [Nat.add_zero] at c0
      rw [← Nat.add_assoc] at c1 c2
      have b0 := u64_bounds w0
      have b1 := u64_bounds w1
      have b2 := i64_bd w2
      unfold tmAt cellOfT
      rw [c0, c1, c2]
      show (some (Value.int .u64 a0) = some (.int .u64 ((a0.toNat : Nat) : Int)) ∧ some (Value.int .u64 a1) = some (.int .u64 ((a1.toNat : Nat) : Int)) ∧ some (Value.int .i64 a2) = some (.int .i64 a2)) ∧ a0.toNat < _ ∧ a1.toNat < _ ∧ _ ≤ a2 ∧ a2 ≤ _
      rw [show ((a0.toNat : Nat) : Int) = a0 by omega, show ((a1.toNat : Nat) : Int) = a1 by omega]
      exact ⟨⟨rfl, rfl, rfl⟩, by omega, by omega, b2⟩
    exact ⟨tmAt W b off, hl, hm, fun j hj => (key j hj).2, .inr ⟨b, off, rfl, fun j hj => (key j hj).1⟩⟩
end Go.Proofs.Ytkpoikjikkailaa
