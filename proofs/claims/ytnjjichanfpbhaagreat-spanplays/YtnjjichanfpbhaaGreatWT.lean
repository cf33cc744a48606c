import Derived.Test.YtnjjichanfpbhaaGreatWS
import Derived.Deep.Slices
import Derived.OpenShut
namespace Go.Proofs.YtnjjichanfpbhaaGreat
open Go.ChangeShapes Go.WideShapes
set_option linter.unusedVariables false

/-- One call of a script of spans. -/
structure SpOp where
  c : Int
  al : Nat
  ah : Nat
  ab : Bool
  bl : Nat
  bh : Nat
  bb : Bool
  n : Int
/-- The eight cells of a call. -/
def SpOp.At (w : World) (b o : Nat) (v : SpOp) : Prop :=
  (w.cell? ⟨b, o, none⟩ = some (.int .i64 v.c) ∧ w.cell? ⟨b, o + 1, none⟩ = some (.float .f64 v.al) ∧ w.cell? ⟨b, o + 2, none⟩ = some (.float .f64 v.ah) ∧ w.cell? ⟨b, o + 3, none⟩ = some (.bool v.ab) ∧ w.cell? ⟨b, o + 4, none⟩ = some (.float .f64 v.bl) ∧ w.cell? ⟨b, o + 5, none⟩ = some (.float .f64 v.bh) ∧ w.cell? ⟨b, o + 6, none⟩ = some (.bool v.bb) ∧ w.cell? ⟨b, o + 7, none⟩ = some (.int .i64 v.n)) ∧
  (-9223372036854775808 ≤ v.c ∧ v.c ≤ 9223372036854775807) ∧ v.al < 18446744073709551616 ∧ v.ah < 18446744073709551616 ∧ v.bl < 18446744073709551616 ∧ v.bh < 18446744073709551616
/-- A slice of such calls: what is read of it. -/
structure RdP (w : World) (ao : Option Addr) (len cap : Nat) (F : Nat → SpOp) : Prop where
  le : len ≤ cap
  max : cap ≤ 9223372036854775807
  cells : len = 0 ∨ ∃ b off, ao = some ⟨b, off, none⟩ ∧ ∀ j, j < len → (F j).At w b (off + j * 8)
/-- A slice of bools. -/
structure RdBo (w : World) (ao : Option Addr) (len cap : Nat) (G : Nat → Bool) : Prop where
  le : len ≤ cap
  max : cap ≤ 9223372036854775807
  cells : len = 0 ∨ ∃ b off, ao = some ⟨b, off, none⟩ ∧ ∀ j, j < len → w.cell? ⟨b, off + j, none⟩ = some (.bool (G j))
theorem spop_of_cells {P : Program} {H : Type} {enc : TypeId × Value → H} {W : World} {E S : TypeId} {f0 f1 f2 f3 g0 g1 g2 : Field} {n : Nat} {cs : List Value} {x : DataW H × List MemPlace} {b o : Nat}
    (hE : P.underlying E = some (.struct #[f0, f1, f2, f3])) (ce : P.cellsOf E = 8) (o0 : f0.offset = 0 ∧ P.cellsOf f0.type = 1) (o1 : f1.offset = 1 ∧ f1.type = S) (o2 : f2.offset = 4 ∧ f2.type = S) (o3 : f3.offset = 7 ∧ P.cellsOf f3.type = 1)
    (q0 : P.underlying f0.type = some (.int .i64)) (q3 : P.underlying f3.type = some (.int .i64)) (hS : P.underlying S = some (.struct #[g0, g1, g2])) (cS : P.cellsOf S = 3) (p0 : g0.offset = 0 ∧ P.cellsOf g0.type = 1) (p1 : g1.offset = 1 ∧ P.cellsOf g1.type = 1) (p2 : g2.offset = 2 ∧ P.cellsOf g2.type = 1)
    (r0 : P.underlying g0.type = some (.float .f64)) (r1 : P.underlying g1.type = some (.float .f64)) (r2 : P.underlying g2.type = some .bool)
    (hc : ∀ k, k < 8 → W.cell? ⟨b, o + k, none⟩ = cs[k]?) (hl : cs.length = 8) (h : DataW.trod enc P W 0 (fun _ => true) true n E cs = some x) : ∃ v : SpOp, v.At W b o := by
  obtain ⟨xs, q, -, -, -, hxl, hfs⟩ := DataW.trod_struct hE h
  have t0 := hfs 0 f0 rfl
  have t1 := hfs 1 f1 rfl
  have t2 := hfs 2 f2 rfl
  have t3 := hfs 3 f3 rfl
  have hx : xs.length = 4 := hxl
  match xs, hx with
  | [y0, y1, y2, y3], _ =>
    rw [o0.1, o0.2] at t0
    rw [o1.1, o1.2, cS] at t1
    rw [o2.1, o2.2, cS] at t2
    rw [o3.1, o3.2] at t3
    obtain ⟨_, _, _, _, -, -, a0, a1, a2⟩ := Deep.trod_struct3 hS t1
    obtain ⟨_, _, _, _, -, -, b0, b1, b2⟩ := Deep.trod_struct3 hS t2
    rw [p0.1, p0.2] at a0 b0
    rw [p1.1, p1.2] at a1 b1
    rw [p2.1, p2.2] at a2 b2
    match cs, hl with
    | [c0, c1, c2, c3, c4, c5, c6, c7], _ =>
      obtain ⟨u0, e0, -, w0⟩ := DataW.trod_int q0 t0
      obtain ⟨u1, e1, w1⟩ := trodS_float r0 a0
      obtain ⟨u2, e2, w2⟩ := trodS_float r1 a1
      obtain ⟨u3, e3⟩ := trodS_bool r2 a2
      obtain ⟨u4, e4, w4⟩ := trodS_float r0 b0
      obtain ⟨u5, e5, w5⟩ := trodS_float r1 b1
      obtain ⟨u6, e6⟩ := trodS_bool r2 b2
      obtain ⟨u7, e7, -, w7⟩ := DataW.trod_int q3 t3
      simp at e0 e1 e2 e3 e4 e5 e6 e7
      subst e0 e1 e2 e3 e4 e5 e6 e7
      have bd : (decide ((-9223372036854775808 : Int) ≤ u0) && decide (u0 ≤ 9223372036854775807)) = true := w0
      have bd' : -9223372036854775808 ≤ u0 ∧ u0 ≤ 9223372036854775807 := by simpa using bd
      exact ⟨⟨u0, u1, u2, u3, u4, u5, u6, u7⟩, ⟨hc 0 (by omega), hc 1 (by omega), hc 2 (by omega), hc 3 (by omega), hc 4 (by omega), hc 5 (by omega), hc 6 (by omega), hc 7 (by omega)⟩, bd', by simpa [Lit.wf] using w1, by simpa [Lit.wf] using w2, by simpa [Lit.wf] using w4, by simpa [Lit.wf] using w5⟩
theorem rdP_of_trod {P : Program} {H : Type} {enc : TypeId × Value → H} {W : World} {T E S : TypeId} {f0 f1 f2 f3 g0 g1 g2 : Field} {a : Option Addr} {len cap : Nat} {d : DataW H} {p : List MemPlace}
    (hT : P.underlying T = some (.slice E)) (hE : P.underlying E = some (.struct #[f0, f1, f2, f3])) (ce : P.cellsOf E = 8) (o0 : f0.offset = 0 ∧ P.cellsOf f0.type = 1) (o1 : f1.offset = 1 ∧ f1.type = S) (o2 : f2.offset = 4 ∧ f2.type = S) (o3 : f3.offset = 7 ∧ P.cellsOf f3.type = 1)
    (q0 : P.underlying f0.type = some (.int .i64)) (q3 : P.underlying f3.type = some (.int .i64)) (hS : P.underlying S = some (.struct #[g0, g1, g2])) (cS : P.cellsOf S = 3) (p0 : g0.offset = 0 ∧ P.cellsOf g0.type = 1) (p1 : g1.offset = 1 ∧ P.cellsOf g1.type = 1) (p2 : g2.offset = 2 ∧ P.cellsOf g2.type = 1)
    (r0 : P.underlying g0.type = some (.float .f64)) (r1 : P.underlying g1.type = some (.float .f64)) (r2 : P.underlying g2.type = some .bool)
    (h : DataW.Trod enc P W 0 (fun _ => true) true T (.slice a len cap) d p) : ∃ F, RdP W a len cap F := by
  obtain ⟨fuel, hf⟩ := h
  rcases Deep.open_slice hT hf with ⟨hcs, -⟩ | ⟨x, l, c, m, n, D, Pl, hcs, hb, hl, hm, hmm, -, hx⟩
  · simp [Value.cells] at hcs
    obtain ⟨rfl, rfl, rfl⟩ := hcs
    exact ⟨fun _ => ⟨0, 0, 0, false, 0, 0, false, 0⟩, Nat.le_refl _, by decide, .inl rfl⟩
  · simp [Value.cells] at hcs
    obtain ⟨rfl, rfl, rfl⟩ := hcs
    simp only [if_true] at hmm
    subst hmm
    by_cases h0 : len = 0
    · subst h0
      exact ⟨fun _ => ⟨0, 0, 0, false, 0, 0, false, 0⟩, hl, hm, .inl rfl⟩
    obtain ⟨b, off, spot⟩ := x
    rw [ce] at hx
    have hspot : spot = none := by
      obtain ⟨cs', h1, -⟩ := hx 0 (by omega)
      obtain ⟨-, hlen, hcell⟩ := World.cells?_some h1
      have := hcell 0 (by omega)
      rw [List.getElem?_eq_getElem (by omega)] at this
      simpa [Addr.add] using World.cell?_spot this
    subst hspot
    have key : ∀ j, j < len → ∃ v : SpOp, v.At W b (off + j * 8) := by
      intro j hj
      obtain ⟨cs', h1, h2⟩ := hx j (by omega)
      obtain ⟨-, hlen, hcell⟩ := World.cells?_some h1
      refine spop_of_cells hE ce o0 o1 o2 o3 q0 q3 hS cS p0 p1 p2 r0 r1 r2 (fun k hk => ?_) hlen h2
      have := hcell k hk
      rw [Addr.add_lit, Addr.add_lit] at this
      exact this
    refine ⟨fun j => if hj : j < len then Classical.choose (key j hj) else ⟨0, 0, 0, false, 0, 0, false, 0⟩, hl, hm, .inr ⟨b, off, rfl, fun j hj => ?_⟩⟩
    simp only [dif_pos hj]
    exact Classical.choose_spec (key j hj)
def boolOfV : Value → Bool
  | .bool b => b
  | _ => false
theorem rdBo_of_trod {P : Program} {H : Type} {enc : TypeId × Value → H} {W : World} {T E : TypeId} {a : Option Addr} {len cap : Nat} {d : DataW H} {p : List MemPlace}
    (hT : P.underlying T = some (.slice E)) (hE : P.underlying E = some .bool) (ce : P.cellsOf E = 1) (h : DataW.Trod enc P W 0 (fun _ => true) true T (.slice a len cap) d p) : ∃ G, RdBo W a len cap G := by
  obtain ⟨fuel, hf⟩ := h
  rcases Deep.open_slice1 hT ce hf with ⟨hcs, _⟩ | ⟨x, l, c, m, n, V, D, Pl, hcs, hb, hl, hm, hmm, _, hcell⟩
  · simp [Value.cells] at hcs
    obtain ⟨rfl, rfl, rfl⟩ := hcs
    exact ⟨fun _ => false, Nat.le_refl _, by decide, .inl rfl⟩
  · simp [Value.cells] at hcs
    obtain ⟨rfl, rfl, rfl⟩ := hcs
    simp only [if_true] at hmm
    subst hmm
    have key : ∀ j, j < m → W.cell? (x.add j) = some (.bool (boolOfV (V j))) := by
      intro j hj
      obtain ⟨h1, h2⟩ := hcell j hj
      obtain ⟨k, e⟩ := trodS_bool hE h2
      simp only [List.cons.injEq, and_true] at e
      rw [h1, e]
      rfl
    refine ⟨fun j => boolOfV (V j), hl, hm, ?_⟩
    by_cases h0 : len = 0
    · exact .inl h0
    · right
      obtain ⟨b, off, spot⟩ := x
      have hspot : spot = none := by
        obtain ⟨h1, _⟩ := hcell 0 (by omega)
        simpa [Addr.add] using World.cell?_spot h1
      subst hspot
      refine ⟨b, off, rfl, fun j hj => ?_⟩
      have := key j (by omega)
      rw [Addr.add_lit] at this
      exact this
end Go.Proofs.YtnjjichanfpbhaaGreat
