import Derived.Test.YtnhaapnmgjlbjaaDoorWorldU
import Derived.Test.YtnhaapnmgjlbjaaDoorVC
import Derived.Deep.Slices
import Derived.Lib.SmallJoins
import Derived.ChangeSame
namespace Go.Proofs.YtnhaapnmgjlbjaaDoor
open Go.ChangeShapes Go.WideShapes Go.ChangeAt Go.RowKit Go.Joins Go.Deep
set_option linter.unusedVariables false

section
variable {H : Type} {enc : TypeId × Value → H} {P : Program} {w : World} {base : Nat} {spare : Nat → Bool} {held : Bool}
theorem trodS_float {t : TypeId} {k : FloatKind} {fuel : Nat} {cs : List Value} {x : DataW H × List MemPlace} (ht : P.underlying t = some (.float k)) (h : DataW.trod enc P w base spare held fuel t cs = some x) : ∃ n, cs = [.float k n] ∧ (Lit.float k n).wf = true := by
  cases fuel with
  | zero => simp [DataW.trod] at h
  | succ n =>
    unfold DataW.trod at h
    rw [ht] at h
    split at h <;> simp_all
end
def flOf : Value → Nat
  | .float _ u => u
  | _ => 0
/-- A slice of floats that came in. -/
theorem floats_open {P : Program} {H : Type} {enc : TypeId × Value → H} {W : World} {T E : TypeId} {fuel : Nat} {cs : List Value} {x : DataW H × List MemPlace}
    (hT : P.underlying T = some (.slice E)) (hE : P.underlying E = some (.float .f64)) (hc : P.cellsOf E = 1) (h : DataW.trod enc P W 0 (fun _ => true) true fuel T cs = some x) :
    ∃ ao len cap us, cs = [.slice ao len cap] ∧ RdF W ao len cap us ∧ len ≤ cap ∧ (ao = none → cap = 0) ∧ cap ≤ maxLen := by
  rcases open_slice1 hT hc h with ⟨hcs, _⟩ | ⟨a, len, cap, m, n, V, D, Pl, hcs, _, hl, hm, hmm, _, hx⟩
  · exact ⟨none, 0, 0, [], hcs, ⟨rfl, Nat.zero_le _, (fun _ h => by cases h), .inl rfl⟩, Nat.le_refl _, fun _ => rfl, Nat.zero_le _⟩
  · simp only [if_true] at hmm
    subst hmm
    have hv : ∀ i, i < m → ∃ u, V i = .float .f64 u ∧ u < 18446744073709551616 := by
      intro i hi
      obtain ⟨u, hu, hw⟩ := trodS_float hE (hx i hi).2
      simp only [List.cons.injEq, and_true] at hu
      exact ⟨u, hu, by simpa [Lit.wf] using hw⟩
    refine ⟨some a, len, m, (List.range len).map fun i => flOf (V i), hcs, ⟨by simp, Nat.le_trans hl hm, ?_, ?_⟩, hl, (fun h => by cases h), hm⟩
    · intro u hu
      simp only [List.mem_map, List.mem_range] at hu
      obtain ⟨i, hi, rfl⟩ := hu
      obtain ⟨y, hy, hlt⟩ := hv i (by omega)
      rw [hy]; exact hlt
    · by_cases h0 : len = 0
      · exact .inl h0
      · right
        obtain ⟨b, off, spot⟩ := a
        have hspot : spot = none := by simpa [Addr.add] using World.cell?_spot (hx 0 (by omega)).1
        subst hspot
        refine ⟨b, off, rfl, fun j hj => ?_⟩
        have g := (hx j (by omega)).1
        obtain ⟨y, hy, _⟩ := hv j (by omega)
        rw [Addr.add_lit, hy] at g
        rw [g]
        simp [hj, hy, flOf]
/-- A slice of slices of floats that came in. -/
theorem rows_open {P : Program} {H : Type} {enc : TypeId × Value → H} {W : World} {T E Q : TypeId} {fuel : Nat} {cs : List Value} {x : DataW H × List MemPlace}
    (hT : P.underlying T = some (.slice E)) (hE : P.underlying E = some (.slice Q)) (hQ : P.underlying Q = some (.float .f64)) (hc : P.cellsOf E = 1) (hq : P.cellsOf Q = 1) (h : DataW.trod enc P W 0 (fun _ => true) true fuel T cs = some x) :
    ∃ ao len cap uss, cs = [.slice ao len cap] ∧ RdQ W ao len cap uss := by
  rcases open_slice1 hT hc h with ⟨hcs, _⟩ | ⟨a, len, cap, m, n, V, D, Pl, hcs, _, hl, hm, hmm, _, hx⟩
  · exact ⟨none, 0, 0, [], hcs, ⟨rfl, Nat.zero_le _, .inl rfl⟩⟩
  · simp only [if_true] at hmm
    subst hmm
    have hv : ∀ i : Nat, ∃ us : List Nat, i < m → ∃ ao l c, V i = .slice ao l c ∧ RdF W ao l c us ∧ l ≤ c ∧ (ao = none → c = 0) ∧ c ≤ maxLen := by
      intro i
      by_cases hi : i < m
      · obtain ⟨ao, l, c, us, hu, r⟩ := floats_open hE hQ hq (hx i hi).2
        simp only [List.cons.injEq, and_true] at hu
        exact ⟨us, fun _ => ⟨ao, l, c, hu, r⟩⟩
      · exact ⟨[], fun h => absurd h hi⟩
    obtain ⟨F, hF⟩ := Classical.axiomOfChoice hv
    refine ⟨some a, len, m, (List.range len).map F, hcs, ⟨by simp, Nat.le_trans hl hm, ?_⟩⟩
    by_cases h0 : len = 0
    · exact .inl h0
    · right
      obtain ⟨b, off, spot⟩ := a
      have hspot : spot = none := by simpa [Addr.add] using World.cell?_spot (hx 0 (by omega)).1
      subst hspot
      refine ⟨b, off, rfl, fun j hj => ?_⟩
      have g := (hx j (by omega)).1
      obtain ⟨ao, l, c, hy, r⟩ := hF j (by omega)
      rw [Addr.add_lit, hy] at g
      have e : ((List.range len).map F)[j]?.getD [] = F j := by simp [hj]
      rw [e]
      exact ⟨ao, l, c, g, r⟩
theorem array7 {α : Type} {cs : Array α} (h : cs.size = 7) : ∃ c0 c1 c2 c3 c4 c5 c6, cs = #[c0, c1, c2, c3, c4, c5, c6] := by
  obtain ⟨l⟩ := cs
  match l, h with
  | [c0, c1, c2, c3, c4, c5, c6], _ => exact ⟨c0, c1, c2, c3, c4, c5, c6, rfl⟩
/-- A struct of seven fields of one cell each, opened. -/
theorem agg7 {P : Program} {H : Type} {enc : TypeId × Value → H} {W : World} {base b0 : Nat} {r : Reach} {spare : Nat → Bool} {held : Bool} {t : TypeId} {f0 f1 f2 f3 f4 f5 f6 : Field} {v : Value} {d : DataW H} {p : List MemPlace}
    (hs : P.underlying t = some (.struct #[f0, f1, f2, f3, f4, f5, f6])) (hone : oneCellFields P #[f0, f1, f2, f3, f4, f5, f6] = true) (hC : P.cellsOf t = 7) (hv : Value.okWide P W r b0 t v) (h : DataW.Trod enc P W base spare held t v d p) :
    ∃ (v0 v1 v2 v3 v4 v5 v6 : Value) (y0 y1 y2 y3 y4 y5 y6 : DataW H × List MemPlace) (n : Nat), v = .agg #[v0, v1, v2, v3, v4, v5, v6] ∧
      DataW.trod enc P W base spare held n f0.type [v0] = some y0 ∧ DataW.trod enc P W base spare held n f1.type [v1] = some y1 ∧ DataW.trod enc P W base spare held n f2.type [v2] = some y2 ∧ DataW.trod enc P W base spare held n f3.type [v3] = some y3 ∧ DataW.trod enc P W base spare held n f4.type [v4] = some y4 ∧ DataW.trod enc P W base spare held n f5.type [v5] = some y5 ∧ DataW.trod enc P W base spare held n f6.type [v6] = some y6 := by
  obtain ⟨cs, rfl, hsz⟩ := okWide_struct hs hv
  obtain ⟨c0, c1, c2, c3, c4, c5, c6, rfl⟩ := array7 (hsz.trans hC)
  obtain ⟨fuel, hf⟩ := h
  obtain ⟨xs, n, _, hx, hl, hlen, hff⟩ := DataW.trod_struct hs hf
  obtain ⟨o0, k0⟩ := hone_of hone 0 f0 rfl
  obtain ⟨o1, k1⟩ := hone_of hone 1 f1 rfl
  obtain ⟨o2, k2⟩ := hone_of hone 2 f2 rfl
  obtain ⟨o3, k3⟩ := hone_of hone 3 f3 rfl
  obtain ⟨o4, k4⟩ := hone_of hone 4 f4 rfl
  obtain ⟨o5, k5⟩ := hone_of hone 5 f5 rfl
  obtain ⟨o6, k6⟩ := hone_of hone 6 f6 rfl
  match xs, hlen with
  | [y0, y1, y2, y3, y4, y5, y6], _ =>
    exact ⟨c0, c1, c2, c3, c4, c5, c6, y0, y1, y2, y3, y4, y5, y6, n, rfl, by simpa [Value.cells, o0, k0] using hff 0 f0 rfl, by simpa [Value.cells, o1, k1] using hff 1 f1 rfl, by simpa [Value.cells, o2, k2] using hff 2 f2 rfl, by simpa [Value.cells, o3, k3] using hff 3 f3 rfl, by simpa [Value.cells, o4, k4] using hff 4 f4 rfl, by simpa [Value.cells, o5, k5] using hff 5 f5 rfl, by simpa [Value.cells, o6, k6] using hff 6 f6 rfl⟩
set_option maxRecDepth 100000 in
/-- A question that came in. -/
theorem prop_open {H : Type} {enc : TypeId × Value → H} {W : World} {b0 : Nat} {v : Value} {d : DataW H} {p : List MemPlace}
    (hv : Value.okWide Tryd.prog W .any b0 27 v) (h : DataW.Trod enc Tryd.prog W 0 (fun _ => true) true 27 v d p) :
    ∃ (co go lo : Option Addr) (cn cc gn gc ln lc : Nat) (cs : List Nat) (gs ls : List (List Nat)) (t K D L : Int), v = .agg #[.slice co cn cc, .slice go gn gc, .int .i64 t, .slice lo ln lc, .int .i64 K, .int .i64 D, .int .i64 L] ∧
      RdF W co cn cc cs ∧ cn ≤ cc ∧ (co = none → cc = 0) ∧ cc ≤ maxLen ∧ RdQ W go gn gc gs ∧ RdQ W lo ln lc ls := by
  obtain ⟨v0, v1, v2, v3, v4, v5, v6, y0, y1, y2, y3, y4, y5, y6, m, rfl, g0, g1, g2, g3, g4, g5, g6⟩ := agg7 Tryd.underlying27 (by kernel_rfl) (by kernel_rfl) hv h
  obtain ⟨co, cn, cc, cs, e0, r0, r1, r2, r3⟩ := floats_open Tryd.underlying24 Tryd.underlying46 (by kernel_rfl) g0
  obtain ⟨go, gn, gc, gs, e1, q1⟩ := rows_open Tryd.underlying25 Tryd.underlying24 Tryd.underlying46 (by kernel_rfl) (by kernel_rfl) g1
  obtain ⟨t, e2, _, _⟩ := DataW.trod_int Tryd.underlying3 g2
  obtain ⟨lo, ln, lc, ls, e3, q3⟩ := rows_open Tryd.underlying25 Tryd.underlying24 Tryd.underlying46 (by kernel_rfl) (by kernel_rfl) g3
  obtain ⟨K, e4, _, _⟩ := DataW.trod_int Tryd.underlying3 g4
  obtain ⟨D, e5, _, _⟩ := DataW.trod_int Tryd.underlying3 g5
  obtain ⟨L, e6, _, _⟩ := DataW.trod_int Tryd.underlying3 g6
  simp only [List.cons.injEq, and_true] at e0 e1 e2 e3 e4 e5 e6
  subst e0 e1 e2 e3 e4 e5 e6
  exact ⟨co, go, lo, cn, cc, gn, gc, ln, lc, cs, gs, ls, t, K, D, L, rfl, r0, r1, r2, r3, q1, q3⟩
end Go.Proofs.YtnhaapnmgjlbjaaDoor
