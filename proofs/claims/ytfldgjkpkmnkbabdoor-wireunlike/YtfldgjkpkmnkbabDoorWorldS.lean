import Derived.Test.YtfldgjkpkmnkbabDoorWorldU
import Derived.Lib.SmallJoins
namespace Go.Proofs.YtfldgjkpkmnkbabDoor
open Go.ChangeShapes Go.WideShapes Go.ChangeAt Go.RowKit Go.Joins Go.Deep
set_option linter.unusedVariables false

theorem array5 {α : Type} {cs : Array α} (h : cs.size = 5) : ∃ c0 c1 c2 c3 c4, cs = #[c0, c1, c2, c3, c4] := by
  obtain ⟨l⟩ := cs
  match l, h with
  | [c0, c1, c2, c3, c4], _ => exact ⟨c0, c1, c2, c3, c4, rfl⟩
/-- A struct of five fields of one cell each, opened. -/
theorem agg5 {P : Program} {H : Type} {enc : TypeId × Value → H} {W : World} {base b0 : Nat} {r : Reach} {spare : TypeId → Bool} {held : Bool} {t : TypeId} {f0 f1 f2 f3 f4 : Field} {v : Value} {d : DataW H} {p : List MemPlace}
    (hs : P.underlying t = some (.struct #[f0, f1, f2, f3, f4])) (hone : oneCellFields P #[f0, f1, f2, f3, f4] = true) (hC : P.cellsOf t = 5) (hv : Value.okWide P W r b0 t v) (h : DataW.Trod enc P W base spare held t v d p) :
    ∃ (v0 v1 v2 v3 v4 : Value) (y0 y1 y2 y3 y4 : DataW H × List MemPlace) (n : Nat), v = .agg #[v0, v1, v2, v3, v4] ∧
      DataW.trod enc P W base spare held n f0.type [v0] = some y0 ∧ DataW.trod enc P W base spare held n f1.type [v1] = some y1 ∧ DataW.trod enc P W base spare held n f2.type [v2] = some y2 ∧ DataW.trod enc P W base spare held n f3.type [v3] = some y3 ∧ DataW.trod enc P W base spare held n f4.type [v4] = some y4 := by
  obtain ⟨cs, rfl, hsz⟩ := okWide_struct hs hv
  obtain ⟨c0, c1, c2, c3, c4, rfl⟩ := array5 (hsz.trans hC)
  obtain ⟨fuel, hf⟩ := h
  obtain ⟨xs, n, _, hx, hl, hlen, hff⟩ := DataW.trod_struct hs hf
  obtain ⟨o0, k0⟩ := hone_of hone 0 f0 rfl
  obtain ⟨o1, k1⟩ := hone_of hone 1 f1 rfl
  obtain ⟨o2, k2⟩ := hone_of hone 2 f2 rfl
  obtain ⟨o3, k3⟩ := hone_of hone 3 f3 rfl
  obtain ⟨o4, k4⟩ := hone_of hone 4 f4 rfl
  match xs, hlen with
  | [y0, y1, y2, y3, y4], _ =>
    exact ⟨c0, c1, c2, c3, c4, y0, y1, y2, y3, y4, n, rfl, by simpa [Value.cells, o0, k0] using hff 0 f0 rfl, by simpa [Value.cells, o1, k1] using hff 1 f1 rfl, by simpa [Value.cells, o2, k2] using hff 2 f2 rfl, by simpa [Value.cells, o3, k3] using hff 3 f3 rfl, by simpa [Value.cells, o4, k4] using hff 4 f4 rfl⟩

/-- A thing that came in. -/
theorem thing_open {H : Type} {enc : TypeId × Value → H} {W : World} {b0 : Nat} {v : Value} {d : DataW H} {p : List MemPlace}
    (hv : Value.okWide Tryd.prog W .any b0 25 v) (h : DataW.Trod enc Tryd.prog W 0 (fun _ => true) true 25 v d p) :
    ∃ (kd n : Int) (u : Nat) (s : ByteArray) (a : Option Addr) (l c : Nat) (xs : List Int), v = .agg #[.int .i64 kd, .int .i64 n, .int .u64 u, .string s, .slice a l c] ∧ Rd W a l c xs ∧
      -9223372036854775808 ≤ n ∧ n ≤ 9223372036854775807 ∧ u < 18446744073709551616 ∧ s.size ≤ 9223372036854775807 := by
  obtain ⟨v0, v1, v2, v3, v4, y0, y1, y2, y3, y4, m, rfl, g0, g1, g2, g3, g4⟩ := agg5 Tryd.underlying25 (by kernel_rfl) (by kernel_rfl) hv h
  obtain ⟨kd, e0, _, _⟩ := DataW.trod_int Tryd.underlying3 g0
  obtain ⟨n, e1, _, w1⟩ := DataW.trod_int Tryd.underlying3 g1
  obtain ⟨u, e2, _, w2⟩ := DataW.trod_int Tryd.underlying22 g2
  obtain ⟨s, e3, _, w3⟩ := DataW.trod_string Tryd.underlying9 g3
  obtain ⟨a, l, c, e4⟩ := slice_form Tryd.underlying23 g4
  simp only [List.cons.injEq, and_true] at e0 e1 e2 e3 e4
  subst e0 e1 e2 e3 e4
  obtain ⟨xs, hr⟩ : ∃ zs, Rd W a l c zs := rd_of_trod (enc := enc) (d := y4.1) (p := y4.2) Tryd.underlying23 Tryd.underlying5 (by kernel_rfl) ⟨m, g4⟩
  have b1 := bounds_i64 w1
  have b2 := bounds_u64 w2
  have hu : u = ((u.toNat : Nat) : Int) := by omega
  refine ⟨kd, n, u.toNat, s, a, l, c, xs, by rw [← hu], hr, by omega, by omega, by omega, w3⟩
end Go.Proofs.YtfldgjkpkmnkbabDoor
