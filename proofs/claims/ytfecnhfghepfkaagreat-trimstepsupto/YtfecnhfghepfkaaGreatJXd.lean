import Derived.Test.YtfecnhfghepfkaaGreatGXa
import Derived.Test.YtfecnhfghepfkaaGreatGJf
import Derived.Test.YtfecnhfghepfkaaGreatJZu
namespace Go.Proofs.YtfecnhfghepfkaaGreat
open Go.RowKit Go.Shelf
set_option linter.unusedVariables false
set_option linter.unusedSimpArgs false

theorem NumC.form {w : World} {v : Value} {s : Nat} {T z : Int} (h : NumC w v s T z) : ∃ n o l c e, v = .agg #[.bool n, .slice o l c, .int .i64 e] := by
  obtain ⟨neg, m, e, ⟨ao, len, cap, xs, h1, _⟩, _⟩ := h
  exact ⟨neg, ao, len, cap, e, h1⟩
/-- A number of a column. -/
theorem RlS.elem {w : World} {base E : Nat} {cs rs : List Nat} {ids : List Int} {gs : List (List Nat)} {vc vr vi : Value} {a3 : Option Addr} {l3 c3 : Nat} {gl : List Value} (h : RlS w base E cs rs ids gs vc vr vi (.slice a3 l3 c3) gl) {k i n : Nat} (hk : k < gs.length) (hn : (gs[k]?.getD []).length = n) (hi : i < n) :
    ∃ g b cap nb o l c e, a3 = some ⟨g, 0, none⟩ ∧ w.cell? ⟨g, k, none⟩ = some (.slice (some ⟨b, 0, none⟩) n cap) ∧ w.rangeAt b (i * 3) [.bool nb, .slice o l c, .int .i64 e] ∧ NumC w (.agg #[.bool nb, .slice o l c, .int .i64 e]) E 1024 (fval ((gs[k]?.getD [])[i]?.getD 0)) := by
  obtain ⟨ao, cap, h1, h2, h3⟩ := owns_slice h.g
  have hl := h.len
  rcases h3 with h0 | ⟨g, rfl, hc⟩
  · omega
  have hkl : k < gl.length := by omega
  have hcell := hc k hkl
  rw [List.getElem?_eq_getElem hkl] at hcell
  obtain ⟨b, cap', nb, o, l, c, e, hv, hr, hz⟩ := (h.col k _ (List.getElem?_eq_getElem hkl)).range (k := i) (by rw [hn]; exact hi)
  rw [hv, hn] at hcell
  injection h1 with q1
  exact ⟨g, b, cap', nb, o, l, c, e, q1, hcell, hr, hz⟩
end Go.Proofs.YtfecnhfghepfkaaGreat

