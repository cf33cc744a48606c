import Derived.Test.YtogdfdhdmfkmaaaGreatGJg
import Derived.Test.YtogdfdhdmfkmaaaGreatGJd
namespace Go.Proofs.YtogdfdhdmfkmaaaGreat
open Go.RowKit Go.Shelf
set_option linter.unusedVariables false
set_option linter.unusedSimpArgs false

theorem owns_monoJ {w : World} {E : TypeId} {base b size n : Nat} {v : Value} {xs : List Value} (h : w.ownsRow base E size v n xs) (hb : b ≤ base) : w.ownsRow b E size v n xs := by
  refine ⟨h.1, ?_⟩
  rcases h.2 with h2 | ⟨g, cap, cur, hv, hg, r⟩
  · exact .inl h2
  · exact .inr ⟨g, cap, cur, hv, Nat.le_trans hb hg, r⟩
theorem FrL.mono {w : World} {base base' n bc br : Nat} {cs rs : List Nat} {ids : List Int} {gs : List (List Nat)} {vi vg : Value} {gl : List Nat} (h : FrL w base n bc br cs rs ids gs vi vg gl) (hb : base' ≤ base) : FrL w base' n bc br cs rs ids gs vi vg gl :=
  ⟨h.c.mono hb, h.r.mono hb, owns_monoJ h.i hb, owns_monoJ h.g hb, ⟨h.col.len, fun j hj => (h.col.row j hj).mono hb, h.col.nodup⟩, h.cr, h.cg, h.rg⟩
end Go.Proofs.YtogdfdhdmfkmaaaGreat

