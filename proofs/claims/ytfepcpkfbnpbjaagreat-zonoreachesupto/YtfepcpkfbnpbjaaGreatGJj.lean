import Derived.Test.YtfepcpkfbnpbjaaGreatGJi
namespace Go.Proofs.YtfepcpkfbnpbjaaGreat
open Go.RowKit Go.Shelf
set_option linter.unusedVariables false
set_option linter.unusedSimpArgs false

/-- Ids in a block of their own, two marks behind them. -/
structure WdI (w : World) (base g cap : Nat) (is : List Int) : Prop where
  lo : base ≤ g
  room : is.length + 2 ≤ cap
  max : cap ≤ maxLen
  cur : ∃ cur, w.heap[g]? = some (.cells cur 3) ∧ (∀ j, j < is.length → cur[j]? = some (.int .i64 (is[j]?.getD 0))) ∧ cur[is.length]? = some (.int .i64 901) ∧ cur[is.length + 1]? = some (.int .i64 902)
/-- Lists of numbers, each in a block of its own with marks behind it. -/
structure ColW (w : World) (base : Nat) (gs : List (List Nat)) (vs : List Value) : Prop where
  len : vs.length = gs.length
  col : ∀ (j : Nat) (u : Value), vs[j]? = some u → ∃ b c, u = .slice (some ⟨b, 0, none⟩) (gs[j]?.getD []).length c ∧ WdB w base b c (gs[j]?.getD [])
/-- What Laid laid of z: x. -/
structure LdR (w : World) (base : Nat) (z x : ZD) : Prop where
  zr : ZR w x
  N : x.N = z.N
  bad : x.bad = z.bad
  cs : x.cs = z.cs
  rs : x.rs = z.rs
  ids : x.ids = z.ids
  gs : x.gs = z.gs
  c : ∃ g, x.co = some ⟨g, 0, none⟩ ∧ WdB w base g x.cc x.cs ∧ x.cn = x.cs.length
  r : ∃ g, x.ro = some ⟨g, 0, none⟩ ∧ WdB w base g x.rc x.rs ∧ x.rn = x.rs.length
  i : ∃ g, x.io = some ⟨g, 0, none⟩ ∧ WdI w base g x.dc x.ids ∧ x.dn = x.ids.length
  g : ∃ g mb, x.go = some ⟨g, 0, none⟩ ∧ x.gn = x.gs.length ∧ x.gn + 1 ≤ x.gc ∧ x.gc ≤ maxLen ∧ w.cell? ⟨g, x.gn, none⟩ = some (.slice (some ⟨mb, 0, none⟩) 1 1) ∧ w.cell? ⟨mb, 0, none⟩ = some (.float .f64 4651136495631990784)
  col : ∀ j, j < x.gn → ∃ b, x.gv j = (some ⟨b, 0, none⟩, (x.gs[j]?.getD []).length, (x.gv j).2.2) ∧ WdB w base b (x.gv j).2.2 (x.gs[j]?.getD [])
end Go.Proofs.YtfepcpkfbnpbjaaGreat


namespace Go.Proofs.YtfepcpkfbnpbjaaGreat
open Go.RowKit Go.Shelf
set_option linter.unusedVariables false
set_option linter.unusedSimpArgs false

end Go.Proofs.YtfepcpkfbnpbjaaGreat

