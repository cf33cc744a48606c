import Derived.Test.YthopkbkcdkjmeaaJZu
import Derived.Test.YthopkbkcdkjmeaaGJd
namespace Go.Proofs.Ythopkbkcdkjmeaa
open Go.RowKit Go.Shelf
set_option linter.unusedVariables false
set_option linter.unusedSimpArgs false

theorem and_eqJ {a b c d : Bool} (h1 : a = b) (h2 : c = d) : (a && c) = (b && d) := by rw [h1, h2]
theorem colsB_eq {N : Int} {co co' : Option Addr} {cn cn' cc cc' : Nat} {io io' : Option Addr} {dn dc dc' : Nat} {go go' : Option Addr} {gn gn' gc gc' : Nat} {ro ro' : Option Addr} {rn rn' rc rc' : Nat} {bad bad' : Bool} {cs cs' : List Nat} {ids : List Int} {gv gv' : Nat → Option Addr × Nat × Nat} {gs : List (List Nat)} {rs rs' : List Nat} :
    ∀ (ks : List (_root_.Fin dn)) (last : Int), colsB ⟨N, co, cn, cc, io, dn, dc, go, gn, gc, ro, rn, rc, bad, cs, ids, gv, gs, rs⟩ last ks = colsB ⟨N, co', cn', cc', io', dn, dc', go', gn', gc', ro', rn', rc', bad', cs', ids, gv', gs, rs'⟩ last ks
  | [], _ => rfl
  | k :: ks, last => and_eqJ rfl (colsB_eq ks _)
/-- Two that have the same numbers are taken alike. -/
theorem checkB_eq (x u : ZD) (hN : x.N = u.N) (hb : x.bad = u.bad) (hc : x.cs = u.cs) (hr : x.rs = u.rs) (hi : x.ids = u.ids) (hg : x.gs = u.gs) (h1 : x.cn = u.cn) (h2 : x.dn = u.dn) (h3 : x.gn = u.gn) (h4 : x.rn = u.rn) : checkB x = checkB u := by
  obtain ⟨N, co, cn, cc, io, dn, dc, go, gn, gc, ro, rn, rc, bad, cs, ids, gv, gs, rs⟩ := x
  obtain ⟨N', co', cn', cc', io', dn', dc', go', gn', gc', ro', rn', rc', bad', cs', ids', gv', gs', rs'⟩ := u
  dsimp only at hN hb hc hr hi hg h1 h2 h3 h4
  subst hN hb hc hr hi hg h1 h2 h3 h4
  unfold checkB bareB wholeB
  dsimp only
  rw [colsB_eq]
end Go.Proofs.Ythopkbkcdkjmeaa

