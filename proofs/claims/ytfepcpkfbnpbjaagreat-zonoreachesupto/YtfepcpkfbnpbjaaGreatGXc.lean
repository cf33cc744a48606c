import Derived.Test.YtfepcpkfbnpbjaaGreatGXb
import Derived.Test.YtfepcpkfbnpbjaaGreatJYk
import Derived.Test.YtfepcpkfbnpbjaaGreatSpi
import Derived.Test.YtfepcpkfbnpbjaaGreatGJk
namespace Go.Proofs.YtfepcpkfbnpbjaaGreat
open Go.RowKit Go.Shelf
set_option linter.unusedVariables false
set_option linter.unusedSimpArgs false

end Go.Proofs.YtfepcpkfbnpbjaaGreat


namespace Go.Proofs.YtfepcpkfbnpbjaaGreat
open Go.RowKit Go.Shelf
set_option linter.unusedVariables false
set_option linter.unusedSimpArgs false

/-- What Bounds tells. -/
structure BdR (w : World) (x : ZD) (v : Value) : Prop where
  is : ((!x.bad && wholeB x) = true ∧ ∃ g, v = .slice (some ⟨g, 0, none⟩) x.rn x.rn ∧ SpL w g x.rn x.rn (fun j r => AroR (x.cs[j]?.getD 0) (farZ x j) r)) ∨ ((!x.bad && wholeB x) = false ∧ v = .slice none 0 0)
theorem BdR.later {w w' : World} {x : ZD} {v : Value} (h : BdR w x v) (hb : Below w.heap.size w w') : BdR w' x v := by
  rcases h.is with ⟨h1, g, h2, h3⟩ | h1
  · obtain ⟨arr, ha, _⟩ := h3.ex
    exact ⟨.inl ⟨h1, g, h2, h3.heap (by rw [kept hb ha, ha])⟩⟩
  · exact ⟨.inr h1⟩
theorem boundsR_any (x : ZD) (w : World) (hx : ZR w x) (hd : x.dn ≤ 1050000) :
    Calls Tryz.prog 7 #[.agg (zRow x)] w fun e w' => ∃ v, e = .returned v ∧ BdR w' x v ∧ Below w.heap.size w w' := by
  cases hg : (!x.bad && wholeB x) with
  | true =>
    obtain ⟨h1, h2, h3⟩ := tk_good hg
    refine Calls.mono (bounds_whole x w hx h1 h2 (WhF.of hx hd h2)) ?_
    rintro e w' ⟨g, he, hs, hb⟩
    exact ⟨_, he, ⟨.inl ⟨hg, g, rfl, hs⟩⟩, hb⟩
  | false =>
    refine Calls.mono (bounds_no x w hx (tk_bad hg)) ?_
    rintro e w' ⟨he, hb⟩
    exact ⟨_, he, ⟨.inr ⟨hg, rfl⟩⟩, hb⟩
structure SupA (x : ZD) (ds : List Nat) (s : Nat) (ok : Bool) : Prop where
  is : ((!x.bad && wholeB x) = true ∧ SupR x ds s ok) ∨ ((!x.bad && wholeB x) = false ∧ s = 0 ∧ ok = false)
theorem supportA_any (x : ZD) (dO : Option Addr) (dl dcap : Nat) (ds : List Nat) (w : World) (hx : ZR w x) (hd : x.dn ≤ 1050000) (hdr : RdF w dO dl dcap ds) :
    Calls Tryz.prog 6 #[.agg (zRow x), .slice dO dl dcap] w fun e w' => ∃ s ok, e = .returned (.tuple #[.float .f64 s, .bool ok]) ∧ SupA x ds s ok ∧ Below w.heap.size w w' := by
  cases hg : (!x.bad && wholeB x) with
  | true =>
    obtain ⟨h1, h2, h3⟩ := tk_good hg
    refine Calls.mono (support_whole x dO dl dcap ds w hx hdr h1 h2 (WhF.of hx hd h2)) ?_
    rintro e w' ⟨s, ok, he, hs, hb⟩
    exact ⟨s, ok, he, ⟨.inl ⟨hg, hs⟩⟩, hb⟩
  | false =>
    refine Calls.mono (support_no x dO dl dcap ds w hx hdr (.inl (tk_bad hg))) ?_
    rintro e w' ⟨he, hb⟩
    exact ⟨0, false, he, ⟨.inr ⟨hg, rfl, rfl⟩⟩, hb⟩
end Go.Proofs.YtfepcpkfbnpbjaaGreat


namespace Go.Proofs.YtfepcpkfbnpbjaaGreat
open Go.RowKit Go.Shelf
set_option linter.unusedVariables false
set_option linter.unusedSimpArgs false

/-- What Box tells. -/
structure BxR (z y : ZD) : Prop where
  is : ((!z.bad && wholeB z) = true ∧ y.N = z.N ∧ y.bad = false ∧ y.cs = z.cs.map plainM ∧ y.rs.length = z.rn ∧ (∀ j, j < z.rn → RndO 1 (farZ z j) (y.rs[j]?.getD 0) true) ∧ y.ids = [] ∧ y.gs = [] ∧ y.cn = z.rn ∧ y.rn = z.rn ∧ y.dn = 0 ∧ y.gn = 0) ∨ (((!z.bad && wholeB z) = false ∨ ∃ j u, j < z.rn ∧ RndO 1 (farZ z j) u false) ∧ y = ⟨(tkZ z).N, none, 0, 0, none, 0, 0, none, 0, 0, none, 0, 0, true, [], [], fun _ => (none, 0, 0), [], []⟩)
end Go.Proofs.YtfepcpkfbnpbjaaGreat

