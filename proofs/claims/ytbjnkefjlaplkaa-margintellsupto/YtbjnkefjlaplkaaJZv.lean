import Derived.Test.YtbjnkefjlaplkaaJZu
import Derived.Test.YtbjnkefjlaplkaaGJd
namespace Go.Proofs.Ytbjnkefjlaplkaa
open Go.RowKit Go.Shelf
set_option linter.unusedVariables false
set_option linter.unusedSimpArgs false

/-- What came in is no longer than the bulk, and its words are words. -/
structure UW (u : ZD) : Prop where
  cl : u.cn ≤ 1050000
  rl : u.rn ≤ 1050000
  il : u.dn ≤ 1050000
  gl : u.gn ≤ 1050000
  ll : ∀ k, k < u.gn → (u.gv k).2.1 ≤ 1050000
  c : ∀ x ∈ u.cs, x < 18446744073709551616
  r : ∀ x ∈ u.rs, x < 18446744073709551616
  g : ∀ l ∈ u.gs, ∀ x ∈ l, x < 18446744073709551616
/-- The document's Reals. -/
theorem reals_any (u : ZD) (E : Nat) (hE : E = 1074) (w : World) (hu : ZU w u) (hw : UW u) :
    Calls Try.prog 18 #[.agg (zRow u)] w fun e w' => (∃ N' a1 l1 c1 a2 l2 c2 a3 l3 c3 a4 l4 c4, e = .returned (.tuple #[.agg #[.int .i64 N', .slice a1 l1 c1, .slice a2 l2 c2, .slice a3 l3 c3, .slice a4 l4 c4], .bool (!u.bad && wholeB u)]) ∧ ((!u.bad && wholeB u) = true → N' = u.N ∧ ∃ gl, RlS w' w.heap.size E u.cs u.rs u.ids u.gs (.slice a1 l1 c1) (.slice a4 l4 c4) (.slice a2 l2 c2) (.slice a3 l3 c3) gl)) ∧ Below w.heap.size w w' := by
  by_cases h : u.bad = true ∨ u.N < 1 ∨ 256 < u.N ∨ u.dn ≠ u.gn
  · exact reals_no u E w h hw.il hw.gl
  · have h0 : u.bad = false := by cases hb : u.bad with | true => exact absurd (.inl hb) h | false => rfl
    have h1 : 1 ≤ u.N := by have : ¬ u.N < 1 := fun c => h (.inr (.inl c)); omega
    have h2 : u.N ≤ 256 := by have : ¬ 256 < u.N := fun c => h (.inr (.inr (.inl c))); omega
    have h3 : u.dn = u.gn := by by_cases c : u.dn = u.gn; exact c; exact absurd (.inr (.inr (.inr c))) h
    clear h
    obtain ⟨N, co, cn, cc, io, dn, dc, go, gn, gc, ro, rn, rc, bad, cs, ids, gv, gs, rs⟩ := u
    dsimp only at h0 h1 h2 h3
    subst h0 h3
    obtain ⟨n, rfl⟩ : ∃ n : Nat, N = (n : Int) := ⟨N.toNat, by omega⟩
    exact reals_yes n co cn cc io dn dc go gc ro rn rc cs ids gv gs rs E hE w hu ⟨by omega, by omega⟩ hw.cl hw.rl hw.il hw.ll hw.c hw.r hw.g
theorem and_eqJ {a b c d : Bool} (h1 : a = b) (h2 : c = d) : (a && c) = (b && d) := by rw [h1, h2]
theorem colsB_eq {N : Int} {co co' : Option Addr} {cn cn' cc cc' : Nat} {io io' : Option Addr} {dn dc dc' : Nat} {go go' : Option Addr} {gn gn' gc gc' : Nat} {ro ro' : Option Addr} {rn rn' rc rc' : Nat} {bad bad' : Bool} {cs cs' : List Nat} {ids : List Int} {gv gv' : Nat → Option Addr × Nat × Nat} {gs : List (List Nat)} {rs rs' : List Nat} :
    ∀ (ks : List (_root_.Fin dn)) (last : Int), colsB ⟨N, co, cn, cc, io, dn, dc, go, gn, gc, ro, rn, rc, bad, cs, ids, gv, gs, rs⟩ last ks = colsB ⟨N, co', cn', cc', io', dn, dc', go', gn', gc', ro', rn', rc', bad', cs', ids, gv', gs, rs'⟩ last ks
  | [], _ => rfl
  | k :: ks, last => and_eqJ rfl (colsB_eq ks _)
/-- Two that have the same numbers are taken alike. -/
theorem checkB_eq (x u : ZD) (hN : x.N = u.N) (hb : x.bad = u.bad) (hc : x.cs = u.cs) (hr : x.rs = u.rs) (hi : x.ids = u.ids) (hg : x.gs = u.gs) (h1 : x.cn = u.cn) (h2 : x.dn = u.dn) (h3 : x.gn = u.gn) (h4 : x.rn = u.rn) : checkB x = checkB u := by
  obtain ⟨N, co, cn, cc, io, dn, dc, go, gn, gc, ro, rn, rc, bad, cs, ids, gv, gs, rs⟩ := x
  obtain ⟨N', co', cn', cc', io', dn', dc', go', gn', gc', ro', rn', rc', bad', cs', ids', gv', gs', rs'⟩ := u
  dsimp only at hN hb hc hr hi hg h1 h2 h3 h4
  subst hN hb hc hr hi hg h1 h2 h3 h4
  unfold checkB bareB wholeB
  dsimp only
  rw [colsB_eq]
end Go.Proofs.Ytbjnkefjlaplkaa

