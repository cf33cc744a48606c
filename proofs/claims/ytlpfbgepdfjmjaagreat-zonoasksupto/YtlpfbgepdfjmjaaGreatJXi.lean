import Derived.Test.YtlpfbgepdfjmjaaGreatJXh
import Derived.Test.YtlpfbgepdfjmjaaGreatGJk
namespace Go.Proofs.YtlpfbgepdfjmjaaGreat
open Go.RowKit Go.Shelf
set_option linter.unusedVariables false
set_option linter.unusedSimpArgs false

theorem SmZ.good {u z : ZD} (m : SmZ u z) : (!u.bad && wholeB u) = (!z.bad && wholeB z) := good_eq m.bad (checkB_eq u z m.N m.bad m.cs m.rs m.ids m.gs m.cn m.dn m.gn m.rn)
theorem SmZ.symm {u z : ZD} (m : SmZ u z) : SmZ z u := ⟨m.N.symm, m.bad.symm, m.cs.symm, m.rs.symm, m.ids.symm, m.gs.symm, m.dn.symm, m.gn.symm, m.cn.symm, m.rn.symm⟩
theorem SmZ.trans {u z x : ZD} (m : SmZ u z) (k : SmZ z x) : SmZ u x := ⟨m.N.trans k.N, m.bad.trans k.bad, m.cs.trans k.cs, m.rs.trans k.rs, m.ids.trans k.ids, m.gs.trans k.gs, m.dn.trans k.dn, m.gn.trans k.gn, m.cn.trans k.cn, m.rn.trans k.rn⟩
theorem LdR.sm {w w0 : World} {base : Nat} {z x : ZD} (h : LdR w base z x) (hz : ZR w0 z) : SmZ x z := by
  obtain ⟨g1, c1, -, c3⟩ := h.c
  obtain ⟨g4, r1, -, r3⟩ := h.r
  obtain ⟨gi, i1, -, i3⟩ := h.i
  obtain ⟨gg, mb, gg1, gg2, -⟩ := h.g
  exact ⟨h.N, h.bad, h.cs, h.rs, h.ids, h.gs, by rw [i3, h.ids, hz.i.length], by rw [gg2, h.gs, hz.g.length], by rw [c3, h.cs, hz.c.length], by rw [r3, h.rs, hz.r.length]⟩
theorem SmZ.bits {x u z : ZD} (m : SmZ x z) (k : SmZ u z) : bitsB x u = true := by
  unfold bitsB
  rw [m.N, m.bad, m.cs, m.rs, m.ids, m.gs, k.N, k.bad, k.cs, k.rs, k.ids, k.gs]
  simp
theorem SmZ.uw {w w0 : World} {u z : ZD} (m : SmZ u z) (hz : ZR w0 z) (hw : ZW z) (hu : ZU w u) : UW u := by
  have h64 := zr_fin64 hz
  exact ⟨by rw [m.cn]; exact hw.cl, by rw [m.rn]; exact hw.rl, by rw [m.dn]; exact hw.il, by rw [m.gn]; exact hw.gl, fun j hj => by rw [← (hu.g.each j hj).length, m.gs, (hz.g.each j (by rw [← m.gn]; exact hj)).length]; exact hw.coll j (by rw [← m.gn]; exact hj), by rw [m.cs]; exact h64.1, by rw [m.rs]; exact h64.2.1, by rw [m.gs]; exact h64.2.2⟩
/-- What Bounds tells. -/
structure BdR (w : World) (x : ZD) (v : Value) : Prop where
  is : ((!x.bad && wholeB x) = true ∧ ∃ g, v = .slice (some ⟨g, 0, none⟩) x.rn x.rn ∧ SpL w g x.rn x.rn (fun j r => AroR (x.cs[j]?.getD 0) (farZ x j) r)) ∨ ((!x.bad && wholeB x) = false ∧ v = .slice none 0 0)
theorem BdR.later {w w' : World} {x : ZD} {v : Value} (h : BdR w x v) (hb : Below w.heap.size w w') : BdR w' x v := by
  rcases h.is with ⟨h1, g, h2, h3⟩ | h1
  · obtain ⟨arr, ha, _⟩ := h3.ex
    exact ⟨.inl ⟨h1, g, h2, h3.heap (by rw [kept hb ha, ha])⟩⟩
  · exact ⟨.inr h1⟩
theorem boundsR_any (x : ZD) (w : World) (hx : ZR w x) (hd : x.dn ≤ 1050000) :
    Calls Tryz.prog 7 #[.agg (zRow x)] w fun e w' => ∃ v, e = .returned v ∧ BdR w' x v ∧ Below w.heap.size w w' := by
  cases hg : (!x.bad && wholeB x) with
  | true =>
    obtain ⟨h1, h2, h3⟩ := tk_good hg
    refine Calls.mono (bounds_whole x w hx h1 h2 (WhF.of hx hd h2)) ?_
    rintro e w' ⟨g, he, hs, hb⟩
    exact ⟨_, he, ⟨.inl ⟨hg, g, rfl, hs⟩⟩, hb⟩
  | false =>
    refine Calls.mono (bounds_no x w hx (tk_bad hg)) ?_
    rintro e w' ⟨he, hb⟩
    exact ⟨_, he, ⟨.inr ⟨hg, rfl⟩⟩, hb⟩
structure SupA (x : ZD) (ds : List Nat) (s : Nat) (ok : Bool) : Prop where
  is : ((!x.bad && wholeB x) = true ∧ SupR x ds s ok) ∨ ((!x.bad && wholeB x) = false ∧ s = 0 ∧ ok = false)
theorem supportA_any (x : ZD) (dO : Option Addr) (dl dcap : Nat) (ds : List Nat) (w : World) (hx : ZR w x) (hd : x.dn ≤ 1050000) (hdr : RdF w dO dl dcap ds) :
    Calls Tryz.prog 8 #[.agg (zRow x), .slice dO dl dcap] w fun e w' => ∃ s ok, e = .returned (.tuple #[.float .f64 s, .bool ok]) ∧ SupA x ds s ok ∧ Below w.heap.size w w' := by
  cases hg : (!x.bad && wholeB x) with
  | true =>
    obtain ⟨h1, h2, h3⟩ := tk_good hg
    refine Calls.mono (support_whole x dO dl dcap ds w hx hdr h1 h2 (WhF.of hx hd h2)) ?_
    rintro e w' ⟨s, ok, he, hs, hb⟩
    exact ⟨s, ok, he, ⟨.inl ⟨hg, hs⟩⟩, hb⟩
  | false =>
    refine Calls.mono (support_no x dO dl dcap ds w hx hdr (.inl (tk_bad hg))) ?_
    rintro e w' ⟨he, hb⟩
    exact ⟨0, false, he, ⟨.inr ⟨hg, rfl, rfl⟩⟩, hb⟩
theorem SupA.doc {w : World} {x u : ZD} {ds : List Nat} {s r : Nat} {ok is : Bool} (h : SupA x ds s ok) (k : SupD u ds r is) (hx : ZR w x) (hd : x.dn ≤ 1050000) (m : SmZ u x) : r = s ∧ is = ok := by
  rcases h.is with ⟨h1, h2⟩ | ⟨h1, rfl, rfl⟩
  · obtain ⟨_, hw, _⟩ := tk_good h1
    have hf := WhF.of hx hd hw
    exact SupR.doc h2 k h1 hf (by rw [hx.g.length, hf.dg]) m
  · rcases k.is with ⟨k1, _⟩ | ⟨_, rfl, rfl⟩
    · rw [m.good, h1] at k1; cases k1
    · exact ⟨rfl, rfl⟩
/-- What the document's Bounds tells. -/
structure BdD (w : World) (u : ZD) (v : Value) : Prop where
  is : ((!u.bad && wholeB u) = true ∧ ∃ base, OwnSp w base v u.rn (fun j r => SpR (fval (u.cs[j]?.getD 0) - farV u.rs u.gs j) (fval (u.cs[j]?.getD 0) + farV u.rs u.gs j) 1 r)) ∨ ((!u.bad && wholeB u) = false ∧ v = .slice none 0 0)
theorem boundsD_any (u : ZD) (w : World) (hu : ZU w u) (huw : UW u) :
    Calls Tryz.prog 12 #[.agg (zRow u)] w fun e w' => ∃ v, e = .returned v ∧ BdD w' u v ∧ Below w.heap.size w w' := by
  refine Calls.mono (refBounds_any u w hu huw) ?_
  rintro e w' ⟨v, he, hv, hb⟩
  exact ⟨v, he, ⟨hv⟩, hb⟩
theorem sameB_any (x u : ZD) (v1 v2 : Value) (w w0 : World) (h : BdR w x v1) (k : BdD w u v2) (hx : ZR w0 x) (hd : x.dn ≤ 1050000) (m : SmZ u x) :
    Calls Tryz.prog 11 #[v1, v2] w fun e w' => e = .returned (.bool true) ∧ Below w.heap.size w w' := by
  rcases h.is with ⟨h1, g, rfl, h3⟩ | ⟨h1, rfl⟩
  · obtain ⟨_, hw, _⟩ := tk_good h1
    have hf := WhF.of hx hd hw
    rcases k.is with ⟨_, base, k2⟩ | ⟨k1, _⟩
    · rw [m.rn] at k2
      refine sameSpans_any g x.rn base v2 w _ _ h3 k2 (fun j hj r r' hr hr' => ?_) ⟨hf.n1, hf.n2⟩
      have q := AroR.spR hf.fin hj (hf.pos j) hr
      rw [m.cs, m.rs, m.gs] at hr'
      have e : farV x.rs x.gs j = reA x j := by rw [reA_is (by rw [hx.g.length, hf.dg])]; rfl
      rw [e] at hr'
      exact SpR.uniq q hr'
    · rw [m.good, h1] at k1; cases k1
  · rcases k.is with ⟨k1, _⟩ | ⟨_, rfl⟩
    · rw [m.good, h1] at k1; cases k1
    · exact sameSpans_nil w
theorem ex_eqlS {ρ : Operand → Value} (o : Oper) (p q : Operand) (t : TypeId) (ho : o.op = .binOp .eql 9 p q t) (s : ByteArray) (hp : ρ p = .string s) (hq : ρ q = .string s) (w : World) : (execOp ρ o).run Tryz.prog w = .ok (.value (.bool true)) w := by
  unfold execOp
  simp only [ho, hp, hq]
  go_simp
end Go.Proofs.YtlpfbgepdfjmjaaGreat
