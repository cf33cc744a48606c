import Derived.Test.YtlpfbgepdfjmjaaGreatJXb
import Derived.Test.YtlpfbgepdfjmjaaGreatJYh
import Derived.Test.YtlpfbgepdfjmjaaGreatGJd
import Derived.Test.YtlpfbgepdfjmjaaGreatZX
namespace Go.Proofs.YtlpfbgepdfjmjaaGreat
open Go.RowKit Go.Shelf
set_option linter.unusedVariables false
set_option linter.unusedSimpArgs false

/-- Two zonotopes have the same numbers. -/
structure SmZ (u z : ZD) : Prop where
  N : u.N = z.N
  bad : u.bad = z.bad
  cs : u.cs = z.cs
  rs : u.rs = z.rs
  ids : u.ids = z.ids
  gs : u.gs = z.gs
  dn : u.dn = z.dn
  gn : u.gn = z.gn
  cn : u.cn = z.cn
  rn : u.rn = z.rn
theorem ofU (z : ZD) (w : World) (hz : ZR w z) (hw : ZW z) :
    Calls Tryz.prog 4 #[.agg (zRow z)] w fun e w' => ∃ u : ZD, e = .returned (.agg (zRow u)) ∧ ZU w' u ∧ SmZ u z ∧ Below w.heap.size w w' := by
  refine Calls.mono (of10_any z w hz hw) ?_
  rintro e w1 ⟨u, he, hu, u1, u2, u3, u4, u5, u6, u7, u8, u9, u10, b1⟩
  exact ⟨u, he, hu, ⟨u1, u2, u3, u4, u5, u6, u7, u8, u9, u10⟩, b1⟩
/-- What Support tells. -/
structure SupR (z : ZD) (ds : List Nat) (s : Nat) (ok : Bool) : Prop where
  is : (numN ds z.N = true ∧ RndO 1 (supO z ds) s ok) ∨ (numN ds z.N = false ∧ s = 0 ∧ ok = false)
theorem support_whole (z : ZD) (dO : Option Addr) (dl dcap : Nat) (ds : List Nat) (w : World) (hz : ZR w z) (hdr : RdF w dO dl dcap ds) (hb : z.bad = false) (hw : wholeB z = true) (hf : WhF z) :
    Calls Tryz.prog 8 #[.agg (zRow z), .slice dO dl dcap] w fun e w' => ∃ s ok, e = .returned (.tuple #[.float .f64 s, .bool ok]) ∧ SupR z ds s ok ∧ Below w.heap.size w w' := by
  have hc := check_whole hb hw
  cases hn : numN ds z.N with
  | true =>
    have hl : ds.length = z.rn := by have := (numN_fin hn).1; rw [hf.N] at this; omega
    refine Calls.mono (support_ok z dO dl dcap ds w hz hdr hc hb hn ⟨hf.dg, by rw [hl]; exact hf.cl, by rw [hl]; exact hf.rl, fun k hk => by rw [hl]; exact hf.gl k hk⟩) ?_
    rintro e w' ⟨⟨u, b, he, hr⟩, hb'⟩
    exact ⟨u, b, he, ⟨.inl ⟨hn, hr⟩⟩, hb'⟩
  | false =>
    refine Calls.mono (support_no z dO dl dcap ds w hz hdr (.inr (by rw [tk_self hc]; exact hn))) ?_
    rintro e w' ⟨he, hb'⟩
    exact ⟨0, false, he, ⟨.inr ⟨hn, rfl, rfl⟩⟩, hb'⟩
theorem LfR.sup {z y : ZD} {next : Int} {ds : List Nat} (h : LfR z next y) (hz : WhF z) (hy : WhF y) (gz : z.gs.length = z.dn) (gy : y.gs.length = y.dn) (hn : numN ds z.N = true) : supO y ds = supO z ds := by
  obtain ⟨h1, h2⟩ := numN_fin hn
  have hl : ds.length = z.rn := by rw [hz.N] at h1; omega
  obtain ⟨a, ha⟩ : ∃ a : Nat, a = 92 := ⟨_, rfl⟩
  rw [supO_gen ha hy.fin gy (fin_getD h2) hl (by rw [hy.rl, h.rn]) hz.n2, supO_gen ha hz.fin gz (fin_getD h2) hl hz.rl hz.n2, h.cs, h.rs, h.gs, supV_lift hz.rl hz.pos]
theorem SupR.same {z y : ZD} {next : Int} {ds : List Nat} {s t : Nat} {ok is : Bool} (h : SupR z ds s ok) (k : SupR y ds t is) (hl : LfR z next y) (hz : WhF z) (hy : WhF y) (gz : z.gs.length = z.dn) (gy : y.gs.length = y.dn) : s = t ∧ ok = is ∧ Fin s := by
  have e := hl.N
  rcases h.is with ⟨h1, h2⟩ | ⟨h1, rfl, rfl⟩
  · rcases k.is with ⟨k1, k2⟩ | ⟨k1, _, _⟩
    · rw [hl.sup hz hy gz gy h1] at k2
      obtain ⟨rfl, rfl⟩ := RndO.uniq h2 k2
      exact ⟨rfl, rfl, RndO.finJ h2⟩
    · rw [e, h1] at k1; cases k1
  · rcases k.is with ⟨k1, k2⟩ | ⟨k1, rfl, rfl⟩
    · rw [e, h1] at k1; cases k1
    · exact ⟨rfl, rfl, fin_zeroJ⟩
theorem bounds_whole (z : ZD) (w : World) (hz : ZR w z) (hb : z.bad = false) (hw : wholeB z = true) (hf : WhF z) :
    Calls Tryz.prog 7 #[.agg (zRow z)] w fun e w' => ∃ g, e = .returned (.slice (some ⟨g, 0, none⟩) z.rn z.rn) ∧ SpL w' g z.rn z.rn (fun j r => AroR (z.cs[j]?.getD 0) (farZ z j) r) ∧ Below w.heap.size w w' := by
  refine Calls.mono (bounds_ok z w hz (check_whole hb hw) hb hf.N (by have := hf.n2; omega) (Nat.le_of_eq hf.dg) hf.cn hf.gl) ?_
  rintro e w' ⟨⟨g, he, _, hs⟩, hb'⟩
  exact ⟨g, he, hs, hb'⟩
theorem LfR.may {z y : ZD} {next : Int} (h : LfR z next y) (hf : WhF z) (hi : z.ids.length = z.dn) (hm : mayB z next = true) : mayB y (next + (madeN z.rs : Nat)) = true := by
  obtain ⟨c1, c2⟩ := h.count hf.rl hi
  have e1 : (z.rs.map plainM).length = z.rn := by rw [List.length_map]; exact hf.rl
  have hp' : ∀ j : Nat, 0 ≤ fval ((z.rs.map plainM)[j]?.getD 0) := fun j => by rw [getD_plain, fval_plainM]; exact hf.pos j
  have hy0 : madeN y.rs = 0 := by rw [h.rs]; exact madeN_zrL e1 hp'
  have hcnt := lfS_count z.rn (z.rs.map plainM) next z.rn (by omega)
  rw [List.take_of_length_le (by omega), madeN_plain] at hcnt
  unfold mayB lastB at hm ⊢
  simp only [Bool.and_eq_true, Bool.or_eq_true, Bool.not_eq_true', Bool.or_eq_false_iff, decide_eq_false_iff_not, decide_eq_true_eq, Bool.and_eq_false_iff] at hm ⊢
  obtain ⟨⟨m1, m2⟩, m3⟩ := hm
  refine ⟨⟨by omega, ?_⟩, .inl hy0⟩
  by_cases hd : y.dn = 0
  · exact .inl (by omega)
  refine .inr ?_
  by_cases h0 : madeN z.rs = 0
  · rw [h.ids, List.getElem?_append_left (by omega), c1, h0]
    rcases m2 with m2 | m2
    · omega
    · rw [Nat.add_zero]
      omega
  · rw [h.ids, List.getElem?_append_right (by omega), hi, lfS_id _ _ _ _ (by omega) _ (by omega)]
    omega
theorem range3 {w : World} {b o : Nat} {x y z : Value} (h1 : w.cell? ⟨b, o, none⟩ = some x) (h2 : w.cell? ⟨b, o + 1, none⟩ = some y) (h3 : w.cell? ⟨b, o + 2, none⟩ = some z) : w.rangeAt b o [x, y, z] := by
  intro j v hv
  match j, hv with
  | 0, hv => simp only [List.getElem?_cons_zero, Option.some.injEq] at hv; subst hv; exact h1
  | 1, hv => simp only [List.getElem?_cons_succ, List.getElem?_cons_zero, Option.some.injEq] at hv; subst hv; exact h2
  | 2, hv => simp only [List.getElem?_cons_succ, List.getElem?_cons_zero, Option.some.injEq] at hv; subst hv; exact h3
  | j + 3, hv => simp at hv
theorem RowN.range {w : World} {base E : Nat} {v : Value} {us : List Nat} (h : RowN w base v E us) {k : Nat} (hk : k < us.length) : ∃ b cap n o l c e, v = .slice (some ⟨b, 0, none⟩) us.length cap ∧ w.rangeAt b (k * 3) [.bool n, .slice o l c, .int .i64 e] ∧ NumC w (.agg #[.bool n, .slice o l c, .int .i64 e]) E 1024 (fval (us[k]?.getD 0)) := by
  obtain ⟨b, cap, hv, n, o, l, c, e, c1, c2, c3, hz⟩ := h.at hk
  exact ⟨b, cap, n, o, l, c, e, hv, range3 c1 c2 c3, hz⟩
theorem range_later {w w' : World} {b o : Nat} {cs : List Value} (h : w.rangeAt b o cs) (hb : Below w.heap.size w w') : w'.rangeAt b o cs := fun j v hv => (hb.cell (World.block_lt_of_cell? _ _ (h j v hv))).trans (h j v hv)
end Go.Proofs.YtlpfbgepdfjmjaaGreat

