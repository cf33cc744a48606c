import Derived.ChangeOld
import Derived.ProofKit
import Derived.Deep.DeepHandedRow
import Derived.Test.YtbfnahfkdjlpdaaGreatLTrimAgain
set_option linter.unusedVariables false
set_option linter.unusedSimpArgs false
namespace Go.Proofs.YtbfnahfkdjlpdaaGreat
open Go.ChangeShapes Go.WideShapes Go.ChangeAt Go.RowKit Go.Joins Go.Deep
theorem floatsL_open {P : Program} {H : Type} {enc : TypeId × Value → H} {W : World} {T E : TypeId} {fuel : Nat} {cs : List Value} {x : DataW H × List MemPlace}
    (hT : P.underlying T = some (.slice E)) (hE : P.underlying E = some (.float .f64)) (hc : P.cellsOf E = 1) (h : DataW.trod enc P W 0 (fun _ => true) true fuel T cs = some x) :
    ∃ ao len cap us, cs = [.slice ao len cap] ∧ RdF W ao len cap us ∧ (len ≤ cap ∧ (ao = none → cap = 0) ∧ cap ≤ maxLen) := by
  rcases open_slice1 hT hc h with ⟨hcs, _⟩ | ⟨a, len, cap, m, n, V, D, Pl, hcs, _, hl, hm, hmm, hxx, hx⟩
  · exact ⟨none, 0, 0, [], hcs, ⟨rfl, Nat.zero_le _, (fun _ h => by cases h), .inl rfl⟩, ⟨Nat.le_refl _, fun _ => rfl, Nat.zero_le _⟩⟩
  · simp only [if_true] at hmm
    subst hmm
    have hv : ∀ i, i < m → ∃ u, V i = .float .f64 u ∧ u < 18446744073709551616 := by
      intro i hi
      obtain ⟨u, hu, hw⟩ := trodJ_float hE (hx i hi).2
      simp only [List.cons.injEq, and_true] at hu
      exact ⟨u, hu, by simpa [Lit.wf] using hw⟩
    refine ⟨some a, len, m, (List.range len).map fun i => flOfJ (V i), hcs, ⟨by simp, Nat.le_trans hl hm, ?_, ?_⟩, ⟨hl, (fun h => by cases h), hm⟩⟩
    · intro u hu
      simp only [List.mem_map, List.mem_range] at hu
      obtain ⟨i, hi, rfl⟩ := hu
      obtain ⟨y, hy, hlt⟩ := hv i (by omega)
      rw [hy]; exact hlt
    · by_cases h0 : len = 0
      · exact .inl h0
      · right
        obtain ⟨b, off, spot⟩ := a
        have hspot : spot = none := by simpa [Addr.add] using World.cell?_spot (hx 0 (by omega)).1
        subst hspot
        refine ⟨b, off, rfl, fun j hj => ?_⟩
        have g := (hx j (by omega)).1
        obtain ⟨y, hy, _⟩ := hv j (by omega)
        rw [Addr.add_lit, hy] at g
        rw [g]
        simp [hj, hy, flOfJ]
theorem rowsL_open {P : Program} {H : Type} {enc : TypeId × Value → H} {W : World} {T E Q : TypeId} {fuel : Nat} {cs : List Value} {x : DataW H × List MemPlace}
    (hT : P.underlying T = some (.slice E)) (hE : P.underlying E = some (.slice Q)) (hQ : P.underlying Q = some (.float .f64)) (hc : P.cellsOf E = 1) (hq : P.cellsOf Q = 1) (h : DataW.trod enc P W 0 (fun _ => true) true fuel T cs = some x) :
    ∃ ao len cap gv gs, cs = [.slice ao len cap] ∧ RdGs W ao len cap gv gs ∧ (∀ k, k < len → (gv k).2.1 ≤ (gv k).2.2 ∧ ((gv k).1 = none → (gv k).2.2 = 0) ∧ (gv k).2.2 ≤ maxLen) := by
  rcases open_slice1 hT hc h with ⟨hcs, _⟩ | ⟨a, len, cap, m, n, V, D, Pl, hcs, _, hl, hm, hmm, hxx, hx⟩
  · exact ⟨none, 0, 0, fun _ => (none, 0, 0), [], hcs, ⟨rfl, Nat.zero_le _, .inl rfl, fun j hj => absurd hj (Nat.not_lt_zero _)⟩, fun k hk => absurd hk (Nat.not_lt_zero _)⟩
  · simp only [if_true] at hmm
    subst hmm
    have hv : ∀ i : Nat, ∃ q : (Option Addr × Nat × Nat) × List Nat, i < m → V i = .slice q.1.1 q.1.2.1 q.1.2.2 ∧ RdF W q.1.1 q.1.2.1 q.1.2.2 q.2 ∧ (q.1.2.1 ≤ q.1.2.2 ∧ (q.1.1 = none → q.1.2.2 = 0) ∧ q.1.2.2 ≤ maxLen) := by
      intro i
      by_cases hi : i < m
      · obtain ⟨ao, l, c, us, hu, r1, r2⟩ := floatsL_open hE hQ hq (hx i hi).2
        simp only [List.cons.injEq, and_true] at hu
        exact ⟨((ao, l, c), us), fun _ => ⟨hu, r1, r2⟩⟩
      · exact ⟨((none, 0, 0), []), fun h => absurd h hi⟩
    obtain ⟨F, hF⟩ := Classical.axiomOfChoice hv
    refine ⟨some a, len, m, fun i => (F i).1, (List.range len).map fun i => (F i).2, hcs, ⟨by simp, Nat.le_trans hl hm, ?_, fun j hj => ?_⟩, fun k hk => ?_⟩
    · by_cases h0 : len = 0
      · exact .inl h0
      · right
        obtain ⟨b, off, spot⟩ := a
        have hspot : spot = none := by simpa [Addr.add] using World.cell?_spot (hx 0 (by omega)).1
        subst hspot
        refine ⟨b, off, rfl, fun j hj => ?_⟩
        have g := (hx j (by omega)).1
        rw [Addr.add_lit, (hF j (by omega)).1] at g
        exact g
    · have e : ((List.range len).map fun i => (F i).2)[j]?.getD [] = (F j).2 := by simp [hj]
      rw [e]
      exact (hF j (by omega)).2.1
    · exact (hF k (by omega)).2.2
set_option maxRecDepth 100000 in
theorem zonoL_open {H : Type} {enc : TypeId × Value → H} {W : World} {b0 : Nat} {v : Value} {d : DataW H} {p : List MemPlace}
    (hv : Value.okWide Tryz.prog W .any b0 26 v) (h : DataW.Trod enc Tryz.prog W 0 (fun _ => true) true 26 v d p) :
    ∃ (N : Int) (co : Option Addr) (cn cc : Nat) (io : Option Addr) (dn dc : Nat) (go : Option Addr) (gn gc : Nat) (ro : Option Addr) (rn rc : Nat) (bad : Bool) (cs : List Nat) (ids : List Int) (gv : Nat → Option Addr × Nat × Nat) (gs : List (List Nat)) (rs : List Nat),
      v = .agg #[.int .i64 N, .slice co cn cc, .slice io dn dc, .slice go gn gc, .slice ro rn rc, .bool bad] ∧ RdF W co cn cc cs ∧ RdIs W io dn dc ids ∧ RdGs W go gn gc gv gs ∧ RdF W ro rn rc rs ∧ (cn ≤ cc ∧ (co = none → cc = 0) ∧ cc ≤ maxLen) ∧ (rn ≤ rc ∧ (ro = none → rc = 0) ∧ rc ≤ maxLen) ∧ (∀ k, k < gn → ((gv k).2.1 ≤ (gv k).2.2 ∧ ((gv k).1 = none → (gv k).2.2 = 0) ∧ (gv k).2.2 ≤ maxLen)) := by
  obtain ⟨v0, v1, v2, v3, v4, v5, y0, y1, y2, y3, y4, y5, m, rfl, hb, g0, g1, g2, g3, g4, g5⟩ := agg6 Tryz.underlying26 (by kernel_rfl) (by kernel_rfl) hv h
  obtain ⟨N, e0, _, _⟩ := DataW.trod_int Tryz.underlying3 g0
  obtain ⟨co, cn, cc, cs, e1, r1, s1⟩ := floatsL_open Tryz.underlying22 Tryz.underlying55 (by kernel_rfl) g1
  obtain ⟨io, dn, dc, ids, e2, r2, s2, t2⟩ := intsJ_open Tryz.underlying23 Tryz.underlying3 (by kernel_rfl) g2
  obtain ⟨go, gn, gc, gv, gs, e3, r3, s3⟩ := rowsL_open Tryz.underlying24 Tryz.underlying22 Tryz.underlying55 (by kernel_rfl) (by kernel_rfl) g3
  obtain ⟨ro, rn, rc, rs, e4, r4, s4⟩ := floatsL_open Tryz.underlying22 Tryz.underlying55 (by kernel_rfl) g4
  obtain ⟨bad, e5⟩ := trodJ_bool Tryz.underlying4 g5
  simp only [List.cons.injEq, and_true] at e0 e1 e2 e3 e4 e5
  subst e0 e1 e2 e3 e4 e5
  exact ⟨N, co, cn, cc, io, dn, dc, go, gn, gc, ro, rn, rc, bad, cs, ids, gv, gs, rs, rfl, r1, r2, r3, r4, s1, s4, s3⟩
section
variable {H : Type} {enc : TypeId × Value → H} {P : Program} {w : World} {base : Nat} {spare : Nat → Bool} {held : Bool}
theorem open_slice_flat {t e : TypeId} {fs : Array Field} {fuel : Nat} {cs : List Value} {x : DataW H × List MemPlace} (ht : P.underlying t = some (.slice e)) (he : P.underlying e = some (.struct fs))
    (ce : P.cellsOf e = fs.size) (ho : ∀ (k : Nat) (f : Field), fs[k]? = some f → f.offset = k ∧ P.cellsOf f.type = 1) (h : DataW.trod enc P w base spare held fuel t cs = some x) :
    cs = [.slice none 0 0] ∨ ∃ (a : Addr) (len cap m n : Nat), cs = [.slice (some a) len cap] ∧ len ≤ cap ∧ cap ≤ maxLen ∧ m = (if spare a.block then cap else len) ∧
      ∀ i, i < m → ∀ (k : Nat) (f : Field), fs[k]? = some f → ∃ v y, w.cell? (a.add (i * fs.size + k)) = some v ∧ DataW.trod enc P w base spare held n f.type [v] = some y := by
  rcases Deep.open_slice ht h with ⟨h0, -⟩ | ⟨a, len, cap, m, n, D, Pl, rfl, hb, hl, hm, hmm, rfl, hx⟩
  · exact .inl h0
  · refine .inr ⟨a, len, cap, m, n - 1, rfl, hl, hm, hmm, fun i hi k f hf => ?_⟩
    obtain ⟨cs', h1, h2⟩ := hx i hi
    rw [ce] at h1
    obtain ⟨_, hlen, hcell⟩ := World.cells?_some h1
    obtain ⟨xs, q, hq, hxy, _, hxl, hfs⟩ := DataW.trod_struct he h2
    obtain rfl : q = n - 1 := by omega
    obtain ⟨o1, o2⟩ := ho k f hf
    have hk : k < fs.size := by
      rcases Nat.lt_or_ge k fs.size with h | h
      · exact h
      · rw [Array.getElem?_eq_none h] at hf; cases hf
    have hd : (cs'.drop k).take 1 = [cs'[k]] := by
      rw [List.drop_eq_getElem_cons (by omega)]; rfl
    have g := hfs k f hf
    rw [o1, o2, hd, List.getElem?_eq_getElem (by omega)] at g
    have c := hcell k hk
    rw [Deep.add_add, List.getElem?_eq_getElem (by omega)] at c
    exact ⟨_, _, c, g⟩
end
def cellTt (W : World) (a : Addr) : Value := (W.cell? a).getD undef
def intTt : Value → Int
  | .int _ n => n
  | _ => 0
def clampI (n : Int) : Int := if n ≤ 9223372036854775807 then n else 0
def clampN (n : Int) : Nat := if n.toNat < 18446744073709551616 then n.toNat else 0
def ttAt (W : World) (b off : Nat) (j : Nat) : Int × Int × Nat := (clampI (intTt (cellTt W ⟨b, off + j * 3, none⟩)), intTt (cellTt W ⟨b, off + j * 3 + 1, none⟩), clampN (intTt (cellTt W ⟨b, off + j * 3 + 2, none⟩)))
theorem ttAt_lt (W : World) (b off j : Nat) : (ttAt W b off j).1 ≤ 9223372036854775807 ∧ (ttAt W b off j).2.2 < 18446744073709551616 := by
  unfold ttAt clampI clampN
  constructor
  · dsimp only; split <;> omega
  · dsimp only; split <;> omega
theorem rdTt_of_trod {P : Program} {H : Type} {enc : TypeId × Value → H} {W : World} {T E : TypeId} {f0 f1 f2 : Field} {a : Option Addr} {len cap : Nat} {d : DataW H} {p : List MemPlace}
    (hT : P.underlying T = some (.slice E)) (hE : P.underlying E = some (.struct #[f0, f1, f2])) (ce : P.cellsOf E = 3) (o0 : f0.offset = 0 ∧ P.cellsOf f0.type = 1) (o1 : f1.offset = 1 ∧ P.cellsOf f1.type = 1) (o2 : f2.offset = 2 ∧ P.cellsOf f2.type = 1)
    (q0 : P.underlying f0.type = some (.int .i64)) (q1 : P.underlying f1.type = some (.int .i64)) (q2 : P.underlying f2.type = some (.int .u64)) (h : DataW.Trod enc P W 0 (fun _ => true) true T (.slice a len cap) d p) : ∃ F, RdTt W a len cap F := by
  obtain ⟨fuel, hf⟩ := h
  rcases open_slice_flat hT hE ce (by
      intro k f hk
      match k, hk with
      | 0, hk => cases hk; exact o0
      | 1, hk => cases hk; exact o1
      | 2, hk => cases hk; exact o2) hf with hcs | ⟨x, l, c, m, n, hcs, hl, hm, hmm, hcell⟩
  · simp [Value.cells] at hcs
    obtain ⟨rfl, rfl, rfl⟩ := hcs
    exact ⟨fun _ => (0, 0, 0), Nat.zero_le _, fun _ => ⟨by decide, by decide⟩, .inl rfl⟩
  · simp [Value.cells] at hcs
    obtain ⟨rfl, rfl, rfl⟩ := hcs
    simp only [if_true] at hmm
    subst hmm
    by_cases h0 : len = 0
    · subst h0
      exact ⟨fun _ => (0, 0, 0), Nat.zero_le _, fun _ => ⟨by decide, by decide⟩, .inl rfl⟩
    obtain ⟨b, off, spot⟩ := x
    have hspot : spot = none := by
      obtain ⟨v, y, hc, _⟩ := hcell 0 (by omega) 0 f0 rfl
      simpa [Addr.add] using World.cell?_spot hc
    subst hspot
    have key : ∀ j, j < len → W.cell? ⟨b, off + j * 3, none⟩ = some (.int .i64 (ttAt W b off j).1) ∧ W.cell? ⟨b, off + j * 3 + 1, none⟩ = some (.int .i64 (ttAt W b off j).2.1) ∧ W.cell? ⟨b, off + j * 3 + 2, none⟩ = some (.int .u64 (((ttAt W b off j).2.2 : Nat) : Int)) := by
      intro j hj
      obtain ⟨v0, y0, c0, t0⟩ := hcell j (by omega) 0 f0 rfl
      obtain ⟨v1, y1, c1, t1⟩ := hcell j (by omega) 1 f1 rfl
      obtain ⟨v2, y2, c2, t2⟩ := hcell j (by omega) 2 f2 rfl
      obtain ⟨a0, e0, _, w0⟩ := DataW.trod_int q0 t0
      obtain ⟨a1, e1, _, w1⟩ := DataW.trod_int q1 t1
      obtain ⟨a2, e2, _, w2⟩ := DataW.trod_int q2 t2
      simp only [List.cons.injEq, and_true] at e0 e1 e2
      subst e0 e1 e2
      have hs : (#[f0, f1, f2] : Array Field).size = 3 := rfl
      rw [hs, Addr.add_lit] at c0 c1 c2
      rw [Nat.add_zero] at c0
      rw [← Nat.add_assoc] at c1 c2
      have b0 : a0 ≤ 9223372036854775807 := by
        have h2 : (decide ((-9223372036854775808 : Int) ≤ a0) && decide (a0 ≤ 9223372036854775807)) = true := w0
        simp at h2; omega
      have b2 : 0 ≤ a2 ∧ a2 ≤ 18446744073709551615 := by
        have h2 : (decide ((0 : Int) ≤ a2) && decide (a2 ≤ 18446744073709551615)) = true := w2
        simp at h2; omega
      unfold ttAt cellTt
      rw [c0, c1, c2]
      refine ⟨?_, rfl, ?_⟩
      · show _ = some (Value.int .i64 (clampI a0)); unfold clampI; rw [if_pos b0]
      · show _ = some (Value.int .u64 ((clampN a2 : Nat) : Int)); unfold clampN; rw [if_pos (by omega), Int.toNat_of_nonneg b2.1]
    exact ⟨ttAt W b off, Nat.le_trans hl hm, ttAt_lt W b off, .inr ⟨b, off, rfl, key⟩⟩
end Go.Proofs.YtbfnahfkdjlpdaaGreat
