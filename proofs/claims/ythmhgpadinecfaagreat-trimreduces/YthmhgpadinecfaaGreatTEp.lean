import Derived.ChangeOld
import Derived.ProofKit
import Derived.Deep.DeepHandedRow
import Derived.Test.YthmhgpadinecfaaGreatLTrimReduces
set_option maxRecDepth 100000
set_option linter.unusedVariables false
set_option linter.unusedSimpArgs false
namespace Go.Proofs.YthmhgpadinecfaaGreat
open Go.ChangeShapes Go.WideShapes Go.ChangeAt Go.RowKit Go.Joins Go.Deep
theorem floatsL_open {P : Program} {H : Type} {enc : TypeId × Value -> H} {W : World} {T E : TypeId} {fuel : Nat} {cs : List Value} {x : DataW H × List MemPlace}
  (hT : P.underlying T = some (.slice E)) (hE : P.underlying E = some (.float .f64)) (hc : P.cellsOf E = 1) (h : DataW.trod enc P W 0 (fun _ => true) true fuel T cs = some x) :
  ∃ ao len cap us, cs = [.slice ao len cap] /\ RdF W ao len cap us /\ (len <= cap /\ (ao = none -> cap = 0) /\ cap <= maxLen) := by
 rcases open_slice1 hT hc h with ⟨hcs, _⟩ | ⟨a, len, cap, m, n, V, D, Pl, hcs, _, hl, hm, hmm, hxx, hx⟩
 ·exact ⟨none, 0, 0, [], hcs, ⟨rfl, Nat.zero_le _, (fun _ h => by cases h), .inl rfl⟩, ⟨Nat.le_refl _, fun _ => rfl, Nat.zero_le _⟩⟩
 ·simp only [if_true] at hmm
  subst hmm
  have hv : ∀ i, i < m -> ∃ u, V i = .float .f64 u /\ u < 18446744073709551616 := by
   intro i hi
   obtain ⟨u, hu, hw⟩ := trodJ_float hE (hx i hi).2
   simp only [List.cons.injEq, and_true] at hu
   exact ⟨u, hu, by simpa [Lit.wf] using hw⟩
  refine ⟨some a, len, m, (List.range len).map fun i => flOfJ (V i), hcs, ⟨by simp, Nat.le_trans hl hm, ?_, ?_⟩, ⟨hl, (fun h => by cases h), hm⟩⟩
  ·intro u hu
   simp only [List.mem_map, List.mem_range] at hu
   obtain ⟨i, hi, rfl⟩ := hu
   obtain ⟨y, hy, hlt⟩ := hv i (by omega)
   rw [hy]; exact hlt
  ·by_cases h0 : len = 0
   ·exact .inl h0
   ·right
    obtain ⟨b, off, spot⟩ := a
    have hspot : spot = none := by simpa [Addr.add] using World.cell?_spot (hx 0 (by omega)).1
    subst hspot
    refine ⟨b, off, rfl, fun j hj => ?_⟩
    have g := (hx j (by omega)).1
    obtain ⟨y, hy, _⟩ := hv j (by omega)
    rw [Addr.add_lit, hy] at g
    rw [g]
    simp [hj, hy, flOfJ]
theorem rowsL_open {P : Program} {H : Type} {enc : TypeId × Value -> H} {W : World} {T E Q : TypeId} {fuel : Nat} {cs : List Value} {x : DataW H × List MemPlace}
  (hT : P.underlying T = some (.slice E)) (hE : P.underlying E = some (.slice Q)) (hQ : P.underlying Q = some (.float .f64)) (hc : P.cellsOf E = 1) (hq : P.cellsOf Q = 1) (h : DataW.trod enc P W 0 (fun _ => true) true fuel T cs = some x) :
  ∃ ao len cap gv gs, cs = [.slice ao len cap] /\ RdGs W ao len cap gv gs /\ (∀ k, k < len -> (gv k).2.1 <= (gv k).2.2 /\ ((gv k).1 = none -> (gv k).2.2 = 0) /\ (gv k).2.2 <= maxLen) := by
 rcases open_slice1 hT hc h with ⟨hcs, _⟩ | ⟨a, len, cap, m, n, V, D, Pl, hcs, _, hl, hm, hmm, hxx, hx⟩
 ·exact ⟨none, 0, 0, fun _ => (none, 0, 0), [], hcs, ⟨rfl, Nat.zero_le _, .inl rfl, fun j hj => absurd hj (Nat.not_lt_zero _)⟩, fun k hk => absurd hk (Nat.not_lt_zero _)⟩
 ·simp only [if_true] at hmm
  subst hmm
  have hv : ∀ i : Nat, ∃ q : (Option Addr × Nat × Nat) × List Nat, i < m -> V i = .slice q.1.1 q.1.2.1 q.1.2.2 /\ RdF W q.1.1 q.1.2.1 q.1.2.2 q.2 /\ (q.1.2.1 <= q.1.2.2 /\ (q.1.1 = none -> q.1.2.2 = 0) /\ q.1.2.2 <= maxLen) := by
   intro i
   by_cases hi : i < m
   ·obtain ⟨ao, l, c, us, hu, r1, r2⟩ := floatsL_open hE hQ hq (hx i hi).2
    simp only [List.cons.injEq, and_true] at hu
    exact ⟨((ao, l, c), us), fun _ => ⟨hu, r1, r2⟩⟩
   ·exact ⟨((none, 0, 0), []), fun h => absurd h hi⟩
  obtain ⟨F, hF⟩ := Classical.axiomOfChoice hv
  refine ⟨some a, len, m, fun i => (F i).1, (List.range len).map fun i => (F i).2, hcs, ⟨by simp, Nat.le_trans hl hm, ?_, fun j hj => ?_⟩, fun k hk => ?_⟩
  ·by_cases h0 : len = 0
   ·exact .inl h0
   ·right
    obtain ⟨b, off, spot⟩ := a
    have hspot : spot = none := by simpa [Addr.add] using World.cell?_spot (hx 0 (by omega)).1
    subst hspot
    refine ⟨b, off, rfl, fun j hj => ?_⟩
    have g := (hx j (by omega)).1
    rw [Addr.add_lit, (hF j (by omega)).1] at g
    exact g
  ·have e : ((List.range len).map fun i => (F i).2)[j]?.getD [] = (F j).2 := by simp [hj]
   rw [e]
   exact (hF j (by omega)).2.1
  ·exact (hF k (by omega)).2.2
theorem zonoL_open {H : Type} {enc : TypeId × Value -> H} {W : World} {b0 : Nat} {v : Value} {d : DataW H} {p : List MemPlace}
  (hv : Value.okWide Tryz.prog W .any b0 26 v) (h : DataW.Trod enc Tryz.prog W 0 (fun _ => true) true 26 v d p) :
  ∃ (N : Int) (co : Option Addr) (cn cc : Nat) (io : Option Addr) (dn dc : Nat) (go : Option Addr) (gn gc : Nat) (ro : Option Addr) (rn rc : Nat) (bad : Bool) (cs : List Nat) (ids : List Int) (gv : Nat -> Option Addr × Nat × Nat) (gs : List (List Nat)) (rs : List Nat),
   v = .agg #[.int .i64 N, .slice co cn cc, .slice io dn dc, .slice go gn gc, .slice ro rn rc, .bool bad] /\ RdF W co cn cc cs /\ RdIs W io dn dc ids /\ RdGs W go gn gc gv gs /\ RdF W ro rn rc rs /\ (cn <= cc /\ (co = none -> cc = 0) /\ cc <= maxLen) /\ (rn <= rc /\ (ro = none -> rc = 0) /\ rc <= maxLen) /\ (∀ k, k < gn -> ((gv k).2.1 <= (gv k).2.2 /\ ((gv k).1 = none -> (gv k).2.2 = 0) /\ (gv k).2.2 <= maxLen)) := by
 obtain ⟨v0, v1, v2, v3, v4, v5, y0, y1, y2, y3, y4, y5, m, rfl, hb, g0, g1, g2, g3, g4, g5⟩ := agg6 Tryz.underlying26 (by kernel_rfl) (by kernel_rfl) hv h
 obtain ⟨N, e0, _, _⟩ := DataW.trod_int Tryz.underlying3 g0
 obtain ⟨co, cn, cc, cs, e1, r1, s1⟩ := floatsL_open Tryz.underlying22 Tryz.underlying55 (by kernel_rfl) g1
 obtain ⟨io, dn, dc, ids, e2, r2, s2, t2⟩ := intsJ_open Tryz.underlying23 Tryz.underlying3 (by kernel_rfl) g2
 obtain ⟨go, gn, gc, gv, gs, e3, r3, s3⟩ := rowsL_open Tryz.underlying24 Tryz.underlying22 Tryz.underlying55 (by kernel_rfl) (by kernel_rfl) g3
 obtain ⟨ro, rn, rc, rs, e4, r4, s4⟩ := floatsL_open Tryz.underlying22 Tryz.underlying55 (by kernel_rfl) g4
 obtain ⟨bad, e5⟩ := trodJ_bool Tryz.underlying4 g5
 simp only [List.cons.injEq, and_true] at e0 e1 e2 e3 e4 e5
 subst e0 e1 e2 e3 e4 e5
 exact ⟨N, co, cn, cc, io, dn, dc, go, gn, gc, ro, rn, rc, bad, cs, ids, gv, gs, rs, rfl, r1, r2, r3, r4, s1, s4, s3⟩
end Go.Proofs.YthmhgpadinecfaaGreat
