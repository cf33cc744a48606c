import Derived.Test.YthmhgpadinecfaaGreatTEb5
set_option linter.unusedVariables false
set_option linter.unusedSimpArgs false
namespace Go.Proofs.YthmhgpadinecfaaGreat
open Go.ChangeShapes Go.WideShapes Go.ChangeAt Go.RowKit Go.Joins Go.Deep
section
variable {H : Type} {enc : TypeId × Value -> H} {P : Program} {w : World} {base : Nat} {spare : Nat -> Bool} {held : Bool}
theorem trodJ_float {t : TypeId} {k : FloatKind} {fuel : Nat} {cs : List Value} {x : DataW H × List MemPlace} (ht : P.underlying t = some (.float k)) (h : DataW.trod enc P w base spare held fuel t cs = some x) : ∃ n, cs = [.float k n] /\ (Lit.float k n).wf = true := by
 cases fuel with
 | zero => simp [DataW.trod] at h
 | succ n =>
  unfold DataW.trod at h
  rw [ht] at h
  split at h <;> simp_all
theorem trodJ_bool {t : TypeId} {fuel : Nat} {cs : List Value} {x : DataW H × List MemPlace} (ht : P.underlying t = some .bool) (h : DataW.trod enc P w base spare held fuel t cs = some x) : ∃ b, cs = [.bool b] := by
 cases fuel with
 | zero => simp [DataW.trod] at h
 | succ n =>
  unfold DataW.trod at h
  rw [ht] at h
  split at h <;> simp_all
end
theorem bulkJ_one {H : Type} (d : DataW H) : 1 <= Rows.uptoBulk d := by
 cases d with
 | lit l => cases l <;> simp [Rows.uptoBulk]
 | nil => simp [Rows.uptoBulk]
 | ptr d => simp [Rows.uptoBulk]
 | slice elems spare => simp [Rows.uptoBulk]
 | agg parts => simp [Rows.uptoBulk]
 | iface t d => simp [Rows.uptoBulk]
 | map entries => simp [Rows.uptoBulk]
 | held h => simp [Rows.uptoBulk]
theorem bulkJ_len {H : Type} (l : List (DataW H)) : l.length <= Rows.uptoBulkAll l := by
 induction l with
 | nil => simp [Rows.uptoBulkAll]
 | cons x r ih => have := bulkJ_one x; simp only [Rows.uptoBulkAll, List.length_cons]; omega
theorem bulkJ_mem {H : Type} (l : List (DataW H)) {d : DataW H} (h : d ∈ l) : Rows.uptoBulk d <= Rows.uptoBulkAll l := by
 induction l with
 | nil => cases h
 | cons x r ih =>
  simp only [Rows.uptoBulkAll]
  rcases List.mem_cons.1 h with rfl | h
  ·omega
  ·have := ih h; omega
theorem bulkJ_slice {H : Type} (l s : List (DataW H)) : l.length <= Rows.uptoBulk (.slice l s) /\ ∀ d ∈ l, Rows.uptoBulk d <= Rows.uptoBulk (.slice l s) := by
 rw [Rows.uptoBulk]
 refine ⟨by have := bulkJ_len l; omega, fun d hd => by have := bulkJ_mem l hd; omega⟩
theorem bulkJ_agg {H : Type} (l : List (DataW H)) : ∀ d ∈ l, Rows.uptoBulk d <= Rows.uptoBulk (.agg l) := by
 rw [Rows.uptoBulk]
 exact fun d hd => by have := bulkJ_mem l hd; omega
def flOfJ : Value -> Nat
 | .float _ u => u
 | _ => 0
def inOfJ : Value -> Int
 | .int _ u => u
 | _ => 0
theorem intsJ_open {P : Program} {H : Type} {enc : TypeId × Value -> H} {W : World} {T E : TypeId} {fuel : Nat} {cs : List Value} {x : DataW H × List MemPlace}
  (hT : P.underlying T = some (.slice E)) (hE : P.underlying E = some (.int .i64)) (hc : P.cellsOf E = 1) (h : DataW.trod enc P W 0 (fun _ => true) true fuel T cs = some x) :
  ∃ ao len cap is, cs = [.slice ao len cap] /\ RdIs W ao len cap is /\ (ao = none -> len = 0 /\ cap = 0) /\ len <= Rows.uptoBulk x.1 := by
 rcases open_slice1 hT hc h with ⟨hcs, _⟩ | ⟨a, len, cap, m, n, V, D, Pl, hcs, _, hl, hm, hmm, hxx, hx⟩
 ·exact ⟨none, 0, 0, [], hcs, ⟨rfl, Nat.zero_le _, .inl rfl⟩, fun _ => ⟨rfl, rfl⟩, Nat.zero_le _⟩
 ·simp only [if_true] at hmm
  subst hmm
  have hv : ∀ i, i < m -> ∃ u, V i = .int .i64 u := by
   intro i hi
   obtain ⟨u, hu, _, _⟩ := DataW.trod_int hE (hx i hi).2
   simp only [List.cons.injEq, and_true] at hu
   exact ⟨u, hu⟩
  have hbk : len <= Rows.uptoBulk x.1 := by
   rw [hxx]
   have := (bulkJ_slice ((List.range len).map D) ((List.range (m - len)).map fun j => D (len + j))).1
   rw [List.length_map, List.length_range] at this
   exact this
  refine ⟨some a, len, m, (List.range len).map fun i => inOfJ (V i), hcs, ⟨by simp, Nat.le_trans hl hm, ?_⟩, (fun h => by cases h), hbk⟩
  by_cases h0 : len = 0
  ·exact .inl h0
  ·right
   obtain ⟨b, off, spot⟩ := a
   have hspot : spot = none := by simpa [Addr.add] using World.cell?_spot (hx 0 (by omega)).1
   subst hspot
   refine ⟨b, off, rfl, fun j hj => ?_⟩
   have g := (hx j (by omega)).1
   obtain ⟨y, hy⟩ := hv j (by omega)
   rw [Addr.add_lit, hy] at g
   rw [g]
   simp [hj, hy, inOfJ]
theorem array6 {α : Type} {cs : Array α} (h : cs.size = 6) : ∃ c0 c1 c2 c3 c4 c5, cs = #[c0, c1, c2, c3, c4, c5] := by
 obtain ⟨l⟩ := cs
 match l, h with
 | [c0, c1, c2, c3, c4, c5], _ => exact ⟨c0, c1, c2, c3, c4, c5, rfl⟩
theorem agg6 {P : Program} {H : Type} {enc : TypeId × Value -> H} {W : World} {base b0 : Nat} {r : Reach} {spare : Nat -> Bool} {held : Bool} {t : TypeId} {f0 f1 f2 f3 f4 f5 : Field} {v : Value} {d : DataW H} {p : List MemPlace}
  (hs : P.underlying t = some (.struct #[f0, f1, f2, f3, f4, f5])) (hone : oneCellFields P #[f0, f1, f2, f3, f4, f5] = true) (hC : P.cellsOf t = 6) (hv : Value.okWide P W r b0 t v) (h : DataW.Trod enc P W base spare held t v d p) :
  ∃ (v0 v1 v2 v3 v4 v5 : Value) (y0 y1 y2 y3 y4 y5 : DataW H × List MemPlace) (n : Nat), v = .agg #[v0, v1, v2, v3, v4, v5] /\ (∀ y ∈ [y0, y1, y2, y3, y4, y5], Rows.uptoBulk y.1 <= Rows.uptoBulk d) ∧
   DataW.trod enc P W base spare held n f0.type [v0] = some y0 /\ DataW.trod enc P W base spare held n f1.type [v1] = some y1 /\ DataW.trod enc P W base spare held n f2.type [v2] = some y2 /\ DataW.trod enc P W base spare held n f3.type [v3] = some y3 /\ DataW.trod enc P W base spare held n f4.type [v4] = some y4 /\ DataW.trod enc P W base spare held n f5.type [v5] = some y5 := by
 obtain ⟨cs, rfl, hsz⟩ := okWide_struct hs hv
 obtain ⟨c0, c1, c2, c3, c4, c5, rfl⟩ := array6 (hsz.trans hC)
 obtain ⟨fuel, hf⟩ := h
 obtain ⟨xs, n, _, hx, hl, hlen, hff⟩ := DataW.trod_struct hs hf
 simp only [Prod.mk.injEq] at hx
 obtain ⟨o0, k0⟩ := hone_of hone 0 f0 rfl
 obtain ⟨o1, k1⟩ := hone_of hone 1 f1 rfl
 obtain ⟨o2, k2⟩ := hone_of hone 2 f2 rfl
 obtain ⟨o3, k3⟩ := hone_of hone 3 f3 rfl
 obtain ⟨o4, k4⟩ := hone_of hone 4 f4 rfl
 obtain ⟨o5, k5⟩ := hone_of hone 5 f5 rfl
 match xs, hlen with
 | [y0, y1, y2, y3, y4, y5], _ =>
  exact ⟨c0, c1, c2, c3, c4, c5, y0, y1, y2, y3, y4, y5, n, rfl, fun y hy => by rw [hx.1]; exact bulkJ_agg _ _ (List.mem_map.2 ⟨y, hy, rfl⟩), by simpa [Value.cells, o0, k0] using hff 0 f0 rfl, by simpa [Value.cells, o1, k1] using hff 1 f1 rfl, by simpa [Value.cells, o2, k2] using hff 2 f2 rfl, by simpa [Value.cells, o3, k3] using hff 3 f3 rfl, by simpa [Value.cells, o4, k4] using hff 4 f4 rfl, by simpa [Value.cells, o5, k5] using hff 5 f5 rfl⟩
end Go.Proofs.YthmhgpadinecfaaGreat
namespace Go.Proofs.YthmhgpadinecfaaGreat
open Go.RowKit Go.Shelf
open Ieee
def magS (gs : List (List Nat)) (j : Nat) (l : List Nat) : Nat := (l.map fun k => rmag (frung ((gs[k]?.getD [])[j]?.getD 0))).sum
theorem sumA_eq {α : Type} (A : α -> Nat) : ∀ l : List α, sumA A l = (l.map A).sum
 | [] => rfl
 | a :: l => by rw [sumA, List.map_cons, List.sum_cons, sumA_eq A l]
theorem reA_pk (z : ZD) (io : Option Addr) (dc : Nat) (go : Option Addr) (gc : Nat) (l : List Nat) (j : Nat) : reA (pkZ z io dc go gc l) j = fval (z.rs[j]?.getD 0) + (magS z.gs j l : Nat) := by
 unfold reA
 rw [sumA_eq]
 have e : (List.finRange (pkZ z io dc go gc l).dn).map (clA (pkZ z io dc go gc l) j) = l.map fun k => rmag (frung ((z.gs[k]?.getD [])[j]?.getD 0)) := by
  have h := map_getD2 (l.map fun k => z.gs[k]?.getD []) [] (fun us : List Nat => rmag (frung (us[j]?.getD 0))) l.length (by simp)
  rw [List.map_map] at h
  exact h
 rw [e]
 rfl
end Go.Proofs.YthmhgpadinecfaaGreat
