import Derived.Test.YtcpbccckjlnkaaaGJi
import Derived.Test.YtcpbccckjlnkaaaRows
import Derived.Deep.Slices
import Derived.OpenShut
import Derived.Lib.SmallJoins
import Derived.ChangeSame
namespace Go.Proofs.Ytcpbccckjlnkaaa
open Go.ChangeShapes Go.WideShapes Go.ChangeAt Go.RowKit Go.Joins Go.Deep
set_option linter.unusedVariables false

section
variable {H : Type} {enc : TypeId × Value → H} {P : Program} {w : World} {base : Nat} {spare : Nat → Bool} {held : Bool}
theorem trodJ_float {t : TypeId} {k : FloatKind} {fuel : Nat} {cs : List Value} {x : DataW H × List MemPlace} (ht : P.underlying t = some (.float k)) (h : DataW.trod enc P w base spare held fuel t cs = some x) : ∃ n, cs = [.float k n] ∧ (Lit.float k n).wf = true := by
  cases fuel with
  | zero => simp [DataW.trod] at h
  | succ n =>
    unfold DataW.trod at h
    rw [ht] at h
    split at h <;> simp_all
end
theorem bulkJ_one {H : Type} (d : DataW H) : 1 ≤ Rows.uptoBulk d := by
  cases d with
  | lit l => cases l <;> simp [Rows.uptoBulk]
  | nil => simp [Rows.uptoBulk]
  | ptr d => simp [Rows.uptoBulk]
  | slice elems spare => simp [Rows.uptoBulk]
  | agg parts => simp [Rows.uptoBulk]
  | iface t d => simp [Rows.uptoBulk]
  | map entries => simp [Rows.uptoBulk]
  | held h => simp [Rows.uptoBulk]
theorem bulkJ_len {H : Type} (l : List (DataW H)) : l.length ≤ Rows.uptoBulkAll l := by
  induction l with
  | nil => simp [Rows.uptoBulkAll]
  | cons x r ih => have := bulkJ_one x; simp only [Rows.uptoBulkAll, List.length_cons]; omega
theorem bulkJ_mem {H : Type} (l : List (DataW H)) {d : DataW H} (h : d ∈ l) : Rows.uptoBulk d ≤ Rows.uptoBulkAll l := by
  induction l with
  | nil => cases h
  | cons x r ih =>
    simp only [Rows.uptoBulkAll]
    rcases List.mem_cons.1 h with rfl | h
    · omega
    · have := ih h; omega
theorem bulkJ_slice {H : Type} (l s : List (DataW H)) : l.length ≤ Rows.uptoBulk (.slice l s) ∧ ∀ d ∈ l, Rows.uptoBulk d ≤ Rows.uptoBulk (.slice l s) := by
  rw [Rows.uptoBulk]
  refine ⟨by have := bulkJ_len l; omega, fun d hd => by have := bulkJ_mem l hd; omega⟩
theorem bulkJ_agg {H : Type} (l : List (DataW H)) : ∀ d ∈ l, Rows.uptoBulk d ≤ Rows.uptoBulk (.agg l) := by
  rw [Rows.uptoBulk]
  exact fun d hd => by have := bulkJ_mem l hd; omega
def flOfJ : Value → Nat
  | .float _ u => u
  | _ => 0
/-- A slice of floats that came in. -/
theorem floatsJ_open {P : Program} {H : Type} {enc : TypeId × Value → H} {W : World} {T E : TypeId} {fuel : Nat} {cs : List Value} {x : DataW H × List MemPlace}
    (hT : P.underlying T = some (.slice E)) (hE : P.underlying E = some (.float .f64)) (hc : P.cellsOf E = 1) (h : DataW.trod enc P W 0 (fun _ => true) true fuel T cs = some x) :
    ∃ ao len cap us, cs = [.slice ao len cap] ∧ RdF W ao len cap us ∧ (ao = none → len = 0 ∧ cap = 0) ∧ len ≤ Rows.uptoBulk x.1 := by
  rcases open_slice1 hT hc h with ⟨hcs, _⟩ | ⟨a, len, cap, m, n, V, D, Pl, hcs, _, hl, hm, hmm, hxx, hx⟩
  · exact ⟨none, 0, 0, [], hcs, ⟨rfl, Nat.zero_le _, (fun _ h => by cases h), .inl rfl⟩, fun _ => ⟨rfl, rfl⟩, Nat.zero_le _⟩
  · simp only [if_true] at hmm
    subst hmm
    have hv : ∀ i, i < m → ∃ u, V i = .float .f64 u ∧ u < 18446744073709551616 := by
      intro i hi
      obtain ⟨u, hu, hw⟩ := trodJ_float hE (hx i hi).2
      simp only [List.cons.injEq, and_true] at hu
      exact ⟨u, hu, by simpa [Lit.wf] using hw⟩
    have hbk : len ≤ Rows.uptoBulk x.1 := by
      rw [hxx]
      have := (bulkJ_slice ((List.range len).map D) ((List.range (m - len)).map fun j => D (len + j))).1
      rw [List.length_map, List.length_range] at this
      exact this
    refine ⟨some a, len, m, (List.range len).map fun i => flOfJ (V i), hcs, ⟨by simp, Nat.le_trans hl hm, ?_, ?_⟩, (fun h => by cases h), hbk⟩
    · intro u hu
      simp only [List.mem_map, List.mem_range] at hu
      obtain ⟨i, hi, rfl⟩ := hu
      obtain ⟨y, hy, hlt⟩ := hv i (by omega)
      rw [hy]; exact hlt
    · by_cases h0 : len = 0
      · exact .inl h0
      · right
        obtain ⟨b, off, spot⟩ := a
        have hspot : spot = none := by simpa [Addr.add] using World.cell?_spot (hx 0 (by omega)).1
        subst hspot
        refine ⟨b, off, rfl, fun j hj => ?_⟩
        have g := (hx j (by omega)).1
        obtain ⟨y, hy, _⟩ := hv j (by omega)
        rw [Addr.add_lit, hy] at g
        rw [g]
        simp [hj, hy, flOfJ]
/-- A slice of slices of floats that came in. -/
theorem rowsJ_open {P : Program} {H : Type} {enc : TypeId × Value → H} {W : World} {T E Q : TypeId} {fuel : Nat} {cs : List Value} {x : DataW H × List MemPlace}
    (hT : P.underlying T = some (.slice E)) (hE : P.underlying E = some (.slice Q)) (hQ : P.underlying Q = some (.float .f64)) (hc : P.cellsOf E = 1) (hq : P.cellsOf Q = 1) (h : DataW.trod enc P W 0 (fun _ => true) true fuel T cs = some x) :
    ∃ ao len cap gv gs, cs = [.slice ao len cap] ∧ RdGs W ao len cap gv gs ∧ len ≤ Rows.uptoBulk x.1 ∧ (∀ k, k < len → ((gv k).1 = none → (gv k).2.1 = 0 ∧ (gv k).2.2 = 0) ∧ (gv k).2.1 ≤ Rows.uptoBulk x.1) := by
  rcases open_slice1 hT hc h with ⟨hcs, _⟩ | ⟨a, len, cap, m, n, V, D, Pl, hcs, _, hl, hm, hmm, hxx, hx⟩
  · exact ⟨none, 0, 0, fun _ => (none, 0, 0), [], hcs, ⟨rfl, Nat.zero_le _, .inl rfl, fun j hj => absurd hj (Nat.not_lt_zero _)⟩, Nat.zero_le _, fun k hk => absurd hk (Nat.not_lt_zero _)⟩
  · simp only [if_true] at hmm
    subst hmm
    have hv : ∀ i : Nat, ∃ q : (Option Addr × Nat × Nat) × List Nat, i < m → V i = .slice q.1.1 q.1.2.1 q.1.2.2 ∧ RdF W q.1.1 q.1.2.1 q.1.2.2 q.2 ∧ (q.1.1 = none → q.1.2.1 = 0 ∧ q.1.2.2 = 0) ∧ q.1.2.1 ≤ Rows.uptoBulk (D i) := by
      intro i
      by_cases hi : i < m
      · obtain ⟨ao, l, c, us, hu, r1, r2, r3⟩ := floatsJ_open hE hQ hq (hx i hi).2
        simp only [List.cons.injEq, and_true] at hu
        exact ⟨((ao, l, c), us), fun _ => ⟨hu, r1, r2, r3⟩⟩
      · exact ⟨((none, 0, 0), []), fun h => absurd h hi⟩
    obtain ⟨F, hF⟩ := Classical.axiomOfChoice hv
    have hb := bulkJ_slice ((List.range len).map D) ((List.range (m - len)).map fun j => D (len + j))
    have hbk : len ≤ Rows.uptoBulk x.1 := by
      rw [hxx]
      have := hb.1
      rw [List.length_map, List.length_range] at this
      exact this
    refine ⟨some a, len, m, fun i => (F i).1, (List.range len).map fun i => (F i).2, hcs, ⟨by simp, Nat.le_trans hl hm, ?_, fun j hj => ?_⟩, hbk, fun k hk => ?_⟩
    · by_cases h0 : len = 0
      · exact .inl h0
      · right
        obtain ⟨b, off, spot⟩ := a
        have hspot : spot = none := by simpa [Addr.add] using World.cell?_spot (hx 0 (by omega)).1
        subst hspot
        refine ⟨b, off, rfl, fun j hj => ?_⟩
        have g := (hx j (by omega)).1
        rw [Addr.add_lit, (hF j (by omega)).1] at g
        exact g
    · have e : ((List.range len).map fun i => (F i).2)[j]?.getD [] = (F j).2 := by simp [hj]
      rw [e]
      exact (hF j (by omega)).2.1
    · obtain ⟨_, _, h3, h4⟩ := hF k (by omega)
      refine ⟨h3, Nat.le_trans h4 ?_⟩
      rw [hxx]
      exact hb.2 _ (List.mem_map.2 ⟨k, List.mem_range.2 hk, rfl⟩)
end Go.Proofs.Ytcpbccckjlnkaaa

