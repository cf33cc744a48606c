import Derived.Test.YtbncdcenckagcaaGreatDL
import Derived.Test.YtbncdcenckagcaaGreatWS
import Derived.Test.YtbncdcenckagcaaGreatRows
import Derived.Deep.Slices
import Derived.OpenShut
namespace Go.Proofs.YtbncdcenckagcaaGreat
open Go.ChangeShapes Go.WideShapes
set_option linter.unusedVariables false

theorem bulk_one {H : Type} (d : DataW H) : 1 ≤ Rows.uptoBulk d := by
  cases d with
  | lit l => cases l <;> simp [Rows.uptoBulk]
  | nil => simp [Rows.uptoBulk]
  | ptr d => simp [Rows.uptoBulk]
  | slice elems spare => simp [Rows.uptoBulk]
  | agg parts => simp [Rows.uptoBulk]
  | iface t d => simp [Rows.uptoBulk]
  | map entries => simp [Rows.uptoBulk]
  | held h => simp [Rows.uptoBulk]
theorem bulk_len {H : Type} (l : List (DataW H)) : l.length ≤ Rows.uptoBulkAll l := by
  induction l with
  | nil => simp [Rows.uptoBulkAll]
  | cons x r ih => have := bulk_one x; simp only [Rows.uptoBulkAll, List.length_cons]; omega
def floatOfV : Value → Nat
  | .float _ b => b
  | _ => 0
/-- A slice of numbers that came in. -/
theorem rdG_of_trod {P : Program} {H : Type} {enc : TypeId × Value → H} {W : World} {T E : TypeId} {a : Option Addr} {len cap : Nat} {d : DataW H} {p : List MemPlace}
    (hT : P.underlying T = some (.slice E)) (hE : P.underlying E = some (.float .f64)) (ce : P.cellsOf E = 1) (h : DataW.Trod enc P W 0 (fun _ => true) true T (.slice a len cap) d p) : ∃ G, RdG W a len cap G ∧ (a = none → len = 0 ∧ cap = 0) ∧ len ≤ Rows.uptoBulk d := by
  obtain ⟨fuel, hf⟩ := h
  rcases Deep.open_slice1 hT ce hf with ⟨hcs, _⟩ | ⟨x, l, c, m, n, V, D, Pl, hcs, hb, hl, hm, hmm, hxx, hcell⟩
  · simp [Value.cells] at hcs
    obtain ⟨rfl, rfl, rfl⟩ := hcs
    exact ⟨fun _ => 0, ⟨Nat.le_refl _, by decide, fun j hj => by omega, .inl rfl⟩, fun _ => ⟨rfl, rfl⟩, Nat.zero_le _⟩
  · simp [Value.cells] at hcs
    obtain ⟨rfl, rfl, rfl⟩ := hcs
    simp only [if_true] at hmm
    subst hmm
    have hd : len ≤ Rows.uptoBulk d := by
      simp only [Prod.mk.injEq] at hxx
      rw [hxx.1, Rows.uptoBulk]
      have := bulk_len ((List.range len).map D)
      rw [List.length_map, List.length_range] at this
      omega
    have key : ∀ j, j < m → W.cell? (x.add j) = some (.float .f64 (floatOfV (V j))) ∧ floatOfV (V j) < 18446744073709551616 := by
      intro j hj
      obtain ⟨h1, h2⟩ := hcell j hj
      obtain ⟨k, e, wf⟩ := trodS_float hE h2
      simp only [List.cons.injEq, and_true] at e
      rw [h1, e]
      exact ⟨rfl, by simpa [Lit.wf, floatOfV] using wf⟩
    refine ⟨fun j => floatOfV (V j), ⟨hl, hm, fun j hj => (key j (by omega)).2, ?_⟩, fun h => by simp at h, hd⟩
    by_cases h0 : len = 0
    · exact .inl h0
    · right
      obtain ⟨b, off, spot⟩ := x
      have hspot : spot = none := by
        obtain ⟨h1, _⟩ := hcell 0 (by omega)
        simpa [Addr.add] using World.cell?_spot h1
      subst hspot
      refine ⟨b, off, rfl, fun j hj => ?_⟩
      have := (key j (by omega)).1
      rw [Addr.add_lit] at this
      exact this
/-- A slice of spans that came in. -/
theorem rdS_of_trod {P : Program} {H : Type} {enc : TypeId × Value → H} {W : World} {T E : TypeId} {f0 f1 f2 : Field} {a : Option Addr} {len cap : Nat} {d : DataW H} {p : List MemPlace}
    (hT : P.underlying T = some (.slice E)) (hE : P.underlying E = some (.struct #[f0, f1, f2])) (ce : P.cellsOf E = 3) (o0 : f0.offset = 0 ∧ P.cellsOf f0.type = 1) (o1 : f1.offset = 1 ∧ P.cellsOf f1.type = 1) (o2 : f2.offset = 2 ∧ P.cellsOf f2.type = 1)
    (q0 : P.underlying f0.type = some (.float .f64)) (q1 : P.underlying f1.type = some (.float .f64)) (q2 : P.underlying f2.type = some .bool) (h : DataW.Trod enc P W 0 (fun _ => true) true T (.slice a len cap) d p) :
    ∃ F, RdS W a len cap F ∧ (a = none → len = 0 ∧ cap = 0) ∧ len ≤ Rows.uptoBulk d := by
  obtain ⟨fuel, hf⟩ := h
  rcases Deep.open_slice hT hf with ⟨hcs, -⟩ | ⟨x, l, c, m, n, D, Pl, hcs, hb, hl, hm, hmm, hxx, hx⟩
  · simp [Value.cells] at hcs
    obtain ⟨rfl, rfl, rfl⟩ := hcs
    exact ⟨fun _ => (0, 0, false), ⟨Nat.le_refl _, by decide, fun j hj => by omega, .inl rfl⟩, fun _ => ⟨rfl, rfl⟩, Nat.zero_le _⟩
  · simp [Value.cells] at hcs
    obtain ⟨rfl, rfl, rfl⟩ := hcs
    simp only [if_true] at hmm
    subst hmm
    have hd : len ≤ Rows.uptoBulk d := by
      simp only [Prod.mk.injEq] at hxx
      rw [hxx.1, Rows.uptoBulk]
      have := bulk_len ((List.range len).map D)
      rw [List.length_map, List.length_range] at this
      omega
    by_cases h0 : len = 0
    · subst h0
      exact ⟨fun _ => (0, 0, false), ⟨hl, hm, fun j hj => by omega, .inl rfl⟩, fun h => by simp at h, hd⟩
    obtain ⟨b, off, spot⟩ := x
    rw [ce] at hx
    have hspot : spot = none := by
      obtain ⟨cs', h1, -⟩ := hx 0 (by omega)
      obtain ⟨-, hlen, hcell⟩ := World.cells?_some h1
      have := hcell 0 (by omega)
      rw [List.getElem?_eq_getElem (by omega)] at this
      simpa [Addr.add] using World.cell?_spot this
    subst hspot
    have key : ∀ j, j < len → ∃ v : Nat × Nat × Bool, (v.1 < 18446744073709551616 ∧ v.2.1 < 18446744073709551616) ∧ W.cell? ⟨b, off + j * 3, none⟩ = some (.float .f64 v.1) ∧ W.cell? ⟨b, off + j * 3 + 1, none⟩ = some (.float .f64 v.2.1) ∧ W.cell? ⟨b, off + j * 3 + 2, none⟩ = some (.bool v.2.2) := by
      intro j hj
      obtain ⟨cs', h1, h2⟩ := hx j (by omega)
      obtain ⟨-, hlen, hcell⟩ := World.cells?_some h1
      obtain ⟨_, _, _, _, -, -, a0, a1, a2⟩ := Deep.trod_struct3 hE h2
      rw [o0.1, o0.2] at a0
      rw [o1.1, o1.2] at a1
      rw [o2.1, o2.2] at a2
      have hc : ∀ k, k < 3 → W.cell? ⟨b, off + j * 3 + k, none⟩ = cs'[k]? := by
        intro k hk
        have := hcell k hk
        rw [Addr.add_lit, Addr.add_lit] at this
        exact this
      match cs', hlen with
      | [c0, c1, c2], _ =>
        obtain ⟨u0, e0, w0⟩ := trodS_float q0 a0
        obtain ⟨u1, e1, w1⟩ := trodS_float q1 a1
        obtain ⟨u2, e2⟩ := trodS_bool q2 a2
        simp at e0 e1 e2
        subst e0 e1 e2
        exact ⟨(u0, u1, u2), ⟨by simpa [Lit.wf] using w0, by simpa [Lit.wf] using w1⟩, hc 0 (by omega), hc 1 (by omega), hc 2 (by omega)⟩
    refine ⟨fun j => if hj : j < len then Classical.choose (key j hj) else (0, 0, false), ⟨hl, hm, fun j hj => ?_, .inr ⟨b, off, rfl, fun j hj => ?_⟩⟩, fun h => by simp at h, hd⟩
    · simp only [dif_pos hj]
      exact (Classical.choose_spec (key j hj)).1
    · simp only [dif_pos hj]
      exact (Classical.choose_spec (key j hj)).2
end Go.Proofs.YtbncdcenckagcaaGreat
