import Derived.Test.YtbncdcenckagcaaGreatDK
namespace Go.Proofs.YtbncdcenckagcaaGreat
open Go.RowKit
set_option linter.unusedVariables false
set_option linter.unusedSimpArgs false

theorem hset_at {w : World} {g j : Nat} {u : Value} {cur : Array Value} {E : TypeId} (h : w.heap[g]? = some (.cells cur E)) : (w.setCell ⟨g, j, none⟩ u).heap[g]? = some (.cells (cur.setIfInBounds j u) E) := by
  simp [World.setCell, Array.getElem?_modify, h]
theorem hset_far {w : World} {g j k : Nat} {u : Value} (h : k ≠ g) : (w.setCell ⟨g, j, none⟩ u).heap[k]? = w.heap[k]? := by
  have h' : ¬ g = k := fun c => h c.symm
  simp [World.setCell, Array.getElem?_modify, h']
theorem own_type {w : World} {E : TypeId} {base size n k : Nat} {v : Value} {xs : List Value} (h : w.ownsRow base E size v n xs) (hk : v.ownBlock = some k) : base ≤ k ∧ ∃ cur, w.heap[k]? = some (.cells cur E) := by
  rcases h.2 with ⟨rfl, -⟩ | ⟨g, cap, cur, hv, hg, hh, -⟩
  · simp [Value.ownBlock] at hk
  · subst hv
    simp [Value.ownBlock] at hk
    subst hk
    exact ⟨hg, cur, hh⟩
theorem own_far {w : World} {E E' : TypeId} {base size n g j : Nat} {v u : Value} {xs : List Value} {cur : Array Value} (h : w.ownsRow base E size v n xs) (hg : w.heap[g]? = some (.cells cur E')) (hne : E ≠ E') : (w.setCell ⟨g, j, none⟩ u).ownsRow base E size v n xs :=
  ownD_keep h fun k hk => hset_far fun c => by
    obtain ⟨-, cur2, h2⟩ := own_type h hk
    rw [c, hg] at h2
    simp only [Option.some.injEq, Obj.cells.injEq] at h2
    exact hne h2.2.1.symm
theorem own_set {w : World} {E : TypeId} {base n cap g : Nat} {xs : List Value} (h : w.ownsRow base E 1 (.slice (some ⟨g, 0, none⟩) n cap) n xs) (j : Nat) (u : Value) : (w.setCell ⟨g, j, none⟩ u).ownsRow base E 1 (.slice (some ⟨g, 0, none⟩) n cap) n (xs.set j u) := by
  refine ⟨by rw [List.length_set]; exact h.1, ?_⟩
  rcases h.2 with ⟨h1, -⟩ | ⟨g', cap', cur, hv, hg, hh, r1, r2, r3, r4⟩
  · simp at h1
  · simp only [Value.slice.injEq, Option.some.injEq, Addr.mk.injEq, and_true, true_and] at hv
    obtain ⟨rfl, rfl⟩ := hv
    refine .inr ⟨g, cap, cur.setIfInBounds j u, rfl, hg, hset_at hh, r1, r2, by simpa using r3, ?_⟩
    rw [Array.toList_setIfInBounds, List.take_set, r4]
theorem DS.setA {w wr : World} {base D ga ac : Nat} {xv yv bv : Value} {r : Nat × Nat × Bool} {X A : Nat → Nat} {F G : Nat → Nat × Nat × Bool} {n m : Nat} (h : DS w wr base D xv yv (.slice (some ⟨ga, 0, none⟩) (n + 3) ac) bv r X A F G n m) (k u : Nat) : DS w (wr.setCell ⟨ga, k, none⟩ (.float .f64 u)) base D xv yv (.slice (some ⟨ga, 0, none⟩) (n + 3) ac) bv r X (fun j => if j = k then u else A j) F G n m := by
  obtain ⟨hb, cur, hh⟩ := own_type h.a rfl
  refine ⟨own_far h.x hh (by decide), own_far h.y hh (by decide), ?_, own_far h.b hh (by decide), ?_, h.below.setCell (p := ⟨ga, k, none⟩) hb _⟩
  · have := own_set h.a k (.float .f64 u)
    rw [rowL_set] at this
    rw [show rowL (gF fun j => if j = k then u else A j) (n + 3) = rowL (fun j => if j = k then (.float .f64 u) else gF A j) (n + 3) from rowL_congr fun j _ => by by_cases e : j = k <;> simp [gF, e]]
    exact this
  · rw [hset_far, h.d]
    rintro rfl
    have := h.d
    rw [hh] at this
    simp only [Option.some.injEq, Obj.cells.injEq] at this
    exact absurd this.2.1 (by decide)
theorem DS.setX {w wr : World} {base D gx xc : Nat} {yv av bv : Value} {r : Nat × Nat × Bool} {X A : Nat → Nat} {F G : Nat → Nat × Nat × Bool} {n m : Nat} (h : DS w wr base D (.slice (some ⟨gx, 0, none⟩) n xc) yv av bv r X A F G n m) (k u : Nat) : DS w (wr.setCell ⟨gx, k, none⟩ (.int .u64 (u : Int))) base D (.slice (some ⟨gx, 0, none⟩) n xc) yv av bv r (fun j => if j = k then u else X j) A F G n m := by
  obtain ⟨hb, cur, hh⟩ := own_type h.x rfl
  refine ⟨?_, own_far h.y hh (by decide), own_far h.a hh (by decide), own_far h.b hh (by decide), ?_, h.below.setCell (p := ⟨gx, k, none⟩) hb _⟩
  · have := own_set h.x k (.int .u64 (u : Int))
    rw [rowL_set] at this
    rw [show rowL (gI fun j => if j = k then u else X j) n = rowL (fun j => if j = k then (.int .u64 (u : Int)) else gI X j) n from rowL_congr fun j _ => by by_cases e : j = k <;> simp [gI, e]]
    exact this
  · rw [hset_far, h.d]
    rintro rfl
    have := h.d
    rw [hh] at this
    simp only [Option.some.injEq, Obj.cells.injEq] at this
    exact absurd this.2.1 (by decide)
theorem DS.yopen {w wr : World} {base D : Nat} {xv av bv : Value} {ya : Option Addr} {yc : Nat} {r : Nat × Nat × Bool} {X A : Nat → Nat} {F G : Nat → Nat × Nat × Bool} {n m : Nat} (h : DS w wr base D xv (.slice ya m yc) av bv r X A F G n m) (h0 : 0 < m) : ∃ gy, ya = some ⟨gy, 0, none⟩ := by
  obtain ⟨g1, c1, e1, -⟩ := own_rowL h.y h0
  simp only [Value.slice.injEq, true_and] at e1
  exact ⟨g1, e1.1⟩
theorem DS.xopen {w wr : World} {base D : Nat} {yv av bv : Value} {xa : Option Addr} {xc : Nat} {r : Nat × Nat × Bool} {X A : Nat → Nat} {F G : Nat → Nat × Nat × Bool} {n m : Nat} (h : DS w wr base D (.slice xa n xc) yv av bv r X A F G n m) (h0 : 0 < n) : ∃ gx, xa = some ⟨gx, 0, none⟩ := by
  obtain ⟨g1, c1, e1, -⟩ := own_rowL (size := 1) (by rw [Nat.mul_one]; exact h.x) h0
  simp only [Value.slice.injEq, true_and] at e1
  exact ⟨g1, e1.1⟩
theorem DS.ycell {w wr : World} {base D gy yc : Nat} {xv av bv : Value} {r : Nat × Nat × Bool} {X A : Nat → Nat} {F G : Nat → Nat × Nat × Bool} {n m : Nat} (h : DS w wr base D xv (.slice (some ⟨gy, 0, none⟩) m yc) av bv r X A F G n m) (j : Nat) (hj : j < m) : wr.cell? ⟨gy, j * 3, none⟩ = some (.int .u64 ((F j).1 : Int)) ∧ wr.cell? ⟨gy, j * 3 + 1, none⟩ = some (.int .u64 ((F j).2.1 : Int)) ∧ wr.cell? ⟨gy, j * 3 + 2, none⟩ = some (.bool (F j).2.2) := by
  obtain ⟨g1, c1, e1, -, -, -, k1⟩ := own_rowL h.y (by omega)
  simp only [Value.slice.injEq, Option.some.injEq, Addr.mk.injEq, and_true, true_and] at e1
  obtain ⟨rfl, rfl⟩ := e1
  obtain ⟨a, b, c⟩ := gV_at F j
  rw [k1 _ (by omega), k1 _ (by omega), k1 _ (by omega), a, b, c]
  exact ⟨rfl, rfl, rfl⟩
theorem DS.bcell {w wr : World} {base D gb bc : Nat} {xv yv av : Value} {r : Nat × Nat × Bool} {X A : Nat → Nat} {F G : Nat → Nat × Nat × Bool} {n m : Nat} (h : DS w wr base D xv yv av (.slice (some ⟨gb, 0, none⟩) (m + 2) bc) r X A F G n m) (j : Nat) (hj : j < m + 2) : wr.cell? ⟨gb, j * 3, none⟩ = some (.float .f64 (G j).1) ∧ wr.cell? ⟨gb, j * 3 + 1, none⟩ = some (.float .f64 (G j).2.1) ∧ wr.cell? ⟨gb, j * 3 + 2, none⟩ = some (.bool (G j).2.2) := by
  obtain ⟨g1, c1, e1, -, -, -, k1⟩ := own_rowL h.b (by omega)
  simp only [Value.slice.injEq, Option.some.injEq, Addr.mk.injEq, and_true, true_and] at e1
  obtain ⟨rfl, rfl⟩ := e1
  obtain ⟨a, b, c⟩ := gS_at G j
  rw [k1 _ (by omega), k1 _ (by omega), k1 _ (by omega), a, b, c]
  exact ⟨rfl, rfl, rfl⟩
end Go.Proofs.YtbncdcenckagcaaGreat
