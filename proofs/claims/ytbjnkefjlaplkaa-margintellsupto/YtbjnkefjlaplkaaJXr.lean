import Derived.Test.YtbjnkefjlaplkaaJXq
namespace Go.Proofs.Ytbjnkefjlaplkaa
open Go.RowKit Go.Shelf
set_option linter.unusedVariables false
set_option linter.unusedSimpArgs false

/-- A list of the document's reals: those of the numbers zs, in units of 2^-s. -/
structure RowZ (w : World) (base : Nat) (v : Value) (s : Nat) (T : Int) (zs : List Int) : Prop where
  own : ∃ xs, w.ownsRow base 60 3 v zs.length xs ∧ ∀ j, j < zs.length → ∃ n o l c e, xs[j * 3]? = some (.bool n) ∧ xs[j * 3 + 1]? = some (.slice o l c) ∧ xs[j * 3 + 2]? = some (.int .i64 e) ∧ NumC w (.agg #[.bool n, .slice o l c, .int .i64 e]) s T (zs[j]?.getD 0)
  cl : ∀ g, v.ownBlock = some g → Cl noU w g
theorem RowZ.nil (w : World) (base s : Nat) (T : Int) : RowZ w base (.slice none 0 0) s T [] := ⟨⟨[], World.ownsRow_nil _ _ _ _, fun j hj => absurd hj (Nat.not_lt_zero _)⟩, fun g hg => by cases hg⟩
theorem RowZ.later {w w' : World} {base s : Nat} {T : Int} {v : Value} {zs : List Int} (h : RowZ w base v s T zs) (hb : Below w.heap.size w w') : RowZ w' base v s T zs := by
  obtain ⟨xs, h1, h2⟩ := h.own
  exact ⟨⟨xs, owns_keep h1 fun k hk => hb.block k (World.ownsRow.lt h1 k hk).2, fun j hj => by obtain ⟨n, o, l, c, e, a1, a2, a3, a4⟩ := h2 j hj; exact ⟨n, o, l, c, e, a1, a2, a3, a4.later hb⟩⟩, fun g hg => (h.cl g hg).later hb⟩
/-- One more real. -/
theorem RowZ.push {w w' : World} {base s : Nat} {T z : Int} {v v' : Value} {zs : List Int} {n : Bool} {o : Option Addr} {l c : Nat} {e : Int} {xs : List Value} (hx : w.ownsRow base 60 3 v zs.length xs) (h2 : ∀ j, j < zs.length → ∃ n o l c e, xs[j * 3]? = some (.bool n) ∧ xs[j * 3 + 1]? = some (.slice o l c) ∧ xs[j * 3 + 2]? = some (.int .i64 e) ∧ NumC w (.agg #[.bool n, .slice o l c, .int .i64 e]) s T (zs[j]?.getD 0))
    (hcl : ∀ g, v.ownBlock = some g → Cl noU w g) (hn : NumC w (.agg #[.bool n, .slice o l c, .int .i64 e]) s T z) (ho : w'.ownsRow base 60 3 v' (zs.length + 1) (xs ++ [.bool n, .slice o l c, .int .i64 e])) (hg : Grw w w' v.ownBlock v'.ownBlock) (hcl' : ∀ g, v'.ownBlock = some g → Cl noU w' g) : RowZ w' base v' s T (zs ++ [z]) := by
  have keep : ∀ (y : Value) (z : Int), NumC w y s T z → NumC w' y s T z := fun y z hy => hy.grw hg hcl
  have hl : xs.length = zs.length * 3 := hx.1
  refine ⟨⟨_, by simpa using ho, fun j hj => ?_⟩, hcl'⟩
  by_cases ej : j < zs.length
  · obtain ⟨n1, o1, l1, c1, e1, a1, a2, a3, a4⟩ := h2 j ej
    refine ⟨n1, o1, l1, c1, e1, ?_, ?_, ?_, ?_⟩
    · rw [List.getElem?_append_left (by omega)]; exact a1
    · rw [List.getElem?_append_left (by omega)]; exact a2
    · rw [List.getElem?_append_left (by omega)]; exact a3
    · rw [List.getElem?_append_left ej]; exact keep _ _ a4
  · have e2 : j = zs.length := by simp at hj; omega
    subst e2
    refine ⟨n, o, l, c, e, ?_, ?_, ?_, ?_⟩
    · rw [List.getElem?_append_right (by omega), hl, Nat.sub_self]; rfl
    · rw [List.getElem?_append_right (by omega), hl, show zs.length * 3 + 1 - zs.length * 3 = 1 by omega]; rfl
    · rw [List.getElem?_append_right (by omega), hl, show zs.length * 3 + 2 - zs.length * 3 = 2 by omega]; rfl
    · rw [List.getElem?_append_right (Nat.le_refl _), Nat.sub_self]; exact keep _ _ hn
theorem RowZ.range {w : World} {base s : Nat} {T : Int} {v : Value} {zs : List Int} (h : RowZ w base v s T zs) {k : Nat} (hk : k < zs.length) : ∃ b cap n o l c e, v = .slice (some ⟨b, 0, none⟩) zs.length cap ∧ w.rangeAt b (k * 3) [.bool n, .slice o l c, .int .i64 e] ∧ NumC w (.agg #[.bool n, .slice o l c, .int .i64 e]) s T (zs[k]?.getD 0) := by
  obtain ⟨xs, h1, h2⟩ := h.own
  obtain ⟨n, o, l, c, e, a1, a2, a3, a4⟩ := h2 k hk
  have h1' := h1
  rcases h1.2 with ⟨_, h0⟩ | ⟨g, cap, cur, rfl, _⟩
  · omega
  · refine ⟨g, cap, n, o, l, c, e, rfl, range3 ?_ ?_ ?_, a4⟩
    · rw [World.ownsRow.cellAt h1' (k * 3) (by omega)]; exact a1
    · rw [World.ownsRow.cellAt h1' (k * 3 + 1) (by omega)]; exact a2
    · rw [World.ownsRow.cellAt h1' (k * 3 + 2) (by omega)]; exact a3
theorem RowZ.form {w : World} {base s : Nat} {T : Int} {v : Value} {zs : List Int} (h : RowZ w base v s T zs) : ∃ ao cap, v = .slice ao zs.length cap := by
  obtain ⟨xs, h1, h2⟩ := h.own
  rcases h1.2 with ⟨rfl, h0⟩ | ⟨g, cap, cur, rfl, _⟩
  · exact ⟨none, 0, by rw [h0]⟩
  · exact ⟨_, cap, rfl⟩
theorem NumC.moreJ {w : World} {v : Value} {s : Nat} {T z : Int} (h : NumC w v s T z) (k : Nat) : NumC w v (s + k) T (z * ((2 ^ k : Nat) : Int)) := by
  obtain ⟨neg, m, e, h1, h2, h3, h4, h5⟩ := h
  exact ⟨neg, m, e, h1, by omega, h3, by rw [zv_more k neg m h2, h4], h5⟩
end Go.Proofs.Ytbjnkefjlaplkaa

