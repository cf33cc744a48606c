import Derived.Test.YtnjjichanfpbhaaGreatZS
namespace Go.Proofs.YtnjjichanfpbhaaGreat
open Go.RowKit
set_option linter.unusedVariables false

theorem hull_sub {al ah cl ch : Nat} {ab cb : Bool} {r : Nat × Nat × Bool} (hal : al < 18446744073709551616) (hah : ah < 18446744073709551616) (hcl : cl < 18446744073709551616) (hch : ch < 18446744073709551616) (h : BinR (MkR (min (fval al) (fval cl)) (max (fval ah) (fval ch))) al ah cl ch ab cb r) (hb : r.2.2 = false) : Sub2 al ah ab r.1 r.2.1 r.2.2 ∧ r.1 < 18446744073709551616 ∧ r.2.1 < 18446744073709551616 := by
  unfold BinR at h
  split at h
  · rename_i hg
    have m := good_mono hg.1
    unfold MkR at h
    rw [if_pos (by omega)] at h
    have t := h.told hb
    have ex : ∃ x, x < 18446744073709551616 ∧ Fin x ∧ fval x = min (fval al) (fval cl) := by
      rcases Int.le_total (fval al) (fval cl) with c | c
      · exact ⟨al, hal, hg.1.2.1, by omega⟩
      · exact ⟨cl, hcl, hg.2.2.1, by omega⟩
    have ey : ∃ x, x < 18446744073709551616 ∧ Fin x ∧ fval x = max (fval ah) (fval ch) := by
      rcases Int.le_total (fval ah) (fval ch) with c | c
      · exact ⟨ch, hch, hg.2.2.2.1, by omega⟩
      · exact ⟨ah, hah, hg.1.2.2.1, by omega⟩
    obtain ⟨x, x1, x2, x3⟩ := ex
    obtain ⟨y, y1, y2, y3⟩ := ey
    have t1 := t.1; have t2 := t.2
    rw [← x3] at t1
    rw [← y3] at t2
    have e1 := t1.exact x1 x2 (by decide)
    have e2 := t2.exact y1 y2 (by decide)
    have f1 : r.1 = plainM x := by have := congrArg Prod.fst e1; exact this
    have f2 : r.2.1 = plainM y := by have := congrArg Prod.fst e2; exact this
    have v1 := (plain_fval x1 x2).1
    have v2 := (plain_fval y1 y2).1
    rw [← f1] at v1
    rw [← f2] at v2
    exact ⟨⟨hg.1, h.good (by decide) (by omega) hb, by omega, by omega⟩, (h.lt).1, (h.lt).2⟩
  · rw [h] at hb; cases hb
theorem Sub2.inB {al ah : Nat} {ab : Bool} {r : Nat × Nat × Bool} (h : Sub2 al ah ab r.1 r.2.1 r.2.2) (b1 : al < 18446744073709551616) (b2 : ah < 18446744073709551616) (b3 : r.1 < 18446744073709551616) (b4 : r.2.1 < 18446744073709551616) : InB (al, ah, ab) r :=
  ⟨h.ga, h.gc, (srung_le _ _).2 h.lo, (srung_le _ _).2 h.hi, ⟨b1, b2⟩, b3, b4⟩
theorem in_meet {al ah bl bh cl ch dl dh : Nat} {ab bb cb db : Bool} {r r' : Nat × Nat × Bool} (h : Sub2 al ah ab cl ch cb) (g : Sub2 bl bh bb dl dh db) (hcl : cl < 18446744073709551616) (hch : ch < 18446744073709551616) (hdl : dl < 18446744073709551616) (hdh : dh < 18446744073709551616) (k' : BinR (MkR (max (fval al) (fval bl)) (min (fval ah) (fval bh))) al ah bl bh ab bb r') (k : BinR (MkR (max (fval cl) (fval dl)) (min (fval ch) (fval dh))) cl ch dl dh cb db r) (hb : r'.2.2 = false) : InB r' r := by
  unfold BinR at k k'; rw [if_pos ⟨h.ga, g.ga⟩] at k'; rw [if_pos ⟨h.gc, g.gc⟩] at k
  have m := h.mid; have l := h.lo; have u := h.hi; have m2 := g.mid; have l2 := g.lo; have u2 := g.hi
  by_cases hle : max (fval al) (fval bl) ≤ min (fval ah) (fval bh)
  · have k0 := k
    unfold MkR at k0
    rw [if_pos (by omega)] at k0
    refine in_mk k' k (by omega) hle (by omega) (mk_told (D := 1) ?_ ?_ k0)
    · rcases Int.le_total (fval cl) (fval dl) with c | c
      · exact ⟨dl, hdl, g.gc.2.1, by omega⟩
      · exact ⟨cl, hcl, h.gc.2.1, by omega⟩
    · rcases Int.le_total (fval ch) (fval dh) with c | c
      · exact ⟨ch, hch, h.gc.2.2.1, by omega⟩
      · exact ⟨dh, hdh, g.gc.2.2.1, by omega⟩
  · unfold MkR at k'; rw [if_neg hle] at k'; rw [k'] at hb; cases hb
def nine (a0 a1 a2 a3 a4 a5 a6 a7 a8 : Nat × Nat × Bool) (j : Nat) : Nat × Nat × Bool := if j = 0 then a0 else if j = 1 then a1 else if j = 2 then a2 else if j = 3 then a3 else if j = 4 then a4 else if j = 5 then a5 else if j = 6 then a6 else if j = 7 then a7 else a8
theorem rds_nine {W : World} {g : Nat} {t : TypeId} {a0 a1 a2 a3 a4 a5 a6 a7 a8 : Nat × Nat × Bool} (h : W.heap[g]? = some (Obj.cells #[Value.float .f64 a0.1, .float .f64 a0.2.1, .bool a0.2.2, Value.float .f64 a1.1, .float .f64 a1.2.1, .bool a1.2.2, Value.float .f64 a2.1, .float .f64 a2.2.1, .bool a2.2.2, Value.float .f64 a3.1, .float .f64 a3.2.1, .bool a3.2.2, Value.float .f64 a4.1, .float .f64 a4.2.1, .bool a4.2.2, Value.float .f64 a5.1, .float .f64 a5.2.1, .bool a5.2.2, Value.float .f64 a6.1, .float .f64 a6.2.1, .bool a6.2.2, Value.float .f64 a7.1, .float .f64 a7.2.1, .bool a7.2.2, Value.float .f64 a8.1, .float .f64 a8.2.1, .bool a8.2.2] t)) : ∀ j, j < 9 → W.cell? ⟨g, j * 3, none⟩ = some (.float .f64 (nine a0 a1 a2 a3 a4 a5 a6 a7 a8 j).1) ∧ W.cell? ⟨g, j * 3 + 1, none⟩ = some (.float .f64 (nine a0 a1 a2 a3 a4 a5 a6 a7 a8 j).2.1) ∧ W.cell? ⟨g, j * 3 + 2, none⟩ = some (.bool (nine a0 a1 a2 a3 a4 a5 a6 a7 a8 j).2.2) := by
  have c := fun j => cell_of_row W g j _ _ _ h
  intro j hj
  rcases (show j = 0 ∨ j = 1 ∨ j = 2 ∨ j = 3 ∨ j = 4 ∨ j = 5 ∨ j = 6 ∨ j = 7 ∨ j = 8 by omega) with rfl | rfl | rfl | rfl | rfl | rfl | rfl | rfl | rfl
  · exact ⟨c 0, c 1, c 2⟩
  · exact ⟨c 3, c 4, c 5⟩
  · exact ⟨c 6, c 7, c 8⟩
  · exact ⟨c 9, c 10, c 11⟩
  · exact ⟨c 12, c 13, c 14⟩
  · exact ⟨c 15, c 16, c 17⟩
  · exact ⟨c 18, c 19, c 20⟩
  · exact ⟨c 21, c 22, c 23⟩
  · exact ⟨c 24, c 25, c 26⟩
end Go.Proofs.YtnjjichanfpbhaaGreat
