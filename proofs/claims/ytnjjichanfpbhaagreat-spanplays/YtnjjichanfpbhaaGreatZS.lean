import Derived.Test.YtnjjichanfpbhaaGreatZR
import Derived.Test.YtnjjichanfpbhaaGreatSpi
namespace Go.Proofs.YtnjjichanfpbhaaGreat
open Go.RowKit
set_option linter.unusedVariables false

/-- One good span lies in another. -/
structure Sub2 (al ah : Nat) (ab : Bool) (cl ch : Nat) (cb : Bool) : Prop where
  ga : Good al ah ab
  gc : Good cl ch cb
  lo : fval cl ≤ fval al
  hi : fval ah ≤ fval ch
theorem Sub2.mid {al ah cl ch : Nat} {ab cb : Bool} (h : Sub2 al ah ab cl ch cb) : fval al ≤ fval ah := good_mono h.ga
section
variable {al ah bl bh cl ch dl dh : Nat} {ab bb cb db : Bool} {r r' : Nat × Nat × Bool}
theorem in_neg (h : Sub2 al ah ab cl ch cb) (k' : UnR (SpR (-fval ah) (-fval al) 1) al ah ab r') (k : UnR (SpR (-fval ch) (-fval cl) 1) cl ch cb r) (hb : r.2.2 = false) : InB r' r := by
  unfold UnR at k k'; rw [if_pos h.ga] at k'; rw [if_pos h.gc] at k
  have m := h.mid; have l := h.lo; have u := h.hi
  exact k.inside (by decide) k' (by omega) (by omega) (by omega) hb
theorem in_add (h : Sub2 al ah ab cl ch cb) (g : Sub2 bl bh bb dl dh db) (k' : BinR (SpR (fval al + fval bl) (fval ah + fval bh) 1) al ah bl bh ab bb r') (k : BinR (SpR (fval cl + fval dl) (fval ch + fval dh) 1) cl ch dl dh cb db r) (hb : r.2.2 = false) : InB r' r := by
  unfold BinR at k k'; rw [if_pos ⟨h.ga, g.ga⟩] at k'; rw [if_pos ⟨h.gc, g.gc⟩] at k
  have m := h.mid; have l := h.lo; have u := h.hi; have m2 := g.mid; have l2 := g.lo; have u2 := g.hi
  exact k.inside (by decide) k' (by omega) (by omega) (by omega) hb
theorem in_sub (h : Sub2 al ah ab cl ch cb) (g : Sub2 bl bh bb dl dh db) (k' : BinR (SpR (fval al - fval bh) (fval ah - fval bl) 1) al ah bl bh ab bb r') (k : BinR (SpR (fval cl - fval dh) (fval ch - fval dl) 1) cl ch dl dh cb db r) (hb : r.2.2 = false) : InB r' r := by
  unfold BinR at k k'; rw [if_pos ⟨h.ga, g.ga⟩] at k'; rw [if_pos ⟨h.gc, g.gc⟩] at k
  have m := h.mid; have l := h.lo; have u := h.hi; have m2 := g.mid; have l2 := g.lo; have u2 := g.hi
  exact k.inside (by decide) k' (by omega) (by omega) (by omega) hb
theorem in_mul {E : Nat} (h : Sub2 al ah ab cl ch cb) (g : Sub2 bl bh bb dl dh db) (k' : MulR al ah bl bh ab bb E r') (k : MulR cl ch dl dh cb db E r) (hb : r.2.2 = false) : InB r' r := by
  unfold MulR at k k'; rw [if_pos ⟨h.ga, g.ga⟩] at k'; rw [if_pos ⟨h.gc, g.gc⟩] at k
  have q := mul_inside h.lo h.mid h.hi g.lo g.mid g.hi
  exact k.inside (Nat.two_pow_pos E) k' q.1 q.2.1 q.2.2 hb
theorem in_square {E : Nat} (h : Sub2 al ah ab cl ch cb) (k' : UnR (SpR (sqLo al ah * sqLo al ah) (sqHi al ah * sqHi al ah) (2 ^ E)) al ah ab r') (k : UnR (SpR (sqLo cl ch * sqLo cl ch) (sqHi cl ch * sqHi cl ch) (2 ^ E)) cl ch cb r) (hb : r.2.2 = false) : InB r' r := by
  unfold UnR at k k'; rw [if_pos h.ga] at k'; rw [if_pos h.gc] at k
  have q := sq_inside h.lo h.mid h.hi
  exact k.inside (Nat.two_pow_pos E) k' q.1 q.2.1 q.2.2 hb
theorem in_scale {n : Int} (h : Sub2 al ah ab cl ch cb) (k' : UnR (ScR n al ah) al ah ab r') (k : UnR (ScR n cl ch) cl ch cb r) (hb : r.2.2 = false) : InB r' r := by
  unfold UnR at k k'; rw [if_pos h.ga] at k'; rw [if_pos h.gc] at k
  obtain ⟨p, q, k1, k2, k3⟩ := k
  obtain ⟨p', q', k1', k2', k3'⟩ := k'
  have K : SpR (fval cl * ((2 ^ (clip n).toNat : Nat) : Int)) (fval ch * ((2 ^ (clip n).toNat : Nat) : Int)) (2 ^ (-(clip n)).toNat) r := ⟨p, q, scale_rndZ k1, scale_rndZ k2, k3⟩
  have K' : SpR (fval al * ((2 ^ (clip n).toNat : Nat) : Int)) (fval ah * ((2 ^ (clip n).toNat : Nat) : Int)) (2 ^ (-(clip n)).toNat) r' := ⟨p', q', scale_rndZ k1', scale_rndZ k2', k3'⟩
  have hk : (0 : Int) ≤ ((2 ^ (clip n).toNat : Nat) : Int) := Int.natCast_nonneg _
  exact K.inside (Nat.two_pow_pos _) K' (Int.mul_le_mul_of_nonneg_right h.lo hk) (Int.mul_le_mul_of_nonneg_right h.mid hk) (Int.mul_le_mul_of_nonneg_right h.hi hk) hb
theorem in_mk {X Y X' Y' : Int} (k' : MkR X' Y' r') (k : MkR X Y r) (h1 : X ≤ X') (h2 : X' ≤ Y') (h3 : Y' ≤ Y) (hb : r.2.2 = false) : InB r' r := by
  unfold MkR at k k'; rw [if_pos (by omega)] at k'; rw [if_pos (by omega)] at k
  exact k.inside (by decide) k' h1 h2 h3 hb
theorem in_max (h : Sub2 al ah ab cl ch cb) (g : Sub2 bl bh bb dl dh db) (k' : BinR (MkR (max (fval al) (fval bl)) (max (fval ah) (fval bh))) al ah bl bh ab bb r') (k : BinR (MkR (max (fval cl) (fval dl)) (max (fval ch) (fval dh))) cl ch dl dh cb db r) (hb : r.2.2 = false) : InB r' r := by
  unfold BinR at k k'; rw [if_pos ⟨h.ga, g.ga⟩] at k'; rw [if_pos ⟨h.gc, g.gc⟩] at k
  have m := h.mid; have l := h.lo; have u := h.hi; have m2 := g.mid; have l2 := g.lo; have u2 := g.hi
  exact in_mk k' k (by omega) (by omega) (by omega) hb
theorem in_hull (h : Sub2 al ah ab cl ch cb) (g : Sub2 bl bh bb dl dh db) (k' : BinR (MkR (min (fval al) (fval bl)) (max (fval ah) (fval bh))) al ah bl bh ab bb r') (k : BinR (MkR (min (fval cl) (fval dl)) (max (fval ch) (fval dh))) cl ch dl dh cb db r) (hb : r.2.2 = false) : InB r' r := by
  unfold BinR at k k'; rw [if_pos ⟨h.ga, g.ga⟩] at k'; rw [if_pos ⟨h.gc, g.gc⟩] at k
  have m := h.mid; have l := h.lo; have u := h.hi; have m2 := g.mid; have l2 := g.lo; have u2 := g.hi
  exact in_mk k' k (by omega) (by omega) (by omega) hb
theorem mk_told {X Y : Int} {D : Nat} (hX : ∃ x, x < 18446744073709551616 ∧ Fin x ∧ fval x = X) (hY : ∃ y, y < 18446744073709551616 ∧ Fin y ∧ fval y = Y) (k : SpR X Y 1 r) : r.2.2 = false := by
  obtain ⟨x, x1, x2, rfl⟩ := hX
  obtain ⟨y, y1, y2, rfl⟩ := hY
  have := k.uniq ⟨(plainM x, true), (plainM y, true), RndZ.plain 2 x1 x2 (by decide), RndZ.plain 1 y1 y2 (by decide), rfl⟩
  rw [this]; rfl
theorem in_div {E : Nat} (h : Sub2 al ah ab cl ch cb) (g : Sub2 bl bh bb dl dh db) (k' : DivR al ah bl bh ab bb E r') (k : DivR cl ch dl dh cb db E r) (hb : r.2.2 = false) : InB r' r := by
  unfold DivR at k k'
  have hz : hasB dl dh 0 = false := by
    rcases Bool.eq_false_or_eq_true (hasB dl dh 0) with c | c
    · rw [if_neg (by rw [c]; exact fun e => by cases e.2.2)] at k; rw [k] at hb; cases hb
    · exact c
  have h0 := apart_zero g.gc hz
  have hz' : hasB bl bh 0 = false := by
    rcases Bool.eq_false_or_eq_true (hasB bl bh 0) with c | c
    · exfalso
      unfold hasB leF at c
      simp only [Bool.and_eq_true, decide_eq_true_eq] at c
      have s1 := srung_le bl 0; have s2 := srung_le 0 bh
      have z0 : fval 0 = 0 := by decide
      have l2 := g.lo; have u2 := g.hi
      have a1 : fval bl ≤ 0 := by have := s1.1 c.1.2.2; omega
      have a2 : 0 ≤ fval bh := by have := s2.1 c.2.2.2; omega
      have := Int.mul_nonpos_of_nonpos_of_nonneg (show fval dl ≤ 0 by omega) (show 0 ≤ fval dh by omega)
      omega
    · exact c
  have h1 := apart_zero g.ga hz'
  rw [if_pos ⟨h.gc, g.gc, hz⟩] at k
  rw [if_pos ⟨h.ga, g.ga, hz'⟩] at k'
  have hF : (0 : Int) ≤ ((2 ^ E : Nat) : Int) := Int.natCast_nonneg _
  rw [min4_mul _ _ _ _ _ hF, max4_mul _ _ _ _ _ hF] at k k'
  have q := share_inside h.lo h.mid h.hi g.lo g.mid g.hi h0
  have K := k.rescale (fval bl * fval bh).natAbs (by omega)
  have K' := k'.rescale (fval dl * fval dh).natAbs (by omega)
  rw [Nat.mul_comm (fval bl * fval bh).natAbs] at K'
  have e1 : (((fval bl * fval bh).natAbs : Nat) : Int) = fval bl * fval bh := by omega
  have e2 : (((fval dl * fval dh).natAbs : Nat) : Int) = fval dl * fval dh := by omega
  rw [e1] at K
  rw [e2] at K'
  have hm := min4_le_max4 (fval al * fval bh) (fval al * fval bl) (fval ah * fval bh) (fval ah * fval bl)
  refine K.inside (Nat.mul_pos (by omega) (by omega)) K' ?_ ?_ ?_ hb
  · rw [Int.mul_right_comm, Int.mul_right_comm _ _ (fval dl * fval dh)]
    exact Int.mul_le_mul_of_nonneg_right q.1 hF
  · exact Int.mul_le_mul_of_nonneg_right (Int.mul_le_mul_of_nonneg_right hm hF) (by omega)
  · rw [Int.mul_right_comm, Int.mul_right_comm _ _ (fval bl * fval bh)]
    exact Int.mul_le_mul_of_nonneg_right q.2 hF
end
theorem inB_true {r' r : Nat × Nat × Bool} (h : InB r' r) : (decide (Good r'.1 r'.2.1 r'.2.2 ∧ Good r.1 r.2.1 r.2.2) && (leF r.1 r'.1 && leF r'.2.1 r.2.1)) = true := by
  obtain ⟨h1, h2, h3, h4, -⟩ := h
  unfold leF
  rw [decide_eq_true ⟨h1, h2⟩, decide_eq_true ⟨Nat.le_of_lt h2.2.1, Nat.le_of_lt h1.2.1, h3⟩, decide_eq_true ⟨Nat.le_of_lt h1.2.2.1, Nat.le_of_lt h2.2.2.1, h4⟩]
  rfl
end Go.Proofs.YtnjjichanfpbhaaGreat
