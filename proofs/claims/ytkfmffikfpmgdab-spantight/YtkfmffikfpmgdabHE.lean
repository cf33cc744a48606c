import Derived.Test.YtkfmffikfpmgdabHD
namespace Go.Proofs.Ytkfmffikfpmgdab
open Go.RowKit
set_option linter.unusedVariables false

theorem down_le {X : Int} {D p : Nat} (hD : 0 < D) (h : RndZ 2 X D (p, true)) : fval p * (D : Int) ≤ X := by
  obtain ⟨f, hf⟩ := Sf.some X hD
  rcases rz_down h hf with ⟨_, _, a⟩ | ⟨a, _⟩
  · have a' : srung p = min f ((infK : Int) - 1) := a
    have m : smag (srung p) ≤ smag f := by
      rcases Int.lt_trichotomy (smag f) (smag (srung p)) with c | c | c
      · have := lt_of_smag c; omega
      · omega
      · omega
    rw [fval_smag]
    exact Int.le_trans (Int.mul_le_mul_of_nonneg_right m (Int.natCast_nonneg D)) hf.1
  · have := congrArg Prod.snd a; cases this
theorem up_le {Y : Int} {D q : Nat} (hD : 0 < D) (h : RndZ 1 Y D (q, true)) : Y ≤ fval q * (D : Int) := by
  obtain ⟨f, hf⟩ := Sf.some Y hD
  rcases rz_up h hf with ⟨_, _, a⟩ | ⟨a, _⟩
  · have k : Y ≤ smag (ceilK Y D f) * (D : Int) := (ceil_le hD hf _).2 (Int.le_refl _)
    have a' : srung q = max (ceilK Y D f) (1 - (infK : Int)) := a
    have m : smag (ceilK Y D f) ≤ smag (srung q) := by
      rcases Int.lt_trichotomy (smag (ceilK Y D f)) (smag (srung q)) with c | c | c
      · omega
      · omega
      · have := lt_of_smag c; omega
    rw [fval_smag]
    exact Int.le_trans k (Int.mul_le_mul_of_nonneg_right m (Int.natCast_nonneg D))
  · have := congrArg Prod.snd a; cases this
/-- A span holds the real Z 2^-k (units of 2^-1074), or is bad. -/
def Hds (r : Nat × Nat × Bool) (k : Nat) (Z : Int) : Prop := r.2.2 = true ∨ (Good r.1 r.2.1 r.2.2 ∧ fval r.1 * ((2 ^ k : Nat) : Int) ≤ Z ∧ Z ≤ fval r.2.1 * ((2 ^ k : Nat) : Int))
theorem sp_holds {X Y Z : Int} {D k : Nat} {r : Nat × Nat × Bool} (hD : 0 < D) (h : SpR X Y D r) (hXY : X ≤ Y) (h1 : X * ((2 ^ k : Nat) : Int) ≤ Z * (D : Int)) (h2 : Z * (D : Int) ≤ Y * ((2 ^ k : Nat) : Int)) : Hds r k Z := by
  cases hb : r.2.2
  · right
    have t := h.told hb
    have g := h.good hD hXY hb
    have a := down_le hD t.1
    have b := up_le hD t.2
    have hk : (0 : Int) ≤ ((2 ^ k : Nat) : Int) := Int.natCast_nonneg _
    have hD' : (0 : Int) < (D : Int) := by omega
    refine ⟨g, ?_, ?_⟩
    · have e := Int.mul_le_mul_of_nonneg_right a hk
      have f : fval r.1 * (D : Int) * ((2 ^ k : Nat) : Int) = fval r.1 * ((2 ^ k : Nat) : Int) * (D : Int) := Int.mul_right_comm _ _ _
      exact Int.le_of_mul_le_mul_right (by rw [← f]; exact Int.le_trans e h1) hD'
    · have e := Int.mul_le_mul_of_nonneg_right b hk
      have f : fval r.2.1 * (D : Int) * ((2 ^ k : Nat) : Int) = fval r.2.1 * ((2 ^ k : Nat) : Int) * (D : Int) := Int.mul_right_comm _ _ _
      exact Int.le_of_mul_le_mul_right (by rw [← f]; exact Int.le_trans h2 e) hD'
  · left; exact hb
/-- Where a real of a span lies. -/
theorem within_bounds {l h z : Int} {E N I : Nat} (hNE : N ≤ E) (hI : I ≤ 2 ^ N) (hle : l ≤ h) (hz : z = l * ((2 ^ E : Nat) : Int) + (h - l) * ((I : Int) * ((2 ^ (E - N) : Nat) : Int))) : l * ((2 ^ E : Nat) : Int) ≤ z ∧ z ≤ h * ((2 ^ E : Nat) : Int) := by
  have e : (2 : Nat) ^ E = 2 ^ N * 2 ^ (E - N) := by rw [← Nat.pow_add]; congr 1; omega
  have m1 : I * 2 ^ (E - N) ≤ 2 ^ E := by rw [e]; exact Nat.mul_le_mul_right _ hI
  have m2 : (I : Int) * ((2 ^ (E - N) : Nat) : Int) ≤ ((2 ^ E : Nat) : Int) := by rw [← Int.natCast_mul]; exact Int.ofNat_le.2 m1
  have m3 : (0 : Int) ≤ (I : Int) * ((2 ^ (E - N) : Nat) : Int) := Int.mul_nonneg (Int.natCast_nonneg _) (Int.natCast_nonneg _)
  generalize (I : Int) * ((2 ^ (E - N) : Nat) : Int) = t at *
  generalize ((2 ^ E : Nat) : Int) = F at *
  have a := Int.mul_nonneg (show 0 ≤ h - l by omega) m3
  have b := Int.mul_le_mul_of_nonneg_left m2 (show 0 ≤ h - l by omega)
  have c : (h - l) * F = h * F - l * F := Int.sub_mul _ _ _
  omega
section
variable {al ah bl bh : Nat} {ab bb : Bool} {E : Nat} {zx zy : Int} {r : Nat × Nat × Bool}
/-- The reals x and y, in units of 2^-2E. -/
structure In2 (al ah : Nat) (ab : Bool) (E : Nat) (z : Int) : Prop where
  g : Good al ah ab
  lo : fval al * ((2 ^ E : Nat) : Int) ≤ z
  hi : z ≤ fval ah * ((2 ^ E : Nat) : Int)
theorem h_lin {X Y Z : Int} (h : SpR X Y 1 r) (hXY : X ≤ Y) (h1 : X * ((2 ^ E : Nat) : Int) ≤ Z) (h2 : Z ≤ Y * ((2 ^ E : Nat) : Int)) : Hds r E Z :=
  sp_holds (by decide) h hXY (by rw [show ((1 : Nat) : Int) = 1 from rfl, Int.mul_one]; exact h1) (by rw [show ((1 : Nat) : Int) = 1 from rfl, Int.mul_one]; exact h2)
theorem h_neg (hx : In2 al ah ab E zx) (k : UnR (SpR (-fval ah) (-fval al) 1) al ah ab r) : Hds r E (-zx) := by
  unfold UnR at k; rw [if_pos hx.g] at k
  have m := good_mono hx.g; have l := hx.lo; have u := hx.hi
  exact h_lin k (by omega) (by rw [Int.neg_mul]; omega) (by rw [Int.neg_mul]; omega)
theorem h_add (hx : In2 al ah ab E zx) (hy : In2 bl bh bb E zy) (k : BinR (SpR (fval al + fval bl) (fval ah + fval bh) 1) al ah bl bh ab bb r) : Hds r E (zx + zy) := by
  unfold BinR at k; rw [if_pos ⟨hx.g, hy.g⟩] at k
  have m := good_mono hx.g; have l := hx.lo; have u := hx.hi; have m2 := good_mono hy.g; have l2 := hy.lo; have u2 := hy.hi
  exact h_lin k (by omega) (by rw [Int.add_mul]; omega) (by rw [Int.add_mul]; omega)
theorem h_sub (hx : In2 al ah ab E zx) (hy : In2 bl bh bb E zy) (k : BinR (SpR (fval al - fval bh) (fval ah - fval bl) 1) al ah bl bh ab bb r) : Hds r E (zx - zy) := by
  unfold BinR at k; rw [if_pos ⟨hx.g, hy.g⟩] at k
  have m := good_mono hx.g; have l := hx.lo; have u := hx.hi; have m2 := good_mono hy.g; have l2 := hy.lo; have u2 := hy.hi
  exact h_lin k (by omega) (by rw [Int.sub_mul]; omega) (by rw [Int.sub_mul]; omega)
theorem h_mk {X Y Z : Int} (k : MkR X Y r) (hXY : X ≤ Y) (h1 : X * ((2 ^ E : Nat) : Int) ≤ Z) (h2 : Z ≤ Y * ((2 ^ E : Nat) : Int)) : Hds r E Z := by
  unfold MkR at k; rw [if_pos hXY] at k; exact h_lin k hXY h1 h2
theorem max_mul (a b : Int) {c : Int} (hc : 0 ≤ c) : max a b * c = max (a * c) (b * c) := by
  rcases Int.le_total a b with h | h
  · rw [Int.max_eq_right h, Int.max_eq_right (Int.mul_le_mul_of_nonneg_right h hc)]
  · rw [Int.max_eq_left h, Int.max_eq_left (Int.mul_le_mul_of_nonneg_right h hc)]
theorem min_mul (a b : Int) {c : Int} (hc : 0 ≤ c) : min a b * c = min (a * c) (b * c) := by
  rcases Int.le_total a b with h | h
  · rw [Int.min_eq_left h, Int.min_eq_left (Int.mul_le_mul_of_nonneg_right h hc)]
  · rw [Int.min_eq_right h, Int.min_eq_right (Int.mul_le_mul_of_nonneg_right h hc)]
theorem h_max (hx : In2 al ah ab E zx) (hy : In2 bl bh bb E zy) (k : BinR (MkR (max (fval al) (fval bl)) (max (fval ah) (fval bh))) al ah bl bh ab bb r) : Hds r E (max zx zy) := by
  unfold BinR at k; rw [if_pos ⟨hx.g, hy.g⟩] at k
  have m := good_mono hx.g; have l := hx.lo; have u := hx.hi; have m2 := good_mono hy.g; have l2 := hy.lo; have u2 := hy.hi
  have hc : (0 : Int) ≤ ((2 ^ E : Nat) : Int) := Int.natCast_nonneg _
  exact h_mk k (by omega) (by rw [max_mul _ _ hc]; omega) (by rw [max_mul _ _ hc]; omega)
theorem h_hull (hx : In2 al ah ab E zx) (hy : In2 bl bh bb E zy) (k : BinR (MkR (min (fval al) (fval bl)) (max (fval ah) (fval bh))) al ah bl bh ab bb r) : Hds r E zx ∧ Hds r E zy := by
  unfold BinR at k; rw [if_pos ⟨hx.g, hy.g⟩] at k
  have m := good_mono hx.g; have l := hx.lo; have u := hx.hi; have m2 := good_mono hy.g; have l2 := hy.lo; have u2 := hy.hi
  have hc : (0 : Int) ≤ ((2 ^ E : Nat) : Int) := Int.natCast_nonneg _
  exact ⟨h_mk k (by omega) (by rw [min_mul _ _ hc]; omega) (by rw [max_mul _ _ hc]; omega), h_mk k (by omega) (by rw [min_mul _ _ hc]; omega) (by rw [max_mul _ _ hc]; omega)⟩
theorem h_meet (hal : al < 18446744073709551616) (hah : ah < 18446744073709551616) (hbl : bl < 18446744073709551616) (hbh : bh < 18446744073709551616) (hx : In2 al ah ab E zx) (hy : In2 bl bh bb E zy) (he : zx = zy) (k : BinR (MkR (max (fval al) (fval bl)) (min (fval ah) (fval bh))) al ah bl bh ab bb r) : r.2.2 = false ∧ Hds r E zx := by
  unfold BinR at k; rw [if_pos ⟨hx.g, hy.g⟩] at k
  have m := good_mono hx.g; have l := hx.lo; have u := hx.hi; have m2 := good_mono hy.g; have l2 := hy.lo; have u2 := hy.hi
  have hc : (0 : Int) < ((2 ^ E : Nat) : Int) := by have := Nat.two_pow_pos E; omega
  have c1 : fval al ≤ fval bh := Int.le_of_mul_le_mul_right (by omega : fval al * ((2 ^ E : Nat) : Int) ≤ fval bh * ((2 ^ E : Nat) : Int)) hc
  have c2 : fval bl ≤ fval ah := Int.le_of_mul_le_mul_right (by omega : fval bl * ((2 ^ E : Nat) : Int) ≤ fval ah * ((2 ^ E : Nat) : Int)) hc
  have hXY : max (fval al) (fval bl) ≤ min (fval ah) (fval bh) := by omega
  refine ⟨?_, h_mk k hXY (by rw [max_mul _ _ (Int.le_of_lt hc)]; omega) (by rw [min_mul _ _ (Int.le_of_lt hc)]; omega)⟩
  unfold MkR at k; rw [if_pos hXY] at k
  refine mk_told (D := 1) ?_ ?_ k
  · rcases Int.le_total (fval al) (fval bl) with c | c
    · exact ⟨bl, hbl, hy.g.2.1, by omega⟩
    · exact ⟨al, hal, hx.g.2.1, by omega⟩
  · rcases Int.le_total (fval ah) (fval bh) with c | c
    · exact ⟨ah, hah, hx.g.2.2.1, by omega⟩
    · exact ⟨bh, hbh, hy.g.2.2.1, by omega⟩
theorem h_mul (hx : In2 al ah ab E zx) (hy : In2 bl bh bb E zy) (k : MulR al ah bl bh ab bb E r) : Hds r (E + E + E) (zx * zy) := by
  unfold MulR at k; rw [if_pos ⟨hx.g, hy.g⟩] at k
  have q := mul_between hx.lo hx.hi hy.lo hy.hi
  have e3 : ((2 ^ (E + E + E) : Nat) : Int) = ((2 ^ E : Nat) : Int) * ((2 ^ E : Nat) : Int) * ((2 ^ E : Nat) : Int) := by rw [← Int.natCast_mul, ← Int.natCast_mul, ← Nat.pow_add, ← Nat.pow_add]
  have hF : (0 : Int) ≤ ((2 ^ E : Nat) : Int) := Int.natCast_nonneg _
  have hm := min4_le_max4 (fval al * fval bl) (fval al * fval bh) (fval ah * fval bl) (fval ah * fval bh)
  refine sp_holds (Nat.two_pow_pos E) k hm ?_ ?_
  all_goals
    rw [e3]
    generalize ((2 ^ E : Nat) : Int) = F at *
    have f : ∀ u v : Int, u * F * (v * F) = u * v * (F * F) := fun u v => by rw [Int.mul_assoc, Int.mul_assoc, Int.mul_left_comm F v F]
    rw [f, f, f, f, min4_mul _ _ _ _ _ (Int.mul_nonneg hF hF), max4_mul _ _ _ _ _ (Int.mul_nonneg hF hF)] at q
    rw [← Int.mul_assoc]
    first
      | exact Int.mul_le_mul_of_nonneg_right q.1 hF
      | exact Int.mul_le_mul_of_nonneg_right q.2 hF
theorem h_square (hx : In2 al ah ab E zx) (k : UnR (SpR (sqLo al ah * sqLo al ah) (sqHi al ah * sqHi al ah) (2 ^ E)) al ah ab r) : Hds r (E + E + E) (zx * zx) := by
  unfold UnR at k; rw [if_pos hx.g] at k
  have e3 : ((2 ^ (E + E + E) : Nat) : Int) = ((2 ^ E : Nat) : Int) * ((2 ^ E : Nat) : Int) * ((2 ^ E : Nat) : Int) := by rw [← Int.natCast_mul, ← Int.natCast_mul, ← Nat.pow_add, ← Nat.pow_add]
  have hF : (0 : Int) ≤ ((2 ^ E : Nat) : Int) := Int.natCast_nonneg _
  have m := good_mono hx.g; have l := hx.lo; have u := hx.hi
  have s1 := sq_inside (P := fval al) (Q := fval ah) (p := fval al) (q := fval ah) (Int.le_refl _) m (Int.le_refl _)
  have s2 := sq_inside (P := fval al * ((2 ^ E : Nat) : Int)) (Q := fval ah * ((2 ^ E : Nat) : Int)) (p := zx) (q := zx) l (Int.le_refl _) u
  have z1 : max (max zx (-zx)) 0 * max (max zx (-zx)) 0 = zx * zx := by
    rcases Int.le_total 0 zx with c | c
    · rw [show max (max zx (-zx)) 0 = zx by omega]
    · rw [show max (max zx (-zx)) 0 = -zx by omega, Int.neg_mul_neg]
  have z2 : max (-zx) zx * max (-zx) zx = zx * zx := by
    rcases Int.le_total 0 zx with c | c
    · rw [show max (-zx) zx = zx by omega]
    · rw [show max (-zx) zx = -zx by omega, Int.neg_mul_neg]
  rw [z1, z2] at s2
  have w1 : max (max (fval al * ((2 ^ E : Nat) : Int)) (-(fval ah * ((2 ^ E : Nat) : Int)))) 0 = sqLo al ah * ((2 ^ E : Nat) : Int) := by
    unfold sqLo
    rw [max_mul _ _ hF, max_mul _ _ hF, Int.zero_mul, Int.neg_mul]
  have w2 : max (-(fval al * ((2 ^ E : Nat) : Int))) (fval ah * ((2 ^ E : Nat) : Int)) = sqHi al ah * ((2 ^ E : Nat) : Int) := by
    unfold sqHi
    rw [max_mul _ _ hF, Int.neg_mul]
  rw [w1, w2] at s2
  refine sp_holds (Nat.two_pow_pos E) k (by unfold sqLo sqHi; exact s1.2.1) ?_ ?_
  all_goals
    rw [e3]
    generalize ((2 ^ E : Nat) : Int) = F at *
    generalize sqLo al ah = a at *
    generalize sqHi al ah = b at *
    have f : ∀ u : Int, u * F * (u * F) = u * u * (F * F) := fun u => by rw [Int.mul_assoc, Int.mul_assoc, Int.mul_left_comm F u F]
    rw [f, f] at s2
    rw [← Int.mul_assoc]
    first
      | exact Int.mul_le_mul_of_nonneg_right s2.1 hF
      | exact Int.mul_le_mul_of_nonneg_right s2.2.2 hF
end
end Go.Proofs.Ytkfmffikfpmgdab
