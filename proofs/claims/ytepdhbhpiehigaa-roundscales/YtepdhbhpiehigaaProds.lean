import Derived.Test.YtepdhbhpiehigaaOnes
namespace Go.Proofs.Ytepdhbhpiehigaa
open Ieee
set_option linter.unusedVariables false

/-- x is the number X 2^c (units of 2^-1074). -/
def Sc (c : Nat) (X : Int) (x : Nat) : Prop := Fin x ∧ x < 18446744073709551616 ∧ fval x = X * 2 ^ c

theorem rmag_inf {e : Nat} (he : e = 2046) : rmag infK = 4503599627370496 * 2 ^ e := by
  have h := rmag_form e 4503599627370496 (.inr (Nat.le_refl _)) (by omega)
  rw [show e * 4503599627370496 + 4503599627370496 = infK by unfold infK; omega] at h
  exact h
theorem lt_inf {k t : Nat} (h : rmag k ≤ 9007199254740992 * 2 ^ t) (ht : t < 2045) : k < infK := by
  obtain ⟨e, he⟩ : ∃ e : Nat, e = 2046 := ⟨_, rfl⟩
  refine lt_of_rmag ?_
  rw [rmag_inf he]
  have h1 : 2 ^ (t + 2) ≤ 2 ^ e := Nat.pow_le_pow_right (by omega) (by omega)
  rw [Nat.pow_succ, Nat.pow_succ] at h1
  have := Nat.two_pow_pos t
  omega

theorem abs_scaled (V : Int) (c : Nat) : (V * 2 ^ c).natAbs = V.natAbs * 2 ^ c := natAbs_mul_pow V c
theorem scaled_neg (V : Int) (c : Nat) : V * 2 ^ c < 0 ↔ V < 0 := by
  have hp : (0 : Int) < 2 ^ c := Int.pow_pos (by decide)
  constructor
  · intro h; rcases Int.lt_or_le V 0 with h1 | h1
    · exact h1
    · have := Int.mul_nonneg h1 (Int.le_of_lt hp); omega
  · intro h; exact Int.mul_neg_of_neg_of_pos h hp
theorem scaled_zero (V : Int) (c : Nat) : V * 2 ^ c = 0 ↔ V = 0 := by
  have hp : (0 : Int) < 2 ^ c := Int.pow_pos (by decide)
  constructor
  · intro h; rcases Int.mul_eq_zero.1 h with h | h
    · exact h
    · omega
  · intro h; rw [h, Int.zero_mul]

/-- A word nearest to V 2^c, V of at most 53 + t bits: off by half of 2^t at most. -/
theorem Rn.sc {g : Bool} {V : Int} {c t r : Nat} (h : Rn g (V * 2 ^ c).natAbs 1 r) (hs : V ≠ 0 → g = decide (V < 0)) (hV : V.natAbs ≤ 9007199254740992 * 2 ^ t) (hb : c + t < 2045) :
    ∃ W : Int, Sc c W r ∧ 2 * (W - V).natAbs ≤ 2 ^ t ∧ (∀ t', 4503599627370496 * 2 ^ t' ≤ V.natAbs → (2 ^ t' : Nat) ∣ W.natAbs) ∧ (∀ t', (2 ^ t' : Nat) ∣ V.natAbs → V.natAbs ≤ 9007199254740992 * 2 ^ t' → W = V) ∧ (0 ≤ V → 0 ≤ W) ∧ (V ≤ 0 → W ≤ 0) := by
  rw [abs_scaled] at h
  obtain ⟨R, hR, h1, h2, hlt⟩ := h.rung
  have p2 : (2 : Nat) ^ c * 2 ^ t = 2 ^ (c + t) := (Nat.pow_add ..).symm
  have pc := Nat.two_pow_pos c
  -- its rung is below infinity
  obtain ⟨k0, hk0⟩ := rung_some 9007199254740992 (c + t) (Nat.le_refl _)
  have hup : nearK (V.natAbs * 2 ^ c) 1 R ≤ k0 := by
    refine nearK_le hR ?_
    rw [hk0, Nat.mul_one, ← p2, Nat.mul_comm (2 ^ c), ← Nat.mul_assoc]
    exact Nat.mul_le_mul_right _ hV
  have hk0i := lt_inf (Nat.le_of_eq hk0) hb
  have hfin : nearK (V.natAbs * 2 ^ c) 1 R < infK := by omega
  rw [Nat.min_eq_left (by omega)] at h1
  have hbest : ∀ m j, m ≤ 9007199254740992 → ((rmag (nearK (V.natAbs * 2 ^ c) 1 R) : Nat) - ((V.natAbs * 2 ^ c : Nat) : Int)).natAbs ≤ ((m * 2 ^ j * 2 ^ c : Nat) - ((V.natAbs * 2 ^ c : Nat) : Int)).natAbs := by
    intro m j hm
    obtain ⟨k, hk⟩ := rung_some m (j + c) hm
    have := nearK_best hR (j := k)
    rw [Nat.mul_one, Nat.mul_one, hk, Nat.pow_add, ← Nat.mul_assoc] at this
    exact this
  have hexact : ∀ t', (2 ^ t' : Nat) ∣ V.natAbs → V.natAbs ≤ 9007199254740992 * 2 ^ t' → rmag (nearK (V.natAbs * 2 ^ c) 1 R) = V.natAbs * 2 ^ c := by
    intro t' hd hle
    have : ∃ k, rmag k = V.natAbs * 2 ^ c := by
      refine rung_dvd (i := t' + c) ?_ ?_
      · rw [Nat.pow_add]; exact Nat.mul_dvd_mul hd (Nat.dvd_refl _)
      · rw [Nat.pow_add, ← Nat.mul_assoc]; exact Nat.mul_le_mul_right _ hle
    obtain ⟨k, hk⟩ := this
    exact near_one hR hk
  have hdv : ∀ t', 4503599627370496 * 2 ^ t' ≤ V.natAbs → 2 ^ (t' + c) ∣ rmag (nearK (V.natAbs * 2 ^ c) 1 R) := by
    intro t' ht'
    refine dvd_of_ge ?_
    obtain ⟨k, hk⟩ := rung_some 4503599627370496 (t' + c) (by omega)
    have : k ≤ nearK (V.natAbs * 2 ^ c) 1 R := by
      refine le_nearK hR ?_
      rw [hk, Nat.mul_one, Nat.pow_add, ← Nat.mul_assoc]
      exact Nat.mul_le_mul_right _ ht'
    have := rmag_le this
    omega
  -- the word in the scale
  obtain ⟨u, hu⟩ : ∃ u, rmag (nearK (V.natAbs * 2 ^ c) 1 R) = u * 2 ^ c := by
    by_cases hsm : V.natAbs ≤ 9007199254740992 * 2 ^ 0
    · exact ⟨V.natAbs, hexact 0 (by simp) hsm⟩
    · have := hdv 0 (by omega)
      rw [Nat.zero_add] at this
      obtain ⟨q, hq⟩ := this
      exact ⟨q, by rw [hq, Nat.mul_comm]⟩
  rw [hu] at hexact hdv hbest
  have hexact' : ∀ t', (2 ^ t' : Nat) ∣ V.natAbs → V.natAbs ≤ 9007199254740992 * 2 ^ t' → u = V.natAbs := fun t' a b => Nat.eq_of_mul_eq_mul_right pc (hexact t' a b)
  have hdv' : ∀ t', 4503599627370496 * 2 ^ t' ≤ V.natAbs → 2 ^ t' ∣ u := by
    intro t' ht'
    have := hdv t' ht'
    rw [Nat.pow_add] at this
    exact Nat.dvd_of_mul_dvd_mul_right pc this
  have hbest' : ∀ m j, m ≤ 9007199254740992 → ((u : Int) - V.natAbs).natAbs ≤ ((m * 2 ^ j : Nat) - (V.natAbs : Int)).natAbs := by
    intro m j hm
    have := hbest m j hm
    rw [show ((u * 2 ^ c : Nat) : Int) - ((V.natAbs * 2 ^ c : Nat) : Int) = ((u : Int) - V.natAbs) * 2 ^ c by rw [Int.natCast_mul, Int.natCast_mul, Int.natCast_pow, ← Int.sub_mul]; rfl,
      show ((m * 2 ^ j * 2 ^ c : Nat) : Int) - ((V.natAbs * 2 ^ c : Nat) : Int) = (((m * 2 ^ j : Nat) : Int) - V.natAbs) * 2 ^ c by rw [Int.natCast_mul (m * 2 ^ j), Int.natCast_mul V.natAbs, Int.natCast_pow, ← Int.sub_mul]; rfl, natAbs_mul_pow, natAbs_mul_pow] at this
    exact Nat.le_of_mul_le_mul_right this pc
  have herr : 2 * ((u : Int) - V.natAbs).natAbs ≤ 2 ^ t := by
    have hdm := Nat.div_add_mod V.natAbs (2 ^ t)
    have hml := Nat.mod_lt V.natAbs (Nat.two_pow_pos t)
    have hq : V.natAbs / 2 ^ t ≤ 9007199254740992 := by
      exact Nat.div_le_of_le_mul (by rw [Nat.mul_comm]; exact hV)
    have b1 := hbest' (V.natAbs / 2 ^ t) t hq
    rw [Nat.mul_comm] at b1
    by_cases hq1 : V.natAbs / 2 ^ t = 9007199254740992
    · rw [hq1] at hdm b1
      rw [Nat.mul_comm] at hV
      omega
    · have b2 := hbest' (V.natAbs / 2 ^ t + 1) t (by omega)
      rw [Nat.add_mul, Nat.one_mul, Nat.mul_comm] at b2
      omega
  have hz : V = 0 → u = 0 := by
    intro h0
    have := hexact' 0 (Nat.one_dvd _) (by rw [h0]; exact Nat.zero_le _)
    rw [this, h0]; rfl
  refine ⟨if V < 0 then -(u : Int) else u, ⟨?_, hlt, ?_⟩, ?_, ?_, ?_, ?_, ?_⟩
  · unfold Fin; rw [h1]; exact hfin
  · unfold fval
    rw [h1, h2, hu, Int.natCast_mul, Int.natCast_pow]
    by_cases h0 : V = 0
    · have := hz h0
      rw [this, h0]; cases g <;> simp
    · rw [hs h0]
      by_cases hn : V < 0
      · simp only [hn, decide_true, if_true, Int.neg_mul]; rfl
      · simp only [hn, decide_false, Bool.false_eq_true, if_false]; rfl
  · split <;> omega
  · intro t' ht'
    have := hdv' t' ht'
    split
    · rw [Int.natAbs_neg]; exact this
    · exact this
  · intro t' a b
    have := hexact' t' a b
    split <;> omega
  · intro h; split <;> omega
  · intro h; split <;> omega

theorem sc_sub {c t : Nat} {X Y : Int} {x y : Nat} (hx : Sc c X x) (hy : Sc c Y y) (hV : (X - Y).natAbs ≤ 9007199254740992 * 2 ^ t) (hb : c + t < 2045) :
    ∃ r W, double.sub x y = some r ∧ Sc c W r ∧ 2 * (W - (X - Y)).natAbs ≤ 2 ^ t ∧ (∀ t', 4503599627370496 * 2 ^ t' ≤ (X - Y).natAbs → (2 ^ t' : Nat) ∣ W.natAbs) ∧ (∀ t', (2 ^ t' : Nat) ∣ (X - Y).natAbs → (X - Y).natAbs ≤ 9007199254740992 * 2 ^ t' → W = X - Y) := by
  obtain ⟨r, hr, g, hg, hs⟩ := sub_fin hx.1 hy.1
  rw [hx.2.2, hy.2.2, ← Int.sub_mul] at hg hs
  have hs' : X - Y ≠ 0 → g = decide (X - Y < 0) := by
    intro h
    rw [hs (fun c' => h ((scaled_zero _ _).1 c'))]
    simp only [scaled_neg]
  obtain ⟨W, h1, h2, h3, h4, _⟩ := hg.sc hs' hV hb
  exact ⟨r, W, hr, h1, h2, h3, h4⟩
/-- A difference that fits is exact. -/
theorem sc_sub_exact {c t : Nat} {X Y : Int} {x y : Nat} (hx : Sc c X x) (hy : Sc c Y y) (hd : (2 ^ t : Nat) ∣ (X - Y).natAbs) (hV : (X - Y).natAbs ≤ 9007199254740992 * 2 ^ t) (hb : c + t < 2045) :
    ∃ r, double.sub x y = some r ∧ Sc c (X - Y) r := by
  obtain ⟨r, W, h1, h2, _, _, h5⟩ := sc_sub hx hy hV hb
  rw [h5 t hd hV] at h2
  exact ⟨r, h1, h2⟩
theorem fval_signs (x : Nat) : (fneg x = true → fval x ≤ 0) ∧ (fneg x = false → 0 ≤ fval x) := by
  unfold fval; constructor <;> intro h <;> rw [h] <;> simp
theorem sc_mul {c e E t b' : Nat} {X Y : Int} {x y : Nat} (hE : E = 1074) (hce : c + e = b' + E) (hx : Sc c X x) (hy : Sc e Y y) (hV : (X * Y).natAbs ≤ 9007199254740992 * 2 ^ t) (hb : b' + t < 2045) :
    ∃ r W, double.mul x y = some r ∧ Sc b' W r ∧ 2 * (W - (X * Y)).natAbs ≤ 2 ^ t ∧ (∀ t', 4503599627370496 * 2 ^ t' ≤ (X * Y).natAbs → (2 ^ t' : Nat) ∣ W.natAbs) ∧ (∀ t', (2 ^ t' : Nat) ∣ (X * Y).natAbs → (X * Y).natAbs ≤ 9007199254740992 * 2 ^ t' → W = X * Y) ∧
      Rn (fneg x ^^ fneg y) ((X * Y) * 2 ^ b').natAbs 1 r := by
  obtain ⟨r, hr, hg⟩ := mul_fin hE hx.1 hy.1
  have ax := fval_abs x
  have ay := fval_abs y
  rw [hx.2.2, abs_scaled] at ax
  rw [hy.2.2, abs_scaled] at ay
  have hmul : rmag (frung x) * rmag (frung y) = ((X * Y) * 2 ^ b').natAbs * 2 ^ E := by
    rw [← ax, ← ay, abs_scaled, Int.natAbs_mul, Nat.mul_assoc (X.natAbs * Y.natAbs), ← Nat.pow_add, ← hce, Nat.pow_add]
    rw [Nat.mul_assoc, Nat.mul_left_comm (2 ^ c), ← Nat.mul_assoc]
  rw [hmul] at hg
  have hg' : Rn (fneg x ^^ fneg y) ((X * Y) * 2 ^ b').natAbs 1 r := by
    exact Rn.of_eq hg (Nat.two_pow_pos _) (by omega) (Nat.mul_one _)
  have hs' : X * Y ≠ 0 → (fneg x ^^ fneg y) = decide (X * Y < 0) := by
    intro h
    have sx := fval_signs x
    have sy := fval_signs y
    rw [hx.2.2] at sx
    rw [hy.2.2] at sy
    have hX : X ≠ 0 := fun h0 => h (by rw [h0, Int.zero_mul])
    have hY : Y ≠ 0 := fun h0 => h (by rw [h0, Int.mul_zero])
    have nx : fneg x = true → X < 0 := fun h1 => by
      have := sx.1 h1
      rcases Int.lt_or_le X 0 with h2 | h2
      · exact h2
      · have h3 : 0 < X * 2 ^ c := Int.mul_pos (by omega) (Int.pow_pos (by decide)); omega
    have px : fneg x = false → 0 < X := fun h1 => by
      have := sx.2 h1
      rcases Int.lt_or_le 0 X with h2 | h2
      · exact h2
      · have := (scaled_neg X c).2 (by omega); omega
    have ny : fneg y = true → Y < 0 := fun h1 => by
      have := sy.1 h1
      rcases Int.lt_or_le Y 0 with h2 | h2
      · exact h2
      · have h3 : 0 < Y * 2 ^ e := Int.mul_pos (by omega) (Int.pow_pos (by decide)); omega
    have py : fneg y = false → 0 < Y := fun h1 => by
      have := sy.2 h1
      rcases Int.lt_or_le 0 Y with h2 | h2
      · exact h2
      · have := (scaled_neg Y e).2 (by omega); omega
    cases h1 : fneg x <;> cases h2 : fneg y
    · have := Int.mul_pos (px h1) (py h2); simp; omega
    · have := Int.mul_neg_of_pos_of_neg (px h1) (ny h2); simp; omega
    · have := Int.mul_neg_of_neg_of_pos (nx h1) (py h2); simp; omega
    · have := Int.mul_pos_of_neg_of_neg (nx h1) (ny h2); simp; omega
  obtain ⟨W, h1, h2, h3, h4, _⟩ := hg'.sc hs' hV hb
  exact ⟨r, W, hr, h1, h2, h3, h4, hg'⟩
theorem sc_mul_exact {c e E t b' : Nat} {X Y : Int} {x y : Nat} (hE : E = 1074) (hce : c + e = b' + E) (hx : Sc c X x) (hy : Sc e Y y) (hd : (2 ^ t : Nat) ∣ (X * Y).natAbs) (hV : (X * Y).natAbs ≤ 9007199254740992 * 2 ^ t) (hb : b' + t < 2045) :
    ∃ r, double.mul x y = some r ∧ Sc b' (X * Y) r := by
  obtain ⟨r, W, h1, h2, _, _, h5, _⟩ := sc_mul hE hce hx hy hV hb
  rw [h5 t hd hV] at h2
  exact ⟨r, h1, h2⟩

/-- a is 0, or has all its 53 bits. -/
def Full (A : Int) : Prop := A = 0 ∨ (4503599627370496 ≤ A.natAbs ∧ A.natAbs < 9007199254740992)

theorem dvd_natAbs_sub {d : Nat} {X Y : Int} (hx : d ∣ X.natAbs) (hy : d ∣ Y.natAbs) : d ∣ (X - Y).natAbs := by
  have h1 : (d : Int) ∣ X := Int.ofNat_dvd_left.2 hx
  have h2 : (d : Int) ∣ Y := Int.ofNat_dvd_left.2 hy
  exact Int.ofNat_dvd_left.1 (Int.dvd_sub h1 h2)

/-- THE SPLITTING: 134217729 times a, less what is beside it, keeps the upper half. -/
theorem split_all {c E : Nat} {A : Int} {a s : Nat} (hE : E = 1074) (hc : c < 1900) (ha : Sc c A a) (hA : Full A) (hs : Sc E 134217729 s) :
    ∃ x y u l U, double.mul a s = some x ∧ double.sub x a = some y ∧ double.sub x y = some u ∧ double.sub a u = some l ∧ Sc c U u ∧ Sc c (A - U) l ∧
      (134217728 : Nat) ∣ U.natAbs ∧ (A - U).natAbs ≤ 67108864 ∧ U.natAbs ≤ 9007199254740992 := by
  have hAb : A.natAbs < 9007199254740992 := by rcases hA with h | h <;> omega
  -- c = a (2^27 + 1)
  obtain ⟨x, C, hx, hxC, ex, dx, fx, _⟩ := sc_mul (b' := c) (t := 28) hE rfl ha hs (by rw [Int.natAbs_mul]; show A.natAbs * 134217729 ≤ _; omega) (by omega)
  have hCd : (134217728 : Nat) ∣ C.natAbs := by
    rcases hA with h0 | h0
    · have : C = A * 134217729 := fx 0 (Nat.one_dvd _) (by rw [h0]; simp)
      rw [this, h0]; simp
    · exact dx 27 (by rw [Int.natAbs_mul]; show _ ≤ A.natAbs * 134217729; omega)
  have hC0 : 2 * (C - A * 134217729).natAbs ≤ 268435456 := ex
  have hC1 : A.natAbs = 4503599627370496 → C = A * 134217729 := by
    intro h
    refine fx 52 ?_ ?_
    · rw [Int.natAbs_mul, h]; exact ⟨134217729, rfl⟩
    · rw [Int.natAbs_mul, h]; decide
  have hC2 : A = 0 → C = 0 := by
    intro h0
    have : C = A * 134217729 := fx 0 (Nat.one_dvd _) (by rw [h0]; simp)
    rw [this, h0]; rfl
  clear ex dx fx
  -- c - a
  have hCA : (C - A).natAbs ≤ 9007199254740992 * 2 ^ 27 := by
    show _ ≤ 9007199254740992 * 134217728; omega
  obtain ⟨y, D, hy, hyD, ey, dy, fy⟩ := sc_sub (t := 27) hxC ha hCA (by omega)
  have hD0 : 2 * (D - (C - A)).natAbs ≤ 134217728 := ey
  have hDd : (134217728 : Nat) ∣ D.natAbs := by
    rcases hA with h0 | h0
    · have : D = C - A := fy 0 (Nat.one_dvd _) (by rw [hC2 h0, h0]; simp)
      rw [this, hC2 h0, h0]; simp
    · refine dy 27 ?_
      show 4503599627370496 * 134217728 ≤ _
      by_cases h1 : A.natAbs = 4503599627370496
      · have := hC1 h1; omega
      · omega
  clear ey dy fy hC1
  have hUd : (134217728 : Nat) ∣ (C - D).natAbs := dvd_natAbs_sub hCd hDd
  obtain ⟨u, hu, huU⟩ := sc_sub_exact (t := 27) hxC hyD hUd (by show _ ≤ 9007199254740992 * 134217728; omega) (by omega)
  obtain ⟨l, hl, hlL⟩ := sc_sub_exact (t := 0) ha huU (Nat.one_dvd _) (by rw [Nat.pow_zero, Nat.mul_one]; omega) (by omega)
  refine ⟨x, y, u, l, C - D, hx, hy, hu, hl, huU, hlL, hUd, by omega, ?_⟩
  obtain ⟨q, hq⟩ := hUd
  omega

set_option maxHeartbeats 2000000 in
/-- THE PRODUCT: its nearest number and what is left. -/
theorem prod_all {c e E b' : Nat} {A B : Int} {a b s : Nat} (hE : E = 1074) (hc : c < 1900) (he : e < 1900) (hce : c + e = b' + E) (hb' : b' < 1900) (ha : Sc c A a) (hb : Sc e B b) (hA : Full A) (hB : Full B) (hs : Sc E 134217729 s) :
    ∃ high H a1 a2 au al b1 b2 bu bl p1 l1 p2 l2 p3 l3 p4 low,
      double.mul a b = some high ∧ (double.mul a s = some a1 ∧ double.sub a1 a = some a2 ∧ double.sub a1 a2 = some au ∧ double.sub a au = some al) ∧
      (double.mul b s = some b1 ∧ double.sub b1 b = some b2 ∧ double.sub b1 b2 = some bu ∧ double.sub b bu = some bl) ∧
      double.mul au bu = some p1 ∧ double.sub high p1 = some l1 ∧ double.mul al bu = some p2 ∧ double.sub l1 p2 = some l2 ∧ double.mul au bl = some p3 ∧ double.sub l2 p3 = some l3 ∧
      double.mul al bl = some p4 ∧ double.sub p4 l3 = some low ∧ Sc b' H high ∧ Sc b' (A * B - H) low ∧ Rn (fneg a ^^ fneg b) ((A * B) * 2 ^ b').natAbs 1 high := by
  have hAb : A.natAbs < 9007199254740992 := by rcases hA with h | h <;> omega
  have hBb : B.natAbs < 9007199254740992 := by rcases hB with h | h <;> omega
  obtain ⟨a1, a2, au, al, U, ha1, ha2, ha3, ha4, hU, hL, hUd, hLb, hUb⟩ := split_all hE hc ha hA hs
  obtain ⟨b1, b2, bu, bl, V, hb1, hb2, hb3, hb4, hV, hM, hVd, hMb, hVb⟩ := split_all hE he hb hB hs
  have mle : ∀ {x y m n : Nat}, x ≤ m → y ≤ n → x * y ≤ m * n := fun h1 h2 => Nat.mul_le_mul h1 h2
  have hAB : (A * B).natAbs ≤ 9007199254740992 * 2 ^ 53 := by
    rw [Int.natAbs_mul]; exact mle (Nat.le_of_lt hAb) (Nat.le_of_lt hBb)
  obtain ⟨high, H, hh, hH, eh, dh, fh, hRn⟩ := sc_mul (t := 53) hE hce ha hb hAB (by omega)
  have hH0 : 2 * (H - A * B).natAbs ≤ 9007199254740992 := eh
  have hHd : (4503599627370496 : Nat) ∣ H.natAbs := by
    have hz : A * B = 0 → (4503599627370496 : Nat) ∣ H.natAbs := by
      intro h0
      have : H = A * B := fh 0 (Nat.one_dvd _) (by rw [h0]; simp)
      rw [this, h0]; simp
    rcases hA with h0 | h0
    · exact hz (by rw [h0, Int.zero_mul])
    · rcases hB with k0 | k0
      · exact hz (by rw [k0, Int.mul_zero])
      · refine dh 52 ?_
        rw [Int.natAbs_mul]; exact mle h0.1 k0.1
  clear eh dh fh
  -- the four products of halves
  have dUV : (2 ^ 54 : Nat) ∣ (U * V).natAbs := by rw [Int.natAbs_mul, show (2 ^ 54 : Nat) = 134217728 * 134217728 by decide]; exact Nat.mul_dvd_mul hUd hVd
  have dLV : (2 ^ 27 : Nat) ∣ ((A - U) * V).natAbs := by rw [Int.natAbs_mul, show (2 ^ 27 : Nat) = 134217728 by decide]; exact Nat.dvd_trans hVd (Nat.dvd_mul_left ..)
  have dUM : (2 ^ 27 : Nat) ∣ (U * (B - V)).natAbs := by rw [Int.natAbs_mul, show (2 ^ 27 : Nat) = 134217728 by decide]; exact Nat.dvd_trans hUd (Nat.dvd_mul_right ..)
  have bUV : (U * V).natAbs ≤ 9007199254740992 * 2 ^ 54 := by
    rw [Int.natAbs_mul]
    have := mle hUb hVb
    omega
  have bLV : ((A - U) * V).natAbs ≤ 67108864 * 9007199254740992 := by rw [Int.natAbs_mul]; exact mle hLb hVb
  have bUM : (U * (B - V)).natAbs ≤ 9007199254740992 * 67108864 := by rw [Int.natAbs_mul]; exact mle hUb hMb
  have bLM : ((A - U) * (B - V)).natAbs ≤ 67108864 * 67108864 := by rw [Int.natAbs_mul]; exact mle hLb hMb
  obtain ⟨p1, hp1, hP1⟩ := sc_mul_exact (t := 54) hE hce hU hV dUV bUV (by omega)
  obtain ⟨p2, hp2, hP2⟩ := sc_mul_exact (t := 27) hE hce hL hV dLV (by omega) (by omega)
  obtain ⟨p3, hp3, hP3⟩ := sc_mul_exact (t := 27) hE hce hU hM dUM (by omega) (by omega)
  obtain ⟨p4, hp4, hP4⟩ := sc_mul_exact (t := 0) hE hce hL hM (Nat.one_dvd _) (by omega) (by omega)
  -- what they make together
  have hsum : A * B = U * V + (A - U) * V + U * (B - V) + (A - U) * (B - V) := by
    rw [Int.sub_mul, Int.mul_sub, Int.mul_sub, Int.sub_mul, Int.sub_mul]; omega
  have d52 : (4503599627370496 : Nat) ∣ (U * V).natAbs := Nat.dvd_trans ⟨4, rfl⟩ dUV
  have d27 : ∀ {n : Nat}, (4503599627370496 : Nat) ∣ n → (2 ^ 27 : Nat) ∣ n := fun h => Nat.dvd_trans ⟨33554432, rfl⟩ h
  generalize A * B = P at *
  generalize U * V = P1 at *
  generalize (A - U) * V = P2 at *
  generalize U * (B - V) = P3 at *
  generalize (A - U) * (B - V) = P4 at *
  have e1 := dvd_natAbs_sub hHd d52
  obtain ⟨l1, hl1, hL1⟩ := sc_sub_exact (t := 52) hH hP1 e1 (by show _ ≤ 9007199254740992 * 4503599627370496; omega) (by omega)
  have e2 := dvd_natAbs_sub (d27 e1) dLV
  obtain ⟨l2, hl2, hL2⟩ := sc_sub_exact (t := 27) hL1 hP2 e2 (by show _ ≤ 9007199254740992 * 134217728; omega) (by omega)
  have e3 := dvd_natAbs_sub e2 dUM
  obtain ⟨l3, hl3, hL3⟩ := sc_sub_exact (t := 27) hL2 hP3 e3 (by show _ ≤ 9007199254740992 * 134217728; omega) (by omega)
  obtain ⟨low, hlow, hLow⟩ := sc_sub_exact (t := 0) hP4 hL3 (Nat.one_dvd _) (by rw [Nat.pow_zero, Nat.mul_one]; omega) (by omega)
  have hfin : P4 - (H - P1 - P2 - P3) = P - H := by omega
  rw [hfin] at hLow
  exact ⟨high, H, a1, a2, au, al, b1, b2, bu, bl, p1, l1, p2, l2, p3, l3, p4, low, hh, ⟨ha1, ha2, ha3, ha4⟩, ⟨hb1, hb2, hb3, hb4⟩, hp1, hl1, hp2, hl2, hp3, hl3, hp4, hlow, hH, hLow, hRn⟩
end Go.Proofs.Ytepdhbhpiehigaa
