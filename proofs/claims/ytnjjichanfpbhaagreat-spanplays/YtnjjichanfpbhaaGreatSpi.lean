import Derived.Test.YtnjjichanfpbhaaGreatPur
namespace Go.Proofs.YtnjjichanfpbhaaGreat
set_option linter.unusedVariables false

theorem down_up {X Y : Int} {D : Nat} {p q : Nat × Bool} (hD : 0 < D) (h1 : RndZ 2 X D p) (h2 : RndZ 1 Y D q) (hle : X ≤ Y) (hp : p.2 = true) (hq : q.2 = true) : srung p.1 ≤ srung q.1 := by
  obtain ⟨f, hf⟩ := Sf.some X hD
  obtain ⟨g, hg⟩ := Sf.some Y hD
  have hfg : f ≤ g := (floor_le hD hg f).1 (Int.le_trans hf.1 hle)
  rcases rz_down h1 hf with ⟨_, _, a⟩ | ⟨a, _⟩
  · rcases rz_up h2 hg with ⟨_, c, b⟩ | ⟨b, _⟩
    · rw [a, b]
      have : g ≤ ceilK Y D g := by unfold ceilK; split <;> omega
      omega
    · rw [b] at hq; cases hq
  · rw [a] at hp; cases hp
/-- r' lies in r, both good. -/
def InB (r' r : Nat × Nat × Bool) : Prop := Good r'.1 r'.2.1 r'.2.2 ∧ Good r.1 r.2.1 r.2.2 ∧ srung r.1 ≤ srung r'.1 ∧ srung r'.2.1 ≤ srung r.2.1 ∧ (r'.1 < 18446744073709551616 ∧ r'.2.1 < 18446744073709551616) ∧ r.1 < 18446744073709551616 ∧ r.2.1 < 18446744073709551616
theorem SpR.told {X Y : Int} {D : Nat} {r : Nat × Nat × Bool} (h : SpR X Y D r) (hb : r.2.2 = false) : RndZ 2 X D (r.1, true) ∧ RndZ 1 Y D (r.2.1, true) := by
  obtain ⟨p, q, h1, h2, rfl⟩ := h
  unfold spOf at hb ⊢
  split at hb
  · rename_i c
    rw [if_pos c]
    obtain ⟨a, b⟩ := p
    obtain ⟨a', b'⟩ := q
    obtain ⟨rfl, rfl⟩ := c
    exact ⟨h1, h2⟩
  · cases hb
theorem SpR.good {X Y : Int} {D : Nat} {r : Nat × Nat × Bool} (hD : 0 < D) (h : SpR X Y D r) (hXY : X ≤ Y) (hb : r.2.2 = false) : Good r.1 r.2.1 r.2.2 := by
  have t := h.told hb
  exact ⟨hb, (rz_canon t.1).1, (rz_canon t.2).1, down_up (p := (r.1, true)) (q := (r.2.1, true)) hD t.1 t.2 hXY rfl rfl⟩
theorem SpR.inside {X Y X' Y' : Int} {D : Nat} {r r' : Nat × Nat × Bool} (hD : 0 < D) (h : SpR X Y D r) (h' : SpR X' Y' D r') (h1 : X ≤ X') (h2 : X' ≤ Y') (h3 : Y' ≤ Y) (hb : r.2.2 = false) : InB r' r := by
  have t := h.told hb
  obtain ⟨p, q, k1, k2, rfl⟩ := h'
  have hp := down_told hD t.1 k1 h1 rfl
  have hq := up_told hD k2 t.2 h3 rfl
  have e : spOf p q = (p.1, q.1, false) := by unfold spOf; rw [if_pos ⟨hp, hq⟩]
  have h0 : SpR X' Y' D (spOf p q) := ⟨p, q, k1, k2, rfl⟩
  have g := h0.good hD h2 (by rw [e])
  refine ⟨g, h.good hD (by omega) hb, ?_, ?_, h0.lt, h.lt⟩
  · rw [e]; exact rz_rises (p := (r.1, true)) (q := p) hD t.1 k1 rfl hp h1
  · rw [e]; exact rz_rises (p := q) (q := (r.2.1, true)) hD k2 t.2 hq rfl h3
theorem RndZ.of_ratio {d V V' : Int} {D D' : Nat} {p : Nat × Bool} (h : RndZ d V D p) (hD' : 0 < D') (he : V * (D' : Int) = V' * (D : Int)) : RndZ d V' D' p := by
  have hD := (let ⟨_, hR, _⟩ := h; hR.pos)
  have h1 := h.rescale D' hD'
  rw [he, Nat.mul_comm] at h1
  obtain ⟨R, hR, hp⟩ := h1
  have e1 : (V' * (D : Int)).natAbs = V'.natAbs * D := by rw [Int.natAbs_mul, Int.natAbs_natCast]
  have e2 : decide (V' * (D : Int) < 0) = decide (V' < 0) := by
    have hc' : (0 : Int) < D := by omega
    congr 1; apply propext
    constructor
    · intro h; rcases Int.lt_or_le V' 0 with g | g
      · exact g
      · have := Int.mul_nonneg g (Int.le_of_lt hc'); omega
    · intro h; exact Int.mul_neg_of_neg_of_pos h hc'
  rw [e1] at hR hp
  rw [e2] at hp
  exact ⟨R, hR.unscale D, by rw [hp]; exact tellK_scale _ _ _ _ _ _ hD⟩
theorem mul_between {P Q R S x y : Int} (h1 : P ≤ x) (h2 : x ≤ Q) (h3 : R ≤ y) (h4 : y ≤ S) : min4 (P * R) (P * S) (Q * R) (Q * S) ≤ x * y ∧ x * y ≤ max4 (P * R) (P * S) (Q * R) (Q * S) := by
  have lin : ∀ {c u v z : Int}, u ≤ z → z ≤ v → min (c * u) (c * v) ≤ c * z ∧ c * z ≤ max (c * u) (c * v) := by
    intro c u v z k1 k2
    rcases Int.le_total 0 c with hc | hc
    · have a := Int.mul_le_mul_of_nonneg_left k1 hc
      have b := Int.mul_le_mul_of_nonneg_left k2 hc
      omega
    · have a := Int.mul_le_mul_of_nonpos_left hc k1
      have b := Int.mul_le_mul_of_nonpos_left hc k2
      omega
  have a1 := lin (c := P) h3 h4
  have a2 := lin (c := Q) h3 h4
  have a3 := lin (c := y) h1 h2
  rw [Int.mul_comm y P, Int.mul_comm y Q, Int.mul_comm y x] at a3
  unfold min4 max4
  omega
theorem mul_inside {P Q R S p q r s : Int} (h1 : P ≤ p) (h2 : p ≤ q) (h3 : q ≤ Q) (h4 : R ≤ r) (h5 : r ≤ s) (h6 : s ≤ S) :
    min4 (P * R) (P * S) (Q * R) (Q * S) ≤ min4 (p * r) (p * s) (q * r) (q * s) ∧ min4 (p * r) (p * s) (q * r) (q * s) ≤ max4 (p * r) (p * s) (q * r) (q * s) ∧ max4 (p * r) (p * s) (q * r) (q * s) ≤ max4 (P * R) (P * S) (Q * R) (Q * S) := by
  have a1 := mul_between (x := p) (y := r) h1 (show p ≤ Q by omega) h4 (show r ≤ S by omega)
  have a2 := mul_between (x := p) (y := s) h1 (show p ≤ Q by omega) (show R ≤ s by omega) h6
  have a3 := mul_between (x := q) (y := r) (show P ≤ q by omega) h3 h4 (show r ≤ S by omega)
  have a4 := mul_between (x := q) (y := s) (show P ≤ q by omega) h3 (show R ≤ s by omega) h6
  generalize min4 (P * R) (P * S) (Q * R) (Q * S) = m at *
  generalize max4 (P * R) (P * S) (Q * R) (Q * S) = M at *
  unfold min4 max4
  omega
theorem sq_inside {P Q p q : Int} (h1 : P ≤ p) (h2 : p ≤ q) (h3 : q ≤ Q) :
    max (max P (-Q)) 0 * max (max P (-Q)) 0 ≤ max (max p (-q)) 0 * max (max p (-q)) 0 ∧ max (max p (-q)) 0 * max (max p (-q)) 0 ≤ max (-p) q * max (-p) q ∧ max (-p) q * max (-p) q ≤ max (-P) Q * max (-P) Q := by
  have sq : ∀ {u v : Int}, 0 ≤ u → u ≤ v → u * u ≤ v * v := fun hu huv => Int.mul_le_mul huv huv hu (by omega)
  exact ⟨sq (by omega) (by omega), sq (by omega) (by omega), sq (by omega) (by omega)⟩
/-- x / y against the corners' quotients (with the denominator R S). -/
theorem share_between {P Q R S x y : Int} (h1 : P ≤ x) (h2 : x ≤ Q) (h3 : R ≤ y) (h4 : y ≤ S) (h0 : 0 < R * S) :
    (0 < y → min4 (P * S) (P * R) (Q * S) (Q * R) * y ≤ x * (R * S) ∧ x * (R * S) ≤ max4 (P * S) (P * R) (Q * S) (Q * R) * y) ∧ (y < 0 → min4 (P * S) (P * R) (Q * S) (Q * R) * (-y) ≤ -x * (R * S) ∧ -x * (R * S) ≤ max4 (P * S) (P * R) (Q * S) (Q * R) * (-y)) ∧ y ≠ 0 := by
  have hsg : (0 < R ∧ 0 < S) ∨ (R < 0 ∧ S < 0) := by
    rcases Int.lt_trichotomy R 0 with c | c | c
    · rcases Int.lt_or_le S 0 with e | e
      · exact .inr ⟨c, e⟩
      · have := Int.mul_nonpos_of_nonpos_of_nonneg (Int.le_of_lt c) e; omega
    · rw [c, Int.zero_mul] at h0; omega
    · rcases Int.lt_or_le 0 S with e | e
      · exact .inl ⟨c, e⟩
      · have := Int.mul_nonpos_of_nonneg_of_nonpos (Int.le_of_lt c) e; omega
  generalize hm : min4 (P * S) (P * R) (Q * S) (Q * R) = m
  generalize hM : max4 (P * S) (P * R) (Q * S) (Q * R) = M
  have m1 : m ≤ P * S ∧ m ≤ P * R ∧ m ≤ Q * S ∧ m ≤ Q * R := by rw [← hm]; unfold min4; omega
  have m2 : P * S ≤ M ∧ P * R ≤ M ∧ Q * S ≤ M ∧ Q * R ≤ M := by rw [← hM]; unfold max4; omega
  clear hm hM
  refine ⟨fun hy => ?_, fun hy => ?_, by omega⟩
  · have hRS : 0 < R ∧ 0 < S := by omega
    -- P R S and Q R S against m y, M y
    have low : ∀ c : Int, m ≤ c * S → m ≤ c * R → m * y ≤ c * (R * S) := by
      intro c k1 k2
      rcases Int.le_total 0 c with hc | hc
      · have e1 : c * R * y ≤ c * R * S := Int.mul_le_mul_of_nonneg_left h4 (Int.mul_nonneg hc (by omega))
        have e2 := Int.mul_le_mul_of_nonneg_right k2 (Int.le_of_lt hy)
        rw [Int.mul_assoc] at e1 e2
        rw [Int.mul_assoc] at e1
        omega
      · have e1 : c * S * y ≤ c * S * R := Int.mul_le_mul_of_nonpos_left (Int.mul_nonpos_of_nonpos_of_nonneg hc (by omega)) h3
        have e2 := Int.mul_le_mul_of_nonneg_right k1 (Int.le_of_lt hy)
        rw [Int.mul_assoc c S R, Int.mul_comm S R] at e1
        omega
    have high : ∀ c : Int, c * S ≤ M → c * R ≤ M → c * (R * S) ≤ M * y := by
      intro c k1 k2
      rcases Int.le_total 0 c with hc | hc
      · have e1 : c * S * R ≤ c * S * y := Int.mul_le_mul_of_nonneg_left h3 (Int.mul_nonneg hc (by omega))
        have e2 := Int.mul_le_mul_of_nonneg_right k1 (Int.le_of_lt hy)
        rw [Int.mul_assoc c S R, Int.mul_comm S R] at e1
        omega
      · have e1 : c * R * S ≤ c * R * y := Int.mul_le_mul_of_nonpos_left (Int.mul_nonpos_of_nonpos_of_nonneg hc (by omega)) h4
        have e2 := Int.mul_le_mul_of_nonneg_right k2 (Int.le_of_lt hy)
        rw [Int.mul_assoc c R S] at e1
        omega
    have a := low P m1.1 m1.2.1
    have b := high Q m2.2.2.1 m2.2.2.2
    have c := Int.mul_le_mul_of_nonneg_right h1 (Int.le_of_lt h0)
    have d := Int.mul_le_mul_of_nonneg_right h2 (Int.le_of_lt h0)
    omega
  · have hRS : R < 0 ∧ S < 0 := by omega
    have low : ∀ c : Int, m ≤ c * S → m ≤ c * R → m * (-y) ≤ -c * (R * S) := by
      intro c k1 k2
      rcases Int.le_total 0 c with hc | hc
      · have e1 : c * R * (-y) ≤ c * R * (-S) := Int.mul_le_mul_of_nonpos_left (Int.mul_nonpos_of_nonneg_of_nonpos hc (Int.le_of_lt hRS.1)) (show -S ≤ -y by omega)
        have e2 := Int.mul_le_mul_of_nonneg_right k2 (show 0 ≤ -y by omega)
        have e3 : c * R * (-S) = -c * (R * S) := by rw [Int.mul_neg, Int.neg_mul, Int.mul_assoc]
        omega
      · have e1 : c * S * (-y) ≤ c * S * (-R) := Int.mul_le_mul_of_nonneg_left (show -y ≤ -R by omega) (Int.mul_nonneg_of_nonpos_of_nonpos hc (Int.le_of_lt hRS.2))
        have e2 := Int.mul_le_mul_of_nonneg_right k1 (show 0 ≤ -y by omega)
        have e3 : c * S * (-R) = -c * (R * S) := by rw [Int.mul_neg, Int.neg_mul, Int.mul_assoc, Int.mul_comm S R]
        omega
    have high : ∀ c : Int, c * S ≤ M → c * R ≤ M → -c * (R * S) ≤ M * (-y) := by
      intro c k1 k2
      rcases Int.le_total 0 c with hc | hc
      · have e1 : c * S * (-R) ≤ c * S * (-y) := Int.mul_le_mul_of_nonpos_left (Int.mul_nonpos_of_nonneg_of_nonpos hc (Int.le_of_lt hRS.2)) (show -y ≤ -R by omega)
        have e2 := Int.mul_le_mul_of_nonneg_right k1 (show 0 ≤ -y by omega)
        have e3 : c * S * (-R) = -c * (R * S) := by rw [Int.mul_neg, Int.neg_mul, Int.mul_assoc, Int.mul_comm S R]
        omega
      · have e1 : c * R * (-S) ≤ c * R * (-y) := Int.mul_le_mul_of_nonneg_left (show -S ≤ -y by omega) (Int.mul_nonneg_of_nonpos_of_nonpos hc (Int.le_of_lt hRS.1))
        have e2 := Int.mul_le_mul_of_nonneg_right k2 (show 0 ≤ -y by omega)
        have e3 : c * R * (-S) = -c * (R * S) := by rw [Int.mul_neg, Int.neg_mul, Int.mul_assoc]
        omega
    have a := low Q m1.2.2.1 m1.2.2.2
    have b := high P m2.1 m2.2.1
    have c := Int.mul_le_mul_of_nonneg_right (show -Q ≤ -x by omega) (Int.le_of_lt h0)
    have d := Int.mul_le_mul_of_nonneg_right (show -x ≤ -P by omega) (Int.le_of_lt h0)
    omega
theorem share_corner {P Q R S x y y2 : Int} (h1 : P ≤ x) (h2 : x ≤ Q) (h3 : R ≤ y) (h4 : y ≤ S) (h5 : R ≤ y2) (h6 : y2 ≤ S) (h0 : 0 < R * S) :
    min4 (P * S) (P * R) (Q * S) (Q * R) * (y * y2) ≤ x * y2 * (R * S) ∧ x * y2 * (R * S) ≤ max4 (P * S) (P * R) (Q * S) (Q * R) * (y * y2) := by
  have a := share_between h1 h2 h3 h4 h0
  have b := share_between h1 h2 h5 h6 h0
  generalize min4 (P * S) (P * R) (Q * S) (Q * R) = m at *
  generalize max4 (P * S) (P * R) (Q * S) (Q * R) = M at *
  have hsg : (0 < R ∧ 0 < S) ∨ (R < 0 ∧ S < 0) := by
    rcases Int.lt_trichotomy R 0 with c | c | c
    · rcases Int.lt_or_le S 0 with e | e
      · exact .inr ⟨c, e⟩
      · have := Int.mul_nonpos_of_nonpos_of_nonneg (Int.le_of_lt c) e; omega
    · rw [c, Int.zero_mul] at h0; omega
    · rcases Int.lt_or_le 0 S with e | e
      · exact .inl ⟨c, e⟩
      · have := Int.mul_nonpos_of_nonneg_of_nonpos (Int.le_of_lt c) e; omega
  have e1 : x * y2 * (R * S) = x * (R * S) * y2 := Int.mul_right_comm _ _ _
  rw [e1, ← Int.mul_assoc m y y2, ← Int.mul_assoc M y y2]
  rcases hsg with ⟨k1, k2⟩ | ⟨k1, k2⟩
  · have u := a.1 (by omega)
    exact ⟨Int.mul_le_mul_of_nonneg_right u.1 (by omega), Int.mul_le_mul_of_nonneg_right u.2 (by omega)⟩
  · have u := a.2.1 (by omega)
    have v1 := Int.mul_le_mul_of_nonneg_right u.1 (show 0 ≤ -y2 by omega)
    have v2 := Int.mul_le_mul_of_nonneg_right u.2 (show 0 ≤ -y2 by omega)
    have f1 : m * -y * -y2 = m * y * y2 := by rw [Int.mul_neg, Int.mul_neg, Int.neg_mul, Int.neg_neg]
    have f2 : M * -y * -y2 = M * y * y2 := by rw [Int.mul_neg, Int.mul_neg, Int.neg_mul, Int.neg_neg]
    have f3 : -x * (R * S) * -y2 = x * (R * S) * y2 := by rw [Int.mul_neg, Int.neg_mul, Int.neg_mul, Int.neg_neg]
    rw [f1, f3] at v1
    rw [f2, f3] at v2
    exact ⟨v1, v2⟩
theorem min4_mul (a b c d k : Int) (hk : 0 ≤ k) : min4 (a * k) (b * k) (c * k) (d * k) = min4 a b c d * k := by
  have m2 : ∀ u v : Int, min (u * k) (v * k) = min u v * k := by
    intro u v
    rcases Int.le_total u v with h | h
    · rw [Int.min_eq_left h, Int.min_eq_left (Int.mul_le_mul_of_nonneg_right h hk)]
    · rw [Int.min_eq_right h, Int.min_eq_right (Int.mul_le_mul_of_nonneg_right h hk)]
  unfold min4; rw [m2, m2, m2]
theorem max4_mul (a b c d k : Int) (hk : 0 ≤ k) : max4 (a * k) (b * k) (c * k) (d * k) = max4 a b c d * k := by
  have m2 : ∀ u v : Int, max (u * k) (v * k) = max u v * k := by
    intro u v
    rcases Int.le_total u v with h | h
    · rw [Int.max_eq_right h, Int.max_eq_right (Int.mul_le_mul_of_nonneg_right h hk)]
    · rw [Int.max_eq_left h, Int.max_eq_left (Int.mul_le_mul_of_nonneg_right h hk)]
  unfold max4; rw [m2, m2, m2]
theorem share_inside {P Q R S p q r s : Int} (h1 : P ≤ p) (h2 : p ≤ q) (h3 : q ≤ Q) (h4 : R ≤ r) (h5 : r ≤ s) (h6 : s ≤ S) (h0 : 0 < R * S) :
    min4 (P * S) (P * R) (Q * S) (Q * R) * (r * s) ≤ min4 (p * s) (p * r) (q * s) (q * r) * (R * S) ∧ max4 (p * s) (p * r) (q * s) (q * r) * (R * S) ≤ max4 (P * S) (P * R) (Q * S) (Q * R) * (r * s) := by
  have a1 := share_corner (x := p) (y := r) (y2 := s) h1 (show p ≤ Q by omega) h4 (show r ≤ S by omega) (show R ≤ s by omega) h6 h0
  have a2 := share_corner (x := p) (y := s) (y2 := r) h1 (show p ≤ Q by omega) (show R ≤ s by omega) h6 h4 (show r ≤ S by omega) h0
  have a3 := share_corner (x := q) (y := r) (y2 := s) (show P ≤ q by omega) h3 h4 (show r ≤ S by omega) (show R ≤ s by omega) h6 h0
  have a4 := share_corner (x := q) (y := s) (y2 := r) (show P ≤ q by omega) h3 (show R ≤ s by omega) h6 h4 (show r ≤ S by omega) h0
  rw [Int.mul_comm s r] at a2 a4
  rw [← min4_mul _ _ _ _ _ (Int.le_of_lt h0), ← max4_mul _ _ _ _ _ (Int.le_of_lt h0)]
  generalize min4 (P * S) (P * R) (Q * S) (Q * R) * (r * s) = m at *
  generalize max4 (P * S) (P * R) (Q * S) (Q * R) * (r * s) = M at *
  unfold min4 max4
  omega
theorem min4_le_max4 (a b c d : Int) : min4 a b c d ≤ max4 a b c d := by unfold min4 max4; omega
theorem scale_rndZ {d c : Int} {a : Nat} {p : Nat × Bool} (h : Rnd d (fneg a) (rmag (frung a) * 2 ^ c.toNat) (2 ^ (-c).toNat) p) : RndZ d (fval a * ((2 ^ c.toNat : Nat) : Int)) (2 ^ (-c).toNat) p := by
  have hk : (0 : Int) < ((2 ^ c.toNat : Nat) : Int) := by have := Nat.two_pow_pos c.toNat; omega
  have hz : (fval a * ((2 ^ c.toNat : Nat) : Int)).natAbs = rmag (frung a) * 2 ^ c.toNat := by rw [Int.natAbs_mul, fval_abs, Int.natAbs_natCast]
  rw [← hz] at h
  refine h.toZ (fun hne => ?_)
  have s1 := fval_signs a
  cases hh : fneg a
  · have := Int.mul_nonneg (s1.2 hh) (Int.le_of_lt hk); exact (decide_eq_false (by omega)).symm
  · have := Int.mul_nonpos_of_nonpos_of_nonneg (s1.1 hh) (Int.le_of_lt hk); exact (decide_eq_true (by omega)).symm
end Go.Proofs.YtnjjichanfpbhaaGreat
