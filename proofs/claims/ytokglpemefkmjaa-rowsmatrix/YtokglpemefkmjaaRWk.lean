import Derived.Test.YtokglpemefkmjaaRWs
namespace Go.Proofs.Ytokglpemefkmjaa
open Go.RowKit
set_option linter.unusedVariables false
set_option linter.unusedSimpArgs false
theorem wrap_hi (x : Int) : IntKind.i64.wrap x ≤ 9223372036854775807 := by rw [IntKind.wrap_i64]; omega
/-- A shape of n coordinates. -/
def SZ (c h k n : Int) : Prop := ∃ C H K : Nat, c = C ∧ h = H ∧ k = K ∧ 1 ≤ C ∧ 1 ≤ H ∧ 1 ≤ K ∧ C * H * K ≤ 256 ∧ n = ((C * H * K : Nat) : Int)
theorem sizeR (c h k : Int) (hc : c ≤ 9223372036854775807) (hh : h ≤ 9223372036854775807) (hk : k ≤ 9223372036854775807) : ∃ n s : Int, (∀ w, Calls Try.prog 30 #[.agg #[.int .i64 c, .int .i64 h, .int .i64 k]] w fun e w' => e = .returned (.tuple #[.int .i64 n, .int .i64 s]) ∧ Below w.heap.size w w') ∧ (s = 0 → SZ c h k n) := by
  rcases refSize_all c h k hc hh hk with ⟨C, H, K, n, rfl, rfl, rfl, h1, h2, h3, h4, h5, h6⟩ | h
  · exact ⟨n, 0, h6, fun _ => ⟨C, H, K, rfl, rfl, rfl, h1, h2, h3, by omega, by rw [h4]⟩⟩
  · exact ⟨0, 60, h, fun h => absurd h (by decide)⟩
/-- What made wants of Lists. -/
def LsM (kd g0 g1 g2 g3 g4 g5 g6 c h k : Int) (AV : Nat) (LK : Int → Int → Int → Int → Prop) : Prop :=
  ∀ w, Calls Try.prog 16 #[.agg #[.int .i64 kd, .int .i64 g0, .int .i64 g1, .int .i64 g2, .int .i64 g3, .int .i64 g4, .int .i64 g5, .int .i64 g6, .int .i64 0, .int .u64 (AV : Int), .slice none 0 0, .slice none 0 0, .slice none 0 0, .slice none 0 0], .agg #[.int .i64 c, .int .i64 h, .int .i64 k]] w fun e w' => ∃ q0 q1 q2 q3 f : Int, e = .returned (.tuple #[.agg #[.int .i64 q0, .int .i64 q1, .int .i64 q2, .int .i64 q3], .int .i64 f]) ∧ (f = 0 → LK q0 q1 q2 q3) ∧ Below w.heap.size w w'
theorem lsM_of {OK : Prop} {r0 r1 r2 r3 kd g0 g1 g2 g3 g4 g5 g6 c h k : Int} {AV : Nat} (hL : ∀ w, Calls Try.prog 16 #[.agg #[.int .i64 kd, .int .i64 g0, .int .i64 g1, .int .i64 g2, .int .i64 g3, .int .i64 g4, .int .i64 g5, .int .i64 g6, .int .i64 0, .int .u64 (AV : Int), .slice none 0 0, .slice none 0 0, .slice none 0 0, .slice none 0 0], .agg #[.int .i64 c, .int .i64 h, .int .i64 k]] w fun e w' => LsP OK r0 r1 r2 r3 e ∧ Below w.heap.size w w') : LsM kd g0 g1 g2 g3 g4 g5 g6 c h k AV (fun q0 q1 q2 q3 => OK ∧ q0 = r0 ∧ q1 = r1 ∧ q2 = r2 ∧ q3 = r3) := fun w => (hL w).mono fun e w' => by
  rintro ⟨h | h, hb⟩
  · obtain ⟨f, hf, rfl⟩ := h
    exact ⟨0, 0, 0, 0, f, rfl, fun h => absurd h hf, hb⟩
  · obtain ⟨hok, rfl⟩ := h
    exact ⟨r0, r1, r2, r3, 0, rfl, fun _ => ⟨hok, rfl, rfl, rfl, rfl⟩, hb⟩
/-- A layer that goes by windows, over a shape: o is how many channels it tells. -/
structure WK (g0 g1 g2 g3 g4 g5 g6 c h k : Int) (C H K KH KW SH SW PH PW o D1 D2 : Nat) : Prop where
  e : c = C ∧ h = H ∧ k = K ∧ g1 = KH ∧ g2 = KW ∧ g3 = SH ∧ g4 = SW ∧ g5 = PH ∧ g6 = PW
  sz : 1 ≤ C ∧ 1 ≤ H ∧ 1 ≤ K ∧ C * H * K ≤ 256
  f : 1 ≤ KH ∧ KH ≤ 16 ∧ 1 ≤ KW ∧ KW ≤ 16 ∧ 1 ≤ SH ∧ SH ≤ 16 ∧ 1 ≤ SW ∧ SW ≤ 16 ∧ PH < KH ∧ PW < KW ∧ KH ≤ H + 2 * PH ∧ KW ≤ K + 2 * PW
  d : D1 = (H + 2 * PH - KH) / SH + 1 ∧ D2 = (K + 2 * PW - KW) / SW + 1
  t : 1 ≤ o ∧ o * D1 * D2 ≤ 256
theorem le_prod3 {a b c m : Nat} (ha : 1 ≤ a) (hb : 1 ≤ b) (hc : 1 ≤ c) (h : a * b * c ≤ m) : a ≤ m ∧ b ≤ m ∧ c ≤ m := by
  have h1 : a ≤ a * b := Nat.le_mul_of_pos_right a hb
  have h2 : b ≤ a * b := Nat.le_mul_of_pos_left b ha
  have h3 : a * b ≤ a * b * c := Nat.le_mul_of_pos_right _ hc
  have h4 : c ≤ a * b * c := Nat.le_mul_of_pos_left c (Nat.mul_pos ha hb)
  omega
/-- The numbers of a layer that goes by windows. -/
theorem wk_of {g0 g1 g2 g3 g4 g5 g6 c h k n kh' kw' u1 u2 u3 u4 r1 r2 e1 e2 d1 d2 n' oc : Int} (hs : SZ c h k n) (hs' : SZ oc d1 d2 n')
    (q1 : 1 ≤ g1 ∧ g1 ≤ 16) (q2 : 1 ≤ g2 ∧ g2 ≤ 16) (q3 : 1 ≤ g3 ∧ g3 ≤ 16) (q4 : 1 ≤ g4 ∧ g4 ≤ 16) (q5 : 0 ≤ g5 ∧ g5 ≤ kh') (q6 : 0 ≤ g6 ∧ g6 ≤ kw')
    (hk1 : IntKind.i64.wrap (g1 - 1) = kh') (hk2 : IntKind.i64.wrap (g2 - 1) = kw') (w1 : IntKind.i64.wrap (2 * g5) = u1) (w2 : IntKind.i64.wrap (h + u1) = u2) (w3 : IntKind.i64.wrap (u2 - g1) = r1) (w4 : IntKind.i64.wrap (2 * g6) = u3) (w5 : IntKind.i64.wrap (k + u3) = u4) (w6 : IntKind.i64.wrap (u4 - g2) = r2)
    (hr1 : 0 ≤ r1) (hr2 : 0 ≤ r2) (w7 : IntKind.i64.wrap (r1.tdiv g3) = e1) (w8 : IntKind.i64.wrap (r2.tdiv g4) = e2) (w9 : IntKind.i64.wrap (e1 + 1) = d1) (w10 : IntKind.i64.wrap (e2 + 1) = d2) :
    ∃ C H K KH KW SH SW PH PW o D1 D2 : Nat, WK g0 g1 g2 g3 g4 g5 g6 c h k C H K KH KW SH SW PH PW o D1 D2 ∧ oc = o := by
  obtain ⟨C, H, K, rfl, rfl, rfl, c1, h1, k1, hch, _⟩ := hs
  obtain ⟨hC, hH, hK⟩ := le_prod3 c1 h1 k1 hch
  have hkh : kh' = g1 - 1 := by rw [← hk1, IntKind.wrap_i64]; omega
  have hkw : kw' = g2 - 1 := by rw [← hk2, IntKind.wrap_i64]; omega
  obtain ⟨KH, rfl⟩ : ∃ n : Nat, g1 = n := ⟨g1.toNat, by omega⟩
  obtain ⟨KW, rfl⟩ : ∃ n : Nat, g2 = n := ⟨g2.toNat, by omega⟩
  obtain ⟨SH, rfl⟩ : ∃ n : Nat, g3 = n := ⟨g3.toNat, by omega⟩
  obtain ⟨SW, rfl⟩ : ∃ n : Nat, g4 = n := ⟨g4.toNat, by omega⟩
  obtain ⟨PH, rfl⟩ : ∃ n : Nat, g5 = n := ⟨g5.toNat, by omega⟩
  obtain ⟨PW, rfl⟩ : ∃ n : Nat, g6 = n := ⟨g6.toNat, by omega⟩
  have hu1 : u1 = 2 * PH := by rw [← w1, IntKind.wrap_i64]; omega
  have hu2 : u2 = H + 2 * PH := by rw [← w2, hu1, IntKind.wrap_i64]; omega
  have hr1' : r1 = H + 2 * PH - KH := by rw [← w3, hu2, IntKind.wrap_i64]; omega
  have hu3 : u3 = 2 * PW := by rw [← w4, IntKind.wrap_i64]; omega
  have hu4 : u4 = K + 2 * PW := by rw [← w5, hu3, IntKind.wrap_i64]; omega
  have hr2' : r2 = K + 2 * PW - KW := by rw [← w6, hu4, IntKind.wrap_i64]; omega
  have t1 : r1.tdiv (SH : Int) = (((H + 2 * PH - KH) / SH : Nat) : Int) := by
    rw [hr1', show (H : Int) + 2 * PH - KH = ((H + 2 * PH - KH : Nat) : Int) by omega]; exact tdivN _ _
  have t2 : r2.tdiv (SW : Int) = (((K + 2 * PW - KW) / SW : Nat) : Int) := by
    rw [hr2', show (K : Int) + 2 * PW - KW = ((K + 2 * PW - KW : Nat) : Int) by omega]; exact tdivN _ _
  have b1 : (H + 2 * PH - KH) / SH ≤ 300 := Nat.le_trans (Nat.div_le_self _ _) (by omega)
  have b2 : (K + 2 * PW - KW) / SW ≤ 300 := Nat.le_trans (Nat.div_le_self _ _) (by omega)
  obtain ⟨x1, hx1⟩ : ∃ x, (H + 2 * PH - KH) / SH = x := ⟨_, rfl⟩
  obtain ⟨x2, hx2⟩ : ∃ x, (K + 2 * PW - KW) / SW = x := ⟨_, rfl⟩
  rw [hx1] at t1 b1
  rw [hx2] at t2 b2
  have he1 : e1 = x1 := by rw [← w7, t1, IntKind.wrap_i64]; omega
  have he2 : e2 = x2 := by rw [← w8, t2, IntKind.wrap_i64]; omega
  have hd1 : d1 = ((x1 + 1 : Nat) : Int) := by rw [← w9, he1, IntKind.wrap_i64]; omega
  have hd2 : d2 = ((x2 + 1 : Nat) : Int) := by rw [← w10, he2, IntKind.wrap_i64]; omega
  obtain ⟨o, D1, D2, rfl, hD1, hD2, o1, _, _, hto, _⟩ := hs'
  have e1' : D1 = x1 + 1 := by rw [hd1] at hD1; exact (Int.ofNat.inj hD1).symm
  have e2' : D2 = x2 + 1 := by rw [hd2] at hD2; exact (Int.ofNat.inj hD2).symm
  exact ⟨C, H, K, KH, KW, SH, SW, PH, PW, o, D1, D2, ⟨⟨rfl, rfl, rfl, rfl, rfl, rfl, rfl, rfl, rfl⟩, ⟨c1, h1, k1, hch⟩, by omega, ⟨by rw [hx1]; exact e1', by rw [hx2]; exact e2'⟩, o1, hto⟩, rfl⟩
/-- Lists of kind 2. -/
def LW2 (g0 g1 g2 g3 g4 g5 g6 c h k : Int) (q0 q1 q2 q3 : Int) : Prop := ∃ C H K KH KW SH SW PH PW o D1 D2 : Nat, WK g0 g1 g2 g3 g4 g5 g6 c h k C H K KH KW SH SW PH PW o D1 D2 ∧ g0 = o ∧ o ≤ 256 ∧ q0 = ((o * C * KH * KW : Nat) : Int) ∧ q1 = o ∧ q2 = 0 ∧ q3 = 0
theorem lsW2 (g0 g1 g2 g3 g4 g5 g6 c h k : Int) (hc : c ≤ 9223372036854775807) (hh : h ≤ 9223372036854775807) (hk : k ≤ 9223372036854775807) (hg : g0 ≤ 9223372036854775807) : LsM 2 g0 g1 g2 g3 g4 g5 g6 c h k 0 (LW2 g0 g1 g2 g3 g4 g5 g6 c h k) := by
  obtain ⟨kh', hk1⟩ : ∃ x, IntKind.i64.wrap (g1 - 1) = x := ⟨_, rfl⟩
  obtain ⟨kw', hk2⟩ : ∃ x, IntKind.i64.wrap (g2 - 1) = x := ⟨_, rfl⟩
  obtain ⟨u1, w1⟩ : ∃ x, IntKind.i64.wrap (2 * g5) = x := ⟨_, rfl⟩
  obtain ⟨u2, w2⟩ : ∃ x, IntKind.i64.wrap (h + u1) = x := ⟨_, rfl⟩
  obtain ⟨r1, w3⟩ : ∃ x, IntKind.i64.wrap (u2 - g1) = x := ⟨_, rfl⟩
  obtain ⟨u3, w4⟩ : ∃ x, IntKind.i64.wrap (2 * g6) = x := ⟨_, rfl⟩
  obtain ⟨u4, w5⟩ : ∃ x, IntKind.i64.wrap (k + u3) = x := ⟨_, rfl⟩
  obtain ⟨r2, w6⟩ : ∃ x, IntKind.i64.wrap (u4 - g2) = x := ⟨_, rfl⟩
  obtain ⟨e1, w7⟩ : ∃ x, IntKind.i64.wrap (r1.tdiv g3) = x := ⟨_, rfl⟩
  obtain ⟨e2, w8⟩ : ∃ x, IntKind.i64.wrap (r2.tdiv g4) = x := ⟨_, rfl⟩
  obtain ⟨d1, w9⟩ : ∃ x, IntKind.i64.wrap (e1 + 1) = x := ⟨_, rfl⟩
  obtain ⟨d2, w10⟩ : ∃ x, IntKind.i64.wrap (e2 + 1) = x := ⟨_, rfl⟩
  obtain ⟨p1, hp1⟩ : ∃ x, IntKind.i64.wrap (g0 * c) = x := ⟨_, rfl⟩
  obtain ⟨p2, hp2⟩ : ∃ x, IntKind.i64.wrap (p1 * g1) = x := ⟨_, rfl⟩
  obtain ⟨p, hp⟩ : ∃ x, IntKind.i64.wrap (p2 * g2) = x := ⟨_, rfl⟩
  obtain ⟨n, s, hS, hs⟩ := sizeR c h k hc hh hk
  obtain ⟨n', s', hT, hs'⟩ := sizeR g0 d1 d2 hg (w9 ▸ wrap_hi _) (w10 ▸ wrap_hi _)
  obtain ⟨QF, hQF⟩ : ∃ QF : Nat → Prop, QF = (fun j => if j = 0 then (1 ≤ g0 ∧ g0 ≤ 256) else if j = 1 then (1 ≤ g1 ∧ g1 ≤ 16) else if j = 2 then (1 ≤ g2 ∧ g2 ≤ 16) else if j = 3 then (1 ≤ g3 ∧ g3 ≤ 16) else if j = 4 then (1 ≤ g4 ∧ g4 ≤ 16) else if j = 5 then (0 ≤ g5 ∧ g5 ≤ kh') else if j = 6 then (0 ≤ g6 ∧ g6 ≤ kw') else if j = 7 then (0 ≤ (0 : Int) ∧ (0 : Int) ≤ 0) else True) := ⟨_, rfl⟩
  have q : ∀ j, j < 8 → (QF j ↔ (fun j => if j = 0 then (1 ≤ g0 ∧ g0 ≤ 256) else if j = 1 then (1 ≤ g1 ∧ g1 ≤ 16) else if j = 2 then (1 ≤ g2 ∧ g2 ≤ 16) else if j = 3 then (1 ≤ g3 ∧ g3 ≤ 16) else if j = 4 then (1 ≤ g4 ∧ g4 ≤ 16) else if j = 5 then (0 ≤ g5 ∧ g5 ≤ kh') else if j = 6 then (0 ≤ g6 ∧ g6 ≤ kw') else if j = 7 then (0 ≤ (0 : Int) ∧ (0 : Int) ≤ 0) else True) j) := fun j _ => by rw [hQF]
  obtain ⟨OKW, hOKW⟩ : ∃ P : Prop, P = (∃ C H K KH KW SH SW PH PW o D1 D2 : Nat, WK g0 g1 g2 g3 g4 g5 g6 c h k C H K KH KW SH SW PH PW o D1 D2 ∧ g0 = o ∧ o ≤ 256) := ⟨_, rfl⟩
  have hF : ∀ w, Calls Try.prog 43 #[.agg #[.int .i64 2, .int .i64 g0, .int .i64 g1, .int .i64 g2, .int .i64 g3, .int .i64 g4, .int .i64 g5, .int .i64 g6, .int .i64 0, .int .u64 0, .slice none 0 0, .slice none 0 0, .slice none 0 0, .slice none 0 0]] w fun e w' => ∃ f : Int, e = .returned (.int .i64 f) ∧ (f = 0 → ∀ j, j < 8 → QF j) ∧ Below w.heap.size w w' := fun w =>
    refFields_any 2 g0 g1 g2 g3 g4 g5 g6 0 1 1 1 1 1 0 0 0 256 16 16 16 16 kh' kw' 0 _ _ _ _ _ QF (by subst hQF; exact ⟨by simp, by simp, by simp, by simp, by simp, by simp, by simp, by simp⟩) (by decide) (fun w => boundsW2 g0 g1 g2 g3 g4 g5 g6 0 kh' kw' hk1 hk2 _ _ _ _ _ w) (fun w => slopeZ_any 2 _ _ _ _ _ _ _ _ (by decide) (by decide) _ _ _ _ w) w
  have qd : (∀ j, j < 8 → QF j) → (1 ≤ g0 ∧ g0 ≤ 256) ∧ (1 ≤ g1 ∧ g1 ≤ 16) ∧ (1 ≤ g2 ∧ g2 ≤ 16) ∧ (1 ≤ g3 ∧ g3 ≤ 16) ∧ (1 ≤ g4 ∧ g4 ≤ 16) ∧ (0 ≤ g5 ∧ g5 ≤ kh') ∧ (0 ≤ g6 ∧ g6 ≤ kw') := fun hq => by
    subst hQF
    exact ⟨by simpa using hq 0 (by decide), by simpa using hq 1 (by decide), by simpa using hq 2 (by decide), by simpa using hq 3 (by decide), by simpa using hq 4 (by decide), by simpa using hq 5 (by decide), by simpa using hq 6 (by decide)⟩
  have hOut := fun w => outW2_any g0 g1 g2 g3 g4 g5 g6 0 c h k n s n' s' u1 u2 u3 u4 r1 r2 e1 e2 d1 d2 _ _ _ _ _ (∀ j, j < 8 → QF j) OKW (fun _ _ => ⟨w1, w2, w3, w4, w5, w6⟩) (fun hq _ _ => ⟨by have := (qd hq).2.2.2.1; omega, by have := (qd hq).2.2.2.2.1; omega, w7, w8, w9, w10⟩) (fun hq h1 h2 h3 h4 => by
    obtain ⟨q0, q1, q2, q3, q4, q5, q6⟩ := qd hq
    obtain ⟨C, H, K, KH, KW, SH, SW, PH, PW, o, D1, D2, hw, ho⟩ := wk_of (g0 := g0) (hs h1) (hs' h4) q1 q2 q3 q4 q5 q6 hk1 hk2 w1 w2 w3 w4 w5 w6 h2 h3 w7 w8 w9 w10
    rw [hOKW]
    exact ⟨C, H, K, KH, KW, SH, SW, PH, PW, o, D1, D2, hw, ho, by omega⟩) hF hS hT w
  have hL := fun w => listsC_any g0 g1 g2 g3 g4 g5 g6 0 c h k n s p1 p2 p _ _ _ _ _ OKW hp1 hp2 hp hOut hS w
  refine fun w => (lsM_of hL w).mono fun e w' => ?_
  rintro ⟨q0, q1, q2, q3, f, rfl, hq, hb⟩
  refine ⟨q0, q1, q2, q3, f, rfl, fun hf => ?_, hb⟩
  obtain ⟨hok, hq0, hq1, hq2, hq3⟩ := hq hf
  rw [hOKW] at hok
  obtain ⟨C, H, K, KH, KW, SH, SW, PH, PW, o, D1, D2, hw, ho⟩ := hok
  have e1 := hw.e
  have z1 := hw.sz
  have f1 := hw.f
  obtain ⟨hC, hH, hK⟩ := le_prod3 z1.1 z1.2.1 z1.2.2.1 z1.2.2.2
  have m1 : o * C ≤ 256 * 256 := Nat.mul_le_mul ho.2 hC
  have m2 : o * C * KH ≤ 256 * 256 * 16 := Nat.mul_le_mul m1 f1.2.1
  have m3 : o * C * KH * KW ≤ 256 * 256 * 16 * 16 := Nat.mul_le_mul m2 f1.2.2.2.1
  have hp1' : p1 = ((o * C : Nat) : Int) := by rw [← hp1, ho.1, e1.1, ← Int.natCast_mul, IntKind.wrap_i64]; generalize o * C = x at m1 ⊢; omega
  have hp2' : p2 = ((o * C * KH : Nat) : Int) := by rw [← hp2, hp1', e1.2.2.2.1, ← Int.natCast_mul, IntKind.wrap_i64]; generalize o * C * KH = x at m2 ⊢; omega
  have hp' : p = ((o * C * KH * KW : Nat) : Int) := by rw [← hp, hp2', e1.2.2.2.2.1, ← Int.natCast_mul, IntKind.wrap_i64]; generalize o * C * KH * KW = x at m3 ⊢; omega
  exact ⟨C, H, K, KH, KW, SH, SW, PH, PW, o, D1, D2, hw, ho.1, ho.2, hq0.trans hp', hq1.trans ho.1, hq2, hq3⟩
/-- Lists of kind 4. -/
def LW4 (g0 g1 g2 g3 g4 g5 g6 c h k : Int) (q0 q1 q2 q3 : Int) : Prop := ∃ C H K KH KW SH SW PH PW o D1 D2 : Nat, WK g0 g1 g2 g3 g4 g5 g6 c h k C H K KH KW SH SW PH PW o D1 D2 ∧ g0 = 0 ∧ o = C ∧ q0 = 0 ∧ q1 = 0 ∧ q2 = 0 ∧ q3 = 0
theorem lsW4 (g0 g1 g2 g3 g4 g5 g6 c h k : Int) (hc : c ≤ 9223372036854775807) (hh : h ≤ 9223372036854775807) (hk : k ≤ 9223372036854775807) (AV : Nat) (hA : AV < 18446744073709551616) (hF : Fin AV) : LsM 4 g0 g1 g2 g3 g4 g5 g6 c h k AV (LW4 g0 g1 g2 g3 g4 g5 g6 c h k) := by
  obtain ⟨kh', hk1⟩ : ∃ x, IntKind.i64.wrap (g1 - 1) = x := ⟨_, rfl⟩
  obtain ⟨kw', hk2⟩ : ∃ x, IntKind.i64.wrap (g2 - 1) = x := ⟨_, rfl⟩
  obtain ⟨u1, w1⟩ : ∃ x, IntKind.i64.wrap (2 * g5) = x := ⟨_, rfl⟩
  obtain ⟨u2, w2⟩ : ∃ x, IntKind.i64.wrap (h + u1) = x := ⟨_, rfl⟩
  obtain ⟨r1, w3⟩ : ∃ x, IntKind.i64.wrap (u2 - g1) = x := ⟨_, rfl⟩
  obtain ⟨u3, w4⟩ : ∃ x, IntKind.i64.wrap (2 * g6) = x := ⟨_, rfl⟩
  obtain ⟨u4, w5⟩ : ∃ x, IntKind.i64.wrap (k + u3) = x := ⟨_, rfl⟩
  obtain ⟨r2, w6⟩ : ∃ x, IntKind.i64.wrap (u4 - g2) = x := ⟨_, rfl⟩
  obtain ⟨e1, w7⟩ : ∃ x, IntKind.i64.wrap (r1.tdiv g3) = x := ⟨_, rfl⟩
  obtain ⟨e2, w8⟩ : ∃ x, IntKind.i64.wrap (r2.tdiv g4) = x := ⟨_, rfl⟩
  obtain ⟨d1, w9⟩ : ∃ x, IntKind.i64.wrap (e1 + 1) = x := ⟨_, rfl⟩
  obtain ⟨d2, w10⟩ : ∃ x, IntKind.i64.wrap (e2 + 1) = x := ⟨_, rfl⟩
  obtain ⟨n, s, hS, hs⟩ := sizeR c h k hc hh hk
  obtain ⟨n', s', hT, hs'⟩ := sizeR c d1 d2 hc (w9 ▸ wrap_hi _) (w10 ▸ wrap_hi _)
  obtain ⟨QF, hQF⟩ : ∃ QF : Nat → Prop, QF = (fun j => if j = 0 then (0 ≤ g0 ∧ g0 ≤ 0) else if j = 1 then (1 ≤ g1 ∧ g1 ≤ 16) else if j = 2 then (1 ≤ g2 ∧ g2 ≤ 16) else if j = 3 then (1 ≤ g3 ∧ g3 ≤ 16) else if j = 4 then (1 ≤ g4 ∧ g4 ≤ 16) else if j = 5 then (0 ≤ g5 ∧ g5 ≤ kh') else if j = 6 then (0 ≤ g6 ∧ g6 ≤ kw') else if j = 7 then (0 ≤ (0 : Int) ∧ (0 : Int) ≤ 0) else True) := ⟨_, rfl⟩
  have q : ∀ j, j < 8 → (QF j ↔ (fun j => if j = 0 then (0 ≤ g0 ∧ g0 ≤ 0) else if j = 1 then (1 ≤ g1 ∧ g1 ≤ 16) else if j = 2 then (1 ≤ g2 ∧ g2 ≤ 16) else if j = 3 then (1 ≤ g3 ∧ g3 ≤ 16) else if j = 4 then (1 ≤ g4 ∧ g4 ≤ 16) else if j = 5 then (0 ≤ g5 ∧ g5 ≤ kh') else if j = 6 then (0 ≤ g6 ∧ g6 ≤ kw') else if j = 7 then (0 ≤ (0 : Int) ∧ (0 : Int) ≤ 0) else True) j) := fun j _ => by rw [hQF]
  obtain ⟨OKW, hOKW⟩ : ∃ P : Prop, P = (∃ C H K KH KW SH SW PH PW o D1 D2 : Nat, WK g0 g1 g2 g3 g4 g5 g6 c h k C H K KH KW SH SW PH PW o D1 D2 ∧ g0 = 0 ∧ o = C) := ⟨_, rfl⟩
  have hF : ∀ w, Calls Try.prog 43 #[.agg #[.int .i64 4, .int .i64 g0, .int .i64 g1, .int .i64 g2, .int .i64 g3, .int .i64 g4, .int .i64 g5, .int .i64 g6, .int .i64 0, .int .u64 (AV : Int), .slice none 0 0, .slice none 0 0, .slice none 0 0, .slice none 0 0]] w fun e w' => ∃ f : Int, e = .returned (.int .i64 f) ∧ (f = 0 → ∀ j, j < 8 → QF j) ∧ Below w.heap.size w w' := fun w =>
    refFields_any 4 g0 g1 g2 g3 g4 g5 g6 0 0 1 1 1 1 0 0 0 0 16 16 16 16 kh' kw' 0 _ _ _ _ _ QF (by subst hQF; exact ⟨by simp, by simp, by simp, by simp, by simp, by simp, by simp, by simp⟩) (by decide) (fun w => boundsW4 g0 g1 g2 g3 g4 g5 g6 0 kh' kw' hk1 hk2 _ _ _ _ _ w) (fun w => slope4_any AV hA hF _ _ _ _ _ _ _ _ _ _ _ _ w) w
  have qd : (∀ j, j < 8 → QF j) → (0 ≤ g0 ∧ g0 ≤ 0) ∧ (1 ≤ g1 ∧ g1 ≤ 16) ∧ (1 ≤ g2 ∧ g2 ≤ 16) ∧ (1 ≤ g3 ∧ g3 ≤ 16) ∧ (1 ≤ g4 ∧ g4 ≤ 16) ∧ (0 ≤ g5 ∧ g5 ≤ kh') ∧ (0 ≤ g6 ∧ g6 ≤ kw') := fun hq => by
    subst hQF
    exact ⟨by simpa using hq 0 (by decide), by simpa using hq 1 (by decide), by simpa using hq 2 (by decide), by simpa using hq 3 (by decide), by simpa using hq 4 (by decide), by simpa using hq 5 (by decide), by simpa using hq 6 (by decide)⟩
  have hOut := fun w => outW4_any g0 g1 g2 g3 g4 g5 g6 0 c h k n s n' s' u1 u2 u3 u4 r1 r2 e1 e2 d1 d2 _ _ _ _ _ (∀ j, j < 8 → QF j) OKW (fun _ _ => ⟨w1, w2, w3, w4, w5, w6⟩) (fun hq _ _ => ⟨by have := (qd hq).2.2.2.1; omega, by have := (qd hq).2.2.2.2.1; omega, w7, w8, w9, w10⟩) (fun hq h1 h2 h3 h4 => by
    obtain ⟨q0, q1, q2, q3, q4, q5, q6⟩ := qd hq
    obtain ⟨C, H, K, KH, KW, SH, SW, PH, PW, o, D1, D2, hw, ho⟩ := wk_of (g0 := g0) (hs h1) (hs' h4) q1 q2 q3 q4 q5 q6 hk1 hk2 w1 w2 w3 w4 w5 w6 h2 h3 w7 w8 w9 w10
    rw [hOKW]
    exact ⟨C, H, K, KH, KW, SH, SW, PH, PW, o, D1, D2, hw, by omega, by have := hw.e.1; omega⟩) hF hS hT w
  have hL := fun w => listsO_any 4 g0 g1 g2 g3 g4 g5 g6 0 c h k n s _ _ _ _ _ OKW (by decide) (by decide) (by decide) (by decide) hOut hS w
  refine fun w => (lsM_of hL w).mono fun e w' => ?_
  rintro ⟨q0, q1, q2, q3, f, rfl, hq, hb⟩
  refine ⟨q0, q1, q2, q3, f, rfl, fun hf => ?_, hb⟩
  obtain ⟨hok, hq0, hq1, hq2, hq3⟩ := hq hf
  rw [hOKW] at hok
  obtain ⟨C, H, K, KH, KW, SH, SW, PH, PW, o, D1, D2, hw, ho⟩ := hok
  exact ⟨C, H, K, KH, KW, SH, SW, PH, PW, o, D1, D2, hw, ho.1, ho.2, hq0, hq1, hq2, hq3⟩
/-- Lists of kind 12. -/
def LW12 (g0 g1 g2 g3 g4 g5 g6 c h k : Int) (q0 q1 q2 q3 : Int) : Prop := ∃ C H K KH KW SH SW PH PW o D1 D2 : Nat, WK g0 g1 g2 g3 g4 g5 g6 c h k C H K KH KW SH SW PH PW o D1 D2 ∧ g0 = 0 ∧ o = C ∧ q0 = 0 ∧ q1 = 0 ∧ q2 = 0 ∧ q3 = 0
theorem lsW12 (g0 g1 g2 g3 g4 g5 g6 c h k : Int) (hc : c ≤ 9223372036854775807) (hh : h ≤ 9223372036854775807) (hk : k ≤ 9223372036854775807) : LsM 12 g0 g1 g2 g3 g4 g5 g6 c h k 0 (LW12 g0 g1 g2 g3 g4 g5 g6 c h k) := by
  obtain ⟨kh', hk1⟩ : ∃ x, IntKind.i64.wrap (g1 - 1) = x := ⟨_, rfl⟩
  obtain ⟨kw', hk2⟩ : ∃ x, IntKind.i64.wrap (g2 - 1) = x := ⟨_, rfl⟩
  obtain ⟨u1, w1⟩ : ∃ x, IntKind.i64.wrap (2 * g5) = x := ⟨_, rfl⟩
  obtain ⟨u2, w2⟩ : ∃ x, IntKind.i64.wrap (h + u1) = x := ⟨_, rfl⟩
  obtain ⟨r1, w3⟩ : ∃ x, IntKind.i64.wrap (u2 - g1) = x := ⟨_, rfl⟩
  obtain ⟨u3, w4⟩ : ∃ x, IntKind.i64.wrap (2 * g6) = x := ⟨_, rfl⟩
  obtain ⟨u4, w5⟩ : ∃ x, IntKind.i64.wrap (k + u3) = x := ⟨_, rfl⟩
  obtain ⟨r2, w6⟩ : ∃ x, IntKind.i64.wrap (u4 - g2) = x := ⟨_, rfl⟩
  obtain ⟨e1, w7⟩ : ∃ x, IntKind.i64.wrap (r1.tdiv g3) = x := ⟨_, rfl⟩
  obtain ⟨e2, w8⟩ : ∃ x, IntKind.i64.wrap (r2.tdiv g4) = x := ⟨_, rfl⟩
  obtain ⟨d1, w9⟩ : ∃ x, IntKind.i64.wrap (e1 + 1) = x := ⟨_, rfl⟩
  obtain ⟨d2, w10⟩ : ∃ x, IntKind.i64.wrap (e2 + 1) = x := ⟨_, rfl⟩
  obtain ⟨n, s, hS, hs⟩ := sizeR c h k hc hh hk
  obtain ⟨n', s', hT, hs'⟩ := sizeR c d1 d2 hc (w9 ▸ wrap_hi _) (w10 ▸ wrap_hi _)
  obtain ⟨QF, hQF⟩ : ∃ QF : Nat → Prop, QF = (fun j => if j = 0 then (0 ≤ g0 ∧ g0 ≤ 0) else if j = 1 then (1 ≤ g1 ∧ g1 ≤ 16) else if j = 2 then (1 ≤ g2 ∧ g2 ≤ 16) else if j = 3 then (1 ≤ g3 ∧ g3 ≤ 16) else if j = 4 then (1 ≤ g4 ∧ g4 ≤ 16) else if j = 5 then (0 ≤ g5 ∧ g5 ≤ kh') else if j = 6 then (0 ≤ g6 ∧ g6 ≤ kw') else if j = 7 then (0 ≤ (0 : Int) ∧ (0 : Int) ≤ 0) else True) := ⟨_, rfl⟩
  have q : ∀ j, j < 8 → (QF j ↔ (fun j => if j = 0 then (0 ≤ g0 ∧ g0 ≤ 0) else if j = 1 then (1 ≤ g1 ∧ g1 ≤ 16) else if j = 2 then (1 ≤ g2 ∧ g2 ≤ 16) else if j = 3 then (1 ≤ g3 ∧ g3 ≤ 16) else if j = 4 then (1 ≤ g4 ∧ g4 ≤ 16) else if j = 5 then (0 ≤ g5 ∧ g5 ≤ kh') else if j = 6 then (0 ≤ g6 ∧ g6 ≤ kw') else if j = 7 then (0 ≤ (0 : Int) ∧ (0 : Int) ≤ 0) else True) j) := fun j _ => by rw [hQF]
  obtain ⟨OKW, hOKW⟩ : ∃ P : Prop, P = (∃ C H K KH KW SH SW PH PW o D1 D2 : Nat, WK g0 g1 g2 g3 g4 g5 g6 c h k C H K KH KW SH SW PH PW o D1 D2 ∧ g0 = 0 ∧ o = C) := ⟨_, rfl⟩
  have hF : ∀ w, Calls Try.prog 43 #[.agg #[.int .i64 12, .int .i64 g0, .int .i64 g1, .int .i64 g2, .int .i64 g3, .int .i64 g4, .int .i64 g5, .int .i64 g6, .int .i64 0, .int .u64 0, .slice none 0 0, .slice none 0 0, .slice none 0 0, .slice none 0 0]] w fun e w' => ∃ f : Int, e = .returned (.int .i64 f) ∧ (f = 0 → ∀ j, j < 8 → QF j) ∧ Below w.heap.size w w' := fun w =>
    refFields_any 12 g0 g1 g2 g3 g4 g5 g6 0 0 1 1 1 1 0 0 0 0 16 16 16 16 kh' kw' 0 _ _ _ _ _ QF (by subst hQF; exact ⟨by simp, by simp, by simp, by simp, by simp, by simp, by simp, by simp⟩) (by decide) (fun w => boundsW12 g0 g1 g2 g3 g4 g5 g6 0 kh' kw' hk1 hk2 _ _ _ _ _ w) (fun w => slopeZ_any 12 _ _ _ _ _ _ _ _ (by decide) (by decide) _ _ _ _ w) w
  have qd : (∀ j, j < 8 → QF j) → (0 ≤ g0 ∧ g0 ≤ 0) ∧ (1 ≤ g1 ∧ g1 ≤ 16) ∧ (1 ≤ g2 ∧ g2 ≤ 16) ∧ (1 ≤ g3 ∧ g3 ≤ 16) ∧ (1 ≤ g4 ∧ g4 ≤ 16) ∧ (0 ≤ g5 ∧ g5 ≤ kh') ∧ (0 ≤ g6 ∧ g6 ≤ kw') := fun hq => by
    subst hQF
    exact ⟨by simpa using hq 0 (by decide), by simpa using hq 1 (by decide), by simpa using hq 2 (by decide), by simpa using hq 3 (by decide), by simpa using hq 4 (by decide), by simpa using hq 5 (by decide), by simpa using hq 6 (by decide)⟩
  have hOut := fun w => outW12_any g0 g1 g2 g3 g4 g5 g6 0 c h k n s n' s' u1 u2 u3 u4 r1 r2 e1 e2 d1 d2 _ _ _ _ _ (∀ j, j < 8 → QF j) OKW (fun _ _ => ⟨w1, w2, w3, w4, w5, w6⟩) (fun hq _ _ => ⟨by have := (qd hq).2.2.2.1; omega, by have := (qd hq).2.2.2.2.1; omega, w7, w8, w9, w10⟩) (fun hq h1 h2 h3 h4 => by
    obtain ⟨q0, q1, q2, q3, q4, q5, q6⟩ := qd hq
    obtain ⟨C, H, K, KH, KW, SH, SW, PH, PW, o, D1, D2, hw, ho⟩ := wk_of (g0 := g0) (hs h1) (hs' h4) q1 q2 q3 q4 q5 q6 hk1 hk2 w1 w2 w3 w4 w5 w6 h2 h3 w7 w8 w9 w10
    rw [hOKW]
    exact ⟨C, H, K, KH, KW, SH, SW, PH, PW, o, D1, D2, hw, by omega, by have := hw.e.1; omega⟩) hF hS hT w
  have hL := fun w => listsO_any 12 g0 g1 g2 g3 g4 g5 g6 0 c h k n s _ _ _ _ _ OKW (by decide) (by decide) (by decide) (by decide) hOut hS w
  refine fun w => (lsM_of hL w).mono fun e w' => ?_
  rintro ⟨q0, q1, q2, q3, f, rfl, hq, hb⟩
  refine ⟨q0, q1, q2, q3, f, rfl, fun hf => ?_, hb⟩
  obtain ⟨hok, hq0, hq1, hq2, hq3⟩ := hq hf
  rw [hOKW] at hok
  obtain ⟨C, H, K, KH, KW, SH, SW, PH, PW, o, D1, D2, hw, ho⟩ := hok
  exact ⟨C, H, K, KH, KW, SH, SW, PH, PW, o, D1, D2, hw, ho.1, ho.2, hq0, hq1, hq2, hq3⟩
end Go.Proofs.Ytokglpemefkmjaa
