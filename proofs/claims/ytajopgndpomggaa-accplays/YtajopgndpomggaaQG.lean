import Derived.Test.YtajopgndpomggaaQt
namespace Go.Proofs.Ytajopgndpomggaa
set_option linter.unusedVariables false

theorem wv_top2 {f : Nat → Nat} {K M : Nat} (hl : ∀ j, j < 76 → f j < 18446744073709551616) (hM : M = 4736) (hK : K = 2 ^ M) : wv f 76 = (f 75 * 18446744073709551616 + f 74) * K + wv f 74 ∧ wv f 74 < K := by
  constructor
  · rw [wv_succ f 75, wv_succ f 74, show 64 * 75 = 64 + M by omega, show 64 * 74 = M by omega, Nat.pow_add, ← hK, show (2 : Nat) ^ 64 = 18446744073709551616 by decide, Nat.add_mul, ← Nat.mul_assoc]
    omega
  · have h := wv_lt (f := f) (n := 74) (fun j hj => hl j (by omega))
    rw [show 64 * 74 = M by omega, ← hK] at h
    exact h
/-- The powers at which both stand, by one. -/
theorem pows_K {K M : Nat} (hM : M = 4736) (hK : K = 2 ^ M) : 2 ^ 4799 = 9223372036854775808 * K ∧ 2 ^ 4800 = 18446744073709551616 * K ∧ 2 ^ 4862 = 85070591730234615865843651857942052864 * K ∧ 2 ^ 4863 = 170141183460469231731687303715884105728 * K ∧ 0 < K := by
  have e : ∀ a b c : Nat, a = b + M → 2 ^ b = c → 2 ^ a = c * K := fun a b c h1 h2 => by rw [h1, Nat.pow_add, h2, hK]
  exact ⟨e 4799 63 _ (by omega) (by decide), e 4800 64 _ (by omega) (by decide), e 4862 126 _ (by omega) (by decide), e 4863 127 _ (by omega) (by decide), by rw [hK]; exact Nat.two_pow_pos _⟩
theorem mul_lt_of {a b K c : Nat} (h : a * K < b * K + c) (hc : c ≤ K) : a < b + 1 := by
  rcases Nat.lt_or_ge a (b + 1) with h1 | h1
  · exact h1
  · exfalso
    have := Nat.mul_le_mul_right K h1
    rw [Nat.add_mul, Nat.one_mul] at this
    omega
/-- The first words of both, where both are raised. -/
theorem firsts {v w : Nat → Nat} {V W K M : Nat} (hM : M = 4736) (hK : K = 2 ^ M) (hv : ∀ j, j < 76 → v j < 18446744073709551616) (hw : ∀ j, j < 76 → w j < 18446744073709551616) (eV : wv v 76 = V) (eW : wv w 76 = W)
    (V1 : 2 ^ 4862 ≤ V) (V2 : V < 2 ^ (4862 + 1)) (W1 : 2 ^ 4799 ≤ W) (W2 : W < 2 ^ (4799 + 1)) :
    (0 < v 75 ∧ v 75 < w 74 ∧ 9223372036854775808 ≤ w 74) ∧ V = (v 75 * 18446744073709551616 + v 74) * K + wv v 74 ∧ wv v 74 < K ∧ W = w 74 * K + wv w 74 ∧ wv w 74 < K := by
  obtain ⟨p1, p2, p3, p4, p0⟩ := pows_K hM hK
  rw [show 4862 + 1 = 4863 by omega] at V2
  rw [show 4799 + 1 = 4800 by omega] at W2
  rw [p1] at W1
  rw [p2] at W2
  rw [p3] at V1
  rw [p4] at V2
  obtain ⟨a1, a2⟩ := wv_top2 hv hM hK
  obtain ⟨b1, b2⟩ := wv_top2 hw hM hK
  rw [eV] at a1
  rw [eW] at b1
  have v75 := hv 75 (by omega)
  have v74 := hv 74 (by omega)
  have w75 := hw 75 (by omega)
  have w74 := hw 74 (by omega)
  clear p1 p2 p3 p4 hK hv hw eV eW
  generalize wv v 74 = vl at *
  generalize wv w 74 = wl at *
  have t1 : 85070591730234615865843651857942052864 < v 75 * 18446744073709551616 + v 74 + 1 := mul_lt_of (K := K) (c := vl + 1) (by rw [a1] at V1; omega) (by omega)
  have t2 : v 75 * 18446744073709551616 + v 74 < 170141183460469231731687303715884105728 := Nat.lt_of_mul_lt_mul_right (a := K) (by rw [a1] at V2; exact Nat.lt_of_le_of_lt (Nat.le_add_right _ _) V2)
  have s1 : 9223372036854775808 < w 75 * 18446744073709551616 + w 74 + 1 := mul_lt_of (K := K) (c := wl + 1) (by rw [b1] at W1; omega) (by omega)
  have s2 : w 75 * 18446744073709551616 + w 74 < 18446744073709551616 := Nat.lt_of_mul_lt_mul_right (a := K) (by rw [b1] at W2; exact Nat.lt_of_le_of_lt (Nat.le_add_right _ _) W2)
  have z75 : w 75 = 0 := by omega
  rw [z75, Nat.zero_mul, Nat.zero_add] at b1 s1
  exact ⟨⟨by omega, by omega, by omega⟩, a1, a2, b1, b2⟩
theorem quot_lt {q y t : Nat} (h : q * y ≤ t) (hy : 0 < y) (ht : t < y * 18446744073709551616) : q < 18446744073709551616 := by
  rcases Nat.lt_or_ge q 18446744073709551616 with h1 | h1
  · exact h1
  · exfalso
    have := Nat.mul_le_mul_right y h1
    rw [Nat.mul_comm y] at ht
    omega
/-- What the quotient is in the end. -/
theorem quot_frt {V W q bv bw E : Nat} {more : Bool} (hE : E = 1074) (hW : 0 < W) (h1 : q * (W * 2 ^ bw) ≤ V * 2 ^ bv) (h2 : V * 2 ^ bv < (q + 1) * (W * 2 ^ bw)) (hm : more = true ↔ V * 2 ^ bv ≠ q * (W * 2 ^ bw)) (hq : q < 18446744073709551616) (hb : 9007199254740992 ≤ q) : Frt (V * 2 ^ bv * 2 ^ E) (W * 2 ^ bv) q ((bw : Int) - (bv : Int)) more := by
  have e : W * 2 ^ (bw + E) = W * 2 ^ bw * 2 ^ E := by rw [Nat.pow_add, Nat.mul_assoc]
  refine ⟨hb, hq, W * 2 ^ (bw + E), bv, bw + E, Nat.mul_pos hW (Nat.two_pow_pos _), ?_, by omega, ?_, ?_, ?_⟩
  · rw [Nat.mul_assoc, Nat.mul_assoc, ← Nat.pow_add, ← Nat.pow_add, Nat.add_comm bv]
  · rw [e, ← Nat.mul_assoc]
    exact Nat.mul_le_mul_right _ h1
  · rw [e, ← Nat.mul_assoc]
    exact Nat.mul_lt_mul_of_pos_right h2 (Nat.two_pow_pos _)
  · rw [hm, e, ← Nat.mul_assoc q (W * 2 ^ bw)]
    constructor
    · intro h c; exact h (Nat.eq_of_mul_eq_mul_right (Nat.two_pow_pos _) c)
    · intro h c; exact h (by rw [c])
/-- It has more than 53 bits. -/
theorem quot_big {V W q K M : Nat} (hM : M = 4736) (hK : K = 2 ^ M) (V1 : 2 ^ 4862 ≤ V) (W2 : W < 2 ^ (4799 + 1)) (h2 : V < (q + 1) * W) : 9007199254740992 ≤ q := by
  obtain ⟨p1, p2, p3, p4, p0⟩ := pows_K hM hK
  rw [show 4799 + 1 = 4800 by omega, p2] at W2
  rw [p3] at V1
  clear p1 p2 p3 p4 hK
  rcases Nat.lt_or_ge q 9007199254740992 with h | h
  · exfalso
    have h3 : (q + 1) * W ≤ 9007199254740992 * W := Nat.mul_le_mul_right _ h
    have h4 : 9007199254740992 * W ≤ 9007199254740992 * (18446744073709551616 * K) := Nat.mul_le_mul_left _ (by omega)
    omega
  · exact h
end Go.Proofs.Ytajopgndpomggaa
