import Derived.Test.YtbncdcenckagcaaGreatMY
import Derived.Test.YtbncdcenckagcaaGreatZP
namespace Go.Proofs.YtbncdcenckagcaaGreat
open Go.RowKit
set_option linter.unusedVariables false

/-- A term's least and greatest product. -/
def tmD (d : Int) (a lo hi : Nat) : Int := if d = 2 then min (fval a * fval lo) (fval a * fval hi) else max (fval a * fval lo) (fval a * fval hi)
def sumT (f : Nat → Int) : Nat → Int
  | 0 => 0
  | k + 1 => sumT f k + f k
def dsum (d : Int) (U : Nat → Nat) (F : Nat → Nat × Nat × Bool) (k : Nat) : Int := sumT (fun j => tmD d (U j) (F j).1 (F j).2.1) k
def ltz (a : Nat) : Bool := FloatKind.f64.format.order a 0 == some .lt
/-- The end of the span that is taken. -/
def pickD (d : Int) (neg : Bool) (s : Nat × Nat × Bool) : Nat := if neg then (if d = 2 then s.2.1 else s.1) else (if d = 2 then s.1 else s.2.1)
def accD (d : Int) (U : Nat → Nat) (F : Nat → Nat × Nat × Bool) : Nat → Option Int
  | 0 => some 0
  | k + 1 => prodO (accD d U F k) (U k) (pickD d (ltz (U k)) (F k)) 0
theorem fvalD_lt {u E : Nat} (hu : Fin u) (hE : E = 2098) : (fval u).natAbs < 2 ^ E := by
  obtain ⟨F, hF⟩ : ∃ F : Nat, F = 2046 := ⟨_, rfl⟩
  have h1 := rmag_lt hu
  rw [rmag_inf hF] at h1
  have h2 : (fval u).natAbs = rmag (frung u) := by unfold fval; split <;> omega
  have h3 : (2 : Nat) ^ E = 4503599627370496 * 2 ^ F := by
    rw [show (4503599627370496 : Nat) = 2 ^ 52 by decide, ← Nat.pow_add, show 52 + F = E by omega]
  rw [h2, h3]; exact h1
theorem ltz_fin {a : Nat} (ha : Fin a) : ltz a = decide (fval a < 0) := by
  have h0 : srung 0 = 0 := by decide
  have hz : fval 0 = 0 := by decide
  unfold ltz
  have := ord_lt (x := a) (y := 0) (Nat.le_of_lt ha) (by decide)
  rw [show FloatKind.f64.format = Ieee.double from rfl, this]
  have h := srung_lt a 0
  rw [hz] at h
  simp only [h]
theorem mul_dist_neg {a x y : Int} (ha : a < 0) (h : x ≤ y) : a * y ≤ a * x := Int.mul_le_mul_of_nonpos_left (Int.le_of_lt ha) h
theorem pick_val {d : Int} {a : Nat} {s : Nat × Nat × Bool} (ha : Fin a) (hg : Good s.1 s.2.1 s.2.2) : fval a * fval (pickD d (ltz a) s) = tmD d a s.1 s.2.1 := by
  have hle := (srung_le s.1 s.2.1).1 hg.2.2.2
  rw [ltz_fin ha]
  unfold pickD tmD
  by_cases hn : fval a < 0
  · rw [decide_eq_true hn]
    have := mul_dist_neg hn hle
    simp only [if_true]
    split <;> omega
  · rw [decide_eq_false hn]
    have := Int.mul_le_mul_of_nonneg_left hle (by omega : 0 ≤ fval a)
    simp only [Bool.false_eq_true, if_false]
    split <;> omega
theorem pick_fin {d : Int} {b : Bool} {s : Nat × Nat × Bool} (hg : Good s.1 s.2.1 s.2.2) : Fin (pickD d b s) := by
  unfold pickD
  split <;> split <;> first | exact hg.2.1 | exact hg.2.2.1
theorem pick_lt {d : Int} {b : Bool} {s : Nat × Nat × Bool} (h1 : s.1 < 18446744073709551616) (h2 : s.2.1 < 18446744073709551616) : pickD d b s < 18446744073709551616 := by
  unfold pickD
  split <;> split <;> assumption
theorem tm_lt {d : Int} {a : Nat} {s : Nat × Nat × Bool} (ha : Fin a) (hg : Good s.1 s.2.1 s.2.2) {M : Nat} (hM : M = 4196) : (tmD d a s.1 s.2.1).natAbs ≤ 2 ^ M := by
  rw [← pick_val ha hg, Int.natAbs_mul]
  obtain ⟨E, hE⟩ : ∃ E : Nat, E = 2098 := ⟨_, rfl⟩
  have h1 := fvalD_lt ha hE
  have h2 := fvalD_lt (pick_fin (d := d) (b := ltz a) hg) hE
  have h3 : (2 : Nat) ^ M = 2 ^ E * 2 ^ E := by rw [← Nat.pow_add, show E + E = M by omega]
  rw [h3]
  exact Nat.mul_le_mul (Nat.le_of_lt h1) (Nat.le_of_lt h2)
theorem dsum_lt {d : Int} {U : Nat → Nat} {F : Nat → Nat × Nat × Bool} {M : Nat} (hM : M = 4196) : ∀ (k : Nat), (∀ j, j < k → Fin (U j) ∧ Good (F j).1 (F j).2.1 (F j).2.2) → (dsum d U F k).natAbs ≤ k * 2 ^ M
  | 0, _ => by simp [dsum, sumT]
  | k + 1, h => by
    have ih := dsum_lt (d := d) hM k (fun j hj => h j (by omega))
    have h1 := tm_lt (d := d) (h k (by omega)).1 (h k (by omega)).2 hM
    unfold dsum at ih ⊢
    rw [sumT, Nat.add_mul, Nat.one_mul]
    generalize 2 ^ M = X at *
    omega
theorem pow92 : ((2 ^ ((0 : Int) + 92).toNat : Nat) : Int) = ((2 ^ 92 : Nat) : Int) := by rw [show ((0 : Int) + 92).toNat = 92 by decide]
theorem accD_some {d : Int} {U : Nat → Nat} {F : Nat → Nat × Nat × Bool} : ∀ (k : Nat), k ≤ 9223372036854775807 → (∀ j, j < k → Fin (U j) ∧ Good (F j).1 (F j).2.1 (F j).2.2) → accD d U F k = some (dsum d U F k * ((2 ^ 92 : Nat) : Int))
  | 0, _, _ => by simp [accD, dsum, sumT]
  | k + 1, hk, h => by
    have ih := accD_some (d := d) k (by omega) (fun j hj => h j (by omega))
    have hf := h k (by omega)
    obtain ⟨M, hM⟩ : ∃ M : Nat, M = 4196 := ⟨_, rfl⟩
    have hb := dsum_lt (d := d) hM (k + 1) h
    rw [accD, ih]
    unfold prodO prodZ
    simp only [Option.bind_some]
    rw [if_pos ⟨hf.1, pick_fin hf.2, by omega, by omega⟩, pow92, pick_val hf.1 hf.2, ← Int.add_mul]
    have e : dsum d U F k + tmD d (U k) (F k).1 (F k).2.1 = dsum d U F (k + 1) := rfl
    rw [e]
    unfold holdZ
    rw [if_pos]
    obtain ⟨Q, hQ⟩ : ∃ Q : Nat, Q = 4800 := ⟨_, rfl⟩
    have h2 : (2 : Nat) ^ 63 * 2 ^ M * 2 ^ 92 < 2 ^ Q := by rw [← Nat.pow_add, ← Nat.pow_add]; exact Nat.pow_lt_pow_right (by omega) (by omega)
    have h3 : (dsum d U F (k + 1) * ((2 ^ 92 : Nat) : Int)).natAbs < 2 ^ Q := by
      rw [Int.natAbs_mul, Int.natAbs_natCast]
      refine Nat.lt_of_le_of_lt (Nat.mul_le_mul_right _ (Nat.le_trans hb (Nat.mul_le_mul_right _ ?_))) h2
      have : (2 : Nat) ^ 63 = 9223372036854775808 := by decide
      omega
    rw [hQ] at h3
    generalize dsum d U F (k + 1) * ((2 ^ 92 : Nat) : Int) = X at *
    generalize 2 ^ 4800 = L at *
    omega
theorem accD_none {d : Int} {U : Nat → Nat} {F : Nat → Nat × Nat × Bool} : ∀ (k : Nat), (∃ j, j < k ∧ ¬ Fin (U j)) → accD d U F k = none
  | 0, h => by obtain ⟨j, hj, -⟩ := h; omega
  | k + 1, h => by
    obtain ⟨j, hj, hn⟩ := h
    rw [accD]
    unfold prodO
    by_cases e : j = k
    · subst e
      cases accD d U F j with
      | none => rfl
      | some z => simp only [Option.bind_some]; rw [if_neg (fun c => hn c.1)]
    · rw [accD_none k ⟨j, by omega, hn⟩]; rfl
/-- What Dot tells. -/
def DotR (U : Nat → Nat) (F : Nat → Nat × Nat × Bool) (n m : Nat) (E : Nat) (r : Nat × Nat × Bool) : Prop :=
  if n = m ∧ AllGood F m ∧ (∀ j, j < n → Fin (U j)) then SpR (dsum 2 U F n) (dsum 1 U F n) (2 ^ E) r else r = (0, 0, true)
theorem DotR.uniq {U : Nat → Nat} {F : Nat → Nat × Nat × Bool} {n m E : Nat} {r s : Nat × Nat × Bool} (h : DotR U F n m E r) (h' : DotR U F n m E s) : r = s := by
  unfold DotR at h h'
  split at h
  · rename_i c; rw [if_pos c] at h'; exact h.uniq h'
  · rename_i c; rw [if_neg c] at h'; rw [h, h']
theorem rndZ_some (d V : Int) (D : Nat) (hD : 0 < D) : ∃ p, RndZ d V D p := by
  obtain ⟨R, hR⟩ := Fl.some V.natAbs D hD
  exact ⟨_, R, hR, rfl⟩
/-- What the closure's sum, rounded, is worth. -/
theorem rnd_down {d z : Int} {p : Nat × Bool} {a E : Nat} (ha : a = 1166) (hE : E = 1074) (h : RndZ d (z * ((2 ^ 92 : Nat) : Int)) (2 ^ a) p) : RndZ d z (2 ^ E) p := by
  obtain ⟨q, hq⟩ := rndZ_some d z (2 ^ E) (Nat.two_pow_pos _)
  have h2 := hq.rescale (2 ^ 92) (Nat.two_pow_pos _)
  rw [← Nat.pow_add, show E + 92 = a by omega] at h2
  rw [h.uniq h2]
  exact hq
end Go.Proofs.YtbncdcenckagcaaGreat
