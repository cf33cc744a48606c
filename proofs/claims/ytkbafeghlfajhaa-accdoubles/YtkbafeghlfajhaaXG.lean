import Derived.Test.YtkbafeghlfajhaaWO
import Derived.Test.YtkbafeghlfajhaaNK
namespace Go.Proofs.Ytkbafeghlfajhaa
open Go.RowKit
set_option linter.unusedVariables false

set_option maxRecDepth 100000 in
set_option maxHeartbeats 1000000 in
theorem lengthD_any (v : Value) (neg : Bool) (m : Nat) (e : Int) (w : World) (h : NumV w v neg m e) (hb : bl m ≤ 100000) :
    Calls Try.prog 16 #[v] w fun e' w' => e' = .returned (.int .i64 (bl m : Int)) ∧ Below w.heap.size w w' := by
  obtain ⟨ao, len, cap, xs, rfl, hr, hnm, hm⟩ := h
  have HR : Hid _ := hr.later ((Below.refl _ w).alloc (Nat.le_refl _) (.cells #[.bool neg, .slice ao len cap, .int .i64 e] 27))
  have HN : Hid _ := hnm
  have HM : Hid _ := hm
  clear hr hnm hm
  go_enter Try.func16, Try.ntmps16
  go_wp2_with fail
  refine (length_any ao len cap xs _ HR.out HN.out).mono ?_
  rintro e1 w1 ⟨rfl, rfl⟩
  go_wp2_with fail
  go_ret
  exact ⟨by rw [HM.out]; rfl, (Below.refl _ w).alloc (Nat.le_refl _) _⟩
set_option maxRecDepth 100000 in
theorem signD_any (v : Value) (neg : Bool) (m : Nat) (e : Int) (w : World) (h : NumV w v neg m e) (hm0 : m ≠ 0) :
    Calls Try.prog 18 #[v] w fun e' w' => e' = .returned (.int .i64 (if neg then -1 else 1)) ∧ Below w.heap.size w w' := by
  obtain ⟨ao, len, cap, xs, rfl, hr, hnm, hm⟩ := h
  have hz := len_zero hr.length hr.lt hnm
  rw [hm] at hz
  have hl : ((len : Int) == 0) = false := by rw [beq_eq_false_iff_ne]; omega
  have HB : Hid (Below w.heap.size w (w.alloc (.cells #[.bool neg, .slice ao len cap, .int .i64 e] 27))) := (Below.refl _ w).alloc (Nat.le_refl _) _
  clear hr hnm hm hz
  cases neg
  all_goals
    go_enter Try.func18, Try.ntmps18
    go_wp2_with fail
    go_ret
    exact ⟨rfl, HB.out⟩
/-- An Acc's block holds no words of a number. -/
theorem AccO.not32 {w : World} {B : Nat} {o : Option Int} (h : AccO w B o) (j : Nat) (x : Int) : w.cell? ⟨B, j, none⟩ ≠ some (.int .u32 x) := by
  obtain ⟨f, h1, _⟩ := h.ex
  by_cases h0 : j < 76
  · rw [h1.cells j h0]; simp
  · by_cases h2 : j = 76
    · subst h2; rw [h.cell]; simp
    · rw [h.top j (by omega)]; simp
theorem numV_chg {w w' : World} {B : Nat} {o : Option Int} (ha : AccO w B o) (hc : Chg B w w') {v : Value} {neg : Bool} {m : Nat} {e : Int} (h : NumV w v neg m e) : NumV w' v neg m e := by
  obtain ⟨ao, len, cap, xs, h1, h2, h3, h4⟩ := h
  refine ⟨ao, len, cap, xs, h1, ⟨h2.length, h2.le, h2.max, h2.lt, h2.nil, ?_⟩, h3, h4⟩
  rcases h2.cells with h0 | ⟨b, off, hb, hcc⟩
  · exact .inl h0
  · by_cases h0 : len = 0
    · exact .inl h0
    · refine .inr ⟨b, off, hb, fun j hj => ?_⟩
      have hne : b ≠ B := fun e => by subst e; exact ha.not32 _ _ (hcc 0 (by omega))
      have hl := World.block_lt_of_cell? w _ (hcc j hj)
      rw [(cell_of_heap (hc.other b hl hne) (off + j)).1]
      exact hcc j hj
theorem bl_lowD {m : Nat} (h : m ≠ 0) : ∃ k, bl m = k + 1 ∧ 2 ^ k ≤ m := ⟨m.log2, by unfold bl; rw [if_neg h], Nat.log2_self_le h⟩
theorem hold_blD {neg : Bool} {m : Nat} {e z : Int} (he : -2240 ≤ e) (hz : zv 2240 neg m e = z) (hm : m ≠ 0) : ((bl m : Int) + e ≤ 2560 → holdZ z = some z) ∧ (2560 < (bl m : Int) + e → holdZ z = none) := by
  have ha : z.natAbs = m * 2 ^ (e + 2240).toNat := by rw [← hz]; exact zv_abs 2240 neg m e
  obtain ⟨Q, hQ⟩ : ∃ Q : Nat, Q = 4800 := ⟨_, rfl⟩
  have key : ∀ z : Int, (-((2 ^ Q : Nat) : Int) < z ∧ z < ((2 ^ Q : Nat) : Int)) ↔ z.natAbs < 2 ^ Q := by
    intro z
    generalize 2 ^ Q = L
    omega
  constructor
  · intro h
    unfold holdZ
    rw [if_pos]
    rw [← hQ, key, ha]
    have h1 := lt_bl m
    have h2 : m * 2 ^ (e + 2240).toNat < 2 ^ bl m * 2 ^ (e + 2240).toNat := Nat.mul_lt_mul_of_pos_right h1 (Nat.two_pow_pos _)
    rw [← Nat.pow_add] at h2
    exact Nat.lt_of_lt_of_le h2 (Nat.pow_le_pow_right (by omega) (by omega))
  · intro h
    unfold holdZ
    rw [if_neg]
    rw [← hQ, key, ha]
    obtain ⟨k, hk, hk2⟩ := bl_lowD hm
    have h2 : 2 ^ k * 2 ^ (e + 2240).toNat ≤ m * 2 ^ (e + 2240).toNat := Nat.mul_le_mul_right _ hk2
    rw [← Nat.pow_add] at h2
    have h3 : (2 : Nat) ^ Q ≤ 2 ^ (k + (e + 2240).toNat) := Nat.pow_le_pow_right (by omega) (by omega)
    omega
/-- The real, doubled j times; bad from the bound on. -/
def dblO (neg : Bool) (m : Nat) (e : Int) (j : Nat) : Option Int := if (bl m : Int) + e + j ≤ 2560 then some (zv 2240 neg m (e + j)) else none
theorem zv_dbl {neg : Bool} {m : Nat} {e : Int} (he : -2240 ≤ e) : zv 2240 neg m e + zv 2240 neg m e = zv 2240 neg m (e + 1) := by
  unfold zv
  rw [show (e + 1 + ((2240 : Nat) : Int)).toNat = (e + ((2240 : Nat) : Int)).toNat + 1 by omega, Nat.pow_succ, Int.natCast_mul, ← Int.mul_assoc]
  omega
theorem dbl_join {neg : Bool} {m : Nat} {e : Int} (he : -2240 ≤ e) (hm : m ≠ 0) (j : Nat) : joinO (dblO neg m e j) (dblO neg m e j) false = dblO neg m e (j + 1) := by
  unfold dblO joinO
  by_cases h : (bl m : Int) + e + j ≤ 2560
  · rw [if_pos h]
    simp only [Option.bind_some]
    have e1 : zv 2240 neg m (e + j) + (if false = true then -zv 2240 neg m (e + j) else zv 2240 neg m (e + j)) = zv 2240 neg m (e + (j + 1 : Nat)) := by
      rw [if_neg (by simp), zv_dbl (by omega)]; congr 1; omega
    rw [e1]
    obtain ⟨h1, h2⟩ := hold_blD (neg := neg) (m := m) (e := e + (j + 1 : Nat)) (by omega) rfl hm
    by_cases c : (bl m : Int) + e + (j + 1 : Nat) ≤ 2560
    · rw [if_pos c]; exact h1 (by omega)
    · rw [if_neg c]; exact h2 (by omega)
  · rw [if_neg h, if_neg (by omega)]; rfl
theorem fin_parts {u : Nat} (hu : u < 18446744073709551616) (hf : Fin u) (h0 : frung u ≠ 0) {neg : Bool} {e : Int} (hn : neg = fneg u) (he : e = ofE u) : ofM u ≠ 0 ∧ -1074 ≤ e ∧ (bl (ofM u) : Int) + e ≤ 1024 ∧ zv 2240 neg (ofM u) e = prodZ u 4607182418800017408 0 ∧ ofM u * 2 ^ (e + 1074).toNat = rmag (frung u) := by
  obtain ⟨h1, h2, h3, h4, h5⟩ := ofM_val hf
  subst he hn
  refine ⟨fun c => h0 (h5.1 c), h2, by omega, ?_, h1⟩
  obtain ⟨a, ha⟩ : ∃ a : Nat, a = 1166 := ⟨_, rfl⟩
  have hfv : fval u = sv (fneg u) (ofM u * 2 ^ (ofE u + 1074).toNat) := by rw [h1]; rfl
  rw [prodZ_one ha, hfv, sv_mul]
  unfold zv
  rw [Int.mul_assoc, ← Int.natCast_mul, ← Nat.pow_add, show (ofE u + ((2240 : Nat) : Int)).toNat = (ofE u + 1074).toNat + a by omega]
/-- What the two roads tell of the doubled number. -/
theorem dbl_round {u k : Nat} {neg : Bool} {m : Nat} {e : Int} {a c : Nat} {b d : Bool} (hm : m ≠ 0) (he : -1074 ≤ e) (h : RndO 0 (some (zv 2240 neg m (e + k))) a b) (h' : Rnd 0 neg (nume m (e + k)) (deno (e + k)) (c, d)) : a = c ∧ b = d := by
  obtain ⟨q, hq⟩ : ∃ q : Nat, q = 1166 := ⟨_, rfl⟩
  have h1 := h q hq
  have hz : zv 2240 neg m (e + k) ≠ 0 := by
    intro c0
    have h1 := zv_abs 2240 neg m (e + k)
    rw [c0] at h1
    have h2 := Nat.mul_pos (Nat.pos_of_ne_zero hm) (Nat.two_pow_pos (e + k + ((2240 : Nat) : Int)).toNat)
    rw [Int.natAbs_zero] at h1
    omega
  have hn := zv_lt hz
  unfold RndZ at h1
  rw [← hn, zv_abs] at h1
  have h2 : Rnd 0 neg (m * 2 ^ (e + k + ((2240 : Nat) : Int)).toNat) (2 ^ q) (c, d) := by
    refine h'.of_eq (Nat.two_pow_pos _) ?_
    unfold nume deno
    rw [show (-(e + (k : Int) + 1074)).toNat = 0 by omega, Nat.pow_zero, Nat.mul_one, Nat.mul_assoc, ← Nat.pow_add, show (e + (k : Int) + 1074).toNat + q = (e + k + ((2240 : Nat) : Int)).toNat by omega]
  have := h1.uniq h2
  exact ⟨congrArg Prod.fst this, congrArg Prod.snd this⟩
end Go.Proofs.Ytkbafeghlfajhaa
