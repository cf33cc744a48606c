import Derived.Test.YtkpoikjikkailaaYD
namespace Go.Proofs.Ytkpoikjikkailaa
open Go.RowKit
set_option linter.unusedVariables false

def prT (t : TmV) : Int := prodZ t.a t.b t.n
def psum (ts : List TmV) : Int := (ts.map prT).sum
def OkT (t : TmV) : Prop := Fin t.a ∧ Fin t.b ∧ t.a < 18446744073709551616 ∧ t.b < 18446744073709551616 ∧ -64 ≤ t.n ∧ t.n ≤ 64
/-- A bound that no product reaches. -/
def topM : Nat := 2 ^ 4352
theorem prT_lt {t : TmV} (h : OkT t) : (prT t).natAbs ≤ topM := by
  obtain ⟨h1, h2, _, _, h5, h6⟩ := h
  obtain ⟨E, hE⟩ : ∃ E : Nat, E = 2098 := ⟨_, rfl⟩
  obtain ⟨Q, hQ⟩ : ∃ Q : Nat, Q = 4352 := ⟨_, rfl⟩
  have a1 := fval_lt h1 hE
  have a2 := fval_lt h2 hE
  unfold prT prodZ topM
  rw [Int.natAbs_mul, Int.natAbs_mul, Int.natAbs_natCast, ← hQ]
  have a3 : (fval t.a).natAbs * (fval t.b).natAbs ≤ 2 ^ E * 2 ^ E := Nat.mul_le_mul (Nat.le_of_lt a1) (Nat.le_of_lt a2)
  have a4 : (2 : Nat) ^ (t.n + 92).toNat ≤ 2 ^ 156 := Nat.pow_le_pow_right (by omega) (by omega)
  refine Nat.le_trans (Nat.mul_le_mul a3 a4) ?_
  rw [← Nat.pow_add, ← Nat.pow_add]
  exact Nat.pow_le_pow_right (by omega) (by omega)
theorem topM_small : 1000 * topM ≤ 2 ^ 4800 - 1 := by
  unfold topM
  obtain ⟨Q, hQ⟩ : ∃ Q : Nat, Q = 4352 := ⟨_, rfl⟩
  obtain ⟨P, hP⟩ : ∃ P : Nat, P = 4800 := ⟨_, rfl⟩
  rw [← hQ, ← hP]
  have : (2 : Nat) ^ P = 2 ^ (P - Q) * 2 ^ Q := by rw [← Nat.pow_add]; congr 1; omega
  have h2 : (2 : Nat) ^ 10 ≤ 2 ^ (P - Q) := Nat.pow_le_pow_right (by omega) (by omega)
  have h3 : (2 : Nat) ^ 10 * 2 ^ Q ≤ 2 ^ (P - Q) * 2 ^ Q := Nat.mul_le_mul_right _ h2
  have h4 := Nat.two_pow_pos Q
  rw [this]
  have h5 : (2 : Nat) ^ 10 = 1024 := rfl
  rw [h5] at h3
  omega
theorem hold_small {z : Int} (h : z.natAbs ≤ 1000 * topM) : holdZ z = some z := by
  have h1 := topM_small
  have h2 := Nat.two_pow_pos 4800
  unfold holdZ
  rw [if_pos]
  generalize 2 ^ 4800 = L at *
  generalize topM = M at *
  omega
theorem prodO_ok {z : Int} {t : TmV} (h : OkT t) (hz : (z + prT t).natAbs ≤ 1000 * topM) : prodO (some z) t.a t.b t.n = some (z + prT t) := by
  obtain ⟨h1, h2, _, _, h5, h6⟩ := h
  show (if Fin t.a ∧ Fin t.b ∧ -64 ≤ t.n ∧ t.n ≤ 64 then holdZ (z + prodZ t.a t.b t.n) else none) = _
  rw [if_pos ⟨h1, h2, h5, h6⟩]
  exact hold_small hz
theorem prodO_no {z : Int} {t : TmV} (h : OkT t) (hz : (z - prT t).natAbs ≤ 1000 * topM) : prodO (some z) (fopp t.a) t.b t.n = some (z - prT t) := by
  obtain ⟨h1, h2, h3, _, h5, h6⟩ := h
  show (if Fin (fopp t.a) ∧ Fin t.b ∧ -64 ≤ t.n ∧ t.n ≤ 64 then holdZ (z + prodZ (fopp t.a) t.b t.n) else none) = _
  rw [if_pos ⟨(fin_fopp h3).2 h1, h2, h5, h6⟩]
  have : prodZ (fopp t.a) t.b t.n = -prT t := by unfold prT prodZ; rw [fopp_fval h3]; simp [Int.neg_mul]
  rw [this, ← Int.sub_eq_add_neg]
  exact hold_small hz
theorem psum_append (xs ys : List TmV) : psum (xs ++ ys) = psum xs + psum ys := by
  unfold psum; rw [List.map_append, List.sum_append]
theorem psum_cons (t : TmV) (us : List TmV) : psum (t :: us) = prT t + psum us := by unfold psum; simp
theorem psum_one (t : TmV) : psum [t] = prT t := by unfold psum; simp
theorem psum_lt : ∀ (ts : List TmV), (∀ t ∈ ts, OkT t) → (psum ts).natAbs ≤ ts.length * topM
  | [], _ => by simp [psum]
  | t :: ts, h => by
    have ih := psum_lt ts (fun x hx => h x (by simp [hx]))
    have h1 := prT_lt (h t (by simp))
    have e : psum (t :: ts) = prT t + psum ts := by unfold psum; simp
    rw [e, List.length_cons, Nat.add_mul]
    omega
def dropAt (ts : List TmV) (k : Nat) : List TmV := ts.take k ++ ts.drop (k + 1)
theorem psum_dropAt (ts : List TmV) (k : Nat) (h : k < ts.length) : psum ts = psum (dropAt ts k) + prT ts[k] := by
  unfold dropAt
  have e : ts = ts.take k ++ ts[k] :: ts.drop (k + 1) := by
    rw [List.getElem_cons_drop, List.take_append_drop]
  have e2 : psum ts = psum (ts.take k) + (prT ts[k] + psum (ts.drop (k + 1))) := by
    have h1 : psum (ts[k] :: ts.drop (k + 1)) = prT ts[k] + psum (ts.drop (k + 1)) := psum_cons _ _
    rw [← h1, ← psum_append, ← e]
  rw [e2, psum_append]; omega
theorem dropAt_len (ts : List TmV) (k : Nat) (h : k < ts.length) : (dropAt ts k).length + 1 = ts.length := by
  unfold dropAt; rw [List.length_append, List.length_take, List.length_drop]; omega
theorem dropAt_mem {ts : List TmV} {k : Nat} {t : TmV} (h : t ∈ dropAt ts k) : t ∈ ts := by
  unfold dropAt at h
  rcases List.mem_append.1 h with h | h
  · exact List.mem_of_mem_take h
  · exact List.mem_of_mem_drop h
end Go.Proofs.Ytkpoikjikkailaa
