import Derived.Test.YtbeaggmiefpgoaaWrd
namespace Go.Proofs.Ytbeaggmiefpgoaa
set_option linter.unusedVariables false

/-- Flip and carry, as turning tells them. -/
def Trn (neg : Bool) (F c : Nat) : Prop := (neg = false ∧ F = 0 ∧ c = 0) ∨ (neg = true ∧ F = 18446744073709551615 ∧ c = 1)
def flp (neg : Bool) (y : Nat) : Nat := if neg then 18446744073709551615 - y else y
theorem flp_lt {neg : Bool} {y : Nat} (h : y < 18446744073709551616) : flp neg y < 18446744073709551616 := by unfold flp; split <;> omega
/-- Where the carry has made up for the sign's words nothing changes any more. -/
theorem add_rest {f g h : Nat → Nat} {i c c0 s : Nat} (hi : wv h i + c * 2 ^ (64 * i) = wv f i + wv g i + c0) (hs : (s = 0 ∧ c = 0) ∨ (s = 18446744073709551615 ∧ c = 1)) :
    ∀ m, (∀ j, i ≤ j → j < i + m → g j = s) → (∀ j, i ≤ j → j < i + m → h j = f j) → wv h (i + m) + c * 2 ^ (64 * (i + m)) = wv f (i + m) + wv g (i + m) + c0
  | 0, _, _ => hi
  | m + 1, hg, hh => by
    have ih := add_rest hi hs m (fun j h1 h2 => hg j h1 (by omega)) (fun j h1 h2 => hh j h1 (by omega))
    rw [← Nat.add_assoc, wv_succ, wv_succ, wv_succ, pow_step, hg (i + m) (by omega) (by omega), hh (i + m) (by omega) (by omega)]
    generalize 2 ^ (64 * (i + m)) = P at *
    rcases hs with ⟨rfl, rfl⟩ | ⟨rfl, rfl⟩
    · omega
    · omega
theorem add_rest' {f g h : Nat → Nat} {i c c0 s : Nat} (n : Nat) (hi : wv h i + c * 2 ^ (64 * i) = wv f i + wv g i + c0) (hs : (s = 0 ∧ c = 0) ∨ (s = 18446744073709551615 ∧ c = 1)) (hn : i ≤ n) (hg : ∀ j, i ≤ j → j < n → g j = s) (hh : ∀ j, i ≤ j → j < n → h j = f j) :
    wv h n + c * 2 ^ (64 * n) = wv f n + wv g n + c0 := by
  obtain ⟨m, rfl⟩ : ∃ m, n = i + m := ⟨n - i, by omega⟩
  exact add_rest hi hs m hg hh
theorem ptw_at (k t0 t1 t2 s : Nat) : ptw k t0 t1 t2 s k = t0 ∧ ptw k t0 t1 t2 s (k + 1) = t1 ∧ ptw k t0 t1 t2 s (k + 2) = t2 ∧ ∀ j, k + 3 ≤ j → ptw k t0 t1 t2 s j = s := by
  unfold ptw
  refine ⟨by simp, ?_, ?_, fun j hj => ?_⟩
  · rw [if_neg (by omega), if_neg (by omega), if_pos rfl]
  · rw [if_neg (by omega), if_neg (by omega), if_neg (by omega), if_pos rfl]
  · rw [if_neg (by omega), if_neg (by omega), if_neg (by omega), if_neg (by omega)]
theorem ptw_low (k t0 t1 t2 s : Nat) : wv (ptw k t0 t1 t2 s) k = 0 := wv_zero_iff.2 (fun j hj => by unfold ptw; rw [if_pos hj])
/-- The three words of what put adds. -/
def pw0 (low n : Nat) : Nat := low * 2 ^ n % 18446744073709551616
def pw1 (high low n : Nat) : Nat := (high * 2 ^ n % 18446744073709551616) ||| (low / 2 ^ (64 - n))
def pw2 (high n : Nat) : Nat := high / 2 ^ (64 - n)
theorem put_tc {f h : Nat → Nat} {z : Int} {neg : Bool} {high low k n c F c0 : Nat} (hf : Tc f z) (hk : k + 3 ≤ 76) (hn : n < 64) (hl : low < 18446744073709551616) (hh : high < 18446744073709551616) (hT : Trn neg F c0) (hlt : ∀ j, j < 76 → h j < 18446744073709551616)
    (hs : wv h 76 + c * 2 ^ (64 * 76) = wv f 76 + wv (ptw k (flp neg (pw0 low n)) (flp neg (pw1 high low n)) (flp neg (pw2 high n)) F) 76 + c0 * 2 ^ (64 * k))
    (h1 : -((2 ^ 4863 : Nat) : Int) ≤ z + sv neg ((high * 18446744073709551616 + low) * 2 ^ (64 * k + n))) (h2 : z + sv neg ((high * 18446744073709551616 + low) * 2 ^ (64 * k + n)) < ((2 ^ 4863 : Nat) : Int)) :
    Tc h (z + sv neg ((high * 18446744073709551616 + low) * 2 ^ (64 * k + n))) := by
  obtain ⟨e, b1, b2⟩ := shift3 (high := high) (low := low) hn hl hh
  have b0 : pw0 low n < 18446744073709551616 := Nat.mod_lt _ (by omega)
  have e' : (high * 18446744073709551616 + low) * 2 ^ (64 * k + n) = 2 ^ (64 * k) * (pw0 low n + pw1 high low n * 18446744073709551616 + pw2 high n * 340282366920938463463374607431768211456) := by
    unfold pw0 pw1 pw2
    rw [e, Nat.pow_add]; ac_rfl
  rw [show 64 * 76 = 4864 by omega] at hs
  refine Tc.sum (y := sv neg ((high * 18446744073709551616 + low) * 2 ^ (64 * k + n))) (c0 := c0 * 2 ^ (64 * k)) (c := c) (g := ptw k (flp neg (pw0 low n)) (flp neg (pw1 high low n)) (flp neg (pw2 high n)) F) hf ?_ hlt hs rfl h1 h2
  rcases hT with ⟨rfl, rfl, rfl⟩ | ⟨rfl, rfl, rfl⟩
  · left
    unfold flp sv
    simp only [Bool.false_eq_true, if_false]
    rw [ptw_pos hk, e', Nat.zero_mul]; simp
  · right
    unfold flp sv
    simp only [if_true]
    have := ptw_neg (t0 := pw0 low n) (t1 := pw1 high low n) (t2 := pw2 high n) hk b0 b1 b2
    rw [← e'] at this
    generalize (high * 18446744073709551616 + low) * 2 ^ (64 * k + n) = X at *
    generalize wv _ 76 = Y at *
    generalize 2 ^ 4864 = Z at *
    generalize 2 ^ (64 * k) = U at *
    omega
end Go.Proofs.Ytbeaggmiefpgoaa
