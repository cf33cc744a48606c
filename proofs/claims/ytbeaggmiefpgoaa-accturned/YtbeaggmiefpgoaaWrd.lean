import Derived.Test.YtbeaggmiefpgoaaPur
namespace Go.Proofs.Ytbeaggmiefpgoaa
set_option linter.unusedVariables false

/-- The whole number of the words f 0 .. f (n - 1), the lowest first. -/
def wv (f : Nat → Nat) : Nat → Nat
  | 0 => 0
  | n + 1 => wv f n + f n * 2 ^ (64 * n)
def upd (f : Nat → Nat) (i v : Nat) : Nat → Nat := fun j => if j = i then v else f j
theorem upd_same (f : Nat → Nat) (i v : Nat) : upd f i v i = v := if_pos rfl
theorem upd_other {f : Nat → Nat} {i v j : Nat} (h : j ≠ i) : upd f i v j = f j := if_neg h
theorem wv_congr {f g : Nat → Nat} : ∀ {n : Nat}, (∀ j, j < n → f j = g j) → wv f n = wv g n
  | 0, _ => rfl
  | n + 1, h => by
    unfold wv
    rw [wv_congr (fun j hj => h j (by omega)), h n (by omega)]
theorem pow_step (n : Nat) : (2 : Nat) ^ (64 * (n + 1)) = 18446744073709551616 * 2 ^ (64 * n) := by
  rw [show 64 * (n + 1) = 64 + 64 * n by omega, Nat.pow_add]
theorem wv_lt {f : Nat → Nat} : ∀ {n : Nat}, (∀ j, j < n → f j < 18446744073709551616) → wv f n < 2 ^ (64 * n)
  | 0, _ => by unfold wv; simp
  | n + 1, h => by
    unfold wv
    have h1 := wv_lt (n := n) (fun j hj => h j (by omega))
    have h2 : f n * 2 ^ (64 * n) ≤ 18446744073709551615 * 2 ^ (64 * n) := Nat.mul_le_mul_right _ (by have := h n (by omega); omega)
    rw [pow_step]
    omega
theorem wv_upd_le {f : Nat → Nat} {i v : Nat} : ∀ {n : Nat}, n ≤ i → wv (upd f i v) n = wv f n := fun {n} h => wv_congr (fun j hj => upd_other (by omega))
theorem wv_upd {f : Nat → Nat} {i v : Nat} : ∀ {n : Nat}, i < n → wv (upd f i v) n + f i * 2 ^ (64 * i) = wv f n + v * 2 ^ (64 * i)
  | 0, h => by omega
  | n + 1, h => by
    unfold wv
    by_cases hi : i = n
    · subst hi
      rw [wv_upd_le (Nat.le_refl _), upd_same]; omega
    · have := wv_upd (f := f) (v := v) (show i < n by omega)
      rw [upd_other (Ne.symm hi)]
      omega
theorem wv_flip {f : Nat → Nat} : ∀ {n : Nat}, (∀ j, j < n → f j < 18446744073709551616) → wv (fun j => 18446744073709551615 - f j) n + wv f n + 1 = 2 ^ (64 * n)
  | 0, _ => by unfold wv; simp
  | n + 1, h => by
    unfold wv
    have h1 := wv_flip (n := n) (fun j hj => h j (by omega))
    have h2 := h n (by omega)
    have h3 : (18446744073709551615 - f n) * 2 ^ (64 * n) + f n * 2 ^ (64 * n) = 18446744073709551615 * 2 ^ (64 * n) := by
      rw [← Nat.add_mul]; congr 1; omega
    rw [pow_step]
    omega
theorem wv_zero_iff {f : Nat → Nat} : ∀ {n : Nat}, wv f n = 0 ↔ ∀ j, j < n → f j = 0
  | 0 => by unfold wv; simp
  | n + 1 => by
    unfold wv
    have hp := Nat.two_pow_pos (64 * n)
    constructor
    · intro h j hj
      have h1 : wv f n = 0 := by omega
      have h2 : f n * 2 ^ (64 * n) = 0 := by omega
      rcases Nat.lt_or_ge j n with h3 | h3
      · exact (wv_zero_iff.1 h1) j h3
      · obtain rfl : j = n := by omega
        rcases Nat.mul_eq_zero.1 h2 with h4 | h4 <;> omega
    · intro h
      rw [wv_zero_iff.2 (fun j hj => h j (by omega)), h n (by omega), Nat.zero_mul]
theorem wv_split (f : Nat → Nat) (k : Nat) : ∀ n : Nat, wv f (k + n) = wv f k + 2 ^ (64 * k) * wv (fun j => f (k + j)) n
  | 0 => by show wv f k = wv f k + _ * 0; rw [Nat.mul_zero, Nat.add_zero]
  | n + 1 => by
    rw [← Nat.add_assoc]
    show wv f (k + n) + f (k + n) * 2 ^ (64 * (k + n)) = _ + _ * (wv (fun j => f (k + j)) n + f (k + n) * 2 ^ (64 * n))
    rw [wv_split f k n, Nat.mul_add, Nat.mul_add, Nat.pow_add, Nat.add_assoc]; congr 2
    rw [Nat.mul_left_comm]
/-- What stands above the highest word that is not 0 adds nothing. -/
theorem wv_top {f : Nat → Nat} {k n : Nat} (hk : k ≤ n) (h : ∀ j, k ≤ j → j < n → f j = 0) : wv f n = wv f k := by
  obtain ⟨m, rfl⟩ : ∃ m, n = k + m := ⟨n - k, by omega⟩
  rw [wv_split, (wv_zero_iff (f := fun j => f (k + j)) (n := m)).2 (fun j hj => h (k + j) (by omega) (by omega)), Nat.mul_zero, Nat.add_zero]
theorem wv_const_zero : ∀ n : Nat, wv (fun _ => 0) n = 0 := fun n => wv_zero_iff.2 (fun _ _ => rfl)
/-- One word of a sum, with what is carried. -/
theorem add_step {f g h : Nat → Nat} {i c c' c0 v : Nat} (hi : wv h i + c * 2 ^ (64 * i) = wv f i + wv g i + c0) (hv : v + 18446744073709551616 * c' = f i + g i + c) :
    wv (upd h i v) (i + 1) + c' * 2 ^ (64 * (i + 1)) = wv f (i + 1) + wv g (i + 1) + c0 := by
  show wv (upd h i v) i + upd h i v i * 2 ^ (64 * i) + _ = (wv f i + f i * 2 ^ (64 * i)) + (wv g i + g i * 2 ^ (64 * i)) + c0
  rw [wv_upd_le (Nat.le_refl _), upd_same, pow_step]
  have h1 : v * 2 ^ (64 * i) + c' * (18446744073709551616 * 2 ^ (64 * i)) = f i * 2 ^ (64 * i) + g i * 2 ^ (64 * i) + c * 2 ^ (64 * i) := by
    rw [show c' * (18446744073709551616 * 2 ^ (64 * i)) = (18446744073709551616 * c') * 2 ^ (64 * i) by ac_rfl, ← Nat.add_mul, ← Nat.add_mul, ← Nat.add_mul, hv]
  omega
/-- The words f stand for z, in two's complement (76 words). -/
structure Tc (f : Nat → Nat) (z : Int) : Prop where
  lt : ∀ j, j < 76 → f j < 18446744073709551616
  lo : -((2 ^ 4863 : Nat) : Int) ≤ z
  hi : z < ((2 ^ 4863 : Nat) : Int)
  eq : (wv f 76 : Int) = z ∨ (wv f 76 : Int) = z + ((2 ^ 4864 : Nat) : Int)
theorem pow_parts {a b c : Nat} (h : a = b + c) : (2 : Nat) ^ a = 2 ^ b * 2 ^ c := by subst h; rw [Nat.pow_add]
theorem pow_half : (2 : Nat) ^ 4864 = 2 * 2 ^ 4863 := by rw [pow_parts (a := 4864) (b := 1) (c := 4863) (by omega), Nat.pow_one]
theorem Tc.sum {f g h : Nat → Nat} {x y z : Int} {c c0 : Nat} (hf : Tc f x) (hg : (wv g 76 : Int) + c0 = y ∨ (wv g 76 : Int) + c0 = y + ((2 ^ 4864 : Nat) : Int)) (hh : ∀ j, j < 76 → h j < 18446744073709551616) (hs : wv h 76 + c * 2 ^ 4864 = wv f 76 + wv g 76 + c0)
    (hz : z = x + y) (h1 : -((2 ^ 4863 : Nat) : Int) ≤ z) (h2 : z < ((2 ^ 4863 : Nat) : Int)) : Tc h z := by
  refine ⟨hh, h1, h2, ?_⟩
  have hl := wv_lt hh
  have e := hf.eq
  rw [show 64 * 76 = 4864 by omega] at hl
  have h12 := hf.lo
  have h13 := hf.hi
  have hf2 := wv_lt hf.lt
  rw [show 64 * 76 = 4864 by omega] at hf2
  rw [pow_half] at *
  generalize 2 ^ 4863 = L at *
  generalize wv f 76 = F at *
  generalize wv g 76 = G at *
  generalize wv h 76 = K at *
  have hc : c = 0 ∨ c = 1 ∨ c = 2 ∨ 3 ≤ c := by omega
  rcases hc with rfl | rfl | rfl | hc
  · omega
  · omega
  · omega
  · have : 3 * (2 * L) ≤ c * (2 * L) := Nat.mul_le_mul_right _ hc
    omega
theorem wv_succ (f : Nat → Nat) (n : Nat) : wv f (n + 1) = wv f n + f n * 2 ^ (64 * n) := by rw [wv]
theorem wv_at (f : Nat → Nat) (n m k : Nat) (h : m = n + 1) (hk : k = 64 * n) : wv f m = wv f n + f n * 2 ^ k := by subst h hk; exact wv_succ f n
theorem wv_76 (f : Nat → Nat) : wv f 76 = wv f 75 + f 75 * 2 ^ 4800 := wv_at f 75 76 4800 (by omega) (by omega)
theorem pow_top : (2 : Nat) ^ 4863 = 9223372036854775808 * 2 ^ 4800 := by rw [pow_parts (a := 4863) (b := 63) (c := 4800) (by omega), show (2 : Nat) ^ 63 = 9223372036854775808 by decide]
theorem Tc.neg_iff {f : Nat → Nat} {z : Int} (h : Tc f z) : z < 0 ↔ 9223372036854775808 ≤ f 75 := by
  have e := h.eq
  have h1 := h.lo
  have h2 := h.hi
  have h3 := wv_lt (n := 75) (fun j hj => h.lt j (by omega))
  have h4 := h.lt 75 (by omega)
  rw [show 64 * 75 = 4800 by omega] at h3
  rw [wv_76, pow_half, pow_top] at e
  rw [pow_top] at h1 h2
  generalize 2 ^ 4800 = L at *
  generalize wv f 75 = F at *
  have h5 : f 75 * L ≤ 18446744073709551615 * L := Nat.mul_le_mul_right _ (by omega)
  constructor
  · intro hz
    rcases Nat.lt_or_ge (f 75) 9223372036854775808 with h6 | h6
    · have h7 : f 75 * L ≤ 9223372036854775807 * L := Nat.mul_le_mul_right _ (by omega)
      omega
    · exact h6
  · intro hz
    have h7 : 9223372036854775808 * L ≤ f 75 * L := Nat.mul_le_mul_right _ hz
    omega
theorem Tc.zero_iff {f : Nat → Nat} {z : Int} (h : Tc f z) : z = 0 ↔ ∀ j, j < 76 → f j = 0 := by
  rw [← wv_zero_iff]
  have e := h.eq
  have h1 := h.lo
  have h2 := h.hi
  have h3 := wv_lt h.lt
  rw [show 64 * 76 = 4864 by omega] at h3
  rw [pow_half] at *
  have hp := Nat.two_pow_pos 4863
  generalize 2 ^ 4863 = L at *
  omega
theorem Tc.held_iff {f : Nat → Nat} {z : Int} (h : Tc f z) : (f 75 = 0 ∨ (f 75 = 18446744073709551615 ∧ ∃ j, j < 75 ∧ f j ≠ 0)) ↔ (-((2 ^ 4800 : Nat) : Int) < z ∧ z < ((2 ^ 4800 : Nat) : Int)) := by
  have e := h.eq
  have h1 := h.lo
  have h2 := h.hi
  have h3 := wv_lt (n := 75) (fun j hj => h.lt j (by omega))
  have h4 := h.lt 75 (by omega)
  have hz : (∃ j, j < 75 ∧ f j ≠ 0) ↔ wv f 75 ≠ 0 := by
    rw [ne_eq, wv_zero_iff]
    constructor
    · rintro ⟨j, hj, hne⟩ hall; exact hne (hall j hj)
    · intro hn
      apply Classical.byContradiction
      intro hc
      exact hn (fun j hj => Classical.byContradiction fun hne => hc ⟨j, hj, hne⟩)
  rw [hz]
  rw [show 64 * 75 = 4800 by omega] at h3
  rw [wv_76, pow_half, pow_top] at e
  rw [pow_top] at h1 h2
  generalize 2 ^ 4800 = L at *
  generalize wv f 75 = F at *
  constructor
  · rintro (h0 | ⟨h0, hF⟩)
    · rw [h0] at e; omega
    · rw [h0] at e; omega
  · intro hh
    by_cases c0 : f 75 = 0
    · exact .inl c0
    · right
      have h5 : 1 * L ≤ f 75 * L := Nat.mul_le_mul_right _ (by omega)
      by_cases c1 : f 75 = 18446744073709551615
      · refine ⟨c1, ?_⟩
        rw [c1] at e
        omega
      · have h6 : f 75 * L ≤ 18446744073709551614 * L := Nat.mul_le_mul_right _ (by omega)
        omega
/-- What put adds, word by word: t0 t1 t2 at k, then the sign's. -/
def ptw (k t0 t1 t2 s : Nat) : Nat → Nat := fun j => if j < k then 0 else if j = k then t0 else if j = k + 1 then t1 else if j = k + 2 then t2 else s
def three (t0 t1 t2 s : Nat) : Nat → Nat := fun j => if j = 0 then t0 else if j = 1 then t1 else if j = 2 then t2 else s
theorem ptw_shift (k t0 t1 t2 s : Nat) : (fun j => ptw k t0 t1 t2 s (k + j)) = three t0 t1 t2 s := by
  funext j
  unfold ptw three
  rw [if_neg (by omega)]
  by_cases h0 : j = 0
  · subst h0; simp
  · rw [if_neg (by omega), if_neg h0]
    by_cases h1 : j = 1
    · subst h1; simp
    · rw [if_neg (by omega), if_neg h1]
      by_cases h2 : j = 2
      · subst h2; simp
      · rw [if_neg (by omega), if_neg h2]
theorem ptw_wv (k t0 t1 t2 s : Nat) (m : Nat) : wv (ptw k t0 t1 t2 s) (k + m) = 2 ^ (64 * k) * wv (three t0 t1 t2 s) m := by
  rw [wv_split, ptw_shift, wv_zero_iff.2 (fun j hj => by unfold ptw; rw [if_pos hj]), Nat.zero_add]
theorem three_wv (t0 t1 t2 m : Nat) (hm : 3 ≤ m) : wv (three t0 t1 t2 0) m = t0 + t1 * 18446744073709551616 + t2 * 340282366920938463463374607431768211456 := by
  rw [wv_top hm (fun j h1 h2 => by unfold three; rw [if_neg (by omega), if_neg (by omega), if_neg (by omega)])]
  show 0 + three t0 t1 t2 0 0 * 2 ^ (64 * 0) + three t0 t1 t2 0 1 * 2 ^ (64 * 1) + three t0 t1 t2 0 2 * 2 ^ (64 * 2) = _
  unfold three
  simp
theorem ptw_pos {k t0 t1 t2 : Nat} (hk : k + 3 ≤ 76) : wv (ptw k t0 t1 t2 0) 76 = 2 ^ (64 * k) * (t0 + t1 * 18446744073709551616 + t2 * 340282366920938463463374607431768211456) := by
  obtain ⟨m, hm⟩ : ∃ m, 76 = k + m := ⟨76 - k, by omega⟩
  rw [hm, ptw_wv, three_wv _ _ _ _ (by omega)]
theorem ptw_neg {k t0 t1 t2 : Nat} (hk : k + 3 ≤ 76) (h0 : t0 < 18446744073709551616) (h1 : t1 < 18446744073709551616) (h2 : t2 < 18446744073709551616) :
    wv (ptw k (18446744073709551615 - t0) (18446744073709551615 - t1) (18446744073709551615 - t2) 18446744073709551615) 76 + 2 ^ (64 * k) * (t0 + t1 * 18446744073709551616 + t2 * 340282366920938463463374607431768211456) + 2 ^ (64 * k) = 2 ^ 4864 := by
  obtain ⟨m, hm⟩ : ∃ m, 76 = k + m := ⟨76 - k, by omega⟩
  have e : three (18446744073709551615 - t0) (18446744073709551615 - t1) (18446744073709551615 - t2) 18446744073709551615 = fun j => 18446744073709551615 - three t0 t1 t2 0 j := by
    funext j; unfold three
    by_cases c0 : j = 0
    · rw [if_pos c0, if_pos c0]
    · rw [if_neg c0, if_neg c0]
      by_cases c1 : j = 1
      · rw [if_pos c1, if_pos c1]
      · rw [if_neg c1, if_neg c1]
        by_cases c2 : j = 2
        · rw [if_pos c2, if_pos c2]
        · rw [if_neg c2, if_neg c2]
  have hfl := wv_flip (f := three t0 t1 t2 0) (n := m) (fun j _ => by unfold three; split; exact h0; split; exact h1; split; exact h2; omega)
  rw [three_wv _ _ _ _ (show 3 ≤ m by omega)] at hfl
  rw [hm, ptw_wv, e, ← Nat.mul_add]
  have h3 : (2 : Nat) ^ 4864 = 2 ^ (64 * k) * 2 ^ (64 * m) := by rw [← Nat.pow_add]; congr 1; omega
  rw [h3, ← hfl]
  rw [Nat.mul_add _ (_ + _) 1, Nat.mul_one]
/-- What is shifted by n bits lies in three words. -/
theorem shift3 {high low n : Nat} (hn : n < 64) (hl : low < 18446744073709551616) (hh : high < 18446744073709551616) :
    low * 2 ^ n % 18446744073709551616 + ((high * 2 ^ n % 18446744073709551616) ||| (low / 2 ^ (64 - n))) * 18446744073709551616 + (high / 2 ^ (64 - n)) * 340282366920938463463374607431768211456 = (high * 18446744073709551616 + low) * 2 ^ n
    ∧ ((high * 2 ^ n % 18446744073709551616) ||| (low / 2 ^ (64 - n))) < 18446744073709551616 ∧ high / 2 ^ (64 - n) < 18446744073709551616 := by
  have hp : 2 ^ n * 2 ^ (64 - n) = 18446744073709551616 := by rw [← Nat.pow_add, show n + (64 - n) = 64 by omega]
  have hpn := Nat.two_pow_pos n
  have hpm := Nat.two_pow_pos (64 - n)
  have e1 : ∀ x : Nat, x * 2 ^ n = x * 2 ^ n % 18446744073709551616 + (x / 2 ^ (64 - n)) * 18446744073709551616 := by
    intro x
    have h1 := Nat.div_add_mod (x * 2 ^ n) 18446744073709551616
    have h2 : x * 2 ^ n / 18446744073709551616 = x / 2 ^ (64 - n) := by
      rw [← hp, Nat.mul_comm (2 ^ n), Nat.mul_div_mul_right _ _ hpn]
    rw [h2] at h1
    omega
  have hlo : low / 2 ^ (64 - n) < 2 ^ n := by rw [Nat.div_lt_iff_lt_mul hpm, hp]; exact hl
  have hor : (high * 2 ^ n % 18446744073709551616) ||| (low / 2 ^ (64 - n)) = high * 2 ^ n % 18446744073709551616 + low / 2 ^ (64 - n) := by
    have h1 : high * 2 ^ n % 18446744073709551616 = 2 ^ n * (high % 2 ^ (64 - n)) := by
      rw [← hp, Nat.mul_comm high, Nat.mul_mod_mul_left]
    rw [h1, Nat.two_pow_add_eq_or_of_lt hlo]
  have h1 := e1 low
  have h2 := e1 high
  have h3 : high * 2 ^ n % 18446744073709551616 + low / 2 ^ (64 - n) < 18446744073709551616 := by
    have h4 : high * 2 ^ n % 18446744073709551616 = 2 ^ n * (high % 2 ^ (64 - n)) := by
      rw [← hp, Nat.mul_comm high, Nat.mul_mod_mul_left]
    have h5 : high % 2 ^ (64 - n) + 1 ≤ 2 ^ (64 - n) := Nat.mod_lt _ hpm
    have h6 : 2 ^ n * (high % 2 ^ (64 - n) + 1) ≤ 2 ^ n * 2 ^ (64 - n) := Nat.mul_le_mul_left _ h5
    rw [hp, Nat.mul_add] at h6
    omega
  refine ⟨?_, by rw [hor]; exact h3, ?_⟩
  · have e3 : (high * 18446744073709551616 + low) * 2 ^ n = (high * 2 ^ n) * 18446744073709551616 + low * 2 ^ n := by
      rw [Nat.add_mul]; congr 1; ac_rfl
    rw [hor, e3]
    generalize high * 2 ^ n = A at *
    generalize low * 2 ^ n = B at *
    generalize high / 2 ^ (64 - n) = C at *
    generalize low / 2 ^ (64 - n) = D at *
    omega
  · exact Nat.lt_of_le_of_lt (Nat.div_le_self _ _) hh
end Go.Proofs.Ytbeaggmiefpgoaa
