import Derived.Test.YtfldgjkpkmnkbabDoorCrcTells
namespace Go.Proofs.YtfldgjkpkmnkbabDoor
open Go.RowKit
set_option linter.unusedVariables false

/-! ### bits turned over, one behind the other -/
def flips (xs : List Int) (ks : List Nat) : List Int := ks.foldl flip xs
def pows : List Nat → Nat
  | [] => 0
  | k :: ks => 2 ^ k ^^^ pows ks
theorem flips_len (ks : List Nat) : ∀ xs, (flips xs ks).length = xs.length := by
  induction ks with
  | nil => intro xs; rfl
  | cons k ks ih => intro xs; show (flips (flip xs k) ks).length = _; rw [ih, flip_len]
theorem flips_byt (ks : List Nat) : ∀ xs, Byt xs → Byt (flips xs ks) := by
  induction ks with
  | nil => intro xs h; exact h
  | cons k ks ih => intro xs h; exact ih _ (flip_byt xs h k)
theorem flips_leV (ks : List Nat) : ∀ xs, Byt xs → (∀ k ∈ ks, k < 8 * xs.length) → leV (flips xs ks) = leV xs ^^^ pows ks := by
  induction ks with
  | nil => intro xs h _; show leV xs = leV xs ^^^ 0; rw [Nat.xor_zero]
  | cons k ks ih =>
    intro xs h hk
    show leV (flips (flip xs k) ks) = leV xs ^^^ (2 ^ k ^^^ pows ks)
    rw [ih _ (flip_byt xs h k) (fun j hj => by rw [flip_len]; exact hk j (List.mem_cons_of_mem _ hj)), flip_leV xs h k (hk k List.mem_cons_self), Nat.xor_assoc]
theorem flips_snoc (xs : List Int) (ks : List Nat) (k : Nat) : flips xs (ks ++ [k]) = flip (flips xs ks) k := by
  unfold flips; rw [List.foldl_append]; rfl
theorem flip_append (hs bs : List Int) : ∀ k, flip (hs ++ bs) k = if k < 8 * hs.length then flip hs k ++ bs else hs ++ flip bs (k - 8 * hs.length) := by
  induction hs with
  | nil => intro k; rw [if_neg (by simp)]; simp
  | cons c cs ih =>
    intro k
    simp only [List.cons_append, flip, List.length_cons]
    by_cases h8 : k < 8
    · rw [if_pos h8, if_pos (by omega), if_pos h8]; rfl
    · rw [if_neg h8, ih]
      by_cases hk : k < 8 * (cs.length + 1)
      · rw [if_pos (by omega), if_pos hk, if_neg h8]; rfl
      · rw [if_neg (by omega), if_neg hk, show k - 8 - 8 * cs.length = k - 8 * (cs.length + 1) from by omega]
/-- A bit of a byte, as it is stored. -/
theorem flip_set (xs : List Int) : ∀ k, k < 8 * xs.length → flip xs k = xs.set (k / 8) (((xs[k / 8]?.getD 0).toNat ^^^ 2 ^ (k % 8) : Nat) : Int) := by
  induction xs with
  | nil => intro k hk; simp at hk
  | cons c cs ih =>
    intro k hk
    rw [List.length_cons] at hk
    simp only [flip]
    by_cases h8 : k < 8
    · rw [if_pos h8, show k / 8 = 0 from by omega, show k % 8 = k from by omega]
      rfl
    · rw [if_neg h8, ih (k - 8) (by omega), show k / 8 = (k - 8) / 8 + 1 from by omega, show k % 8 = (k - 8) % 8 from by omega]
      rfl

/-! ### one to three bits -/
theorem pows_told (N : Nat) (hN : N ≤ 163840) (ks : List Nat) (hn : ks.Nodup) (hk : ∀ k ∈ ks, k < N) (h0 : ks ≠ []) (h3 : ks.length ≤ 3) : stpN N (pows ks) ≠ 0 := by
  match ks, h0, h3 with
  | [a], _, _ =>
    have := tells1 N a (hk a (by simp))
    simpa [pows] using this
  | [a, b], _, _ =>
    have ha := hk a (by simp)
    have hb := hk b (by simp)
    have hab : a ≠ b := by simp at hn; exact hn
    simp only [pows, Nat.xor_zero]
    by_cases h : a < b
    · exact tells2 N a b hb h hN
    · rw [Nat.xor_comm]
      exact tells2 N b a ha (by omega) hN
  | [a, b, c], _, _ =>
    have := tells3 N a b c (hk a (by simp)) (hk b (by simp)) (hk c (by simp))
    simp only [pows, Nat.xor_zero]
    rw [← Nat.xor_assoc]
    exact this
/-! ### some within 32 -/
theorem pows_shift (a : Nat) (is : List Nat) : pows (is.map (a + ·)) = 2 ^ a * pows is := by
  induction is with
  | nil => simp [pows]
  | cons i is ih =>
    simp only [List.map_cons, pows, ih]
    rw [Nat.pow_add]
    apply Nat.eq_of_testBit_eq
    intro j
    rw [Nat.testBit_two_pow_mul, Nat.testBit_xor, Nat.testBit_xor, Nat.testBit_two_pow_mul, Nat.testBit_two_pow_mul]
    by_cases hj : a ≤ j <;> simp [hj]
theorem pows_bit (is : List Nat) (hn : is.Nodup) (j : Nat) : (pows is).testBit j = decide (j ∈ is) := by
  induction is with
  | nil => simp [pows]
  | cons i is ih =>
    simp only [pows]
    rw [Nat.testBit_xor, ih (List.nodup_cons.1 hn).2, Nat.testBit_two_pow]
    by_cases h : i = j
    · subst h
      have := (List.nodup_cons.1 hn).1
      simp [this]
    · simp [h, Ne.symm h]
theorem pows_lt (is : List Nat) (h : ∀ i ∈ is, i < 32) : pows is < 4294967296 := by
  induction is with
  | nil => decide
  | cons i is ih =>
    have h1 := h i List.mem_cons_self
    have h2 : 2 ^ i < 4294967296 := Nat.pow_lt_pow_right (by decide) h1
    exact xor_lt32 h2 (ih (fun j hj => h j (List.mem_cons_of_mem _ hj)))
theorem burst_told (N a : Nat) (ha : a ≤ N) (is : List Nat) (hn : is.Nodup) (h : ∀ i ∈ is, i < 32) (h0 : is ≠ []) : stpN N (pows (is.map (a + ·))) ≠ 0 := by
  rw [pows_shift]
  refine tellsB N a _ ha ?_ (pows_lt is h)
  intro he
  match is, h0 with
  | i :: is', _ =>
    have := pows_bit (i :: is') hn i
    rw [he] at this
    simp at this

/-! ### a frame -/
def headB (n : Nat) : List Int := low8 n 4 ++ low8 (sum (low8 n 4)) 4
def tailB (xs : List Int) : List Int := xs ++ low8 (sum xs) 4
theorem frame_two (xs : List Int) : frameB xs = headB xs.length ++ tailB xs := by unfold frameB headB tailB; simp only [List.append_assoc]
theorem head_len (n : Nat) : (headB n).length = 8 := by unfold headB; rw [List.length_append, low8_len, low8_len]
theorem tail_len (xs : List Int) : (tailB xs).length = xs.length + 4 := by unfold tailB; rw [List.length_append, low8_len]
theorem head_byt (n : Nat) : Byt (headB n) := (low8_byt _ _).append (low8_byt _ _)
theorem tail_byt {xs : List Int} (h : Byt xs) : Byt (tailB xs) := h.append (low8_byt _ _)
theorem rdR_head (hs bs : List Int) (hl : hs.length = 8) (h : sumOk hs = false) : rdR (hs ++ bs) 0 = ([], 0, 16) := by
  unfold rdR
  have e : ((hs ++ bs).drop (0 : Int).toNat).take 8 = hs := by
    show (hs ++ bs).take 8 = hs
    exact List.take_left' hl
  rw [if_neg (by omega), if_neg (by rw [List.length_append, hl]; show ¬ _ < 0 + 8; omega), e, if_pos h]
theorem rdR_tail (n : Nat) (ts bs : List Int) (hn : n ≤ 1048576) (hl : ts.length = n + 4) (h : sumOk ts = false) : rdR (headB n ++ (ts ++ bs)) 0 = ([], 0, 16) := by
  have hL : (headB n ++ (ts ++ bs)).length = 8 + (n + 4 + bs.length) := by rw [List.length_append, List.length_append, head_len, hl]
  have e8 : (headB n ++ (ts ++ bs)).take 8 = headB n := List.take_left' (head_len n)
  have e4 : (headB n ++ (ts ++ bs)).take 4 = low8 n 4 := by unfold headB; rw [List.append_assoc]; exact List.take_left' (low8_len 4 n)
  have d8 : (headB n ++ (ts ++ bs)).drop 8 = ts ++ bs := List.drop_left' (head_len n)
  have hU : leV (low8 n 4) = n := leV_low8 4 _ (by omega)
  have hok : sumOk (headB n) = true := sumOk_low8 (low8 n 4)
  have et : (ts ++ bs).take (n + 4) = ts := List.take_left' hl
  unfold rdR
  rw [hL, if_neg (by omega)]
  simp only [Int.toNat_zero, List.drop_zero, Nat.zero_add]
  rw [if_neg (by omega), e8, hok, if_neg (by simp), e4, hU, if_neg (by omega), if_neg (by omega), d8, et, if_pos h]
/-- Bits of a frame that are turned over: those of the head and those behind. -/
theorem flips_two (n : Nat) (ts : List Int) (ks : List Nat) : flips (headB n ++ ts) ks = flips (headB n) (ks.filter (· < 64)) ++ flips ts ((ks.filter (64 ≤ ·)).map (· - 64)) := by
  have key : ∀ (ks : List Nat) (hs ts : List Int), hs.length = 8 → flips (hs ++ ts) ks = flips hs (ks.filter (· < 64)) ++ flips ts ((ks.filter (64 ≤ ·)).map (· - 64)) := by
    intro ks
    induction ks with
    | nil => intro hs ts _; rfl
    | cons k ks ih =>
      intro hs ts hl
      show flips (flip (hs ++ ts) k) ks = _
      rw [flip_append, hl]
      by_cases hk : k < 64
      · rw [if_pos (by omega), ih _ _ (by rw [flip_len]; exact hl), List.filter_cons_of_pos (by simpa using hk), List.filter_cons_of_neg (by simp; omega)]
        rfl
      · rw [if_neg (by omega), ih _ _ hl, List.filter_cons_of_neg (by simpa using hk), List.filter_cons_of_pos (by simp; omega)]
        rfl
  exact key ks _ ts (head_len n)
theorem sumOk_flips (xs : List Int) (hx : Byt xs) (h4 : 4 ≤ xs.length) (hok : sumOk xs = true) (ks : List Nat) (hk : ∀ k ∈ ks, k < 8 * xs.length) (hne : stpN (8 * xs.length) (pows ks) ≠ 0) : sumOk (flips xs ks) = false :=
  sumOk_turned xs _ hx (flips_byt ks xs hx) (flips_len ks xs) h4 hok _ (flips_leV ks xs hx hk) hne
theorem nodup_sub {ks : List Nat} (h : ks.Nodup) (p : Nat → Bool) (hp : ∀ k, p k = true → 64 ≤ k) : ((ks.filter p).map (· - 64)).Nodup := by
  induction ks with
  | nil => simp
  | cons k ks ih =>
    have hn := List.nodup_cons.1 h
    by_cases hk : p k = true
    · rw [List.filter_cons_of_pos hk, List.map_cons, List.nodup_cons]
      refine ⟨?_, ih hn.2⟩
      intro hm
      obtain ⟨j, hj, he⟩ := List.mem_map.1 hm
      have hj' := List.mem_filter.1 hj
      have h1 := hp k hk
      have h2 := hp j hj'.2
      have : j = k := by omega
      subst this
      exact hn.1 hj'.1
    · rw [List.filter_cons_of_neg hk]
      exact ih hn.2
/-- One to three bits of a frame are told. -/
theorem three_told (xs bs : List Int) (hb : Byt xs) (hx : xs.length ≤ 20000) (ks : List Nat) (hn : ks.Nodup) (hk : ∀ k ∈ ks, k < 8 * (frameB xs).length) (h0 : ks ≠ []) (h3 : ks.length ≤ 3) : rdR (flips (frameB xs) ks ++ bs) 0 = ([], 0, 16) := by
  rw [frame_two] at hk ⊢
  rw [List.length_append, head_len, tail_len] at hk
  rw [flips_two, List.append_assoc]
  by_cases hh : ks.filter (· < 64) = []
  · rw [hh]
    show rdR (headB xs.length ++ _) 0 = _
    refine rdR_tail xs.length _ bs (by omega) (by rw [flips_len, tail_len]) ?_
    refine sumOk_flips _ (tail_byt hb) (by rw [tail_len]; omega) (sumOk_low8 xs) _ ?_ ?_
    · intro k hk'
      obtain ⟨j, hj, rfl⟩ := List.mem_map.1 hk'
      have hj' := List.mem_filter.1 hj
      have h1 := hk j hj'.1
      have h2 : 64 ≤ j := by simpa using hj'.2
      rw [tail_len]
      omega
    · refine pows_told _ (by rw [tail_len]; omega) _ (nodup_sub hn _ (fun k hk => by simpa using hk)) ?_ ?_ ?_
      · intro k hk'
        obtain ⟨j, hj, rfl⟩ := List.mem_map.1 hk'
        have hj' := List.mem_filter.1 hj
        have h1 := hk j hj'.1
        have h2 : 64 ≤ j := by simpa using hj'.2
        rw [tail_len]
        omega
      · intro he
        have he' : ks.filter (64 ≤ ·) = [] := by simpa using he
        obtain ⟨k, hkm⟩ := List.exists_mem_of_ne_nil ks h0
        have a1 := List.filter_eq_nil_iff.1 hh k hkm
        have a2 := List.filter_eq_nil_iff.1 he' k hkm
        simp at a1 a2
        omega
      · rw [List.length_map]
        exact Nat.le_trans (List.length_filter_le _ _) h3
  · refine rdR_head _ _ (by rw [flips_len, head_len]) ?_
    refine sumOk_flips _ (head_byt _) (by rw [head_len]; omega) (sumOk_low8 _) _ ?_ ?_
    · intro k hk'
      have := (List.mem_filter.1 hk').2
      rw [head_len]
      simpa using this
    · refine pows_told _ (by rw [head_len]; omega) _ (hn.filter _) ?_ hh (Nat.le_trans (List.length_filter_le _ _) h3)
      intro k hk'
      have := (List.mem_filter.1 hk').2
      rw [head_len]
      simpa using this
/-- Some bits within 32 of the head, or of what stands behind it, are told. -/
theorem burst_head (xs bs : List Int) (a : Nat) (is : List Nat) (hn : is.Nodup) (h : ∀ i ∈ is, i < 32) (h64 : ∀ i ∈ is, a + i < 64) (h0 : is ≠ []) : rdR (flips (frameB xs) (is.map (a + ·)) ++ bs) 0 = ([], 0, 16) := by
  have f1 : (is.map (a + ·)).filter (· < 64) = is.map (a + ·) := List.filter_eq_self.2 (fun k hk => by obtain ⟨i, hi, rfl⟩ := List.mem_map.1 hk; simpa using h64 i hi)
  have f2 : (is.map (a + ·)).filter (64 ≤ ·) = [] := List.filter_eq_nil_iff.2 (fun k hk => by obtain ⟨i, hi, rfl⟩ := List.mem_map.1 hk; have := h64 i hi; simp; omega)
  have ha : a ≤ 64 := by
    obtain ⟨i, hi⟩ := List.exists_mem_of_ne_nil is h0
    have := h64 i hi
    omega
  rw [frame_two, flips_two, f1, f2, List.append_assoc]
  refine rdR_head _ _ (by rw [flips_len, head_len]) ?_
  refine sumOk_flips _ (head_byt _) (by rw [head_len]; omega) (sumOk_low8 _) _ ?_ (burst_told _ a (by rw [head_len]; omega) is hn h h0)
  intro k hk
  obtain ⟨i, hi, rfl⟩ := List.mem_map.1 hk
  have := h64 i hi
  rw [head_len]
  omega
theorem burst_tail (xs bs : List Int) (hb : Byt xs) (hx : xs.length ≤ 20000) (a : Nat) (ha : 64 ≤ a) (is : List Nat) (hn : is.Nodup) (h : ∀ i ∈ is, i < 32) (hN : ∀ i ∈ is, a + i < 8 * (frameB xs).length) (h0 : is ≠ []) : rdR (flips (frameB xs) (is.map (a + ·)) ++ bs) 0 = ([], 0, 16) := by
  rw [frame_two, List.length_append, head_len, tail_len] at hN
  have f1 : (is.map (a + ·)).filter (· < 64) = [] := List.filter_eq_nil_iff.2 (fun k hk => by obtain ⟨i, hi, rfl⟩ := List.mem_map.1 hk; simp; omega)
  have f2 : (is.map (a + ·)).filter (64 ≤ ·) = is.map (a + ·) := List.filter_eq_self.2 (fun k hk => by obtain ⟨i, hi, rfl⟩ := List.mem_map.1 hk; simp; omega)
  have f3 : (is.map (a + ·)).map (· - 64) = is.map ((a - 64) + ·) := by
    rw [List.map_map]
    apply List.map_congr_left
    intro i hi
    simp only [Function.comp]
    omega
  have ha2 : a - 64 ≤ 8 * (xs.length + 4) := by
    obtain ⟨i, hi⟩ := List.exists_mem_of_ne_nil is h0
    have := hN i hi
    omega
  rw [frame_two, flips_two, f1, f2, f3, List.append_assoc]
  show rdR (headB xs.length ++ _) 0 = _
  refine rdR_tail xs.length _ bs (by omega) (by rw [flips_len, tail_len]) ?_
  refine sumOk_flips _ (tail_byt hb) (by rw [tail_len]; omega) (sumOk_low8 xs) _ ?_ (burst_told _ (a - 64) (by rw [tail_len]; exact ha2) is hn h h0)
  intro k hk
  obtain ⟨i, hi, rfl⟩ := List.mem_map.1 hk
  have := hN i hi
  rw [tail_len]
  omega
end Go.Proofs.YtfldgjkpkmnkbabDoor
