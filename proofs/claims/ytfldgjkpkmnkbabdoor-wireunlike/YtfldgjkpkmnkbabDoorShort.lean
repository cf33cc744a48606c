import Derived.Test.YtfldgjkpkmnkbabDoorThings3
namespace Go.Proofs.YtfldgjkpkmnkbabDoor
open Go.RowKit
set_option linter.unusedVariables false

/-! ### a beginning that is shorter than the whole -/
theorem rdG_short (p : Int) : ∀ (f i k : Nat) (v : Int) (m : Nat), (grp m).length ≤ f → k < (grp m).length → rdG p f i v ((grp m).take k) = (0, 0, 10) := by
  intro f
  induction f with
  | zero => intro i k v m h; have := grp_pos m; omega
  | succ f ih =>
    intro i k v m hf hk
    cases k with
    | zero => simp only [List.take_zero, rdG]
    | succ k =>
      by_cases h : m < 128
      · rw [grp_small m h] at hk
        simp at hk
      · rw [grp_big m h] at hf hk ⊢
        simp only [List.length_cons] at hf hk
        simp only [rdG, List.take_succ_cons]
        rw [if_pos (by omega), ih (i + 1) k _ (m / 128) (by omega) (by omega)]
theorem rdU_short (m k : Nat) (hm : m < 2 ^ 63) (hk : k < (grp m).length) : rdU ((grp m).take k) 0 = (0, 0, 10) := by
  unfold rdU
  rw [if_neg (by omega)]
  exact rdG_short 0 9 0 k 0 m (grp_len 9 m (by omega) (by omega)) hk
theorem rdF_short (xs : List Int) (h : xs.length < 8) : rdF xs 0 = (0, 0, 10) := by
  unfold rdF
  rw [if_neg (by omega), if_pos (by simp; exact h)]
theorem rdT_short (s : ByteArray) (k : Nat) (hs : s.size ≤ 1048576) (hk : k < (grp s.size ++ strL s).length) : rdT ((grp s.size ++ strL s).take k) 0 1048576 = (⟨#[]⟩, 0, 10) := by
  rw [List.length_append, strL_len] at hk
  by_cases h : k < (grp s.size).length
  · have hx : (grp s.size ++ strL s).take k = (grp s.size).take k := by rw [List.take_append_of_le_length (by omega)]
    rw [hx]
    have hU := rdU_short s.size k (by omega) h
    unfold rdT
    rw [hU, if_neg (by omega), if_pos (by simp)]
  · have hx : (grp s.size ++ strL s).take k = [] ++ grp s.size ++ (strL s).take (k - (grp s.size).length) := by
      rw [List.take_append, List.take_of_length_le (by omega), List.nil_append]
    have hU := rdU_grp [] ((strL s).take (k - (grp s.size).length)) s.size (by omega)
    rw [← hx] at hU
    have hL : ((grp s.size ++ strL s).take k).length = k := by rw [List.length_take, List.length_append, strL_len]; omega
    simp only [List.length_nil, Int.natCast_zero, Int.zero_add] at hU
    unfold rdT
    rw [hU, hL, if_neg (by omega), if_neg (by simp), if_neg (by simp only; omega), if_pos (by simp only; omega)]
theorem rdR_short (xs : List Int) (k : Nat) (hx : xs.length ≤ 1048576) (hk : k < (frameB xs).length) : rdR ((frameB xs).take k) 0 = ([], 0, 10) := by
  rw [frame_len] at hk
  have hL : ((frameB xs).take k).length = k := by rw [List.length_take, frame_len]; omega
  by_cases h : k < 8
  · unfold rdR
    rw [hL, if_neg (by omega), if_pos (by simp; exact h)]
  · have h8 : ((frameB xs).take k).take 8 = low8 xs.length 4 ++ low8 (sum (low8 xs.length 4)) 4 := by
      rw [List.take_take, Nat.min_eq_left (by omega)]
      unfold frameB
      rw [List.append_assoc]
      exact List.take_left' (by rw [List.length_append, low8_len, low8_len])
    have h4 : ((frameB xs).take k).take 4 = low8 xs.length 4 := by
      rw [List.take_take, Nat.min_eq_left (by omega)]
      unfold frameB
      rw [List.append_assoc, List.append_assoc]
      exact List.take_left' (by rw [low8_len])
    have hU : leV (low8 xs.length 4) = xs.length := leV_low8 4 _ (by omega)
    unfold rdR
    rw [hL, if_neg (by omega), if_neg (by simp; omega)]
    simp only [Int.toNat_zero, List.drop_zero]
    rw [h8, h4, hU, if_neg (by rw [sumOk_low8]; simp), if_neg (by omega), if_pos (by omega)]
/-- Every beginning of what is written that is shorter than the whole is too short. -/
theorem short (q : Int) (m u : Nat) (s : ByteArray) (xs : List Int) (h : May m u s xs) (k : Nat) (hk : k < (wroteB q m u s xs).length) (n' : Int) (u' : Nat) (s' : ByteArray) (bs' : List Int) (p' e' : Int)
    (hR : ReadAs q ((wroteB q m u s xs).take k) 0 n' u' s' bs' p' e') : e' = 10 ∧ p' = 0 := by
  rcases hR with ⟨rfl, hR, _⟩ | ⟨rfl, hR, _⟩ | ⟨rfl, hR, _⟩ | ⟨rfl, hR, _⟩
  · have hw : wroteB 0 m u s xs = grp m := rfl
    rw [hw] at hR hk
    rw [rdU_short m k (by have := h.hm; omega) hk] at hR
    simp only [Prod.mk.injEq] at hR
    exact ⟨hR.2.2.symm, hR.2.1.symm⟩
  · have hw : wroteB 1 m u s xs = low8 u 8 := rfl
    rw [hw] at hR hk
    rw [low8_len] at hk
    rw [rdF_short _ (by rw [List.length_take, low8_len]; omega)] at hR
    simp only [Prod.mk.injEq] at hR
    exact ⟨hR.2.2.symm, hR.2.1.symm⟩
  · have hw : wroteB 2 m u s xs = grp s.size ++ strL s := rfl
    rw [hw] at hR hk
    rw [rdT_short s k h.size hk] at hR
    simp only [Prod.mk.injEq] at hR
    exact ⟨hR.2.2.symm, hR.2.1.symm⟩
  · have hw : wroteB 3 m u s xs = frameB xs := rfl
    rw [hw] at hR hk
    rw [rdR_short xs k h.len hk] at hR
    simp only [Prod.mk.injEq] at hR
    exact ⟨hR.2.2.symm, hR.2.1.symm⟩

/-! ### of two that are unlike neither begins the other -/
theorem readAs_some (q : Int) (hq0 : 0 ≤ q) (hq3 : q ≤ 3) (xs : List Int) (p : Int) : ∃ (n' : Int) (u' : Nat) (s' : ByteArray) (bs' : List Int) (p' e' : Int), ReadAs q xs p n' u' s' bs' p' e' := by
  by_cases h0 : q = 0
  · exact ⟨_, 0, ⟨#[]⟩, [], _, _, .inl ⟨h0, rfl, rfl, rfl, rfl⟩⟩
  by_cases h1 : q = 1
  · exact ⟨0, _, ⟨#[]⟩, [], _, _, .inr (.inl ⟨h1, rfl, rfl, rfl, rfl⟩)⟩
  by_cases h2 : q = 2
  · exact ⟨0, 0, _, [], _, _, .inr (.inr (.inl ⟨h2, rfl, rfl, rfl, rfl⟩))⟩
  · exact ⟨0, 0, ⟨#[]⟩, _, _, _, .inr (.inr (.inr ⟨by omega, rfl, rfl, rfl, rfl⟩))⟩
theorem begins (q : Int) (hq0 : 0 ≤ q) (hq3 : q ≤ 3) (m u : Nat) (s : ByteArray) (xs : List Int) (h : May m u s xs) (m' u' : Nat) (s' : ByteArray) (xs' : List Int) (h' : May m' u' s' xs') (ts : List Int)
    (he : wroteB q m' u' s' xs' = wroteB q m u s xs ++ ts) : (q = 0 → (m' : Int) = m) ∧ (q = 1 → (u' : Int) = u) ∧ (q = 2 → s' = s) ∧ (q = 3 → xs' = xs) := by
  obtain ⟨n0, u0, s0, bs0, p0, e0, hR⟩ := readAs_some q hq0 hq3 (wroteB q m' u' s' xs') 0
  obtain ⟨-, -, a0, a1, a2, a3⟩ := there q [] [] m' u' s' xs' h' n0 u0 s0 bs0 p0 e0 (by simpa using hR)
  rw [he] at hR
  obtain ⟨-, -, b0, b1, b2, b3⟩ := there q [] ts m u s xs h n0 u0 s0 bs0 p0 e0 (by simpa using hR)
  exact ⟨fun k => by rw [← a0 k, ← b0 k], fun k => by rw [← a1 k, ← b1 k], fun k => by rw [← a2 k, ← b2 k], fun k => by rw [← a3 k, ← b3 k]⟩
theorem alikeB_iff (q : Int) (hq0 : 0 ≤ q) (hq3 : q ≤ 3) (m u : Nat) (s : ByteArray) (xs : List Int) (m' u' : Nat) (s' : ByteArray) (xs' : List Int) (h : alikeB q m m' u u' s s' xs xs' = true) :
    wroteB q m u s xs = wroteB q m' u' s' xs' := by
  unfold alikeB at h
  unfold wroteB
  by_cases h0 : q = 0
  · rw [if_pos h0] at h ⊢
    rw [if_pos h0]
    have : m = m' := by simp at h; omega
    rw [this]
  by_cases h1 : q = 1
  · rw [if_neg h0, if_pos h1] at h ⊢
    rw [if_neg h0, if_pos h1]
    have : u = u' := by simp at h; omega
    rw [this]
  by_cases h2 : q = 2
  · rw [if_neg h0, if_neg h1, if_pos h2] at h ⊢
    rw [if_neg h0, if_neg h1, if_pos h2]
    have : s = s' := by
      by_cases e : s = s'
      · exact e
      · have := toList_ne e
        rw [h] at this
        cases this
    rw [this]
  rw [if_neg h0, if_neg h1, if_neg h2] at h ⊢
  rw [if_neg h0, if_neg h1, if_neg h2, of_decide_eq_true h]
/-- The beginnings of one length are the same just if the things are alike. -/
theorem unlike (q : Int) (hq0 : 0 ≤ q) (hq3 : q ≤ 3) (m u : Nat) (s : ByteArray) (xs : List Int) (h : May m u s xs) (m' u' : Nat) (s' : ByteArray) (xs' : List Int) (h' : May m' u' s' xs') (n : Nat)
    (hn : n = min (wroteB q m u s xs).length (wroteB q m' u' s' xs').length) :
    decide ((wroteB q m u s xs).take n = (wroteB q m' u' s' xs').take n) = alikeB q m m' u u' s s' xs xs' := by
  cases ha : alikeB q m m' u u' s s' xs xs' with
  | true =>
    rw [alikeB_iff q hq0 hq3 m u s xs m' u' s' xs' ha]
    simp
  | false =>
    apply decide_eq_false
    intro he
    have key : alikeB q m m' u u' s s' xs xs' = true := by
      by_cases hl : (wroteB q m u s xs).length ≤ (wroteB q m' u' s' xs').length
      · have e1 : wroteB q m' u' s' xs' = wroteB q m u s xs ++ (wroteB q m' u' s' xs').drop n := by
          conv => lhs; rw [← List.take_append_drop n (wroteB q m' u' s' xs'), ← he]
          rw [List.take_of_length_le (by omega)]
        obtain ⟨c0, c1, c2, c3⟩ := begins q hq0 hq3 m u s xs h m' u' s' xs' h' _ e1
        exact alikeB_of c0 c1 c2 c3 hq0 hq3
      · have e1 : wroteB q m u s xs = wroteB q m' u' s' xs' ++ (wroteB q m u s xs).drop n := by
          conv => lhs; rw [← List.take_append_drop n (wroteB q m u s xs), he]
          rw [List.take_of_length_le (by omega)]
        obtain ⟨c0, c1, c2, c3⟩ := begins q hq0 hq3 m' u' s' xs' h' m u s xs h _ e1
        exact alikeB_of (fun k => (c0 k).symm) (fun k => (c1 k).symm) (fun k => (c2 k).symm) (fun k => (c3 k).symm) hq0 hq3
    rw [ha] at key
    cases key
end Go.Proofs.YtfldgjkpkmnkbabDoor
