import Derived.Test.YtpinpcefgbhdmaaDoorRefAt
import Derived.Lib.RuneCountTail
namespace Go.Proofs.YtpinpcefgbhdmaaDoor
open Go.RowKit
set_option linter.unusedVariables false

theorem dec_tail (s : ByteArray) (i : Nat) (h : i < s.size) : Lib.decodeGo (s.extract i s.size) = Utf8.decode s i := by
  have hsz : (s.extract i s.size).size = s.size - i := by simp [ByteArray.size_extract]
  unfold Lib.decodeGo
  rw [if_neg (by rw [hsz]; omega), Lib.decode_at, Lib.decode_at, hsz]
  simp only [Lib.tail_get!, Nat.sub_zero, Nat.add_zero, Nat.zero_add]
  try rfl

theorem decN_bad (n b0 b1 b2 b3 : Nat) (h : (Lib.decodeN n b0 b1 b2 b3).1 = 65533) (h2 : (Lib.decodeN n b0 b1 b2 b3).2 < 3) (h0 : b0 < 256) : Lib.decodeN n b0 b1 b2 b3 = (65533, 1) := by
  revert h h2
  unfold Lib.decodeN
  repeat' split
  all_goals intro h h2
  all_goals first | rfl | (exfalso; simp only at h h2; omega)

/-- What stands at a place: the code point and its bytes; nothing: (0, 0). -/
def goodAt (s : ByteArray) (i : Nat) : Int × Int := if Utf8.decode s i = (65533, 1) then (0, 0) else (((Utf8.decode s i).1 : Int), ((Utf8.decode s i).2 : Int))
theorem badAt_eq (s : ByteArray) (i : Nat) (h : i < s.size) : badAt s i = decide (Utf8.decode s i = (65533, 1)) := by
  unfold badAt
  rw [dec_tail s i h]
  by_cases k : Utf8.decode s i = (65533, 1)
  · rw [k]; rfl
  · rw [decide_eq_false k]
    by_cases k1 : (Utf8.decode s i).1 = 65533
    · by_cases k2 : (Utf8.decode s i).2 < 3
      · exfalso
        apply k
        rw [Lib.decode_at] at k1 k2 ⊢
        exact decN_bad _ _ _ _ _ k1 k2 (UInt8.toNat_lt _)
      · simp [k2]
    · simp [k1]

theorem strB_extract (ys : List Int) (s : ByteArray) (i n : Nat) (hl : ys.length = n) (hb : Byt ys) (hi : i + n ≤ s.size) (h : ∀ j, j < n → ys[j]?.getD 0 = (by' s (i + j) : Int)) : strB ys = s.extract i (i + n) := by
  have e : (s.extract i (i + n)) = ⟨s.data.extract i (i + n)⟩ := by
    cases s; simp [ByteArray.extract, ByteArray.copySlice]
  rw [e]
  unfold strB
  congr 1
  apply Array.ext
  · simp [hl]; have : s.data.size = s.size := rfl; omega
  · intro j h1 h2
    have hj : j < n := by simpa [hl] using h1
    have hk := h j hj
    rw [List.getElem?_eq_getElem (by omega)] at hk
    simp only [Option.getD_some] at hk
    have hs : i + j < s.size := by omega
    rw [by'_eq s (i + j) hs] at hk
    simp only [List.getElem_toArray, List.getElem_map, hk, Int.toNat_natCast, Array.getElem_extract]
    rw [UInt8.ofNat_toNat]
    rfl
theorem good_bad (s : ByteArray) (i : Nat) (h : Utf8.decode s i = (65533, 1)) : goodAt s i = (0, 0) := by unfold goodAt; rw [if_pos h]
theorem good_some (s : ByteArray) (i a k : Nat) (h : Utf8.decode s i = (a, k)) (hn : ¬ (a = 65533 ∧ k = 1)) : goodAt s i = ((a : Int), (k : Int)) := by
  unfold goodAt; rw [if_neg (by rw [h]; simpa using hn), h]
set_option maxRecDepth 100000 in
set_option maxHeartbeats 4000000 in
theorem decN_four (n b0 b1 b2 b3 : Nat) (h0 : 240 ≤ b0) (h : b0 < 256) : Lib.decodeN n b0 b1 b2 b3 =
    if b0 < 248 ∧ (1 < n ∧ 128 ≤ b1 ∧ b1 ≤ 191) ∧ (2 < n ∧ 128 ≤ b2 ∧ b2 ≤ 191) ∧ (3 < n ∧ 128 ≤ b3 ∧ b3 ≤ 191) ∧ 65536 ≤ (b0 - 240) * 262144 + (b1 - 128) * 4096 + (b2 - 128) * 64 + (b3 - 128) ∧ (b0 - 240) * 262144 + (b1 - 128) * 4096 + (b2 - 128) * 64 + (b3 - 128) ≤ 1114111
    then ((b0 - 240) * 262144 + (b1 - 128) * 4096 + (b2 - 128) * 64 + (b3 - 128), 4) else (65533, 1) := by
  unfold Lib.decodeN
  repeat' split
  all_goals first | (exfalso; omega) | (apply Prod.ext <;> simp only <;> omega)
set_option maxRecDepth 100000 in
set_option maxHeartbeats 4000000 in
theorem decN_three (n b0 b1 b2 b3 : Nat) (h0 : 224 ≤ b0) (h : b0 < 240) : Lib.decodeN n b0 b1 b2 b3 =
    if (1 < n ∧ 128 ≤ b1 ∧ b1 ≤ 191) ∧ (2 < n ∧ 128 ≤ b2 ∧ b2 ≤ 191) ∧ 2048 ≤ (b0 - 224) * 4096 + (b1 - 128) * 64 + (b2 - 128) ∧ ((b0 - 224) * 4096 + (b1 - 128) * 64 + (b2 - 128) < 55296 ∨ 57343 < (b0 - 224) * 4096 + (b1 - 128) * 64 + (b2 - 128))
    then ((b0 - 224) * 4096 + (b1 - 128) * 64 + (b2 - 128), 3) else (65533, 1) := by
  unfold Lib.decodeN
  repeat' split
  all_goals first | (exfalso; omega) | (apply Prod.ext <;> simp only <;> omega)
set_option maxRecDepth 100000 in
set_option maxHeartbeats 4000000 in
theorem decN_two (n b0 b1 b2 b3 : Nat) (h0 : 192 ≤ b0) (h : b0 < 224) : Lib.decodeN n b0 b1 b2 b3 =
    if (1 < n ∧ 128 ≤ b1 ∧ b1 ≤ 191) ∧ 128 ≤ (b0 - 192) * 64 + (b1 - 128) then ((b0 - 192) * 64 + (b1 - 128), 2) else (65533, 1) := by
  unfold Lib.decodeN
  repeat' split
  all_goals first | (exfalso; omega) | (apply Prod.ext <;> simp only <;> omega)
theorem decN_one (n b0 b1 b2 b3 : Nat) (h : b0 < 192) : Lib.decodeN n b0 b1 b2 b3 = if b0 < 128 then (b0, 1) else (65533, 1) := by
  unfold Lib.decodeN
  repeat' split
  all_goals first | (exfalso; omega) | (apply Prod.ext <;> simp only <;> omega)

theorem ptB_neg (p : Int) (h : p < 0 ∨ 1114111 < p ∨ (55296 ≤ p ∧ p ≤ 57343)) : ptB p = [] := by unfold ptB; rw [if_pos h]
theorem ptB_1 (p : Int) (h0 : 0 ≤ p) (h : p < 128) : ptB p = [p] := by unfold ptB; rw [if_neg (by omega), if_pos h]
theorem ptB_2 (p : Int) (h0 : 128 ≤ p) (h : p < 2048) : ptB p = [192 + p / 64, 128 + p % 64] := by unfold ptB; rw [if_neg (by omega), if_neg (by omega), if_pos h]
theorem ptB_3 (p : Int) (h0 : 2048 ≤ p) (h : p < 65536) (h2 : p < 55296 ∨ 57343 < p) : ptB p = [224 + p / 4096, 128 + p / 64 % 64, 128 + p % 64] := by unfold ptB; rw [if_neg (by omega), if_neg (by omega), if_neg (by omega), if_pos h]
theorem ptB_4 (p : Int) (h0 : 65536 ≤ p) (h : p ≤ 1114111) : ptB p = [240 + p / 262144, 128 + p / 4096 % 64, 128 + p / 64 % 64, 128 + p % 64] := by unfold ptB; rw [if_neg (by omega), if_neg (by omega), if_neg (by omega), if_neg (by omega)]
theorem ptB_le (p : Int) (h : p < 65536) : (ptB p).length ≠ 4 := by
  unfold ptB
  repeat' split
  all_goals first | (simp; done) | omega
theorem ptB_lt3 (p : Int) (h : p < 2048) : (ptB p).length ≠ 3 := by
  unfold ptB
  repeat' split
  all_goals first | (simp; done) | omega
theorem ptB_lt2 (p : Int) (h : p < 128) : (ptB p).length ≠ 2 := by
  unfold ptB
  repeat' split
  all_goals first | (simp; done) | omega
theorem ptB_gt1 (p : Int) (h : 128 ≤ p) : (ptB p).length ≠ 1 := by
  unfold ptB
  repeat' split
  all_goals first | (simp; done) | omega

theorem res_one (s : ByteArray) (i : Nat) (hi : i < s.size) (c : Nat) (hc : by' s i = c) (h1 : c < 192) : atRes s i (c : Int) 1 = goodAt s i := by
  have hd := Lib.decode_at s i
  change Utf8.decode s i = Lib.decodeN (s.size - i) (by' s i) (by' s (i + 1)) (by' s (i + 2)) (by' s (i + 3)) at hd
  rw [hc, decN_one _ _ _ _ _ h1] at hd
  by_cases k : c < 128
  · rw [if_pos k] at hd
    rw [good_some s i _ _ hd (by omega)]
    have e := ptB_1 (c : Int) (by omega) (by omega)
    refine atRes_eq s i _ 1 (by omega) (by rw [e]; rfl) (strB_extract _ s i 1 (by rw [e]; rfl) (ptB_byt _) (by omega) ?_)
    intro j hj
    have : j = 0 := by omega
    subst this
    rw [e, Nat.add_zero, hc]
    rfl
  · rw [if_neg k] at hd
    rw [good_bad s i hd]
    exact atRes_len s i _ 1 (ptB_gt1 _ (by omega))

theorem res_two (s : ByteArray) (i : Nat) (hi : i < s.size) (c : Nat) (hc : by' s i = c) (h0 : 192 ≤ c) (h1 : c < 224) : atRes s i (((c : Int) - 192) * 64 + lowV s (i + 1)) 2 = goodAt s i := by
  have hd := Lib.decode_at s i
  change Utf8.decode s i = Lib.decodeN (s.size - i) (by' s i) (by' s (i + 1)) (by' s (i + 2)) (by' s (i + 3)) at hd
  rw [hc, decN_two _ _ _ _ _ h0 h1] at hd
  by_cases k1 : i + 1 < s.size ∧ 128 ≤ by' s (i + 1) ∧ by' s (i + 1) ≤ 191
  · rw [lowV_some s (i + 1) k1.1 k1.2.1 k1.2.2]
    generalize hb1 : by' s (i + 1) = b1 at *
    by_cases k : 128 ≤ (c - 192) * 64 + (b1 - 128)
    · rw [if_pos (by omega)] at hd
      rw [good_some s i _ _ hd (by omega)]
      have ep : ((c : Int) - 192) * 64 + ((b1 : Int) - 128) = (((c - 192) * 64 + (b1 - 128) : Nat) : Int) := by omega
      rw [ep]
      generalize hp : (c - 192) * 64 + (b1 - 128) = p at *
      have e := ptB_2 (p : Int) (by omega) (by omega)
      refine atRes_eq s i _ 2 (by omega) (by rw [e]; rfl) (strB_extract _ s i 2 (by rw [e]; rfl) (ptB_byt _) (by omega) ?_)
      intro j hj
      rw [e]
      match j, hj with
      | 0, _ => rw [Nat.add_zero, hc]; simp; omega
      | 1, _ => rw [hb1]; simp; omega
    · rw [if_neg (by omega)] at hd
      rw [good_bad s i hd]
      exact atRes_len s i _ 2 (ptB_lt2 _ (by omega))
  · rw [if_neg (by omega)] at hd
    rw [good_bad s i hd, lowV_none s (i + 1) (by omega)]
    exact atRes_len s i _ 2 (ptB_lt2 _ (by omega))

theorem res_three (s : ByteArray) (i : Nat) (hi : i < s.size) (c : Nat) (hc : by' s i = c) (h0 : 224 ≤ c) (h1 : c < 240) : atRes s i (((c : Int) - 224) * 4096 + lowV s (i + 1) * 64 + lowV s (i + 2)) 3 = goodAt s i := by
  have hd := Lib.decode_at s i
  change Utf8.decode s i = Lib.decodeN (s.size - i) (by' s i) (by' s (i + 1)) (by' s (i + 2)) (by' s (i + 3)) at hd
  rw [hc, decN_three _ _ _ _ _ h0 h1] at hd
  have g1 := lowV_ge s (i + 1)
  have g2 := lowV_ge s (i + 2)
  by_cases k1 : i + 1 < s.size ∧ 128 ≤ by' s (i + 1) ∧ by' s (i + 1) ≤ 191
  · by_cases k2 : i + 2 < s.size ∧ 128 ≤ by' s (i + 2) ∧ by' s (i + 2) ≤ 191
    · rw [lowV_some s (i + 1) k1.1 k1.2.1 k1.2.2, lowV_some s (i + 2) k2.1 k2.2.1 k2.2.2]
      clear g1 g2
      generalize hb1 : by' s (i + 1) = b1 at *
      generalize hb2 : by' s (i + 2) = b2 at *
      have ep : ((c : Int) - 224) * 4096 + ((b1 : Int) - 128) * 64 + ((b2 : Int) - 128) = (((c - 224) * 4096 + (b1 - 128) * 64 + (b2 - 128) : Nat) : Int) := by omega
      rw [ep]
      by_cases k : 2048 ≤ (c - 224) * 4096 + (b1 - 128) * 64 + (b2 - 128) ∧ ((c - 224) * 4096 + (b1 - 128) * 64 + (b2 - 128) < 55296 ∨ 57343 < (c - 224) * 4096 + (b1 - 128) * 64 + (b2 - 128))
      · rw [if_pos (by omega)] at hd
        rw [good_some s i _ _ hd (by omega)]
        generalize hp : (c - 224) * 4096 + (b1 - 128) * 64 + (b2 - 128) = p at *
        have e := ptB_3 (p : Int) (by omega) (by omega) (by omega)
        refine atRes_eq s i _ 3 (by omega) (by rw [e]; rfl) (strB_extract _ s i 3 (by rw [e]; rfl) (ptB_byt _) (by omega) ?_)
        intro j hj
        rw [e]
        match j, hj with
        | 0, _ => rw [Nat.add_zero, hc]; simp; omega
        | 1, _ => rw [hb1]; simp; omega
        | 2, _ => rw [hb2]; simp; omega
      · rw [if_neg (by omega)] at hd
        rw [good_bad s i hd]
        by_cases k3 : (c - 224) * 4096 + (b1 - 128) * 64 + (b2 - 128) < 2048
        · exact atRes_len s i _ 3 (ptB_lt3 _ (by omega))
        · exact atRes_len s i _ 3 (by rw [ptB_neg _ (by omega)]; simp)
    · rw [if_neg (by omega)] at hd
      rw [good_bad s i hd, lowV_none s (i + 2) (by omega)]
      exact atRes_len s i _ 3 (ptB_lt3 _ (by omega))
  · rw [if_neg (by omega)] at hd
    rw [good_bad s i hd, lowV_none s (i + 1) (by omega)]
    exact atRes_len s i _ 3 (ptB_lt3 _ (by omega))

theorem res_four (s : ByteArray) (i : Nat) (hi : i < s.size) (c : Nat) (hc : by' s i = c) (h0 : 240 ≤ c) (h1 : c < 256) : atRes s i (((c : Int) - 240) * 262144 + lowV s (i + 1) * 4096 + lowV s (i + 2) * 64 + lowV s (i + 3)) 4 = goodAt s i := by
  have hd := Lib.decode_at s i
  change Utf8.decode s i = Lib.decodeN (s.size - i) (by' s i) (by' s (i + 1)) (by' s (i + 2)) (by' s (i + 3)) at hd
  rw [hc, decN_four _ _ _ _ _ h0 h1] at hd
  have g1 := lowV_ge s (i + 1)
  have g2 := lowV_ge s (i + 2)
  have g3 := lowV_ge s (i + 3)
  by_cases k1 : i + 1 < s.size ∧ 128 ≤ by' s (i + 1) ∧ by' s (i + 1) ≤ 191
  · by_cases k2 : i + 2 < s.size ∧ 128 ≤ by' s (i + 2) ∧ by' s (i + 2) ≤ 191
    · by_cases k3 : i + 3 < s.size ∧ 128 ≤ by' s (i + 3) ∧ by' s (i + 3) ≤ 191
      · rw [lowV_some s (i + 1) k1.1 k1.2.1 k1.2.2, lowV_some s (i + 2) k2.1 k2.2.1 k2.2.2, lowV_some s (i + 3) k3.1 k3.2.1 k3.2.2]
        clear g1 g2 g3
        generalize hb1 : by' s (i + 1) = b1 at *
        generalize hb2 : by' s (i + 2) = b2 at *
        generalize hb3 : by' s (i + 3) = b3 at *
        have ep : ((c : Int) - 240) * 262144 + ((b1 : Int) - 128) * 4096 + ((b2 : Int) - 128) * 64 + ((b3 : Int) - 128) = (((c - 240) * 262144 + (b1 - 128) * 4096 + (b2 - 128) * 64 + (b3 - 128) : Nat) : Int) := by omega
        rw [ep]
        by_cases k : 65536 ≤ (c - 240) * 262144 + (b1 - 128) * 4096 + (b2 - 128) * 64 + (b3 - 128) ∧ (c - 240) * 262144 + (b1 - 128) * 4096 + (b2 - 128) * 64 + (b3 - 128) ≤ 1114111
        · rw [if_pos (by omega)] at hd
          rw [good_some s i _ _ hd (by omega)]
          generalize hp : (c - 240) * 262144 + (b1 - 128) * 4096 + (b2 - 128) * 64 + (b3 - 128) = p at *
          have e := ptB_4 (p : Int) (by omega) (by omega)
          refine atRes_eq s i _ 4 (by omega) (by rw [e]; rfl) (strB_extract _ s i 4 (by rw [e]; rfl) (ptB_byt _) (by omega) ?_)
          intro j hj
          rw [e]
          match j, hj with
          | 0, _ => rw [Nat.add_zero, hc]; simp; omega
          | 1, _ => rw [hb1]; simp; omega
          | 2, _ => rw [hb2]; simp; omega
          | 3, _ => rw [hb3]; simp; omega
        · rw [if_neg (by omega)] at hd
          rw [good_bad s i hd]
          by_cases k3 : (c - 240) * 262144 + (b1 - 128) * 4096 + (b2 - 128) * 64 + (b3 - 128) < 65536
          · exact atRes_len s i _ 4 (ptB_le _ (by omega))
          · exact atRes_len s i _ 4 (by rw [ptB_neg _ (by omega)]; simp)
      · rw [if_neg (by omega)] at hd
        rw [good_bad s i hd, lowV_none s (i + 3) (by omega)]
        exact atRes_len s i _ 4 (ptB_le _ (by omega))
    · rw [if_neg (by omega)] at hd
      rw [good_bad s i hd, lowV_none s (i + 2) (by omega)]
      exact atRes_len s i _ 4 (ptB_le _ (by omega))
  · rw [if_neg (by omega)] at hd
    rw [good_bad s i hd, lowV_none s (i + 1) (by omega)]
    exact atRes_len s i _ 4 (ptB_le _ (by omega))

theorem refAt_any (s : ByteArray) (i : Nat) (hi : i < s.size) (hs : s.size ≤ 2305843009213693952) (w : World) :
    Calls Tryd.prog 39 #[.string s, .int .i64 i] w fun e w' => e = .returned (atV (goodAt s i)) ∧ Below w.heap.size w w' := by
  have hc := by'_eq s i hi
  have hlt : by' s i < 256 := UInt8.toNat_lt _
  by_cases k1 : by' s i < 192
  · rw [← res_one s i hi _ rfl k1]; exact refAt_one s i hi hs w _ hc.symm (by omega) k1
  · by_cases k2 : by' s i < 224
    · rw [← res_two s i hi _ rfl (by omega) k2]; exact refAt_two s i hi hs w _ hc.symm (by omega) k2 _ rfl
    · by_cases k3 : by' s i < 240
      · rw [← res_three s i hi _ rfl (by omega) k3]; exact refAt_three s i hi hs w _ hc.symm (by omega) k3 _ rfl _ rfl
      · rw [← res_four s i hi _ rfl (by omega) hlt]; exact refAt_four s i hi hs w _ hc.symm (by omega) hlt _ rfl _ rfl _ rfl
end Go.Proofs.YtpinpcefgbhdmaaDoor
