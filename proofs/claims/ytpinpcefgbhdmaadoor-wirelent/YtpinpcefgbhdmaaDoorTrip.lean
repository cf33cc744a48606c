import Derived.Test.YtpinpcefgbhdmaaDoorReadFrames
namespace Go.Proofs.YtpinpcefgbhdmaaDoor
open Go.RowKit
set_option linter.unusedVariables false

theorem frame_len (xs : List Int) : (frameB xs).length = xs.length + 12 := by
  unfold frameB
  simp only [List.length_append, low8_len]
  omega
theorem sum_lt (xs : List Int) : sum xs < 256 ^ 4 := by have := sum_le xs; omega
theorem sumOk_low8 (xs : List Int) : sumOk (xs ++ low8 (sum xs) 4) = true := by
  unfold sumOk
  have hl : (xs ++ low8 (sum xs) 4).length - 4 = xs.length := by rw [List.length_append, low8_len]; omega
  rw [hl, List.drop_left, List.take_left, leV_low8 4 _ (sum_lt xs)]
  simp

/-- What is written hs a frame is read, wherever it stands. -/
theorem rdR_frame (hs xs bs : List Int) (hx : xs.length ≤ 1048576) : rdR (hs ++ frameB xs ++ bs) hs.length = (xs, (hs.length : Int) + xs.length + 12, 0) := by
  have hL : (hs ++ frameB xs ++ bs).length = hs.length + xs.length + 12 + bs.length := by rw [List.length_append, List.length_append, frame_len]; omega
  have hd : (hs ++ frameB xs ++ bs).drop hs.length = frameB xs ++ bs := by rw [List.append_assoc, List.drop_left]
  have h8 : (frameB xs ++ bs).take 8 = low8 xs.length 4 ++ low8 (sum (low8 xs.length 4)) 4 := by
    unfold frameB
    rw [List.append_assoc, List.append_assoc]
    exact List.take_left' (by rw [List.length_append, low8_len, low8_len])
  have h4 : (frameB xs ++ bs).take 4 = low8 xs.length 4 := by
    unfold frameB
    rw [List.append_assoc, List.append_assoc, List.append_assoc]
    exact List.take_left' (by rw [low8_len])
  have hd8 : (frameB xs ++ bs).drop 8 = xs ++ (low8 (sum xs) 4 ++ bs) := by
    unfold frameB
    rw [List.append_assoc, List.append_assoc]
    rw [List.drop_left' (by rw [List.length_append, low8_len, low8_len])]
  have hU : leV (low8 xs.length 4) = xs.length := leV_low8 4 _ (by omega)
  have hb : (xs ++ (low8 (sum xs) 4 ++ bs)).take (xs.length + 4) = xs ++ low8 (sum xs) 4 := by
    rw [← List.append_assoc]
    exact List.take_left' (by rw [List.length_append, low8_len])
  unfold rdR
  rw [hL, if_neg (by omega), Int.toNat_natCast, if_neg (by omega), hd, h8, h4, hd8, hU]
  rw [if_neg (by rw [sumOk_low8]; simp), if_neg (by omega), if_neg (by omega), hb, if_neg (by rw [sumOk_low8]; simp), List.take_left]
  refine Prod.ext rfl (Prod.ext ?_ rfl)
  simp only
  omega
/-- A length that is too great, whatever stands behind. -/
theorem rdR_big (n : Nat) (bs : List Int) (h0 : 1048576 < n) (h1 : n < 256 ^ 4) : rdR (low8 n 4 ++ low8 (sum (low8 n 4)) 4 ++ bs) 0 = ([], 0, 13) := by
  have hL : (low8 n 4 ++ low8 (sum (low8 n 4)) 4 ++ bs).length = 8 + bs.length := by simp only [List.length_append, low8_len]
  have h8 : (low8 n 4 ++ low8 (sum (low8 n 4)) 4 ++ bs).take 8 = low8 n 4 ++ low8 (sum (low8 n 4)) 4 := List.take_left' (by rw [List.length_append, low8_len, low8_len])
  have h4 : (low8 n 4 ++ low8 (sum (low8 n 4)) 4 ++ bs).take 4 = low8 n 4 := by rw [List.append_assoc]; exact List.take_left' (by rw [low8_len])
  unfold rdR
  rw [hL, if_neg (by omega)]
  simp only [Int.toNat_zero, List.drop_zero]
  rw [if_neg (by omega), h8, h4, leV_low8 4 n h1, if_neg (by rw [sumOk_low8]; simp), if_pos h0]
end Go.Proofs.YtpinpcefgbhdmaaDoor
