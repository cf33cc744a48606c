import Derived.Test.YtfldgjkpkmnkbabDoorTripU
namespace Go.Proofs.YtfldgjkpkmnkbabDoor
open Go.RowKit
set_option linter.unusedVariables false

theorem cut_join (xs : List Int) (p q r : Nat) (h1 : p ≤ q) (h2 : q ≤ r) : (xs.take q).drop p ++ (xs.take r).drop q = (xs.take r).drop p := by
  have e1 : (xs.take q).drop p = (xs.drop p).take (q - p) := by rw [List.drop_take]
  have e2 : (xs.take r).drop q = ((xs.drop p).drop (q - p)).take (r - q) := by rw [List.drop_take, List.drop_drop, show p + (q - p) = q from by omega]
  have e3 : (xs.take r).drop p = (xs.drop p).take (r - p) := by rw [List.drop_take]
  rw [e1, e2, e3, show r - p = (q - p) + (r - q) from by omega, List.take_add]

/-! ### eight bytes -/
theorem rdF_float (hs bs : List Int) (u : Nat) (hu : u < 18446744073709551616) (hn : isNum u = true) : rdF (hs ++ low8 u 8 ++ bs) hs.length = (u, (hs.length : Int) + 8, 0) := by
  have hL : (hs ++ low8 u 8 ++ bs).length = hs.length + 8 + bs.length := by rw [List.length_append, List.length_append, low8_len]
  have hd : ((hs ++ low8 u 8 ++ bs).drop hs.length).take 8 = low8 u 8 := by
    rw [List.append_assoc, List.drop_left]
    exact List.take_left' (low8_len 8 u)
  unfold rdF
  rw [hL, if_neg (by omega), Int.toNat_natCast, if_neg (by omega), hd, leV_low8 8 u (by omega), if_pos hn]
theorem rdF_back (xs : List Int) (p : Int) (hb : Byt xs) (h : (rdF xs p).2.2 = 0) :
    0 ≤ p ∧ (rdF xs p).2.1 = p + 8 ∧ p + 8 ≤ xs.length ∧ isNum (rdF xs p).1 = true ∧ (rdF xs p).1 < 18446744073709551616 ∧ low8 (rdF xs p).1 8 = (xs.take (p.toNat + 8)).drop p.toNat := by
  by_cases h1 : p < 0 ∨ (xs.length : Int) < p
  · have e : rdF xs p = (0, 0, 1) := by unfold rdF; rw [if_pos h1]
    rw [e] at h; simp at h
  · by_cases h2 : xs.length < p.toNat + 8
    · have e : rdF xs p = (0, 0, 10) := by unfold rdF; rw [if_neg h1, if_pos h2]
      rw [e] at h; simp at h
    · by_cases h3 : isNum (leV ((xs.drop p.toNat).take 8)) = true
      · have e : rdF xs p = (leV ((xs.drop p.toNat).take 8), p + 8, 0) := by unfold rdF; rw [if_neg h1, if_neg h2, if_pos h3]
        rw [e]
        have hl : ((xs.drop p.toNat).take 8).length = 8 := by rw [List.length_take, List.length_drop]; omega
        refine ⟨by omega, rfl, by omega, h3, leV8_lt hb _, ?_⟩
        have := low8_leV ((xs.drop p.toNat).take 8) ((hb.drop _).take _)
        rw [hl] at this
        rw [this, mid_eq']
      · have e : rdF xs p = (0, 0, 15) := by unfold rdF; rw [if_neg h1, if_neg h2, if_neg h3]
        rw [e] at h; simp at h

/-! ### texts -/
theorem strB_strL (s : ByteArray) : strB (strL s) = s := by
  unfold strB strL
  cases s with
  | mk a =>
    congr 1
    apply Array.ext'
    simp only [List.map_map]
    have : (fun n : Int => UInt8.ofNat n.toNat) ∘ (fun b : UInt8 => (b.toNat : Int)) = id := by
      funext b
      simp
    rw [this, List.map_id]
theorem strL_strB (zs : List Int) (h : Byt zs) : strL (strB zs) = zs := by
  unfold strB strL
  simp only [List.map_map]
  rw [List.map_congr_left (g := id)]
  · simp
  · intro x hx
    have := h x hx
    simp only [Function.comp, id]
    rw [UInt8.toNat_ofNat', Nat.mod_eq_of_lt (by omega)]
    omega
theorem rdT_text (hs bs : List Int) (s : ByteArray) (most : Int) (k : Nat) (hk : rn s = some k) (hm : (s.size : Int) ≤ most) (h63 : s.size < 2 ^ 63) :
    rdT (hs ++ (grp s.size ++ strL s) ++ bs) hs.length most = (s, (hs.length : Int) + (grp s.size).length + s.size, 0) := by
  have hx : hs ++ (grp s.size ++ strL s) ++ bs = hs ++ grp s.size ++ (strL s ++ bs) := by simp only [List.append_assoc]
  have hU := rdU_grp hs (strL s ++ bs) s.size h63
  rw [← hx] at hU
  have hL : (hs ++ (grp s.size ++ strL s) ++ bs).length = hs.length + (grp s.size).length + s.size + bs.length := by simp only [List.length_append, strL_len]; omega
  have hz : ((hs ++ (grp s.size ++ strL s) ++ bs).take (hs.length + (grp s.size).length + s.size)).drop (hs.length + (grp s.size).length) = strL s := by
    rw [mid_eq', hx]
    rw [List.drop_left' (by rw [List.length_append])]
    exact List.take_left' (strL_len s)
  unfold rdT
  rw [hU, hL, if_neg (by omega), if_neg (by simp), if_neg (by simp only; omega), if_neg (by simp only; omega)]
  simp only
  rw [show ((hs.length : Int) + (grp s.size).length + s.size).toNat = hs.length + (grp s.size).length + s.size from by omega, show ((hs.length : Int) + (grp s.size).length).toNat = hs.length + (grp s.size).length from by omega, hz, strB_strL, hk]
theorem rdT_back (xs : List Int) (p most : Int) (hb : Byt xs) (h : (rdT xs p most).2.2 = 0) :
    ∃ q : Nat, 0 ≤ p ∧ (rdT xs p most).2.1 = (q : Int) ∧ p.toNat ≤ q ∧ q ≤ xs.length ∧ (∃ k, rn (rdT xs p most).1 = some k) ∧ grp (rdT xs p most).1.size ++ strL (rdT xs p most).1 = (xs.take q).drop p.toNat ∧ (rdT xs p most).1.size ≤ xs.length := by
  by_cases h1 : p < 0 ∨ (xs.length : Int) < p ∨ most < 0
  · have e : rdT xs p most = (⟨#[]⟩, 0, 1) := by unfold rdT; rw [if_pos h1]
    rw [e] at h; simp at h
  by_cases h2 : (rdU xs p).2.2 ≠ 0
  · have e : rdT xs p most = (⟨#[]⟩, 0, (rdU xs p).2.2) := by unfold rdT; rw [if_neg h1, if_pos h2]
    rw [e] at h; exact absurd h h2
  obtain ⟨m, q, hm, hq, hpq, hql, hg⟩ := rdU_back xs p hb (by omega)
  by_cases h3 : most < (rdU xs p).1
  · have e : rdT xs p most = (⟨#[]⟩, 0, 13) := by unfold rdT; rw [if_neg h1, if_neg h2, if_pos h3]
    rw [e] at h; simp at h
  by_cases h4 : (xs.length : Int) - (rdU xs p).2.1 < (rdU xs p).1
  · have e : rdT xs p most = (⟨#[]⟩, 0, 10) := by unfold rdT; rw [if_neg h1, if_neg h2, if_neg h3, if_pos h4]
    rw [e] at h; simp at h
  cases hrn : rn (strB ((xs.take (q + m)).drop q)) with
  | none =>
    have e : rdT xs p most = (⟨#[]⟩, 0, 14) := by
      unfold rdT; rw [if_neg h1, if_neg h2, if_neg h3, if_neg h4, hm, hq, show ((q : Int) + (m : Int)).toNat = q + m from by omega, Int.toNat_natCast, hrn]
    rw [e] at h; simp at h
  | some k =>
    have e : rdT xs p most = (strB ((xs.take (q + m)).drop q), (q : Int) + m, 0) := by
      unfold rdT; rw [if_neg h1, if_neg h2, if_neg h3, if_neg h4, hm, hq, show ((q : Int) + (m : Int)).toNat = q + m from by omega, Int.toNat_natCast, hrn]
    rw [hm, hq] at h4
    have hl : ((xs.take (q + m)).drop q).length = m := by rw [List.length_drop, List.length_take]; omega
    have hsz : (strB ((xs.take (q + m)).drop q)).size = m := by rw [strB_size, hl]
    rw [e]
    refine ⟨q + m, by omega, by simp, by omega, by omega, ⟨k, hrn⟩, ?_, by simp only; omega⟩
    simp only
    rw [hsz, strL_strB _ ((hb.take _).drop _), hg, cut_join xs _ _ _ hpq (by omega)]

/-! ### frames -/
theorem sumOk_tail (ys : List Int) (hb : Byt ys) (h4 : 4 ≤ ys.length) (h : sumOk ys = true) : ys = ys.take (ys.length - 4) ++ low8 (sum (ys.take (ys.length - 4))) 4 := by
  unfold sumOk at h
  have he := of_decide_eq_true h
  have hl : (ys.drop (ys.length - 4)).length = 4 := by rw [List.length_drop]; omega
  have := low8_leV (ys.drop (ys.length - 4)) (hb.drop _)
  rw [hl, he] at this
  rw [this, List.take_append_drop]
theorem rdR_back (xs : List Int) (p : Int) (hb : Byt xs) (h : (rdR xs p).2.2 = 0) :
    ∃ q : Nat, 0 ≤ p ∧ (rdR xs p).2.1 = (q : Int) ∧ p.toNat ≤ q ∧ q ≤ xs.length ∧ (rdR xs p).1.length ≤ 1048576 ∧ frameB (rdR xs p).1 = (xs.take q).drop p.toNat := by
  by_cases h1 : p < 0 ∨ (xs.length : Int) < p
  · have e : rdR xs p = ([], 0, 1) := by unfold rdR; rw [if_pos h1]
    rw [e] at h; simp at h
  by_cases h2 : xs.length < p.toNat + 8
  · have e : rdR xs p = ([], 0, 10) := by unfold rdR; rw [if_neg h1, if_pos h2]
    rw [e] at h; simp at h
  by_cases h3 : sumOk ((xs.drop p.toNat).take 8) = false
  · have e : rdR xs p = ([], 0, 16) := by unfold rdR; rw [if_neg h1, if_neg h2, if_pos h3]
    rw [e] at h; simp at h
  by_cases h4 : 1048576 < leV ((xs.drop p.toNat).take 4)
  · have e : rdR xs p = ([], 0, 13) := by unfold rdR; rw [if_neg h1, if_neg h2, if_neg h3, if_pos h4]
    rw [e] at h; simp at h
  by_cases h5 : xs.length < p.toNat + 8 + leV ((xs.drop p.toNat).take 4) + 4
  · have e : rdR xs p = ([], 0, 10) := by unfold rdR; rw [if_neg h1, if_neg h2, if_neg h3, if_neg h4, if_pos h5]
    rw [e] at h; simp at h
  by_cases h6 : sumOk ((((xs.drop p.toNat).drop 8)).take (leV ((xs.drop p.toNat).take 4) + 4)) = false
  · have e : rdR xs p = ([], 0, 16) := by unfold rdR; rw [if_neg h1, if_neg h2, if_neg h3, if_neg h4, if_neg h5, if_pos h6]
    rw [e] at h; simp at h
  have e : rdR xs p = (((xs.drop p.toNat).drop 8).take (leV ((xs.drop p.toNat).take 4)), p + 8 + leV ((xs.drop p.toNat).take 4) + 4, 0) := by
    unfold rdR; rw [if_neg h1, if_neg h2, if_neg h3, if_neg h4, if_neg h5, if_neg h6]
  rw [e]
  simp only
  have l4 : ((xs.drop p.toNat).take 4).length = 4 := by rw [List.length_take, List.length_drop]; omega
  have l8 : ((xs.drop p.toNat).take 8).length = 8 := by rw [List.length_take, List.length_drop]; omega
  have hlow := low8_leV ((xs.drop p.toNat).take 4) ((hb.drop _).take _)
  rw [l4] at hlow
  have s8 := sumOk_tail _ ((hb.drop p.toNat).take 8) (by omega) (by simpa using h3)
  rw [l8, List.take_take, show min (8 - 4) 8 = 4 from rfl] at s8
  generalize hU : leV ((xs.drop p.toNat).take 4) = U at *
  have lU : (((xs.drop p.toNat).drop 8).take (U + 4)).length = U + 4 := by rw [List.length_take, List.length_drop, List.length_drop]; omega
  have sU := sumOk_tail _ (((hb.drop p.toNat).drop 8).take (U + 4)) (by omega) (by simpa using h6)
  rw [lU, List.take_take, show min (U + 4 - 4) (U + 4) = U from by omega] at sU
  have lb : (((xs.drop p.toNat).drop 8).take U).length = U := by rw [List.length_take, List.length_drop, List.length_drop]; omega
  refine ⟨p.toNat + 12 + U, by omega, by omega, by omega, by omega, by rw [lb]; omega, ?_⟩
  unfold frameB
  rw [lb, hlow, ← s8, List.append_assoc, ← sU]
  have := cut_join xs p.toNat (p.toNat + 8) (p.toNat + 8 + (U + 4)) (by omega) (by omega)
  rw [mid_eq', mid_eq', show p.toNat + 8 + (U + 4) = p.toNat + 12 + U from by omega] at this
  rw [← this, List.drop_drop]
end Go.Proofs.YtfldgjkpkmnkbabDoor
