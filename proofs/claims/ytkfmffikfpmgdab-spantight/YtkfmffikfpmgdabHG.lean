import Derived.Test.YtkfmffikfpmgdabHF
namespace Go.Proofs.Ytkfmffikfpmgdab
open Go.RowKit
set_option linter.unusedVariables false

theorem un_lt {X Y : Int} {D : Nat} {lo hi : Nat} {b : Bool} {r : Nat × Nat × Bool} (h : UnR (SpR X Y D) lo hi b r) : r.1 < 18446744073709551616 ∧ r.2.1 < 18446744073709551616 := by
  unfold UnR at h; split at h
  · exact h.lt
  · rw [h]; exact ⟨by decide, by decide⟩
theorem bin_lt {X Y : Int} {D : Nat} {al ah bl bh : Nat} {ab bb : Bool} {r : Nat × Nat × Bool} (h : BinR (SpR X Y D) al ah bl bh ab bb r) : r.1 < 18446744073709551616 ∧ r.2.1 < 18446744073709551616 := by
  unfold BinR at h; split at h
  · exact h.lt
  · rw [h]; exact ⟨by decide, by decide⟩
theorem mk_lt {X Y : Int} {al ah bl bh : Nat} {ab bb : Bool} {r : Nat × Nat × Bool} (h : BinR (MkR X Y) al ah bl bh ab bb r) : r.1 < 18446744073709551616 ∧ r.2.1 < 18446744073709551616 := by
  unfold BinR MkR at h; split at h
  · split at h
    · exact h.lt
    · rw [h]; exact ⟨by decide, by decide⟩
  · rw [h]; exact ⟨by decide, by decide⟩
theorem mul_lt {al ah bl bh E : Nat} {ab bb : Bool} {r : Nat × Nat × Bool} (h : MulR al ah bl bh ab bb E r) : r.1 < 18446744073709551616 ∧ r.2.1 < 18446744073709551616 := by
  unfold MulR at h; split at h
  · exact h.lt
  · rw [h]; exact ⟨by decide, by decide⟩
theorem div_lt {al ah bl bh E : Nat} {ab bb : Bool} {r : Nat × Nat × Bool} (h : DivR al ah bl bh ab bb E r) : r.1 < 18446744073709551616 ∧ r.2.1 < 18446744073709551616 := by
  unfold DivR at h; split at h
  · exact h.lt
  · rw [h]; exact ⟨by decide, by decide⟩
theorem sc_lt {m : Int} {al ah : Nat} {ab : Bool} {r : Nat × Nat × Bool} (h : UnR (ScR m al ah) al ah ab r) : r.1 < 18446744073709551616 ∧ r.2.1 < 18446744073709551616 := by
  unfold UnR at h; split at h
  · obtain ⟨p, q, k1, k2, rfl⟩ := h
    exact (show SpR _ _ _ (spOf p q) from ⟨p, q, scale_rndZ k1, scale_rndZ k2, rfl⟩).lt
  · rw [h]; exact ⟨by decide, by decide⟩
theorem m_form (n : Int) : n.tmod 61 % 61 - 30 = (n.tmod 61 + 61).tmod 61 - 30 := by
  have b1 := Int.tmod_lt_of_pos n (show (0 : Int) < 61 by omega)
  have b2 := Int.lt_tmod_of_pos n (show (0 : Int) < 61 by omega)
  generalize n.tmod 61 = t at *
  rw [Int.tmod_eq_emod_of_nonneg (by omega)]; omega
/-- The law's power. -/
theorem turn_m (n : Int) : ∃ m : Int, -30 ≤ m ∧ m ≤ 30 ∧ (n.tmod 61 + 61).tmod 61 - 30 = m := by
  obtain ⟨k, h1, h2⟩ := turn_mod n (m := 61) (by decide)
  exact ⟨(k : Int) - 30, by omega, by omega, by rw [h2]⟩
end Go.Proofs.Ytkfmffikfpmgdab
