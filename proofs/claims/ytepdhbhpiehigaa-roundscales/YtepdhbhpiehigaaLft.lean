import Derived.Test.YtepdhbhpiehigaaDig
namespace Go.Proofs.Ytepdhbhpiehigaa
set_option linter.unusedVariables false

/-- One round of 'left': what the two words become. -/
theorem left_step {zs : List Nat} {k s x T N D : Nat} (hs : s < 32) (hx : x < 4294967296) (hk : k + 1 < zs.length) (hu : U4 zs) (hz : ∀ j, k < j → zs[j]?.getD 0 = 0) (hlo : zs[k]?.getD 0 < 2 ^ s) (hD : dig zs = D * T) (hT : T * wd 0 = T) :
    U4 ((zs.set k (zs[k]?.getD 0 + x * 2 ^ s % 4294967296)).set (k + 1) (x * 2 ^ s / 4294967296)) ∧
    dig ((zs.set k (zs[k]?.getD 0 + x * 2 ^ s % 4294967296)).set (k + 1) (x * 2 ^ s / 4294967296)) = dig zs + wd k * (x * 2 ^ s) ∧
    (∀ j, k + 1 < j → ((zs.set k (zs[k]?.getD 0 + x * 2 ^ s % 4294967296)).set (k + 1) (x * 2 ^ s / 4294967296))[j]?.getD 0 = 0) ∧
    ((zs.set k (zs[k]?.getD 0 + x * 2 ^ s % 4294967296)).set (k + 1) (x * 2 ^ s / 4294967296))[k + 1]?.getD 0 < 2 ^ s ∧ zs[k]?.getD 0 + x * 2 ^ s % 4294967296 < 4294967296 ∧ x * 2 ^ s / 4294967296 < 4294967296 := by
  have hd : (2 ^ s : Nat) ∣ x * 2 ^ s % 4294967296 := by
    rw [show (4294967296 : Nat) = 2 ^ (32 - s) * 2 ^ s by rw [← Nat.pow_add, show 32 - s + s = 32 by omega]]
    rw [Nat.mul_mod_mul_right]; exact Nat.dvd_mul_left ..
  have hp := Nat.two_pow_pos s
  have hps : (2 : Nat) ^ s ≤ 2 ^ 31 := Nat.pow_le_pow_right (by omega) (by omega)
  have h31 : (2 : Nat) ^ 31 = 2147483648 := by decide
  have hsum : zs[k]?.getD 0 + x * 2 ^ s % 4294967296 < 4294967296 := by
    obtain ⟨c, hc⟩ := hd
    have hm : x * 2 ^ s % 4294967296 < 4294967296 := Nat.mod_lt _ (by decide)
    have h32 : (4294967296 : Nat) = 2 ^ s * 2 ^ (32 - s) := by rw [← Nat.pow_add, show s + (32 - s) = 32 by omega]
    rw [hc, h32] at hm ⊢
    have h1 : c < 2 ^ (32 - s) := Nat.lt_of_mul_lt_mul_left hm
    have h2 : 2 ^ s * (c + 1) ≤ 2 ^ s * 2 ^ (32 - s) := Nat.mul_le_mul_left _ h1
    rw [Nat.mul_add, Nat.mul_one] at h2
    omega
  have hhi : x * 2 ^ s / 4294967296 < 2 ^ s := by
    rw [Nat.div_lt_iff_lt_mul (by decide), Nat.mul_comm (2 ^ s)]
    exact Nat.mul_lt_mul_of_pos_right hx hp
  have hhi' : x * 2 ^ s / 4294967296 < 4294967296 := by omega
  have hl1 : (zs.set k (zs[k]?.getD 0 + x * 2 ^ s % 4294967296)).length = zs.length := List.length_set
  refine ⟨(hu.set k _ hsum).set _ _ hhi', ?_, ?_, ?_, hsum, hhi'⟩
  · have e1 := dig_set (xs := zs) (k := k) (v := zs[k]?.getD 0 + x * 2 ^ s % 4294967296) (by omega)
    have e2 := dig_set (xs := zs.set k (zs[k]?.getD 0 + x * 2 ^ s % 4294967296)) (k := k + 1) (v := x * 2 ^ s / 4294967296) (by rw [hl1]; exact hk)
    rw [List.getElem?_set, if_neg (by omega), hz (k + 1) (by omega), Nat.mul_zero, Nat.add_zero] at e2
    rw [Nat.mul_add] at e1
    have hdm := Nat.div_add_mod (x * 2 ^ s) 4294967296
    have : wd k * (x * 2 ^ s) = wd k * (x * 2 ^ s % 4294967296) + wd (k + 1) * (x * 2 ^ s / 4294967296) := by
      rw [wd_succ, Nat.mul_comm 4294967296, Nat.mul_assoc, ← Nat.mul_add]; congr 1; omega
    omega
  · intro j hj
    rw [List.getElem?_set, if_neg (by omega), List.getElem?_set, if_neg (by omega)]
    exact hz j (by omega)
  · rw [List.getElem?_set, if_pos rfl, if_pos (by rw [hl1]; exact hk)]
    exact hhi
end Go.Proofs.Ytepdhbhpiehigaa
