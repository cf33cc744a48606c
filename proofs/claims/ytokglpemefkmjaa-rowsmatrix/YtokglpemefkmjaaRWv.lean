import Derived.Test.YtokglpemefkmjaaRWk
namespace Go.Proofs.Ytokglpemefkmjaa
open Go.RowKit
set_option linter.unusedVariables false
set_option linter.unusedSimpArgs false
theorem mem_upto {a b x : Int} (h : x ∈ upto a b) : a ≤ x ∧ x < b := by
  unfold upto at h
  obtain ⟨n, hn, rfl⟩ := List.mem_map.1 h
  have := List.mem_range.1 hn
  omega
theorem upto_pair (a b : Int) : (upto a b).Pairwise (· < ·) := by
  unfold upto
  rw [List.pairwise_map]
  exact List.pairwise_lt_range.imp fun {x y} h => by omega
theorem mem_csP {c0 c y0 y1 x0 x1 : Int} {p : P3} (h : p ∈ csP c0 c y0 y1 x0 x1) : (c0 ≤ p.1 ∧ p.1 < c) ∧ (y0 ≤ p.2.1 ∧ p.2.1 < y1) ∧ (x0 ≤ p.2.2 ∧ p.2.2 < x1) := by
  unfold csP ysP xsP at h
  obtain ⟨a, ha, h⟩ := List.mem_flatMap.1 h
  obtain ⟨b, hb, h⟩ := List.mem_flatMap.1 h
  obtain ⟨d, hd, rfl⟩ := List.mem_map.1 h
  exact ⟨mem_upto ha, mem_upto hb, mem_upto hd⟩
/-- Where a place stands among a shape's coordinates. -/
def ixW (H K : Int) (p : P3) : Int := (p.1 * H + p.2.1) * K + p.2.2
theorem ixW_lt {H K a b c a' b' c' : Int} (hK : 1 ≤ K) (hH : 1 ≤ H) (hb : 0 ≤ b ∧ b < H) (hc : 0 ≤ c ∧ c < K) (hb' : 0 ≤ b' ∧ b' < H) (hc' : 0 ≤ c' ∧ c' < K) (h : a < a' ∨ (a = a' ∧ (b < b' ∨ (b = b' ∧ c < c')))) : ixW H K (a, b, c) < ixW H K (a', b', c') := by
  unfold ixW
  dsimp only
  have key : a * H + b < a' * H + b' ∨ (a * H + b = a' * H + b' ∧ c < c') := by
    rcases h with h | ⟨rfl, h | ⟨rfl, h⟩⟩
    · left
      have h1 : (a + 1) * H ≤ a' * H := Int.mul_le_mul_of_nonneg_right (by omega) (by omega)
      rw [Int.add_mul, Int.one_mul] at h1
      omega
    · left; omega
    · right; exact ⟨rfl, h⟩
  rcases key with h1 | ⟨h1, h2⟩
  · have h3 : (a * H + b + 1) * K ≤ (a' * H + b') * K := Int.mul_le_mul_of_nonneg_right (by omega) (by omega)
    rw [Int.add_mul, Int.one_mul] at h3
    omega
  · rw [h1]; omega
theorem csP_rises {c0 c y0 y1 x0 x1 H K : Int} (hy : 0 ≤ y0 ∧ y1 ≤ H) (hx : 0 ≤ x0 ∧ x1 ≤ K) : ((csP c0 c y0 y1 x0 x1).map (ixW H K)).Pairwise (· < ·) := by
  rw [List.pairwise_map]
  unfold csP ysP xsP
  rw [List.pairwise_flatMap]
  refine ⟨fun a ha => ?_, List.Pairwise.imp_of_mem (fun {a a'} ha ha' h p hp p' hp' => ?_) (upto_pair _ _)⟩
  · rw [List.pairwise_flatMap]
    refine ⟨fun b hb => ?_, List.Pairwise.imp_of_mem (fun {b b'} hb hb' h p hp p' hp' => ?_) (upto_pair _ _)⟩
    · rw [List.pairwise_map]
      refine List.Pairwise.imp_of_mem (fun {d d'} hd hd' h => ?_) (upto_pair x0 x1)
      have m1 := mem_upto hb
      have m2 := mem_upto hd
      have m3 := mem_upto hd'
      exact ixW_lt (by omega) (by omega) (by omega) (by omega) (by omega) (by omega) (.inr ⟨rfl, .inr ⟨rfl, h⟩⟩)
    · obtain ⟨d, hd, rfl⟩ := List.mem_map.1 hp
      obtain ⟨d', hd', rfl⟩ := List.mem_map.1 hp'
      have m1 := mem_upto hb
      have m4 := mem_upto hb'
      have m2 := mem_upto hd
      have m3 := mem_upto hd'
      exact ixW_lt (by omega) (by omega) (by omega) (by omega) (by omega) (by omega) (.inr ⟨rfl, .inl h⟩)
  · obtain ⟨b, hb, hp⟩ := List.mem_flatMap.1 hp
    obtain ⟨d, hd, rfl⟩ := List.mem_map.1 hp
    obtain ⟨b', hb', hp'⟩ := List.mem_flatMap.1 hp'
    obtain ⟨d', hd', rfl⟩ := List.mem_map.1 hp'
    have m1 := mem_upto hb
    have m4 := mem_upto hb'
    have m2 := mem_upto hd
    have m3 := mem_upto hd'
    exact ixW_lt (by omega) (by omega) (by omega) (by omega) (by omega) (by omega) (.inl h)
theorem csP_leN {c0 c y0 y1 x0 x1 : Int} {M N : Nat} (hx : x1 - x0 ≤ N) (hy : y1 - y0 ≤ M) : (csP c0 c y0 y1 x0 x1).length ≤ (c - c0).toNat * (M * N) := by
  unfold csP
  rw [← upto_len c0 c]
  refine flat_le _ (M * N) (fun a => ?_) _
  unfold ysP
  refine Nat.le_trans (flat_le _ N (fun b => ?_) _) (Nat.mul_le_mul_right N (by rw [upto_len]; omega))
  unfold xsP
  rw [List.length_map, upto_len]
  omega
theorem csP_pos {c0 c y0 y1 x0 x1 : Int} (h1 : c0 < c) (h2 : y0 < y1) (h3 : x0 < x1) : 0 < (csP c0 c y0 y1 x0 x1).length := by
  have m : ∀ {a b : Int}, a < b → a ∈ upto a b := fun {a b} h => by
    unfold upto
    exact List.mem_map.2 ⟨0, List.mem_range.2 (by omega), by omega⟩
  refine List.length_pos_of_mem (a := (c0, y0, x0)) ?_
  unfold csP ysP xsP
  exact List.mem_flatMap.2 ⟨c0, m h1, List.mem_flatMap.2 ⟨y0, m h2, List.mem_map.2 ⟨x0, m h3, rfl⟩⟩⟩
/-- A place of the input: where it stands. -/
theorem ixW_in {H K : Nat} {C : Int} {p : P3} (hc : 0 ≤ p.1 ∧ p.1 < C) (hy : 0 ≤ p.2.1 ∧ p.2.1 < H) (hx : 0 ≤ p.2.2 ∧ p.2.2 < K) : 0 ≤ ixW H K p ∧ ixW H K p < C * H * K ∧ ixW H K p / ((H : Int) * K) = p.1 := by
  obtain ⟨a, b, d⟩ := p
  dsimp only at hc hy hx
  have h0 : (0 : Int) ≤ (b : Int) * K := Int.mul_nonneg (by omega) (by omega)
  have h1 : (b + 1) * (K : Int) ≤ H * K := Int.mul_le_mul_of_nonneg_right (by omega) (by omega)
  rw [Int.add_mul, Int.one_mul] at h1
  have hm : 0 < (H : Int) * K := Int.mul_pos (by omega) (by omega)
  have e : ixW H K (a, b, d) = a * ((H : Int) * K) + (b * K + d) := by unfold ixW; dsimp only; rw [Int.add_mul, Int.mul_assoc]; omega
  have h2 : (a + 1) * ((H : Int) * K) ≤ C * ((H : Int) * K) := Int.mul_le_mul_of_nonneg_right (by omega) (by omega)
  have h3 : 0 ≤ a * ((H : Int) * K) := Int.mul_nonneg hc.1 (by omega)
  rw [Int.add_mul, Int.one_mul] at h2
  rw [e, Int.mul_assoc C]
  refine ⟨by omega, by omega, ?_⟩
  rw [Int.add_comm, Int.add_mul_ediv_right _ _ (by omega), Int.ediv_eq_zero_of_lt (by omega) (by omega)]
  omega
/-- The window of a layer's coordinate: nothing of it is empty. -/
theorem win_span {H P KH S r D : Nat} (hH : 1 ≤ H) (hP : P < KH) (hK : KH ≤ H + 2 * P) (hS : 1 ≤ S) (hD : D = (H + 2 * P - KH) / S + 1) (hr : r < D) {y y0 y1 : Int} (hy : (r : Int) * S - P = y) (h0 : max y 0 = y0) (h1 : min (y + KH) H = y1) : 0 ≤ y0 ∧ y1 ≤ H ∧ y0 < y1 ∧ y1 - y0 ≤ KH ∧ y1 - y0 ≤ H ∧ -(P : Int) ≤ y ∧ y < H := by
  have h2 : r ≤ (H + 2 * P - KH) / S := by omega
  have h3 : r * S ≤ H + 2 * P - KH := by
    have := (Nat.le_div_iff_mul_le hS).1 h2
    exact this
  have h4 : ((r * S : Nat) : Int) = (r : Int) * S := Int.natCast_mul r S
  rw [← h4] at hy
  generalize r * S = m at *
  omega
end Go.Proofs.Ytokglpemefkmjaa
