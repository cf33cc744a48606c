import Derived.Test.YtigaggkipmcgeaaNF
import Derived.BigRegion
namespace Go.Proofs.Ytigaggkipmcgeaa
open Go.RowKit
set_option linter.unusedVariables false

def cmpN (m n : Nat) : Int := if m < n then -1 else if m = n then 0 else 1
theorem shorter_lt {xs ys : List Nat} (hx : U4 xs) (hy : U4 ys) (hn : Nm ys) (hl : xs.length < ys.length) : dig xs < dig ys := by
  have h1 := dig_lt hx
  have e := dig_take_succ (xs := ys) (k := ys.length - 1) (by omega)
  rw [show ys.length - 1 + 1 = ys.length by omega, List.take_length] at e
  have h2 : ys[ys.length - 1]?.getD 0 ≠ 0 := by
    rcases hn with h | h
    · rw [h] at hl; simp at hl
    · exact h
  have h3 : wd (ys.length - 1) * 1 ≤ wd (ys.length - 1) * ys[ys.length - 1]?.getD 0 := Nat.mul_le_mul_left _ (by omega)
  have h4 : wd xs.length ≤ wd (ys.length - 1) := by unfold wd; exact Nat.pow_le_pow_right (by omega) (by omega)
  omega
theorem upper_lt {xs ys : List Nat} {k : Nat} (hx : U4 xs) (hy : U4 ys) (hl : k < xs.length) (hl2 : k < ys.length) (hd : dig (xs.drop (k + 1)) = dig (ys.drop (k + 1))) (h : xs[k]?.getD 0 < ys[k]?.getD 0) : dig xs < dig ys := by
  have e1 := dig_split xs k
  have e2 := dig_split ys k
  have b1 := dig_lt (hx.take k)
  rw [List.length_take, Nat.min_eq_left (by omega)] at e1 e2 b1
  rw [dig_drop_pred, hd] at e1
  rw [dig_drop_pred] at e2
  generalize xs[k]?.getD 0 = x at *
  generalize ys[k]?.getD 0 = y at *
  generalize dig (ys.drop (k + 1)) = D at *
  have h5 : wd k * (x + 4294967296 * D) + wd k ≤ wd k * (y + 4294967296 * D) := by
    rw [← Nat.mul_succ]; exact Nat.mul_le_mul_left _ (by omega)
  omega

set_option maxRecDepth 100000 in
set_option maxHeartbeats 1000000 in
theorem cmp_any (ao : Option Addr) (len cap : Nat) (xs : List Nat) (bo : Option Addr) (blen bcap : Nat) (ys : List Nat) (w : World) (hx : Rd4 w ao len cap xs) (hy : Rd4 w bo blen bcap ys) (hnx : Nm xs) (hny : Nm ys) :
    Calls Try.prog 67 #[.slice ao len cap, .slice bo blen bcap] w fun e w' => e = .returned (.int .i64 (cmpN (dig xs) (dig ys))) ∧ Below w.heap.size w w' := by
  have h1 := hx.le
  have h2 := hx.max
  have h3 := hy.le
  have h4 := hy.max
  by_cases hlt : len < blen
  · have hc : cmpN (dig xs) (dig ys) = -1 := by unfold cmpN; rw [if_pos (shorter_lt hx.lt hy.lt hny (by rw [hx.length, hy.length]; exact hlt))]
    rw [hc]
    clear hx hy hnx hny hc
    go_enter Try.func67, Try.ntmps67
    go_wp2
    go_ret
    exact ⟨rfl, Below.refl _ _⟩
  · by_cases hgt : blen < len
    · have hl := shorter_lt hy.lt hx.lt hnx (by rw [hx.length, hy.length]; exact hgt)
      have hc : cmpN (dig xs) (dig ys) = 1 := by unfold cmpN; rw [if_neg (by omega), if_neg (by omega)]
      rw [hc]
      clear hx hy hnx hny hc hl
      go_enter Try.func67, Try.ntmps67
      go_wp2
      go_ret
      exact ⟨rfl, Below.refl _ _⟩
    · obtain rfl : len = blen := by omega
      have HX : Hid _ := hx
      have HY : Hid _ := hy
      have hbb : ((len : Int) != (len : Int)) = false := by simp
      clear hx hy hlt hgt hnx hny
      go_enter Try.func67, Try.ntmps67
      go_wp2_with fail
      go_loopg [5] len (fun gg i wx => ∃ k : Nat, k ≤ len ∧ i = .int .i64 ((k : Int) - 1) ∧ Hid (dig (xs.drop k) = dig (ys.drop k)) ∧ Hid (Below w.heap.size w wx) ∧ k ≤ gg)
      case atStart => exact ⟨len, by omega, rfl, by unfold Hid; rw [List.drop_of_length_le (by rw [HX.out.length]; omega), List.drop_of_length_le (by rw [HY.out.length]; omega)], Below.refl _ _, by omega⟩
      case round =>
        obtain ⟨k, hk, rfl, HD, HB, hfu⟩ := hrel
        cases k with
        | zero =>
          have hz : ((0 : Nat) : Int) - 1 = -1 := rfl
          rw [hz]
          have hc : cmpN (dig xs) (dig ys) = 0 := by
            have := HD.out
            rw [List.drop_zero, List.drop_zero] at this
            unfold cmpN; rw [this, if_neg (by omega), if_pos rfl]
          have HCM : Hid _ := hc
          clear hc
          go_wp2_with fail
          go_ret
          exact ⟨by rw [HCM.out]; rfl, HB.out⟩
        | succ k =>
          obtain ⟨fu, rfl⟩ : ∃ g, gk = g + 1 := ⟨gk - 1, by omega⟩
          rcases HX.out.cells with hh | ⟨b, off, rfl, hc⟩
          · omega
          rcases HY.out.cells with hh | ⟨b2, off2, rfl, hc2⟩
          · omega
          have g := (HB.out.cell (World.block_lt_of_cell? w _ (hc k (by omega)))).trans (hc k (by omega))
          have g2 := (HB.out.cell (World.block_lt_of_cell? w _ (hc2 k (by omega)))).trans (hc2 k (by omega))
          have hxb := HX.out.lt.at k
          have hyb := HY.out.lt.at k
          have HLT : Hid (xs[k]?.getD 0 < ys[k]?.getD 0 → dig xs < dig ys) := fun h => upper_lt HX.out.lt HY.out.lt (by rw [HX.out.length]; omega) (by rw [HY.out.length]; omega) HD.out h
          have HGT : Hid (ys[k]?.getD 0 < xs[k]?.getD 0 → dig ys < dig xs) := fun h => upper_lt HY.out.lt HX.out.lt (by rw [HY.out.length]; omega) (by rw [HX.out.length]; omega) HD.out.symm h
          have HEQ : Hid (xs[k]?.getD 0 = ys[k]?.getD 0 → dig (xs.drop k) = dig (ys.drop k)) := fun h => by rw [dig_drop_pred, dig_drop_pred (xs := ys), h, HD.out]
          clear hc hc2
          generalize xs[k]?.getD 0 = x at *
          generalize ys[k]?.getD 0 = y at *
          have hz : ((k + 1 : Nat) : Int) - 1 = (k : Int) := by omega
          rw [hz]
          by_cases h5 : x < y
          · have hcm : cmpN (dig xs) (dig ys) = -1 := by unfold cmpN; rw [if_pos (HLT.out h5)]
            have HCM : Hid _ := hcm
            clear hcm
            go_wp2_with fail
            go_region
            go_wp2_with fail
            go_ret
            exact ⟨by rw [HCM.out]; rfl, HB.out.drew⟩
          · by_cases h6 : y < x
            · have hcm : cmpN (dig xs) (dig ys) = 1 := by have := HGT.out h6; unfold cmpN; rw [if_neg (by omega), if_neg (by omega)]
              have HCM : Hid _ := hcm
              clear hcm
              go_wp2_with fail
              go_region
              go_wp2_with fail
              go_region
              go_wp2_with fail
              go_ret
              exact ⟨by rw [HCM.out]; rfl, HB.out.drew.drew⟩
            · obtain rfl : x = y := by omega
              go_wp2_with fail
              go_region
              go_wp2_with fail
              go_region
              go_wp2_with fail
              go_roundg fu
              case rel => exact ⟨k, by omega, rfl, HEQ.out trivial, HB.out.drew.drew, by omega⟩
              case measure => omega
end Go.Proofs.Ytigaggkipmcgeaa
