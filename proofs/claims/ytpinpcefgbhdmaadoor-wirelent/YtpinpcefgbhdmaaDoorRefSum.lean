import Derived.Test.YtpinpcefgbhdmaaDoorSum
namespace Go.Proofs.YtpinpcefgbhdmaaDoor
open Go.RowKit
set_option linter.unusedVariables false

theorem bit_odd (R C : Nat) (h : R % 2 ≠ C % 2) : bit (R, C) = ((R / 2) ^^^ 2197175160, C / 2) := by unfold bit; simp only; rw [if_pos h]
theorem bit_even (R C : Nat) (h : R % 2 = C % 2) : bit (R, C) = (R / 2, C / 2) := by unfold bit; simp only; rw [if_neg (by simp [h])]

set_option maxRecDepth 100000 in
set_option maxHeartbeats 2000000 in
theorem refSum_any (ao : Option Addr) (n cap : Nat) (pss : List (List Int)) (w : World) (hr : RdL w ao n pss) :
    Calls Tryd.prog 35 #[.slice ao n cap] w fun e w' => e = .returned (.int .u32 ((sum pss.flatten : Nat) : Int)) ∧ Below w.heap.size w w' := by
  have hm := hr.max
  have HL : Hid (pss.length = n) := hr.length
  have hcl := hr.cells
  clear hr
  go_enter Tryd.func35, Tryd.ntmps35
  go_wp2
  go_loop [3, 4] (fun r i => ∃ (k R : Nat), k ≤ n ∧ i = .int .i64 k ∧ r = .int .u32 R ∧ R < 4294967296 ∧ Hid (R = crc 4294967295 (pss.take k).flatten)) (fun _ i => n - (intOf i).toNat)
  case atStart => exact ⟨0, 4294967295, by omega, rfl, rfl, by decide, rfl⟩
  case round =>
    obtain ⟨k, R, hk, rfl, rfl, hR, hRe⟩ := hrel
    by_cases hlt : k < n
    · rcases hcl with h0 | ⟨b, off, rfl, hc⟩
      · omega
      obtain ⟨a, l, c, hcell, hrd⟩ := hc k hlt
      have hml : l ≤ 9223372036854775807 := by have := hrd.le; have := hrd.max; omega
      have HLl : Hid ((pss[k]?.getD []).length = l) := hrd.length
      have Hfl : Hid ((pss.take (k + 1)).flatten = (pss.take k).flatten ++ (pss[k]?.getD [])) := by
        unfold Hid
        have hk' : k < pss.length := by rw [HL.out]; exact hlt
        rw [List.take_succ_eq_append_getElem hk', List.flatten_append, List.getElem?_eq_getElem hk']
        simp
      have HB : Hid (Byt (pss[k]?.getD [])) := hrd.byt
      have hcl2 := hrd.cells
      clear hrd hc
      generalize pss[k]?.getD [] = ys at *
      go_wp2
      go_loop [3, 5] (fun r i => ∃ (m R : Nat), m ≤ l ∧ i = .int .i64 m ∧ r = .int .u32 R ∧ R < 4294967296 ∧ Hid (R = crc 4294967295 ((pss.take k).flatten ++ ys.take m))) (fun _ i => l - (intOf i).toNat)
      case atStart => exact ⟨0, R, by omega, rfl, rfl, hR, by unfold Hid; rw [List.take_zero, List.append_nil]; exact hRe.out⟩
      case round =>
        obtain ⟨m, R2, hm2, rfl, rfl, hR2, hRe2⟩ := hrel
        by_cases hlt2 : m < l
        · rcases hcl2 with h0 | ⟨b2, off2, rfl, hc2⟩
          · omega
          have g := hc2 m hlt2
          have hby := HB.out.at m
          have Htk : Hid (ys.take (m + 1) = ys.take m ++ [ys[m]?.getD 0]) := by
            unfold Hid
            have hm' : m < ys.length := by rw [HLl.out]; exact hlt2
            rw [List.take_succ_eq_append_getElem hm', List.getElem?_eq_getElem hm']
            rfl
          clear hc2
          generalize ys[m]?.getD 0 = d at *
          obtain ⟨D, rfl⟩ := Int.eq_ofNat_of_zero_le hby.1
          have hD : D ≤ 255 := by omega
          clear hby
          go_wp2
          go_loop [3, 6, 7] (fun r c j => ∃ (q R3 C3 : Nat), q ≤ 8 ∧ j = .int .i64 q ∧ r = .int .u32 R3 ∧ c = .int .u8 C3 ∧ R3 < 4294967296 ∧ C3 ≤ 255 ∧ Hid (bitTo (R2, D) q = (R3, C3))) (fun _ _ j => 8 - (intOf j).toNat)
          case atStart => exact ⟨0, R2, D, by omega, rfl, rfl, rfl, hR2, hD, rfl⟩
          case round =>
            obtain ⟨q, R3, C3, hq, rfl, rfl, rfl, hR3, hC3, hbt⟩ := hrel
            by_cases hq8 : q < 8
            · have H2 : Hid (bits .xor .u32 ((R3 / 2 : Nat) : Int) 2197175160 = _) := xorP (R3 / 2) (by omega)
              by_cases hodd : R3 % 2 = C3 % 2
              · have ht : ((R3 : Int) % 2 != (C3 : Int) % 2) = false := by simp; omega
                have HN : Hid (bitTo (R2, D) (q + 1) = (R3 / 2, C3 / 2)) := by unfold Hid; rw [bitTo, hbt.out, bit_even R3 C3 hodd]
                clear hodd
                go_wp2
                go_round
                case rel => exact ⟨q + 1, R3 / 2, C3 / 2, by omega, by go_num, by go_num, by go_num, by omega, by omega, HN⟩
                case measure => simp [intOf]; omega
              · have ht : ((R3 : Int) % 2 != (C3 : Int) % 2) = true := by rw [bne_iff_ne]; omega
                have HN : Hid (bitTo (R2, D) (q + 1) = ((R3 / 2) ^^^ 2197175160, C3 / 2)) := by unfold Hid; rw [bitTo, hbt.out, bit_odd R3 C3 hodd]
                clear hodd
                go_wp2
                go_round
                case rel => exact ⟨q + 1, (R3 / 2) ^^^ 2197175160, C3 / 2, by omega, by go_num, by rw [← H2.out]; rfl, by go_num, xor_lt32 (by omega) (by decide), by omega, HN⟩
                case measure => simp [intOf]; omega
            · have hq' : q = 8 := by omega
              have HE : Hid (R3 = crc 4294967295 ((pss.take k).flatten ++ ys.take (m + 1))) := by
                unfold Hid
                have h8 := bit8 R2 D (by omega)
                rw [← hq', hbt.out] at h8
                rw [Htk.out, ← List.append_assoc, crc_snoc, ← hRe2.out]
                exact h8
              have hq8' : 8 ≤ q := by omega
              clear hq'
              go_wp2
              go_round
              case rel => exact ⟨m + 1, R3, by omega, by go_num, rfl, hR3, HE⟩
              case measure => simp [intOf]; omega
        · have hml2 : m = l := by omega
          subst hml2
          have e : ys.take m = ys := List.take_of_length_le (by rw [HLl.out]; exact Nat.le_refl _)
          have HE : Hid (R2 = crc 4294967295 (pss.take (k + 1)).flatten) := by unfold Hid; rw [Hfl.out, ← e]; exact hRe2.out
          clear e
          go_wp2
          go_round
          case rel => exact ⟨k + 1, R2, by omega, by go_num, rfl, hR2, HE⟩
          case measure => simp [intOf]; omega
    · have hkn : k = n := by omega
      have HE : Hid (sum pss.flatten = 4294967295 - R) := by
        unfold Hid sum
        rw [hRe.out, hkn, List.take_of_length_le (by rw [HL.out]; exact Nat.le_refl _)]
      clear hkn
      go_wp2
      go_ret
      exact ⟨ret_u32 (by rw [HE.out]; omega), Below.refl _ _⟩
end Go.Proofs.YtpinpcefgbhdmaaDoor
