import Derived.Test.YtigaggkipmcgeaaNC
import Derived.Test.YtigaggkipmcgeaaPur
import Derived.BigRegion
import Derived.BigGuard
namespace Go.Proofs.Ytigaggkipmcgeaa
open Go.RowKit
set_option linter.unusedVariables false

/-- Is it not 0? -/
def nz (m : Nat) : Bool := m != 0
theorem nz_true {m : Nat} (h : m ≠ 0) : nz m = true := by unfold nz; rw [bne_iff_ne]; exact h
theorem nz_zero : nz 0 = false := rfl

set_option maxRecDepth 100000 in
set_option maxHeartbeats 600000 in
theorem right_any (ao : Option Addr) (len cap : Nat) (xs : List Nat) (n : Nat) (w : World) (hr : Rd4 w ao len cap xs) (hn : n ≤ 100000) (hl : len ≤ 10000) :
    Calls Try.prog 129 #[.slice ao len cap, .int .i64 n] w fun e w' => ∃ ao' k cap', e = .returned (.tuple #[.slice ao' k cap', .bool (nz (dig xs % 2 ^ n))]) ∧ ∃ zs, Rd4 w' ao' k cap' zs ∧ Nm zs ∧ dig zs = dig xs / 2 ^ n ∧ Below w.heap.size w w' ∧ k ≤ len := by
  have hle := hr.le
  have hmx := hr.max
  obtain ⟨q, hq⟩ : ∃ q : Nat, n / 32 = q := ⟨_, rfl⟩
  obtain ⟨s, hs⟩ : ∃ s : Nat, n % 32 = s := ⟨_, rfl⟩
  have hqi : (n : Int) / 32 = q := by omega
  have hsi : (n : Int) % 32 = s := by omega
  have hs32 : s < 32 := by omega
  have hqb : q ≤ 3200 := by omega
  have HR : Hid _ := hr
  have HN : Hid (n = 32 * q + s) := by unfold Hid; omega
  clear hr hq hs
  go_enter Try.func129, Try.ntmps129
  go_wp2_with fail
  go_loop [6, 7] (fun r i => ∃ k : Nat, k ≤ len ∧ k ≤ q ∧ i = .int .i64 k ∧ r = .bool (nz (dig (xs.take k)))) (fun _ i => len - (intOf i).toNat)
  case atStart => exact ⟨0, by omega, by omega, rfl, rfl⟩
  case round =>
    obtain ⟨k, hk, hkq, rfl, rfl⟩ := hrel
    by_cases hlt : k < len ∧ k < q
    · obtain ⟨hlt, hlq⟩ := hlt
      rcases HR.out.cells with h1 | ⟨b, off, rfl, hc⟩
      · omega
      have g := hc k hlt
      have hx := HR.out.lt.at k
      have hkl : k < xs.length := by rw [HR.out.length]; exact hlt
      have HTS : Hid _ := dig_take_succ hkl
      have hwp := wd_pos k
      clear hc hkl
      generalize hxe : xs[k]?.getD 0 = x at *
      by_cases hd : dig (xs.take k) = 0
      · have hd1 : nz (dig (xs.take k)) = false := by rw [hd]; rfl
        rw [hd1]
        have hres : nz (dig (xs.take (k + 1))) = ((x : Int) != 0) := by
          rw [HTS.out, hd, Nat.zero_add]
          by_cases hx0 : x = 0
          · subst hx0; rfl
          · have : ((x : Int) != 0) = true := by rw [bne_iff_ne]; omega
            rw [this]; exact nz_true (by have := Nat.mul_pos hwp (show 0 < x by omega); omega)
        go_wp2_with fail
        go_round
        case rel => exact ⟨k + 1, by omega, by omega, by go_num, by rw [hres]⟩
        case measure => show len - ((k : Int) + 1).toNat < len - (k : Int).toNat; omega
      · have hd1 : nz (dig (xs.take k)) = true := nz_true hd
        rw [hd1]
        have hres : nz (dig (xs.take (k + 1))) = true := nz_true (by rw [HTS.out]; omega)
        go_wp2_with fail
        go_round
        case rel => exact ⟨k + 1, by omega, by omega, by go_num, by rw [hres]⟩
        case measure => show len - ((k : Int) + 1).toNat < len - (k : Int).toNat; omega
    · by_cases hql : len ≤ q
      · obtain rfl : k = len := by omega
        have HT : Hid (xs.take k = xs) := by unfold Hid; exact List.take_of_length_le (by rw [HR.out.length]; omega)
        have hlt2 := dig_lt HR.out.lt
        rw [HR.out.length] at hlt2
        have hw : wd k ≤ 2 ^ n := by unfold wd; exact Nat.pow_le_pow_right (by omega) (by have := HN.out; omega)
        have HM : Hid (dig xs % 2 ^ n = dig xs ∧ dig xs / 2 ^ n = 0) := ⟨Nat.mod_eq_of_lt (by omega), Nat.div_eq_of_lt (by omega)⟩
        rw [HT.out]
        clear hlt2 hw
        go_wp2_with fail
        go_ret2
        refine ⟨Option.none, 0, 0, ?_, [], Rd4.none _, .inl rfl, by rw [HM.out.2]; rfl, Below.refl _ _, by omega⟩
        rw [HM.out.1]; rfl
      · obtain rfl : k = q := by omega
        have hkl : k < len := by omega
        rcases HR.out.cells with h1 | ⟨b, off, rfl, hc⟩
        · omega
        have g := hc k hkl
        have hx := HR.out.lt.at k
        have HC : Hid _ := hc
        have hcw := cut_words HR.out.lt HN.out (by rw [HR.out.length]; omega)
        have hlb := low_bits (xs := xs) (q := k) hs32
        rw [hlb] at hcw
        have HCW : Hid _ := hcw
        clear hc hcw hlb
        generalize hxe : xs[k]?.getD 0 = x at *
        have hwp := wd_pos k
        go_upto_region 8 with fail
        go_cut [6] (fun r wx => r = .bool (nz (dig xs % 2 ^ n)) ∧ Below w.heap.size w wx ∧ wx.heap.size = w.heap.size)
        case first =>
          by_cases hd : dig (xs.take k) = 0
          · have hd1 : nz (dig (xs.take k)) = false := by rw [hd]; rfl
            rw [hd1]
            have hres : (bits .and .u32 (x : Int) ((2 ^ s - 1) % 4294967296) != 0) = nz (dig xs % 2 ^ n) := by
              rw [HCW.out.2, hd, Nat.zero_add]
              have hp : (2 : Nat) ^ s ≤ 2 ^ 31 := Nat.pow_le_pow_right (by omega) (by omega)
              have h31 : (2 : Nat) ^ 31 = 2147483648 := by decide
              have hp0 := Nat.two_pow_pos s
              have e1 : ((2 : Int) ^ s - 1) % 4294967296 = ((2 ^ s - 1 : Nat) : Int) := by
                have e0 : ((2 : Int) ^ s) = ((2 ^ s : Nat) : Int) := by rw [Int.natCast_pow]; rfl
                rw [e0]; omega
              rw [e1, u32_and_nat _ _ hx (by omega), Nat.and_two_pow_sub_one_eq_mod]
              by_cases hm : x % 2 ^ s = 0
              · rw [hm]; rfl
              · rw [nz_true (by have := Nat.mul_pos hwp (show 0 < x % 2 ^ s by omega); omega), bne_iff_ne]; omega
            go_region
            go_wp2_with fail
            go_meet
            exact ⟨rfl, (Below.refl _ _).drew, rfl⟩
          · have hd1 : nz (dig (xs.take k)) = true := nz_true hd
            rw [hd1]
            go_region
            go_wp2_with fail
            go_meet
            exact ⟨by rw [HCW.out.2, nz_true (by omega)], (Below.refl _ _).drew, rfl⟩
        case rest =>
        obtain ⟨rfl, hBc, hsz⟩ := hcut
        obtain ⟨w1, hmk, hO, hB1⟩ := make4 wc (len - k) (by omega)
        have hmk' := hmk ((len : Int) - k) (by omega)
        rw [hsz] at hO hB1 hmk'
        have HO : Hid _ := hO
        have HB1 : Hid (Below w.heap.size w w1) := hBc.trans hB1
        have HDV : Hid (dig (shr s (xs.drop k)) = dig xs / 2 ^ n) := by unfold Hid; rw [HCW.out.1, dig_shr hs32 (HR.out.lt.drop k)]
        have HSL : Hid ((shr s (xs.drop k)).length = len - k) := by unfold Hid; rw [shr_len, List.length_drop, HR.out.length]
        have HU : Hid (U4 xs) := HR.out.lt
        have HLN : Hid (xs.length = len) := HR.out.length
        clear hmk hO hB1 hBc hsz g hwp HCW hx
        have hLn : k + (len - k) = len := by omega
        have hLi : (len : Int) - k = ((len - k : Nat) : Int) := by omega
        generalize hLe : len - k = L at *
        rw [hLi] at hmk'
        have HDR : Hid (∀ j, (xs.drop k)[j]?.getD 0 = xs[j + k]?.getD 0) := by intro j; rw [List.getElem?_drop, Nat.add_comm]
        have HDL : Hid ((xs.drop k).length = L) := by unfold Hid; rw [List.length_drop, HLN.out]; omega
        go_wp2_with fail
        go_loopg [9] L (fun gg i wx => ∃ (m : Nat) (zs : List Nat), m ≤ L ∧ i = .int .i64 m ∧ Hid (Own4 wx w.heap.size w.heap.size L zs) ∧ Hid (Below w.heap.size w wx) ∧ Hid (U4 zs) ∧ Hid (∀ j, j < m → zs[j]?.getD 0 = (shr s (xs.drop k))[j]?.getD 0) ∧ L ≤ m + gg)
        case atStart =>
          refine ⟨0, List.replicate L 0, by omega, rfl, HO, HB1, ?_, ?_, by omega⟩
          · intro x hx; rw [List.eq_of_mem_replicate hx]; decide
          · intro j hj; omega
        case round =>
          obtain ⟨m, zs, hm, rfl, HOz, HBz, HUz, HZz, hfu⟩ := hrel
          by_cases hmL : m < L
          · obtain ⟨fu, rfl⟩ : ∃ g, gk = g + 1 := ⟨gk - 1, by omega⟩
            have g1 := (HBz.out.cell (World.block_lt_of_cell? w _ (HC.out (m + k) (by omega)))).trans (HC.out (m + k) (by omega))
            have hd1 := HU.out.at (m + k)
            have gz := HOz.out.cell m hmL
            have gf := HOz.out.frozen m
            have hat := shr_at s (xs.drop k) m (by rw [HDL.out]; exact hmL)
            rw [HDR.out, HDR.out, show m + 1 + k = m + k + 1 by omega] at hat
            have hset := HOz.out.set m
            have hZ2 : ∀ v, v = (shr s (xs.drop k))[m]?.getD 0 → ∀ j, j < m + 1 → (zs.set m v)[j]?.getD 0 = (shr s (xs.drop k))[j]?.getD 0 := by
              intro v hv j hj
              rw [List.getElem?_set]
              by_cases e : m = j
              · subst e; rw [if_pos rfl, if_pos (by rw [HOz.out.1]; exact hmL)]; exact hv
              · rw [if_neg e]; exact HZz.out j (by omega)
            have HZ2 : Hid _ := hZ2
            have HSET : Hid _ := hset
            clear hZ2 hset
            by_cases hm2 : m + k + 1 < len
            · have g2 := (HBz.out.cell (World.block_lt_of_cell? w _ (HC.out (m + k + 1) hm2))).trans (HC.out (m + k + 1) hm2)
              have hd2 := HU.out.at (m + k + 1)
              generalize xs[m + k]?.getD 0 = d1 at *
              generalize xs[m + k + 1]?.getD 0 = d2 at *
              have hor : bits .or .u64 (d1 : Int) ((d2 : Int) * 4294967296) = ((d1 + 4294967296 * d2 : Nat) : Int) := by
                rw [show (d2 : Int) * 4294967296 = ((4294967296 * d2 : Nat) : Int) by omega, u64_or_nat _ _ (by omega) (by omega)]
                congr 1
                have := Nat.two_pow_add_eq_or_of_lt (i := 32) (b := d1) (by omega) d2
                rw [show (2 : Nat) ^ 32 = 4294967296 by decide] at this
                rw [Nat.or_comm, ← this, Nat.add_comm]
              have hXb : d1 + 4294967296 * d2 < 18446744073709551616 := by omega
              generalize hX : d1 + 4294967296 * d2 = X at *
              go_wp2_with fail
              have hval : (X : Int) / 2 ^ s % 4294967296 = ((X / 2 ^ s % 4294967296 : Nat) : Int) := by
                rw [show ((2 : Int) ^ s) = ((2 ^ s : Nat) : Int) by rw [Int.natCast_pow]; rfl]
                rfl
              rw [hval]
              go_roundg fu
              case rel =>
                exact ⟨m + 1, _, by omega, by go_num, HSET.out _, below_set HBz.out (Nat.le_refl _), HUz.out.set m _ (Nat.mod_lt _ (by decide)), HZ2.out _ (by rw [hat]), by omega⟩
              case measure => omega
            · have hd0 : xs[m + k + 1]?.getD 0 = 0 := by rw [List.getElem?_eq_none (by rw [HLN.out]; omega)]; rfl
              rw [hd0, Nat.mul_zero, Nat.add_zero] at hat
              generalize xs[m + k]?.getD 0 = X at *
              go_wp2_with fail
              have hval : (X : Int) / 2 ^ s % 4294967296 = ((X / 2 ^ s % 4294967296 : Nat) : Int) := by
                rw [show ((2 : Int) ^ s) = ((2 ^ s : Nat) : Int) by rw [Int.natCast_pow]; rfl]
                rfl
              rw [hval]
              go_roundg fu
              case rel =>
                exact ⟨m + 1, _, by omega, by go_num, HSET.out _, below_set HBz.out (Nat.le_refl _), HUz.out.set m _ (Nat.mod_lt _ (by decide)), HZ2.out _ (by rw [hat]), by omega⟩
              case measure => omega
          · obtain rfl : m = L := by omega
            have HZE : Hid (zs = shr s (xs.drop k)) := by
              unfold Hid
              apply List.ext_getElem (by rw [HOz.out.1, HSL.out])
              intro j h1 h2
              have := HZz.out j (by rw [HOz.out.1] at h1; exact h1)
              rw [List.getElem?_eq_getElem h1, List.getElem?_eq_getElem h2] at this
              simpa using this
            go_wp2_with (go_at_call 64; refine (trim_any _ _ _ zs _ (HOz.out.rd HUz.out (by omega))).mono ?_; rintro e w' ⟨ao', mm, rfl, rfl, hr', hm', hnm, hdg⟩)
            all_goals (go_ret2; exact ⟨ao', mm, _, rfl, _, hr', hnm, by rw [hdg, HZE.out, HDV.out], HBz.out, by omega⟩)
end Go.Proofs.Ytigaggkipmcgeaa
