import Derived.Test.YtigaggkipmcgeaaNB
import Derived.Test.YtigaggkipmcgeaaPur
namespace Go.Proofs.Ytigaggkipmcgeaa
open Go.RowKit
set_option linter.unusedVariables false

set_option maxRecDepth 100000 in
set_option maxHeartbeats 2000000 in
theorem left_any (ao : Option Addr) (len cap : Nat) (xs : List Nat) (n : Nat) (w : World) (hr : Rd4 w ao len cap xs) (hn : n ≤ 100000) (hl : len ≤ 10000) :
    Calls Try.prog 103 #[.slice ao len cap, .int .i64 n] w fun e w' => ∃ ao' k cap' zs, e = .returned (.slice ao' k cap') ∧ Rd4 w' ao' k cap' zs ∧ Nm zs ∧ dig zs = dig xs * 2 ^ n ∧ Below w.heap.size w w' ∧ k ≤ len + n / 32 + 1 := by
  have hle := hr.le
  have hmx := hr.max
  by_cases h0 : len = 0
  · subst h0
    have hx : xs = [] := List.eq_nil_of_length_eq_zero hr.length
    subst hx
    clear hr
    go_enter Try.func103, Try.ntmps103
    go_wp2
    go_ret
    exact ⟨none, 0, 0, [], rfl, Rd4.none _, .inl rfl, by simp [dig], Below.refl _ _, by omega⟩
  · have hb0 : ((len : Int) == 0) = false := by rw [beq_eq_false_iff_ne]; omega
    obtain ⟨q, hq⟩ : ∃ q : Nat, n / 32 = q := ⟨_, rfl⟩
    obtain ⟨s, hs⟩ : ∃ s : Nat, n % 32 = s := ⟨_, rfl⟩
    have hqi : (n : Int) / 32 = q := by omega
    have hsi : (n : Int) % 32 = s := by omega
    have hs32 : s < 32 := by omega
    have hqb : q ≤ 3200 := by omega
    obtain ⟨w1, hmk, hO, hB1⟩ := make4 w (len + q + 1) (by omega)
    have hmk' := hmk ((len : Int) + q + 1) (by omega)
    have HR : Hid _ := hr
    have HN : Hid (n = 32 * q + s) := by unfold Hid; omega
    have HO : Hid _ := hO
    have HB1 : Hid _ := hB1
    clear hmk hr hq hs hO hB1
    go_enter Try.func103, Try.ntmps103
    go_wp2_with fail
    go_loopg [6] len (fun gg i wx => ∃ (k : Nat) (zs : List Nat), k ≤ len ∧ i = .int .i64 k ∧ Hid (Own4 wx w.heap.size w.heap.size (len + q + 1) zs) ∧ Hid (Below w.heap.size w wx) ∧ Hid (U4 zs) ∧ Hid (dig zs = dig (xs.take k) * 2 ^ n) ∧ Hid (∀ j, k + q < j → zs[j]?.getD 0 = 0) ∧ Hid (zs[k + q]?.getD 0 < 2 ^ s) ∧ len ≤ k + gg)
    case atStart =>
      refine ⟨0, List.replicate (len + q + 1) 0, by omega, rfl, HO, HB1, ?_, ?_, ?_, ?_, by omega⟩
      · intro x hx; rw [List.eq_of_mem_replicate hx]; decide
      · unfold Hid; rw [dig_zeros]; simp [dig]
      · intro j _; by_cases hj : j < len + q + 1 <;> simp [hj]
      · unfold Hid; rw [List.getElem?_replicate, if_pos (by omega)]; exact Nat.two_pow_pos s
    case round =>
      obtain ⟨k, zs, hk, rfl, HOz, HBz, HUz, HDz, HZz, HLz, hfu⟩ := hrel
      by_cases hlt : k < len
      · obtain ⟨fu, rfl⟩ : ∃ g, gk = g + 1 := ⟨gk - 1, by omega⟩
        rcases HR.out.cells with h1 | ⟨b, off, rfl, hc⟩
        · omega
        have g := (HBz.out.cell (World.block_lt_of_cell? w _ (hc k hlt))).trans (hc k hlt)
        have hx := HR.out.lt.at k
        have gz := HOz.out.cell (k + q) (by omega)
        have gf := HOz.out.frozen
        have hz1 := HOz.out.set (k + q)
        have hzb := HUz.out.at (k + q)
        clear hc
        have hkl : k < xs.length := by rw [HR.out.length]; exact hlt
        have HTS : Hid _ := dig_take_succ hkl
        have hst := left_step (T := 2 ^ n) (D := dig (xs.take k)) (N := 0) hs32 hx (by rw [HOz.out.1]; omega) HUz.out HZz.out HLz.out HDz.out (Nat.mul_one _)
        have HST : Hid _ := hst
        have hV1 := hst.2.2.2.2.1
        have hV2 := hst.2.2.2.2.2
        clear hst hkl
        generalize hxe : xs[k]?.getD 0 = x at *
        generalize hze : zs[k + q]?.getD 0 = z at *
        have hXb : x * 2 ^ s < 9223372036854775808 := by
          have h2 : (2 : Nat) ^ s ≤ 2 ^ 31 := Nat.pow_le_pow_right (by omega) (by omega)
          have h31 : (2 : Nat) ^ 31 = 2147483648 := by decide
          have h3 : x * 2 ^ s ≤ x * 2147483648 := Nat.mul_le_mul_left _ (by omega)
          omega
        have hsh : IntKind.u64.wrap ((x : Int) * 2 ^ s) = ((x * 2 ^ s : Nat) : Int) := by
          rw [show (x : Int) * 2 ^ s = ((x * 2 ^ s : Nat) : Int) by rw [Int.natCast_mul, Int.natCast_pow]; rfl, IntKind.wrap_u64]
          omega
        have hor1 : bits .or .u32 (z : Int) (((x * 2 ^ s : Nat) : Int) % 4294967296) = ((z + x * 2 ^ s % 4294967296 : Nat) : Int) := by
          rw [show ((x * 2 ^ s : Nat) : Int) % 4294967296 = ((x * 2 ^ s % 4294967296 : Nat) : Int) by omega, u32_or_nat _ _ hzb (Nat.mod_lt _ (by decide))]
          congr 1
          have hd : (2 ^ s : Nat) ∣ x * 2 ^ s % 4294967296 := by
            rw [show (4294967296 : Nat) = 2 ^ (32 - s) * 2 ^ s by rw [← Nat.pow_add, show 32 - s + s = 32 by omega]]
            rw [Nat.mul_mod_mul_right]; exact Nat.dvd_mul_left ..
          obtain ⟨c, hc⟩ := hd
          rw [hc, Nat.or_comm, ← Nat.two_pow_add_eq_or_of_lt HLz.out, Nat.add_comm]
        have hor2 : bits .or .u32 0 (((x * 2 ^ s : Nat) : Int) / 4294967296) = ((x * 2 ^ s / 4294967296 : Nat) : Int) := by
          rw [show ((x * 2 ^ s : Nat) : Int) / 4294967296 = ((x * 2 ^ s / 4294967296 : Nat) : Int) by omega, show (0 : Int) = ((0 : Nat) : Int) from rfl, u32_or_nat _ _ (by decide) hV2, Nat.zero_or]
        have O1 := hz1 (z + x * 2 ^ s % 4294967296)
        have gz2 := O1.cell (k + q + 1) (by omega)
        rw [List.getElem?_set, if_neg (by omega), HZz.out (k + q + 1) (by omega)] at gz2
        have gf2 := O1.frozen
        have HO2 : Hid _ := O1.set (k + q + 1) (x * 2 ^ s / 4294967296)
        clear O1 hz1
        generalize hXe : x * 2 ^ s = X at *
        generalize hV1e : z + X % 4294967296 = V1 at *
        generalize hV2e : X / 4294967296 = V2 at *
        have gz2' : (wr.setCell ⟨w.heap.size, k + q, none⟩ (.int .u32 V1)).cell? ⟨w.heap.size, k + q + 1, none⟩ = some (.int .u32 0) := gz2
        clear gz2
        go_wp2_with fail
        go_roundg fu
        case rel =>
          refine ⟨k + 1, _, by omega, by go_num, HO2, ?_, HST.out.1, ?_, ?_, ?_, by omega⟩
          · exact below_set (below_set HBz.out (Nat.le_refl _)) (Nat.le_refl _)
          · unfold Hid
            rw [HST.out.2.1, HDz.out, HTS.out, Nat.add_mul, HN.out, Nat.pow_add, ← hXe]
            congr 1
            show wd (k + q) * (x * 2 ^ s) = wd k * x * (wd q * 2 ^ s)
            rw [wd_add, Nat.mul_mul_mul_comm]
          · unfold Hid; rw [show k + 1 + q = k + q + 1 by omega]; exact HST.out.2.2.1
          · unfold Hid; rw [show k + 1 + q = k + q + 1 by omega]; exact HST.out.2.2.2.1
        case measure => omega
      · obtain rfl : k = len := by omega
        have HTL : Hid (xs.take k = xs) := by unfold Hid; exact List.take_of_length_le (by rw [HR.out.length]; omega)
        go_wp2_with (go_at_call 64; refine (trim_any _ _ _ zs _ (HOz.out.rd HUz.out (by omega))).mono ?_; rintro e w' ⟨ao', m, rfl, rfl, hr', hm, hnm, hdg⟩)
        go_ret
        exact ⟨ao', m, _, _, rfl, hr', hnm, by rw [hdg, HDz.out, HTL.out], HBz.out, by have := HN.out; omega⟩
end Go.Proofs.Ytigaggkipmcgeaa
