import Derived.Test.YtigaggkipmcgeaaNP
import Derived.BigRegion
namespace Go.Proofs.Ytigaggkipmcgeaa
open Go.RowKit
set_option linter.unusedVariables false

theorem times_step {Z Z' W c x y o S Yk I P : Nat} (hW : 0 < W) (hS : S = c + x * y + o) (hset : Z' + W * o = Z + W * (S % 4294967296)) (h : Z + W * c = P + I * x * Yk) (wk : Nat) (hWk : W = I * wk) :
    Z' + 4294967296 * W * (S / 4294967296) = P + I * x * (Yk + wk * y) := by
  have e1 := Nat.div_add_mod S 4294967296
  have e2 : 4294967296 * W * (S / 4294967296) + W * (S % 4294967296) = W * S := by
    rw [Nat.mul_comm 4294967296 W, Nat.mul_assoc, ← Nat.mul_add, e1]
  have e3 : W * S = W * c + W * (x * y) + W * o := by rw [hS, Nat.mul_add, Nat.mul_add]
  have e4 : I * x * (Yk + wk * y) = I * x * Yk + W * (x * y) := by
    rw [Nat.mul_add, hWk]; congr 1
    rw [Nat.mul_assoc, Nat.mul_assoc]; congr 1
    rw [← Nat.mul_assoc, ← Nat.mul_assoc, Nat.mul_comm x wk]
  omega
set_option maxRecDepth 100000 in
set_option maxHeartbeats 2000000 in
theorem times_any (ao : Option Addr) (len cap : Nat) (xs : List Nat) (bo : Option Addr) (blen bcap : Nat) (ys : List Nat) (w : World) (hx : Rd4 w ao len cap xs) (hy : Rd4 w bo blen bcap ys) (hl : len ≤ 10000) (hl2 : blen ≤ 10000) :
    Calls Try.prog 69 #[.slice ao len cap, .slice bo blen bcap] w fun e w' => ∃ ao' k cap' zs, e = .returned (.slice ao' k cap') ∧ Rd4 w' ao' k cap' zs ∧ Nm zs ∧ dig zs = dig xs * dig ys ∧ Below w.heap.size w w' ∧ k ≤ len + blen := by
  have h1 := hx.le
  have h2 := hx.max
  have h3 := hy.le
  have h4 := hy.max
  obtain ⟨w1, hmk, hO, hB1⟩ := make4 w (len + blen) (by omega)
  have hmk' := hmk ((len : Int) + (blen : Int)) (by omega)
  have HX : Hid _ := hx
  have HY : Hid _ := hy
  have HO : Hid _ := hO
  have HB1 : Hid _ := hB1
  clear hmk hx hy hO hB1
  go_enter Try.func69, Try.ntmps69
  go_wp2_with fail
  go_loopg [6] len (fun gg i wx => ∃ (k : Nat) (zs : List Nat), k ≤ len ∧ i = .int .i64 k ∧ Hid (Own4 wx w.heap.size w.heap.size (len + blen) zs) ∧ Hid (Below w.heap.size w wx) ∧ Hid (U4 zs) ∧ Hid (dig zs = dig (xs.take k) * dig ys) ∧ Hid (∀ j, k + blen ≤ j → zs[j]?.getD 0 = 0) ∧ len ≤ k + gg)
  case atStart =>
    refine ⟨0, List.replicate (len + blen) 0, by omega, rfl, HO, HB1, ?_, ?_, ?_, by omega⟩
    · intro x hx; rw [List.eq_of_mem_replicate hx]; decide
    · unfold Hid; rw [dig_zeros]; simp [dig]
    · intro j _; rw [List.getElem?_replicate]; split <;> rfl
  case round =>
    obtain ⟨i, zs, hi, rfl, HOz, HBz, HUz, HDz, HZz, hfu⟩ := hrel
    by_cases hlt : i < len
    · obtain ⟨fu, rfl⟩ : ∃ g, gk = g + 1 := ⟨gk - 1, by omega⟩
      rcases HX.out.cells with hh | ⟨b, off, rfl, hc⟩
      · omega
      have HCX : Hid (w.cell? ⟨b, off + i, none⟩ = some (.int .u32 ((xs[i]?.getD 0 : Nat) : Int))) := hc i hlt
      have hxb := HX.out.lt.at i
      have HTX : Hid _ := dig_take_more (ys := xs) (k := i)
      clear hc
      generalize xs[i]?.getD 0 = x at *
      go_wp2_with fail
      go_loopg [7, 8] blen (fun gg c kk wx => ∃ (k cc : Nat) (zs' : List Nat), k ≤ blen ∧ kk = .int .i64 k ∧ c = .int .u64 cc ∧ cc < 4294967296 ∧ Hid (Own4 wx w.heap.size w.heap.size (len + blen) zs') ∧ Hid (Below w.heap.size w wx) ∧ Hid (U4 zs') ∧ Hid (dig zs' + wd (i + k) * cc = dig (xs.take i) * dig ys + wd i * x * dig (ys.take k)) ∧ Hid (∀ j, i + blen ≤ j → zs'[j]?.getD 0 = 0) ∧ blen ≤ k + gg)
      case atStart =>
        refine ⟨0, 0, zs, by omega, rfl, rfl, by omega, HOz, HBz, HUz, ?_, HZz, by omega⟩
        unfold Hid; rw [HDz.out]; simp [dig]
      case round =>
        obtain ⟨k, cc, zs', hk, rfl, rfl, hcc, HOy, HBy, HUy, HDy, HZy, hfu2⟩ := hrel
        by_cases hlt2 : k < blen
        · obtain ⟨fu2, rfl⟩ : ∃ g, gk = g + 1 := ⟨gk - 1, by omega⟩
          rcases HY.out.cells with hh | ⟨b2, off2, rfl, hc2⟩
          · omega
          have g := (HBy.out.cell (World.block_lt_of_cell? w _ HCX.out)).trans HCX.out
          have g2 := (HBy.out.cell (World.block_lt_of_cell? w _ (hc2 k hlt2))).trans (hc2 k hlt2)
          have hyb := HY.out.lt.at k
          obtain ⟨J, hJ⟩ : ∃ J : Nat, i + k = J := ⟨_, rfl⟩
          have gz := HOy.out.cell J (by omega)
          have hob := HUy.out.at J
          have gf := HOy.out.frozen J
          have HSET : Hid _ := HOy.out.set J
          have HTY : Hid _ := dig_take_more (ys := ys) (k := k)
          have HDS : Hid (∀ v, dig (zs'.set J v) + wd J * zs'[J]?.getD 0 = dig zs' + wd J * v) := fun v => dig_set (by rw [HOy.out.1]; omega)
          clear hc2
          generalize ys[k]?.getD 0 = y at *
          generalize zs'[J]?.getD 0 = o at *
          obtain ⟨P, hP⟩ : ∃ P : Nat, x * y = P := ⟨_, rfl⟩
          have hPi : (x : Int) * (y : Int) = (P : Int) := by rw [← hP, Int.natCast_mul]
          have hPb : P ≤ 18446744065119617025 := by
            rw [← hP]; exact Nat.mul_le_mul (show x ≤ 4294967295 by omega) (show y ≤ 4294967295 by omega)
          obtain ⟨S, hS⟩ : ∃ S : Nat, cc + P + o = S := ⟨_, rfl⟩
          have hSi : (cc : Int) + P + o = (S : Int) := by omega
          have hSb : S < 18446744073709551616 := by omega
          have hkk : (i : Int) + (k : Int) = (J : Int) := by omega
          have HJ : Hid (i + k = J) := hJ
          have hJb : J < len + blen := by omega
          have HS0 : Hid _ := hS
          have HP0 : Hid _ := hP
          obtain ⟨Q, hQ⟩ : ∃ Q : Nat, cc + P = Q := ⟨_, rfl⟩
          have hw1 : IntKind.u64.wrap ((x : Int) * (y : Int)) = (P : Int) := by rw [hPi, IntKind.wrap_u64]; omega
          have hw2 : IntKind.u64.wrap ((cc : Int) + (P : Int)) = (Q : Int) := by rw [IntKind.wrap_u64]; omega
          have hw3 : IntKind.u64.wrap ((Q : Int) + (o : Int)) = (S : Int) := by rw [IntKind.wrap_u64]; omega
          have hw4 : IntKind.i64.wrap ((i : Int) + (k : Int)) = (J : Int) := by rw [IntKind.wrap_i64]; omega
          have hw5 : IntKind.i64.wrap (J : Int) = (J : Int) := by rw [IntKind.wrap_i64]; omega
          clear hS hP hQ hSi hPi hJ
          go_wp2_with fail
          go_region
          go_wp2_with fail
          go_roundg fu2
          case rel =>
            refine ⟨k + 1, S / 4294967296, zs'.set J (S % 4294967296), by omega, by go_num, by go_num, by omega, HSET.out _, (below_set HBy.out (Nat.le_refl _)).drew, HUy.out.set _ _ (Nat.mod_lt _ (by decide)), ?_, ?_, by omega⟩
            · unfold Hid
              have hDy := HDy.out
              rw [HJ.out] at hDy
              rw [HTY.out, ← Nat.add_assoc, HJ.out, wd_succ]
              exact times_step (wd_pos _) (by rw [HP0.out, HS0.out]) (HDS.out _) hDy (wd k) (by rw [← HJ.out, wd_add])
            · intro j hj
              rw [List.getElem?_set, if_neg (by have := HJ.out; omega)]; exact HZy.out j hj
          case measure => omega
        · obtain rfl : k = blen := by omega
          obtain ⟨J, hJ⟩ : ∃ J : Nat, i + k = J := ⟨_, rfl⟩
          have gz := HOy.out.cell J (by omega)
          rw [HZy.out J (by omega)] at gz
          have gf := HOy.out.frozen J
          have HSET : Hid _ := HOy.out.set J cc
          have HDF : Hid (dig (zs'.set J cc) = dig (xs.take (i + 1)) * dig ys) := by
            unfold Hid
            have e1 := dig_set (xs := zs') (k := J) (v := cc) (by rw [HOy.out.1]; omega)
            have hDy := HDy.out
            rw [hJ] at hDy
            rw [HZy.out J (by omega), Nat.mul_zero, Nat.add_zero, hDy, List.take_of_length_le (l := ys) (by rw [HY.out.length]; omega)] at e1
            rw [e1, HTX.out, Nat.add_mul]
          have hkk : (i : Int) + (k : Int) = (J : Int) := by omega
          have HJ : Hid (i + k = J) := hJ
          have hJb : J < len + k := by omega
          have hw4 : IntKind.i64.wrap ((i : Int) + (k : Int)) = (J : Int) := by rw [IntKind.wrap_i64]; omega
          clear hJ
          have hcm : (cc : Int) % 4294967296 = (cc : Int) := by omega
          go_wp2_with fail
          go_roundg fu
          case rel =>
            refine ⟨i + 1, zs'.set J cc, by omega, by go_num, HSET, below_set HBy.out (Nat.le_refl _), HUy.out.set _ _ hcc, HDF, ?_, by omega⟩
            intro j hj
            rw [List.getElem?_set, if_neg (by have := HJ.out; omega)]; exact HZy.out j (by omega)
          case measure => omega
    · obtain rfl : i = len := by omega
      have HDF : Hid (dig zs = dig xs * dig ys) := by
        unfold Hid; rw [HDz.out, List.take_of_length_le (by rw [HX.out.length]; omega)]
      go_wp2_with fail
      refine (trim_any _ _ _ zs _ (Own4.rd HOz.out HUz.out (by omega))).mono ?_
      rintro e w' ⟨ao', m, rfl, rfl, hr', hm', hnm, hdg⟩
      go_wp2_with fail
      go_ret
      exact ⟨ao', m, _, _, rfl, hr', hnm, by rw [hdg, HDF.out], HBz.out, by omega⟩
end Go.Proofs.Ytigaggkipmcgeaa
