import Derived.Test.YtigaggkipmcgeaaNP
namespace Go.Proofs.Ytigaggkipmcgeaa
open Go.RowKit
set_option linter.unusedVariables false

set_option maxRecDepth 100000 in
set_option maxHeartbeats 2000000 in
theorem minus_any (ao : Option Addr) (len cap : Nat) (xs : List Nat) (bo : Option Addr) (blen bcap : Nat) (ys : List Nat) (w : World) (hx : Rd4 w ao len cap xs) (hy : Rd4 w bo blen bcap ys) (hl : len ≤ 10000) (hll : blen ≤ len) (hdd : dig ys ≤ dig xs) :
    Calls Try.prog 68 #[.slice ao len cap, .slice bo blen bcap] w fun e w' => ∃ ao' k cap' zs, e = .returned (.slice ao' k cap') ∧ Rd4 w' ao' k cap' zs ∧ Nm zs ∧ dig zs = dig xs - dig ys ∧ Below w.heap.size w w' ∧ k ≤ len := by
  have h1 := hx.le
  have h2 := hx.max
  have h3 := hy.le
  have h4 := hy.max
  obtain ⟨w1, hmk, hO, hB1⟩ := make4 w len (by omega)
  have hmk' := hmk (len : Int) rfl
  have HX : Hid _ := hx
  have HY : Hid _ := hy
  have HO : Hid _ := hO
  have HB1 : Hid _ := hB1
  clear hmk hx hy hO hB1
  go_enter Try.func68, Try.ntmps68
  go_wp2_with fail
  go_loopg [6, 7] len (fun gg c i wx => ∃ (k cc : Nat) (zs : List Nat), k ≤ len ∧ i = .int .i64 k ∧ c = .int .u64 cc ∧ cc ≤ 1 ∧ Hid (Own4 wx w.heap.size w.heap.size len zs) ∧ Hid (Below w.heap.size w wx) ∧ Hid (U4 zs) ∧ Hid (dig (xs.take k) + wd k * cc = dig (zs.take k) + dig (ys.take k)) ∧ len ≤ k + gg)
  case atStart =>
    refine ⟨0, 0, List.replicate len 0, by omega, rfl, rfl, by omega, HO, HB1, ?_, ?_, by omega⟩
    · intro x hx; rw [List.eq_of_mem_replicate hx]; decide
    · unfold Hid; simp [dig]
  case round =>
    obtain ⟨k, cc, zs, hk, rfl, rfl, hcc, HOz, HBz, HUz, HDz, hfu⟩ := hrel
    by_cases hlt : k < len
    · obtain ⟨fu, rfl⟩ : ∃ g, gk = g + 1 := ⟨gk - 1, by omega⟩
      rcases HX.out.cells with hh | ⟨b, off, rfl, hc⟩
      · omega
      have g := (HBz.out.cell (World.block_lt_of_cell? w _ (hc k hlt))).trans (hc k hlt)
      have hxb := HX.out.lt.at k
      have gz := HOz.out.cell k (by omega)
      have gf := HOz.out.frozen k
      have HSET : Hid _ := HOz.out.set k
      have HTX : Hid _ := dig_take_more (ys := xs) (k := k)
      have HTY : Hid _ := dig_take_more (ys := ys) (k := k)
      clear hc
      generalize xs[k]?.getD 0 = y at *
      by_cases hkb : k < blen
      · rcases HY.out.cells with hh | ⟨b2, off2, rfl, hc2⟩
        · omega
        have g2 := (HBz.out.cell (World.block_lt_of_cell? w _ (hc2 k hkb))).trans (hc2 k hkb)
        have hyb := HY.out.lt.at k
        clear hc2
        generalize ys[k]?.getD 0 = z at *
        obtain ⟨X, hX⟩ : ∃ X : Nat, cc + z = X := ⟨_, rfl⟩
        have hXi : (cc : Int) + z = (X : Int) := by omega
        have hXb : X ≤ 4294967296 := by omega
        by_cases hbr : y < X
        · have hv : (y : Int) + 4294967296 - (X : Int) = ((y + 4294967296 - X : Nat) : Int) := by omega
          obtain ⟨V, hV⟩ : ∃ V : Nat, y + 4294967296 - X = V := ⟨_, rfl⟩
          rw [hV] at hv
          have hVb : V < 4294967296 := by omega
          go_wp2_with fail
          go_roundg fu
          case rel =>
            refine ⟨k + 1, 1, zs.set k V, by omega, by go_num, rfl, by omega, HSET.out _, below_set HBz.out (Nat.le_refl _), HUz.out.set k _ hVb, ?_, by omega⟩
            unfold Hid
            rw [dig_take_set (by rw [HOz.out.1]; omega), HTX.out, HTY.out, wd_succ]
            have hk0 := HDz.out
            have e1 : wd k * y + wd k * 4294967296 = wd k * V + (wd k * cc + wd k * z) := by rw [← Nat.mul_add, ← Nat.mul_add, ← Nat.mul_add]; congr 1; omega
            have e2 : 4294967296 * wd k * 1 = wd k * 4294967296 := by rw [Nat.mul_one, Nat.mul_comm]
            omega
          case measure => omega
        · have hv : (y : Int) - (X : Int) = ((y - X : Nat) : Int) := by omega
          obtain ⟨V, hV⟩ : ∃ V : Nat, y - X = V := ⟨_, rfl⟩
          rw [hV] at hv
          have hVb : V < 4294967296 := by omega
          go_wp2_with fail
          go_roundg fu
          case rel =>
            refine ⟨k + 1, 0, zs.set k V, by omega, by go_num, rfl, by omega, HSET.out _, below_set HBz.out (Nat.le_refl _), HUz.out.set k _ hVb, ?_, by omega⟩
            unfold Hid
            rw [dig_take_set (by rw [HOz.out.1]; omega), HTX.out, HTY.out, wd_succ]
            have hk0 := HDz.out
            have e1 : wd k * y = wd k * V + (wd k * cc + wd k * z) := by rw [← Nat.mul_add, ← Nat.mul_add]; congr 1; omega
            have e2 : 4294967296 * wd k * 0 = 0 := Nat.mul_zero _
            omega
          case measure => omega
      · have hy0 : ys[k]?.getD 0 = 0 := by rw [List.getElem?_eq_none (by rw [HY.out.length]; omega)]; rfl
        rw [hy0] at HTY
        obtain ⟨z, hz⟩ : ∃ z : Nat, z = 0 := ⟨_, rfl⟩
        rw [← hz] at HTY
        obtain ⟨X, hX⟩ : ∃ X : Nat, X = cc := ⟨_, rfl⟩
        have hXc : cc + z = X := by omega
        clear hz
        subst hX
        by_cases hbr : y < X
        · have hv : (y : Int) + 4294967296 - (X : Int) = ((y + 4294967296 - X : Nat) : Int) := by omega
          obtain ⟨V, hV⟩ : ∃ V : Nat, y + 4294967296 - X = V := ⟨_, rfl⟩
          rw [hV] at hv
          have hVb : V < 4294967296 := by omega
          go_wp2_with fail
          go_roundg fu
          case rel =>
            refine ⟨k + 1, 1, zs.set k V, by omega, by go_num, rfl, by omega, HSET.out _, below_set HBz.out (Nat.le_refl _), HUz.out.set k _ hVb, ?_, by omega⟩
            unfold Hid
            rw [dig_take_set (by rw [HOz.out.1]; omega), HTX.out, HTY.out, wd_succ]
            have hk0 := HDz.out
            have e1 : wd k * y + wd k * 4294967296 = wd k * V + (wd k * X + wd k * z) := by rw [← Nat.mul_add, ← Nat.mul_add, ← Nat.mul_add]; congr 1; omega
            have e2 : 4294967296 * wd k * 1 = wd k * 4294967296 := by rw [Nat.mul_one, Nat.mul_comm]
            omega
          case measure => omega
        · have hv : (y : Int) - (X : Int) = ((y - X : Nat) : Int) := by omega
          obtain ⟨V, hV⟩ : ∃ V : Nat, y - X = V := ⟨_, rfl⟩
          rw [hV] at hv
          have hVb : V < 4294967296 := by omega
          go_wp2_with fail
          go_roundg fu
          case rel =>
            refine ⟨k + 1, 0, zs.set k V, by omega, by go_num, rfl, by omega, HSET.out _, below_set HBz.out (Nat.le_refl _), HUz.out.set k _ hVb, ?_, by omega⟩
            unfold Hid
            rw [dig_take_set (by rw [HOz.out.1]; omega), HTX.out, HTY.out, wd_succ]
            have hk0 := HDz.out
            have e1 : wd k * y = wd k * V + (wd k * X + wd k * z) := by rw [← Nat.mul_add, ← Nat.mul_add]; congr 1; omega
            have e2 : 4294967296 * wd k * 0 = 0 := Nat.mul_zero _
            omega
          case measure => omega
    · obtain rfl : k = len := by omega
      have HTX : Hid (xs.take k = xs) := by unfold Hid; exact List.take_of_length_le (by rw [HX.out.length]; omega)
      have HDF : Hid (dig zs = dig xs - dig ys) := by
        unfold Hid
        have e1 := HDz.out
        have e2 := dig_lt HUz.out
        rw [HOz.out.1] at e2
        rw [HTX.out, List.take_of_length_le (by rw [HOz.out.1]; omega), List.take_of_length_le (by rw [HY.out.length]; omega)] at e1
        have e3 : cc = 0 := by
          rcases Nat.eq_zero_or_pos cc with h | h
          · exact h
          · have : cc = 1 := by omega
            rw [this, Nat.mul_one] at e1; omega
        rw [e3, Nat.mul_zero] at e1
        omega
      go_wp2_with fail
      refine (trim_any _ _ _ zs _ (Own4.rd HOz.out HUz.out (by omega))).mono ?_
      rintro e w' ⟨ao', m, rfl, rfl, hr', hm', hnm, hdg⟩
      go_wp2_with fail
      go_ret
      exact ⟨ao', m, _, _, rfl, hr', hnm, by rw [hdg, HDF.out], HBz.out, by omega⟩
end Go.Proofs.Ytigaggkipmcgeaa
