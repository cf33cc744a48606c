import Derived.Test.YtigaggkipmcgeaaNE
namespace Go.Proofs.Ytigaggkipmcgeaa
open Go.RowKit
set_option linter.unusedVariables false

theorem dig_take_set {zs : List Nat} {k v : Nat} (hk : k < zs.length) : dig ((zs.set k v).take (k + 1)) = dig (zs.take k) + wd k * v := by
  rw [dig_take_succ (by rw [List.length_set]; exact hk), List.take_set_of_le (by omega), List.getElem?_set, if_pos rfl, if_pos hk]
  rfl
theorem dig_take_more {ys : List Nat} {k : Nat} : dig (ys.take (k + 1)) = dig (ys.take k) + wd k * ys[k]?.getD 0 := by
  by_cases h : k < ys.length
  · exact dig_take_succ h
  · rw [List.take_of_length_le (by omega), List.take_of_length_le (by omega), List.getElem?_eq_none (by omega)]; simp
set_option maxRecDepth 100000 in
set_option maxHeartbeats 2000000 in
theorem plus_core (ao : Option Addr) (len cap : Nat) (xs : List Nat) (bo : Option Addr) (blen bcap : Nat) (ys : List Nat) (w : World) (hx : Rd4 w ao len cap xs) (hy : Rd4 w bo blen bcap ys) (hl : len ≤ 10000) (hll : blen ≤ len) :
    Calls Try.prog 66 #[.slice ao len cap, .slice bo blen bcap] w fun e w' => ∃ ao' k cap' zs, e = .returned (.slice ao' k cap') ∧ Rd4 w' ao' k cap' zs ∧ Nm zs ∧ dig zs = dig xs + dig ys ∧ Below w.heap.size w w' ∧ k ≤ len + 1 := by
  have hdl : decide (len < blen) = false := decide_eq_false (by omega)
  have h1 := hx.le
  have h2 := hx.max
  have h3 := hy.le
  have h4 := hy.max
  obtain ⟨w1, hmk, hO, hB1⟩ := make4 w (len + 1) (by omega)
  have hmk' := hmk ((len : Int) + 1) (by omega)
  have HX : Hid _ := hx
  have HY : Hid _ := hy
  have HO : Hid _ := hO
  have HB1 : Hid _ := hB1
  clear hmk hx hy hO hB1
  go_enter Try.func66, Try.ntmps66
  go_wp2_with fail
  go_loopg [6, 7] len (fun gg c i wx => ∃ (k cc : Nat) (zs : List Nat), k ≤ len ∧ i = .int .i64 k ∧ c = .int .u64 cc ∧ cc ≤ 1 ∧ Hid (Own4 wx w.heap.size w.heap.size (len + 1) zs) ∧ Hid (Below w.heap.size w wx) ∧ Hid (U4 zs) ∧ Hid (dig (zs.take k) + wd k * cc = dig (xs.take k) + dig (ys.take k)) ∧ len ≤ k + gg)
  case atStart =>
    refine ⟨0, 0, List.replicate (len + 1) 0, by omega, rfl, rfl, by omega, HO, HB1, ?_, ?_, by omega⟩
    · intro x hx; rw [List.eq_of_mem_replicate hx]; decide
    · unfold Hid; simp [dig]
  case round =>
    obtain ⟨k, cc, zs, hk, rfl, rfl, hcc, HOz, HBz, HUz, HDz, hfu⟩ := hrel
    by_cases hlt : k < len
    · obtain ⟨fu, rfl⟩ : ∃ g, gk = g + 1 := ⟨gk - 1, by omega⟩
      rcases HX.out.cells with hh | ⟨b, off, rfl, hc⟩
      · omega
      have g := (HBz.out.cell (World.block_lt_of_cell? w _ (hc k hlt))).trans (hc k hlt)
      have hxb := HX.out.lt.at k
      have gz := HOz.out.cell k (by omega)
      have gf := HOz.out.frozen k
      have HSET : Hid _ := HOz.out.set k
      have HTX : Hid _ := dig_take_more (ys := xs) (k := k)
      have HTY : Hid _ := dig_take_more (ys := ys) (k := k)
      clear hc
      generalize xs[k]?.getD 0 = x at *
      by_cases hkb : k < blen
      · rcases HY.out.cells with hh | ⟨b2, off2, rfl, hc2⟩
        · omega
        have g2 := (HBz.out.cell (World.block_lt_of_cell? w _ (hc2 k hkb))).trans (hc2 k hkb)
        have hyb := HY.out.lt.at k
        clear hc2
        generalize ys[k]?.getD 0 = y at *
        obtain ⟨S, hS⟩ : ∃ S : Nat, cc + x + y = S := ⟨_, rfl⟩
        have hSi : (cc : Int) + x + y = (S : Int) := by omega
        have hSb : S < 8589934592 := by omega
        · have HS0 : Hid _ := hS
          clear hS
          have hS := HS0.out
          go_wp2_with fail
          go_roundg fu
          case rel =>
            refine ⟨k + 1, S / 4294967296, zs.set k (S % 4294967296), by omega, by go_num, by go_num, by omega, HSET.out _, below_set HBz.out (Nat.le_refl _), HUz.out.set k _ (Nat.mod_lt _ (by decide)), ?_, by omega⟩
            unfold Hid
            rw [dig_take_set (by rw [HOz.out.1]; omega), HTX.out, HTY.out, wd_succ]
            have hk0 := HDz.out
            have e1 := Nat.div_add_mod S 4294967296
            have e2 : wd k * S = wd k * cc + wd k * x + wd k * y := by rw [← hS, Nat.mul_add, Nat.mul_add]
            have e3 : wd k * S = 4294967296 * wd k * (S / 4294967296) + wd k * (S % 4294967296) := by
              rw [Nat.mul_comm 4294967296, Nat.mul_assoc, ← Nat.mul_add, e1]
            omega
          case measure => omega
      · have hy0 : ys[k]?.getD 0 = 0 := by rw [List.getElem?_eq_none (by rw [HY.out.length]; omega)]; rfl
        rw [hy0] at HTY
        obtain ⟨y, hy⟩ : ∃ y : Nat, y = 0 := ⟨_, rfl⟩
        rw [← hy] at HTY
        obtain ⟨S, hS⟩ : ∃ S : Nat, cc + x + y = S := ⟨_, rfl⟩
        have hSi : (cc : Int) + x = (S : Int) := by omega
        have hSb : S < 8589934592 := by omega
        · clear hy
          go_wp2_with fail
          go_roundg fu
          case rel =>
            refine ⟨k + 1, S / 4294967296, zs.set k (S % 4294967296), by omega, by go_num, by go_num, by omega, HSET.out _, below_set HBz.out (Nat.le_refl _), HUz.out.set k _ (Nat.mod_lt _ (by decide)), ?_, by omega⟩
            unfold Hid
            rw [dig_take_set (by rw [HOz.out.1]; omega), HTX.out, HTY.out, wd_succ]
            have hk0 := HDz.out
            have e1 := Nat.div_add_mod S 4294967296
            have e2 : wd k * S = wd k * cc + wd k * x + wd k * y := by rw [← hS, Nat.mul_add, Nat.mul_add]
            have e3 : wd k * S = 4294967296 * wd k * (S / 4294967296) + wd k * (S % 4294967296) := by
              rw [Nat.mul_comm 4294967296, Nat.mul_assoc, ← Nat.mul_add, e1]
            omega
          case measure => omega
    · obtain rfl : k = len := by omega
      have gz := HOz.out.cell k (by omega)
      have gf := HOz.out.frozen k
      have HSET : Hid _ := HOz.out.set k cc
      have HU2 : Hid (U4 (zs.set k cc)) := HUz.out.set k cc (by omega)
      have HDF : Hid (dig (zs.set k cc) = dig xs + dig ys) := by
        unfold Hid
        have e1 := dig_take_set (zs := zs) (k := k) (v := cc) (by rw [HOz.out.1]; omega)
        rw [List.take_of_length_le (by rw [List.length_set, HOz.out.1]; exact Nat.le_refl _)] at e1
        rw [e1, HDz.out, List.take_of_length_le (by rw [HX.out.length]; exact Nat.le_refl _), List.take_of_length_le (by rw [HY.out.length]; omega)]
      have hcm : (cc : Int) % 4294967296 = (cc : Int) := by omega
      go_wp2_with fail
      refine (trim_any _ _ _ (zs.set k cc) _ (Own4.rd HSET.out HU2.out (by omega))).mono ?_
      rintro e w' ⟨ao', m, rfl, rfl, hr', hm', hnm, hdg⟩
      go_wp2_with fail
      go_ret
      exact ⟨ao', m, _, _, rfl, hr', hnm, by rw [hdg, HDF.out], below_set HBz.out (Nat.le_refl _), by omega⟩
set_option maxRecDepth 100000 in
set_option maxHeartbeats 2000000 in
theorem plus_swap (ao : Option Addr) (len cap : Nat) (xs : List Nat) (bo : Option Addr) (blen bcap : Nat) (ys : List Nat) (w : World) (hx : Rd4 w ao len cap xs) (hy : Rd4 w bo blen bcap ys) (hl : len ≤ 10000) (hll : blen < len) :
    Calls Try.prog 66 #[.slice bo blen bcap, .slice ao len cap] w fun e w' => ∃ ao' k cap' zs, e = .returned (.slice ao' k cap') ∧ Rd4 w' ao' k cap' zs ∧ Nm zs ∧ dig zs = dig xs + dig ys ∧ Below w.heap.size w w' ∧ k ≤ len + 1 := by
  have hdl : decide (blen < len) = true := decide_eq_true (by omega)
  have h1 := hx.le
  have h2 := hx.max
  have h3 := hy.le
  have h4 := hy.max
  obtain ⟨w1, hmk, hO, hB1⟩ := make4 w (len + 1) (by omega)
  have hmk' := hmk ((len : Int) + 1) (by omega)
  have HX : Hid _ := hx
  have HY : Hid _ := hy
  have HO : Hid _ := hO
  have HB1 : Hid _ := hB1
  clear hmk hx hy hO hB1
  go_enter Try.func66, Try.ntmps66
  go_wp2_with fail
  go_loopg [6, 7] len (fun gg c i wx => ∃ (k cc : Nat) (zs : List Nat), k ≤ len ∧ i = .int .i64 k ∧ c = .int .u64 cc ∧ cc ≤ 1 ∧ Hid (Own4 wx w.heap.size w.heap.size (len + 1) zs) ∧ Hid (Below w.heap.size w wx) ∧ Hid (U4 zs) ∧ Hid (dig (zs.take k) + wd k * cc = dig (xs.take k) + dig (ys.take k)) ∧ len ≤ k + gg)
  case atStart =>
    refine ⟨0, 0, List.replicate (len + 1) 0, by omega, rfl, rfl, by omega, HO, HB1, ?_, ?_, by omega⟩
    · intro x hx; rw [List.eq_of_mem_replicate hx]; decide
    · unfold Hid; simp [dig]
  case round =>
    obtain ⟨k, cc, zs, hk, rfl, rfl, hcc, HOz, HBz, HUz, HDz, hfu⟩ := hrel
    by_cases hlt : k < len
    · obtain ⟨fu, rfl⟩ : ∃ g, gk = g + 1 := ⟨gk - 1, by omega⟩
      rcases HX.out.cells with hh | ⟨b, off, rfl, hc⟩
      · omega
      have g := (HBz.out.cell (World.block_lt_of_cell? w _ (hc k hlt))).trans (hc k hlt)
      have hxb := HX.out.lt.at k
      have gz := HOz.out.cell k (by omega)
      have gf := HOz.out.frozen k
      have HSET : Hid _ := HOz.out.set k
      have HTX : Hid _ := dig_take_more (ys := xs) (k := k)
      have HTY : Hid _ := dig_take_more (ys := ys) (k := k)
      clear hc
      generalize xs[k]?.getD 0 = x at *
      by_cases hkb : k < blen
      · rcases HY.out.cells with hh | ⟨b2, off2, rfl, hc2⟩
        · omega
        have g2 := (HBz.out.cell (World.block_lt_of_cell? w _ (hc2 k hkb))).trans (hc2 k hkb)
        have hyb := HY.out.lt.at k
        clear hc2
        generalize ys[k]?.getD 0 = y at *
        obtain ⟨S, hS⟩ : ∃ S : Nat, cc + x + y = S := ⟨_, rfl⟩
        have hSi : (cc : Int) + x + y = (S : Int) := by omega
        have hSb : S < 8589934592 := by omega
        · have HS0 : Hid _ := hS
          clear hS
          have hS := HS0.out
          go_wp2_with fail
          go_roundg fu
          case rel =>
            refine ⟨k + 1, S / 4294967296, zs.set k (S % 4294967296), by omega, by go_num, by go_num, by omega, HSET.out _, below_set HBz.out (Nat.le_refl _), HUz.out.set k _ (Nat.mod_lt _ (by decide)), ?_, by omega⟩
            unfold Hid
            rw [dig_take_set (by rw [HOz.out.1]; omega), HTX.out, HTY.out, wd_succ]
            have hk0 := HDz.out
            have e1 := Nat.div_add_mod S 4294967296
            have e2 : wd k * S = wd k * cc + wd k * x + wd k * y := by rw [← hS, Nat.mul_add, Nat.mul_add]
            have e3 : wd k * S = 4294967296 * wd k * (S / 4294967296) + wd k * (S % 4294967296) := by
              rw [Nat.mul_comm 4294967296, Nat.mul_assoc, ← Nat.mul_add, e1]
            omega
          case measure => omega
      · have hy0 : ys[k]?.getD 0 = 0 := by rw [List.getElem?_eq_none (by rw [HY.out.length]; omega)]; rfl
        rw [hy0] at HTY
        obtain ⟨y, hy⟩ : ∃ y : Nat, y = 0 := ⟨_, rfl⟩
        rw [← hy] at HTY
        obtain ⟨S, hS⟩ : ∃ S : Nat, cc + x + y = S := ⟨_, rfl⟩
        have hSi : (cc : Int) + x = (S : Int) := by omega
        have hSb : S < 8589934592 := by omega
        · clear hy
          go_wp2_with fail
          go_roundg fu
          case rel =>
            refine ⟨k + 1, S / 4294967296, zs.set k (S % 4294967296), by omega, by go_num, by go_num, by omega, HSET.out _, below_set HBz.out (Nat.le_refl _), HUz.out.set k _ (Nat.mod_lt _ (by decide)), ?_, by omega⟩
            unfold Hid
            rw [dig_take_set (by rw [HOz.out.1]; omega), HTX.out, HTY.out, wd_succ]
            have hk0 := HDz.out
            have e1 := Nat.div_add_mod S 4294967296
            have e2 : wd k * S = wd k * cc + wd k * x + wd k * y := by rw [← hS, Nat.mul_add, Nat.mul_add]
            have e3 : wd k * S = 4294967296 * wd k * (S / 4294967296) + wd k * (S % 4294967296) := by
              rw [Nat.mul_comm 4294967296, Nat.mul_assoc, ← Nat.mul_add, e1]
            omega
          case measure => omega
    · obtain rfl : k = len := by omega
      have gz := HOz.out.cell k (by omega)
      have gf := HOz.out.frozen k
      have HSET : Hid _ := HOz.out.set k cc
      have HU2 : Hid (U4 (zs.set k cc)) := HUz.out.set k cc (by omega)
      have HDF : Hid (dig (zs.set k cc) = dig xs + dig ys) := by
        unfold Hid
        have e1 := dig_take_set (zs := zs) (k := k) (v := cc) (by rw [HOz.out.1]; omega)
        rw [List.take_of_length_le (by rw [List.length_set, HOz.out.1]; exact Nat.le_refl _)] at e1
        rw [e1, HDz.out, List.take_of_length_le (by rw [HX.out.length]; exact Nat.le_refl _), List.take_of_length_le (by rw [HY.out.length]; omega)]
      have hcm : (cc : Int) % 4294967296 = (cc : Int) := by omega
      go_wp2_with fail
      refine (trim_any _ _ _ (zs.set k cc) _ (Own4.rd HSET.out HU2.out (by omega))).mono ?_
      rintro e w' ⟨ao', m, rfl, rfl, hr', hm', hnm, hdg⟩
      go_wp2_with fail
      go_ret
      exact ⟨ao', m, _, _, rfl, hr', hnm, by rw [hdg, HDF.out], below_set HBz.out (Nat.le_refl _), by omega⟩
theorem plus_any (ao : Option Addr) (len cap : Nat) (xs : List Nat) (bo : Option Addr) (blen bcap : Nat) (ys : List Nat) (w : World) (hx : Rd4 w ao len cap xs) (hy : Rd4 w bo blen bcap ys) (hl : len ≤ 10000) (hl2 : blen ≤ 10000) :
    Calls Try.prog 66 #[.slice ao len cap, .slice bo blen bcap] w fun e w' => ∃ ao' k cap' zs, e = .returned (.slice ao' k cap') ∧ Rd4 w' ao' k cap' zs ∧ Nm zs ∧ dig zs = dig xs + dig ys ∧ Below w.heap.size w w' ∧ k ≤ max len blen + 1 := by
  by_cases h : blen ≤ len
  · refine (plus_core ao len cap xs bo blen bcap ys w hx hy hl h).mono ?_
    rintro e w' ⟨ao', k, cap', zs, h1, h2, h3, h4, h5, h6⟩
    exact ⟨ao', k, cap', zs, h1, h2, h3, h4, h5, by omega⟩
  · refine (plus_swap bo blen bcap ys ao len cap xs w hy hx hl2 (by omega)).mono ?_
    rintro e w' ⟨ao', k, cap', zs, h1, h2, h3, h4, h5, h6⟩
    exact ⟨ao', k, cap', zs, h1, h2, h3, by rw [h4, Nat.add_comm], h5, by omega⟩
end Go.Proofs.Ytigaggkipmcgeaa
