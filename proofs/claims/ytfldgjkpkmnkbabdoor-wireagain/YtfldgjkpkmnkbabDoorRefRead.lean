import Derived.Test.YtfldgjkpkmnkbabDoorReadUint
namespace Go.Proofs.YtfldgjkpkmnkbabDoor
open Go.RowKit
set_option linter.unusedVariables false

theorem refOutside_any (ao : Option Addr) (len cap : Nat) (p : Int) (w : World) (hl : len ≤ 9223372036854775807) (b : Bool) (hb : b = decide (p < 0 ∨ (len : Int) < p)) :
    Calls Tryd.prog 45 #[.slice ao len cap, .int .i64 p] w fun e w' => e = .returned (.bool b) ∧ w' = w := by
  subst hb
  by_cases h1 : p < 0
  · have e : decide (p < 0 ∨ (len : Int) < p) = true := by simp; omega
    rw [e]
    clear e
    go_enter Tryd.func45, Tryd.ntmps45
    go_wp2
    go_ret
    exact ⟨rfl, rfl⟩
  · have h2 : decide (p < 0) = false := by simpa using h1
    have e : decide (p < 0 ∨ (len : Int) < p) = decide ((len : Int) < p) := by simp [h1]
    rw [e]
    clear e
    go_enter Tryd.func45, Tryd.ntmps45
    go_wp2
    all_goals go_ret
    all_goals exact ⟨rfl, rfl⟩

theorem pow7 (k : Nat) (hk : k ≤ 8) : (1 : Int) ≤ 2 ^ (7 * k) ∧ (2 : Int) ^ (7 * k) ≤ 72057594037927936 ∧ (2 : Int) ^ (7 * (k + 1)) = 2 ^ (7 * k) * 128 := by
  refine ⟨Int.pow_pos (by decide), ?_, ?_⟩
  · have h : (2 : Nat) ^ (7 * k) ≤ 2 ^ 56 := Nat.pow_le_pow_right (by decide) (by omega)
    have e : ((2 ^ (7 * k) : Nat) : Int) = 2 ^ (7 * k) := by rw [Int.natCast_pow]; rfl
    rw [← e]
    generalize 2 ^ (7 * k) = q at h ⊢
    omega
  · rw [show 7 * (k + 1) = 7 * k + 7 from by omega, Int.pow_add]; rfl

theorem mul_join (V c U : Int) (k : Nat) (hk : k ≤ 8) (h0 : 0 ≤ V) (h1 : V < 2 ^ (7 * k)) (hU : U = 2 ^ (7 * k)) (c0 : 0 ≤ c) (c1 : c < 128) : wrap64 (V + wrap64 (U * c)) = V + c * 2 ^ (7 * k) ∧ 0 ≤ V + c * 2 ^ (7 * k) ∧ V + c * 2 ^ (7 * k) < 2 ^ (7 * (k + 1)) := by
  subst hU
  obtain ⟨p1, p2, p3⟩ := pow7 k hk
  have hcx : c * 2 ^ (7 * k) ≤ 127 * 2 ^ (7 * k) := Int.mul_le_mul_of_nonneg_right (by omega) (by omega)
  have hc0 : 0 ≤ c * 2 ^ (7 * k) := Int.mul_nonneg c0 (by omega)
  rw [Int.mul_comm (2 ^ (7 * k)) c, IntWalk.wrap64_in (c * 2 ^ (7 * k)) ⟨by omega, by omega⟩, IntWalk.wrap64_in _ ⟨by omega, by omega⟩, p3]
  exact ⟨rfl, by omega, by omega⟩

set_option maxRecDepth 100000 in
set_option maxHeartbeats 1000000 in
theorem refReadUint_core (ao : Option Addr) (len cap : Nat) (p : Nat) (xs : List Int) (w : World) (hr : Rd w ao len cap xs) (hp : p ≤ len) (hb : len ≤ 9223372036854775000) :
    Calls Tryd.prog 24 #[.slice ao len cap, .int .i64 p] w fun e w' => e = .returned (rdV (rdG p 9 0 0 (xs.drop p))) ∧ Below w.heap.size w w' := by
  have hcl := hr.cells
  have hm := hr.max
  have hle := hr.le
  have HL : Hid (xs.length = len) := hr.length
  have HB : Hid (Byt xs) := hr.byt
  clear hr
  go_enter Tryd.func24, Tryd.ntmps24
  go_wp2_with fail
  refine (refOutside_any _ _ _ _ _ (by omega) false (by simp; omega)).mono ?_
  rintro e w' ⟨rfl, rfl⟩
  go_wp2
  go_loop [7, 8, 9] (fun n u i => ∃ (k : Nat) (V U : Int), k ≤ 8 ∧ p + k ≤ len ∧ i = .int .i64 k ∧ n = .int .i64 V ∧ u = .int .i64 U ∧ 0 ≤ V ∧ 1 ≤ U ∧ U ≤ 72057594037927936 ∧ Hid (U = 2 ^ (7 * k)) ∧ Hid (V < 2 ^ (7 * k)) ∧ Hid (rdG p 9 0 0 (xs.drop p) = rdG p (9 - k) k V (xs.drop (p + k)))) (fun _ _ i => 9 - (intOf i).toNat)
  case atStart => exact ⟨0, 0, 1, by omega, by omega, rfl, rfl, rfl, by omega, by omega, by omega, by simp [Hid], by simp [Hid], rfl⟩
  case round =>
    obtain ⟨k, V, U, hk8, hkl, rfl, rfl, rfl, hV0, hU1, hU2, hU, hV1, hR⟩ := hrel
    by_cases hkl2 : p + k = len
    · have HE : Hid (rdG p 9 0 0 (xs.drop p) = (0, 0, 10)) := by
        unfold Hid
        rw [hR.out, show 9 - k = (8 - k) + 1 from by omega, List.drop_eq_nil_of_le (by rw [HL.out]; omega)]; rfl
      have hge : len ≤ p + k := by omega
      clear hkl2
      go_wp2
      go_ret3
      exact ⟨by rw [HE.out]; rfl, Below.refl _ _⟩
    · have hlt : p + k < len := by omega
      rcases hcl with h0 | ⟨b, off, rfl, hc⟩
      · omega
      have g := hc (p + k) hlt
      have hby := HB.out.at (p + k)
      have hdr : Hid (xs.drop (p + k) = xs[p + k]?.getD 0 :: xs.drop (p + (k + 1))) := by
        unfold Hid
        rw [List.drop_eq_getElem_cons (by rw [HL.out]; exact hlt), List.getElem?_eq_getElem (by rw [HL.out]; exact hlt)]; rfl
      clear hc
      generalize xs[p + k]?.getD 0 = c at *
      by_cases h128 : 128 ≤ c
      · by_cases hk : k = 8
        · have HE : Hid (rdG p 9 0 0 (xs.drop p) = (0, 0, 12)) := by
            unfold Hid
            rw [hR.out, hdr.out, rdG_more p k (by omega) V c _ h128, hk]; rfl
          have hk' : ((k : Int) == 8) = true := by simp; omega
          clear hk
          go_wp2
          go_ret3
          exact ⟨by rw [HE.out]; rfl, Below.refl _ _⟩
        · have hk' : ((k : Int) == 8) = false := by simp; omega
          have hk7 : k ≤ 7 := by omega
          have HJ : Hid (_ ∧ _ ∧ _) := mul_join V (c % 128) U k (by omega) hV0 hV1.out hU.out (by omega) (by omega)
          have HP : Hid (_ ∧ _ ∧ _) := pow7 k hk8
          have HP' : Hid (_ ∧ _ ∧ _) := pow7 (k + 1) (by omega)
          have hU3 : U ≤ 562949953421312 := by
            have h := HP'.out.2.1
            rw [HP.out.2.2, ← hU.out] at h
            omega
          clear hk
          go_wp2
          go_round
          case rel =>
            have e : c % 128 = c - 128 := by omega
            refine ⟨k + 1, V + (c % 128) * 2 ^ (7 * k), U * 128, by omega, by omega, by go_num, by rw [HJ.out.1], rfl, HJ.out.2.1, by omega, ?_, ?_, HJ.out.2.2, ?_⟩
            · have h := HP'.out.2.1
              rw [HP.out.2.2, ← hU.out] at h
              exact h
            · unfold Hid; rw [HP.out.2.2, hU.out]
            · unfold Hid; rw [hR.out, hdr.out, rdG_more p k (by omega) V c _ h128, e]
          case measure => simp [intOf]; omega
      · have hmod : Hid (c % 128 = c) := by unfold Hid; omega
        by_cases hz : c = 0
        · have hz' : (c == 0) = true := by simp; omega
          by_cases hk0 : k = 0
          · have HE : Hid (rdG p 9 0 0 (xs.drop p) = (V + c * 2 ^ (7 * k), (p : Int) + k + 1, (0 : Int))) := by
              unfold Hid
              rw [hR.out, hdr.out, rdG_last p k (by omega) V c _ h128 (by omega)]
            have HJ : Hid (_ ∧ _ ∧ _) := mul_join V (c % 128) U k (by omega) hV0 hV1.out hU.out (by omega) (by omega)
            have hkd : decide ((0 : Int) < (k : Int)) = false := by simp; omega
            have hkz : k ≤ 0 := by omega
            clear hk0 hz
            go_wp2
            go_ret3
            exact ⟨ret_rdV (HE.out.trans (by rw [HJ.out.1, hmod.out])), Below.refl _ _⟩
          · have HE : Hid (rdG p 9 0 0 (xs.drop p) = (0, 0, 11)) := by
              unfold Hid
              rw [hR.out, hdr.out, hz, rdG_form p k (by omega) V _ (by omega)]
            have hkp : 0 < k := by omega
            clear hz
            go_wp2
            go_ret3
            exact ⟨by rw [HE.out]; rfl, Below.refl _ _⟩
        · have HE : Hid (rdG p 9 0 0 (xs.drop p) = (V + c * 2 ^ (7 * k), (p : Int) + k + 1, (0 : Int))) := by
            unfold Hid
            rw [hR.out, hdr.out, rdG_last p k (by omega) V c _ h128 (by omega)]
          have HJ : Hid (_ ∧ _ ∧ _) := mul_join V (c % 128) U k (by omega) hV0 hV1.out hU.out (by omega) (by omega)
          have hz' : (c == 0) = false := by simp; omega
          clear hz
          go_wp2
          go_ret3
          exact ⟨ret_rdV (HE.out.trans (by rw [HJ.out.1, hmod.out])), Below.refl _ _⟩

set_option maxRecDepth 100000 in
theorem refReadUint_any (ao : Option Addr) (len cap : Nat) (xs : List Int) (p : Int) (w : World) (hr : Rd w ao len cap xs) (hb : len ≤ 9223372036854775000) :
    Calls Tryd.prog 24 #[.slice ao len cap, .int .i64 p] w fun e w' => e = .returned (rdV (rdU xs p)) ∧ Below w.heap.size w w' := by
  have hm := hr.max
  have hle := hr.le
  have hl := hr.length
  by_cases ho : p < 0 ∨ (len : Int) < p
  · have HE : Hid (rdU xs p = (0, 0, 1)) := by unfold Hid rdU; rw [hl, if_pos ho]
    clear hr hl
    go_enter Tryd.func24, Tryd.ntmps24
    go_wp2_with fail
    refine (refOutside_any _ _ _ _ _ (by omega) true (by simp; omega)).mono ?_
    rintro e w' ⟨rfl, rfl⟩
    go_wp2
    go_ret3
    exact ⟨by rw [HE.out]; rfl, Below.refl _ _⟩
  · have he : rdU xs p = rdG p 9 0 0 (xs.drop p.toNat) := by unfold rdU; rw [hl, if_neg ho]
    rw [he]
    obtain ⟨q, rfl⟩ := Int.eq_ofNat_of_zero_le (show 0 ≤ p by omega)
    rw [Int.toNat_natCast]
    exact refReadUint_core ao len cap q xs w hr (by omega) hb
end Go.Proofs.YtfldgjkpkmnkbabDoor
