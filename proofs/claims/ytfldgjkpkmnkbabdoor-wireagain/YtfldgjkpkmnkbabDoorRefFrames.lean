import Derived.Test.YtfldgjkpkmnkbabDoorRefFrameL
namespace Go.Proofs.YtfldgjkpkmnkbabDoor
open Go.RowKit
set_option linter.unusedVariables false

/-- The document's ReadFrame tells what the program's does. -/
theorem refReadFrame_any (ao : Option Addr) (len cap : Nat) (xs : List Int) (p : Int) (w : World) (hr : Rd w ao len cap xs) (hb : len ≤ 4611686018427387904) :
    Calls Tryd.prog 27 #[.slice ao len cap, .int .i64 p] w fun e w' => ∃ v, e = .returned (.tuple #[v, .int .i64 (rdR xs p).2.1, .int .i64 (rdR xs p).2.2]) ∧ Own w' w.heap.size v (rdR xs p).1 ∧ Below w.heap.size w w' := by
  have hm := hr.max
  have hle := hr.le
  have hl := hr.length
  by_cases ho : p < 0 ∨ (len : Int) < p
  · have he : rdR xs p = ([], 0, 1) := by unfold rdR; rw [hl, if_pos ho]
    rw [he]
    clear hr hl he
    go_enter Tryd.func27, Tryd.ntmps27
    go_wp2_with fail
    refine (refOutside_any _ _ _ _ _ (by omega) true (by simp; omega)).mono ?_
    rintro e w' ⟨rfl, rfl⟩
    go_wp2
    go_ret3
    exact ⟨_, rfl, Own.nil _ _, Below.refl _ _⟩
  · obtain ⟨q, rfl⟩ := Int.eq_ofNat_of_zero_le (show 0 ≤ p by omega)
    have hq : q ≤ len := by omega
    by_cases h8 : len < q + 8
    · have he : rdR xs q = ([], 0, 10) := by unfold rdR; rw [hl, if_neg ho, Int.toNat_natCast, if_pos h8]
      rw [he]
      clear hr hl he ho
      go_enter Tryd.func27, Tryd.ntmps27
      go_wp2_with fail
      refine (refOutside_any _ _ _ _ _ (by omega) false (by simp; omega)).mono ?_
      rintro e w' ⟨rfl, rfl⟩
      go_wp2
      go_ret3
      exact ⟨_, rfl, Own.nil _ _, Below.refl _ _⟩
    · have h8' : q + 8 ≤ len := by omega
      have eA : (xs.take (q + 4)).drop q = (xs.drop q).take 4 := by have := mid_eq xs q 0 4; simpa using this
      have eB : (xs.take (q + 8)).drop (q + 4) = ((xs.drop q).take 8).drop 4 := mid_eq xs q 4 8
      have hS : sumOk ((xs.drop q).take 8) = decide (leV ((xs.take (q + 8)).drop (q + 4)) = sum ((xs.take (q + 4)).drop q)) := by
        rw [eA, eB]
        unfold sumOk
        have e8 : ((xs.drop q).take 8).length = 8 := by rw [List.length_take, List.length_drop]; omega
        rw [e8, List.take_take]
        rfl
      have he0 : rdR xs q = if decide (leV ((xs.take (q + 8)).drop (q + 4)) = sum ((xs.take (q + 4)).drop q)) = false then ([], 0, 16) else if 1048576 < leV ((xs.take (q + 4)).drop q) then ([], 0, 13)
          else if len < q + 8 + leV ((xs.take (q + 4)).drop q) + 4 then ([], 0, 10) else if sumOk ((((xs.drop q).drop 8)).take (leV ((xs.take (q + 4)).drop q) + 4)) = false then ([], 0, 16)
          else (((xs.drop q).drop 8).take (leV ((xs.take (q + 4)).drop q)), (q : Int) + 8 + leV ((xs.take (q + 4)).drop q) + 4, 0) := by
        unfold rdR
        rw [hl, if_neg ho, Int.toNat_natCast, if_neg h8, hS, eA]
      rw [he0]
      clear he0 hS
      by_cases hs : leV ((xs.take (q + 8)).drop (q + 4)) = sum ((xs.take (q + 4)).drop q)
      · rw [if_neg (by simp [hs])]
        by_cases hbig : 1048576 < leV ((xs.take (q + 4)).drop q)
        · rw [if_pos hbig]
          refine (refFrame_mid ao len cap q xs w hr h8' hb _ _ _ rfl rfl rfl hs 13 (.inl ⟨hbig, rfl⟩)).mono ?_
          rintro e w' ⟨rfl, hB⟩
          exact ⟨_, rfl, Own.nil _ _, hB⟩
        · rw [if_neg hbig]
          by_cases hsh : len < q + 8 + leV ((xs.take (q + 4)).drop q) + 4
          · rw [if_pos hsh]
            refine (refFrame_mid ao len cap q xs w hr h8' hb _ _ _ rfl rfl rfl hs 10 (.inr ⟨by omega, hsh, rfl⟩)).mono ?_
            rintro e w' ⟨rfl, hB⟩
            exact ⟨_, rfl, Own.nil _ _, hB⟩
          · rw [if_neg hsh]
            generalize hU : leV ((xs.take (q + 4)).drop q) = U at *
            have eF : (xs.take (q + 8 + U)).drop (q + 8) = ((xs.drop q).drop 8).take U := by
              have := mid_eq xs (q + 8) 0 U
              simpa [List.drop_drop] using this
            have eG : (xs.take (q + 12 + U)).drop (q + 8 + U) = (((xs.drop q).drop 8).take (U + 4)).drop U := by
              have := mid_eq xs (q + 8) U (U + 4)
              rw [show q + 8 + (U + 4) = q + 12 + U from by omega] at this
              simpa [List.drop_drop] using this
            have eL : (((xs.drop q).drop 8).take (U + 4)).length = U + 4 := by rw [List.length_take, List.length_drop, List.length_drop, hl]; omega
            have hS2 : sumOk (((xs.drop q).drop 8).take (U + 4)) = decide (leV ((xs.take (q + 12 + U)).drop (q + 8 + U)) = sum ((xs.take (q + 8 + U)).drop (q + 8))) := by
              rw [eF, eG]
              unfold sumOk
              rw [eL, show U + 4 - 4 = U from by omega, List.take_take, Nat.min_eq_left (by omega)]
            rw [hS2, ← eF]
            refine (refFrame_late ao len cap q xs w hr h8' hb _ _ U rfl rfl hU hs _ _ rfl rfl (by omega) (by omega)).mono ?_
            rintro e w' ⟨v, hB, ⟨h1, rfl, hO⟩ | ⟨h1, rfl⟩⟩
            · rw [if_neg (by simp [h1])]
              have e12 : (q : Int) + 8 + (U : Int) + 4 = (q : Int) + 12 + (U : Int) := by omega
              exact ⟨v, by rw [e12], hO, hB⟩
            · rw [if_pos (by simp [h1])]
              exact ⟨_, rfl, Own.nil _ _, hB⟩
      · rw [if_pos (by simp [hs])]
        refine (refFrame_sum ao len cap q xs w hr h8' hb _ _ _ rfl rfl rfl hs).mono ?_
        rintro e w' ⟨rfl, hB⟩
        exact ⟨_, rfl, Own.nil _ _, hB⟩
end Go.Proofs.YtfldgjkpkmnkbabDoor
