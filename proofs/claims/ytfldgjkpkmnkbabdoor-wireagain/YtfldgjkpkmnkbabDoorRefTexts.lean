import Derived.Test.YtfldgjkpkmnkbabDoorReadTexts
import Derived.Test.YtfldgjkpkmnkbabDoorRefFrame
import Derived.Test.YtfldgjkpkmnkbabDoorRefRead
namespace Go.Proofs.YtfldgjkpkmnkbabDoor
open Go.RowKit
set_option linter.unusedVariables false

set_option maxRecDepth 100000 in
set_option maxHeartbeats 2000000 in
theorem refReadText_any (ao : Option Addr) (len cap : Nat) (xs : List Int) (p most : Int) (w : World) (hr : Rd w ao len cap xs) (hb : len ≤ 35184372088832) :
    Calls Tryd.prog 26 #[.slice ao len cap, .int .i64 p, .int .i64 most] w fun e w' => e = .returned (rdTv (rdT xs p most)) ∧ Below w.heap.size w w' := by
  have hm := hr.max
  have hle := hr.le
  have hl := hr.length
  by_cases ho : p < 0 ∨ (len : Int) < p
  · have HE : Hid (rdT xs p most = (⟨#[]⟩, 0, 1)) := by unfold Hid rdT; rw [hl, if_pos (by omega)]
    clear hr hl
    go_enter Tryd.func26, Tryd.ntmps26
    go_wp2_with fail
    refine (refOutside_any _ _ _ _ _ (by omega) true (by simp; omega)).mono ?_
    rintro e w' ⟨rfl, rfl⟩
    go_wp2
    go_ret3
    exact ⟨by rw [HE.out]; rfl, Below.refl _ _⟩
  by_cases hmo : most < 0
  · have HE : Hid (rdT xs p most = (⟨#[]⟩, 0, 1)) := by unfold Hid rdT; rw [hl, if_pos (by omega)]
    clear hr hl
    go_enter Tryd.func26, Tryd.ntmps26
    go_wp2_with fail
    refine (refOutside_any _ _ _ _ _ (by omega) false (by simp; omega)).mono ?_
    rintro e w' ⟨rfl, rfl⟩
    go_wp2
    go_ret3
    exact ⟨by rw [HE.out]; rfl, Below.refl _ _⟩
  have HE0 : rdT xs p most = if (rdU xs p).2.2 ≠ 0 then (⟨#[]⟩, 0, (rdU xs p).2.2)
      else if most < (rdU xs p).1 then (⟨#[]⟩, 0, 13)
      else if (len : Int) - (rdU xs p).2.1 < (rdU xs p).1 then (⟨#[]⟩, 0, 10)
      else match rn (strB ((xs.take ((rdU xs p).2.1 + (rdU xs p).1).toNat).drop (rdU xs p).2.1.toNat)) with
        | none => (⟨#[]⟩, 0, 14)
        | some _ => (strB ((xs.take ((rdU xs p).2.1 + (rdU xs p).1).toNat).drop (rdU xs p).2.1.toNat), (rdU xs p).2.1 + (rdU xs p).1, 0) := by
    unfold rdT; rw [hl, if_neg (by omega)]; rfl
  have hok := rdU_ok xs p hr.byt
  have HU : Hid _ := refReadUint_any ao len cap xs p w hr (by omega)
  generalize rdU xs p = r at *
  obtain ⟨n, q, er⟩ := r
  simp only at HE0 hok
  rw [hl] at hok
  by_cases he : er = 0
  · subst he
    have hok' := hok rfl
    clear hok
    rw [if_neg (by simp)] at HE0
    obtain ⟨N, rfl⟩ := Int.eq_ofNat_of_zero_le hok'.1
    obtain ⟨Q, rfl⟩ := Int.eq_ofNat_of_zero_le (show 0 ≤ q by omega)
    by_cases h13 : most < N
    · rw [if_pos h13] at HE0
      have HE : Hid _ := HE0
      clear HE0 hr hl
      go_enter Tryd.func26, Tryd.ntmps26
      go_wp2_with fail
      refine (refOutside_any _ _ _ _ _ (by omega) false (by simp; omega)).mono ?_
      rintro e w' ⟨rfl, rfl⟩
      go_wp2_with fail
      refine Calls.mono HU.out ?_
      rintro e w1 ⟨rfl, hb1⟩
      unfold rdV
      go_wp2
      go_ret3
      exact ⟨by rw [HE.out]; rfl, hb1⟩
    · rw [if_neg h13] at HE0
      by_cases h10 : (len : Int) - Q < N
      · rw [if_pos h10] at HE0
        have HE : Hid _ := HE0
        clear HE0 hr hl
        go_enter Tryd.func26, Tryd.ntmps26
        go_wp2_with fail
        refine (refOutside_any _ _ _ _ _ (by omega) false (by simp; omega)).mono ?_
        rintro e w' ⟨rfl, rfl⟩
        go_wp2_with fail
        refine Calls.mono HU.out ?_
        rintro e w1 ⟨rfl, hb1⟩
        unfold rdV
        go_wp2
        go_ret3
        exact ⟨by rw [HE.out]; rfl, hb1⟩
      · rw [if_neg h10, show ((Q : Int) + (N : Int)).toNat = Q + N from by omega, Int.toNat_natCast] at HE0
        have HP : Hid (∀ w', Below w.heap.size w w' → Calls Tryd.prog 46 #[.slice ao len cap, .int .i64 Q, .int .i64 ((Q : Int) + (N : Int))] w' fun e w'' => ∃ v, e = .returned v ∧ Own w'' w'.heap.size v ((xs.take (Q + N)).drop Q) ∧ Below w'.heap.size w' w'') :=
          fun w' hb' => part_any ao len cap xs Q ((Q : Int) + (N : Int)) Q (Q + N) rfl (by omega) w' (hr.later hb') (by omega) (by omega) (by omega)
        have hzb : Byt ((xs.take (Q + N)).drop Q) := (hr.byt.take _).drop _
        have hzl : ((xs.take (Q + N)).drop Q).length = N := by rw [List.length_drop, List.length_take]; omega
        generalize (xs.take (Q + N)).drop Q = zs at *
        have hss : (strB zs).size ≤ 2305843009213693952 := by rw [strB_size]; omega
        have HE : Hid _ := HE0
        clear HE0 hr hl
        go_enter Tryd.func26, Tryd.ntmps26
        go_wp2_with fail
        refine (refOutside_any _ _ _ _ _ (by omega) false (by simp; omega)).mono ?_
        rintro e w' ⟨rfl, rfl⟩
        go_wp2_with fail
        refine Calls.mono HU.out ?_
        rintro e w1 ⟨rfl, hb1⟩
        unfold rdV
        go_wp2_with fail
        refine Calls.mono (HP.out _ hb1) ?_
        rintro e w1' ⟨v1, rfl, hO1, hb1'⟩
        obtain ⟨a1, L1, c1, rfl, hr1⟩ := hO1.rd' hzb
        have hconv := str_of hr1
        have hb2' := below_trans hb1 hb1'
        clear hO1 hr1 HP hzb hzl hb1 hb1' HU
        generalize strB zs = t at *
        go_wp2_with fail
        refine (refRunes_any t _ hss).mono ?_
        rintro e w2 ⟨rfl, hb2⟩
        have HE1 := HE.out
        clear HE
        cases hrn : rn t with
        | none =>
          rw [hrn] at HE1
          have HE : Hid _ := HE1
          clear HE1
          unfold rnV
          go_wp2
          go_ret3
          exact ⟨by rw [HE.out]; rfl, below_trans hb2' hb2⟩
        | some k =>
          rw [hrn] at HE1
          have HE : Hid _ := HE1
          clear HE1
          unfold rnV
          go_wp2
          go_ret3
          exact ⟨by rw [HE.out]; rfl, below_trans hb2' hb2⟩
  · rw [if_pos he] at HE0
    have HE : Hid _ := HE0
    have hne : (er != 0) = true := by simp [he]
    clear HE0 hr hl hok
    go_enter Tryd.func26, Tryd.ntmps26
    go_wp2_with fail
    refine (refOutside_any _ _ _ _ _ (by omega) false (by simp; omega)).mono ?_
    rintro e w' ⟨rfl, rfl⟩
    go_wp2_with fail
    refine Calls.mono HU.out ?_
    rintro e w1 ⟨rfl, hb1⟩
    unfold rdV
    clear he
    go_wp2
    go_ret3
    exact ⟨by rw [HE.out]; rfl, hb1⟩
end Go.Proofs.YtfldgjkpkmnkbabDoor
