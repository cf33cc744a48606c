import Derived.Test.YtfldgjkpkmnkbabDoorLowV
import Derived.Test.YtfldgjkpkmnkbabDoorFloats
namespace Go.Proofs.YtfldgjkpkmnkbabDoor
open Go.RowKit
set_option linter.unusedVariables false

/-- What a read of a number of eight bytes tells: its bits, the place behind it, the error. -/
def rdF (xs : List Int) (p : Int) : Nat × Int × Int :=
  if p < 0 ∨ (xs.length : Int) < p then (0, 0, 1) else if xs.length < p.toNat + 8 then (0, 0, 10)
  else if isNum (leV ((xs.drop p.toNat).take 8)) then (leV ((xs.drop p.toNat).take 8), p + 8, 0) else (0, 0, 15)
def rdFv (r : Nat × Int × Int) : Value := .tuple #[.float .f64 r.1, .int .i64 r.2.1, .int .i64 r.2.2]
def rdFu (r : Nat × Int × Int) : Value := .tuple #[.int .u64 (r.1 : Int), .int .i64 r.2.1, .int .i64 r.2.2]

theorem leV8_lt {xs : List Int} (h : Byt xs) (p : Nat) : leV ((xs.drop p).take 8) < 18446744073709551616 := by
  have h1 := leV_lt _ ((h.drop p).take 8)
  have h2 : 2 ^ (8 * ((xs.drop p).take 8).length) ≤ 2 ^ 64 := Nat.pow_le_pow_right (by decide) (by rw [List.length_take]; omega)
  have h64 : (2 : Nat) ^ 64 = 18446744073709551616 := rfl
  omega

set_option maxRecDepth 100000 in
set_option maxHeartbeats 1000000 in
theorem readFloat_any (ao : Option Addr) (len cap : Nat) (xs : List Int) (p : Int) (w : World) (hr : Rd w ao len cap xs) :
    Calls Tryd.prog 35 #[.slice ao len cap, .int .i64 p] w fun e w' => e = .returned (rdFv (rdF xs p)) ∧ Below w.heap.size w w' := by
  have hm := hr.max
  have hle := hr.le
  have hl := hr.length
  by_cases ho : p < 0 ∨ (len : Int) < p
  · have HE : Hid (rdF xs p = (0, 0, 1)) := by unfold Hid rdF; rw [hl, if_pos ho]
    clear hr hl
    go_enter Tryd.func35, Tryd.ntmps35
    go_wp2_with fail
    refine (outside_any _ _ _ _ _ (by omega) true (by simp; omega)).mono ?_
    rintro e w' ⟨rfl, rfl⟩
    go_wp2
    go_ret3
    exact ⟨by rw [HE.out]; rfl, Below.refl _ _⟩
  · obtain ⟨q, rfl⟩ := Int.eq_ofNat_of_zero_le (show 0 ≤ p by omega)
    have hq : q ≤ len := by omega
    have he : rdF xs q = if len < q + 8 then (0, 0, 10) else if isNum (leV ((xs.drop q).take 8)) then (leV ((xs.drop q).take 8), (q : Int) + 8, 0) else (0, 0, 15) := by
      unfold rdF; rw [hl, if_neg ho, Int.toNat_natCast]
    rw [he]
    clear he ho
    obtain ⟨ao', len', cap', hcut, hr'⟩ := cut_from hr q hq
    have hl' := hr'.length
    rw [List.length_drop, hl] at hl'
    have hlen' : q + len' = len := by omega
    clear hl'
    by_cases h8 : len < q + 8
    · rw [if_pos h8]
      have h8' : len' < 8 := by omega
      clear hr hr' hl hlen' h8
      go_enter Tryd.func35, Tryd.ntmps35
      go_wp2_with fail
      refine (outside_any _ _ _ _ _ (by omega) false (by simp; omega)).mono ?_
      rintro e w' ⟨rfl, rfl⟩
      go_wp2
      go_ret3
      exact ⟨rfl, Below.refl _ _⟩
    · rw [if_neg h8]
      have h8' : 8 ≤ len' := by omega
      have hq8 : q + 8 ≤ 9223372036854775807 := by omega
      obtain ⟨ao2, len2, cap2, hcut2, hr2⟩ := cut_to hr' 8 h8'
      have hcut2' : ∀ w, (Instr.slice 23 (.slice ao' len' cap') none (some (.int .i64 8)) none).run Tryd.prog w = .ok (.slice ao2 len2 cap2) w := hcut2
      have hu := leV8_lt hr.byt q
      have hl2 : len2 ≤ 8 := by have := hr2.length; rw [List.length_take] at this; omega
      have HR2 : Hid _ := hr2
      have hmm := hr'.max
      have hll := hr'.le
      clear hr hr' hl hlen' h8 hcut2 hr2
      generalize hg : (xs.drop q).take 8 = ys at *
      clear hg
      generalize hUe : leV ys = U at *
      have HU : Hid _ := hUe
      clear hUe
      cases hn : isNum U with
      | false =>
        have HN : Hid _ := hn
        clear hn
        rw [if_neg (by simp)]
        go_enter Tryd.func35, Tryd.ntmps35
        go_wp2_with fail
        refine (outside_any _ _ _ _ _ (by omega) false (by simp; omega)).mono ?_
        rintro e w' ⟨rfl, rfl⟩
        go_wp2_with fail
        refine (low_any _ _ _ _ _ HR2.out hl2).mono ?_
        rintro e w1 ⟨rfl, rfl⟩
        rw [HU.out]
        go_wp2_with fail
        refine (isNumber_any U hu _).mono ?_
        rintro e w2 ⟨rfl, rfl⟩
        rw [HN.out]
        go_wp2
        go_ret3
        exact ⟨rfl, Below.refl _ _⟩
      | true =>
        have HN : Hid _ := hn
        clear hn
        rw [if_pos rfl]
        go_enter Tryd.func35, Tryd.ntmps35
        go_wp2_with fail
        refine (outside_any _ _ _ _ _ (by omega) false (by simp; omega)).mono ?_
        rintro e w' ⟨rfl, rfl⟩
        go_wp2_with fail
        refine (low_any _ _ _ _ _ HR2.out hl2).mono ?_
        rintro e w1 ⟨rfl, rfl⟩
        rw [HU.out]
        go_wp2_with fail
        refine (isNumber_any U hu _).mono ?_
        rintro e w2 ⟨rfl, rfl⟩
        rw [HN.out]
        go_wp2_with fail
        refine (float_any U _).mono ?_
        rintro e w3 ⟨rfl, rfl⟩
        go_wp2
        go_ret3
        exact ⟨rfl, Below.refl _ _⟩

end Go.Proofs.YtfldgjkpkmnkbabDoor
