import Derived.Test.YtfldgjkpkmnkbaaDoorFloats
namespace Go.Proofs.YtfldgjkpkmnkbaaDoor
open Go.RowKit
set_option linter.unusedVariables false

/-- The number that lies in bytes, the lowest first. -/
def leV : List Int → Nat
  | [] => 0
  | c :: cs => c.toNat + 256 * leV cs
theorem leV_lt (xs : List Int) (h : Byt xs) : leV xs < 2 ^ (8 * xs.length) := by
  induction xs with
  | nil => simp [leV]
  | cons c cs ih =>
    have hc := h c List.mem_cons_self
    have := ih (fun x hx => h x (List.mem_cons_of_mem _ hx))
    simp only [leV, List.length_cons]
    rw [show 8 * (cs.length + 1) = 8 * cs.length + 8 from by omega, Nat.pow_add]
    omega
theorem leV_snoc (xs : List Int) (c : Int) : leV (xs ++ [c]) = leV xs + c.toNat * 2 ^ (8 * xs.length) := by
  induction xs with
  | nil => simp [leV]
  | cons d ds ih =>
    simp only [List.cons_append, leV, List.length_cons, ih]
    rw [show 8 * (ds.length + 1) = 8 + 8 * ds.length from by omega, Nat.pow_add, Nat.mul_add]
    have e : 256 * (c.toNat * 2 ^ (8 * ds.length)) = c.toNat * (2 ^ 8 * 2 ^ (8 * ds.length)) := by
      rw [show (2 : Nat) ^ 8 = 256 from rfl, Nat.mul_left_comm]
    omega

theorem or_join64 (U : Nat) (c : Int) (k : Nat) (hk : k ≤ 7) (h1 : U < 2 ^ (8 * k)) (c0 : 0 ≤ c) (c1 : c ≤ 255) :
    bits .or .u64 (U : Int) (IntKind.u64.wrap (c * 2 ^ (8 * k))) = ((U + c.toNat * 2 ^ (8 * k) : Nat) : Int) ∧ U + c.toNat * 2 ^ (8 * k) < 2 ^ (8 * (k + 1)) ∧ U + c.toNat * 2 ^ (8 * k) < 18446744073709551616 := by
  obtain ⟨d, rfl⟩ := Int.eq_ofNat_of_zero_le c0
  rw [Int.toNat_natCast]
  have hp : 0 < 2 ^ (8 * k) := Nat.two_pow_pos _
  have e8 : 2 ^ (8 * (k + 1)) = 256 * 2 ^ (8 * k) := by rw [show 8 * (k + 1) = 8 * k + 8 from by omega, Nat.pow_add]; omega
  have hle : 2 ^ (8 * (k + 1)) ≤ 2 ^ 64 := Nat.pow_le_pow_right (by decide) (by omega)
  have hd : d * 2 ^ (8 * k) ≤ 255 * 2 ^ (8 * k) := Nat.mul_le_mul_right _ (by omega)
  have h64 : (2 : Nat) ^ 64 = 18446744073709551616 := rfl
  have ec : ((d : Int) * 2 ^ (8 * k)) = ((d * 2 ^ (8 * k) : Nat) : Int) := by rw [Int.natCast_mul, Int.natCast_pow]; rfl
  rw [ec, u64_wrap_id _ (by omega) (by omega)]
  refine ⟨?_, by omega, by omega⟩
  have hx : ((d * 2 ^ (8 * k) : Nat) : Int) % 2 ^ (8 * k) = 0 := by
    have : ((2 : Int) ^ (8 * k)) = ((2 ^ (8 * k) : Nat) : Int) := by rw [Int.natCast_pow]; rfl
    rw [this, ← Int.natCast_emod, Nat.mul_mod_left]; rfl
  have hy : (U : Int) < 2 ^ (8 * k) := by
    have : ((2 : Int) ^ (8 * k)) = ((2 ^ (8 * k) : Nat) : Int) := by rw [Int.natCast_pow]; rfl
    rw [this]; omega
  rw [bits_join_low .u64 64 (by decide) wraps_u64 (8 * k) (U : Int) _ (by omega) hy (by omega) (by omega) hx (by omega)]
  omega

set_option maxRecDepth 100000 in
set_option maxHeartbeats 1000000 in
theorem low_any (ao : Option Addr) (len cap : Nat) (xs : List Int) (w : World) (hr : Rd w ao len cap xs) (hl : len ≤ 8) :
    Calls Tryd.prog 48 #[.slice ao len cap] w fun e w' => e = .returned (.int .u64 ((leV xs : Nat) : Int)) ∧ w' = w := by
  have HL : Hid (xs.length = len) := hr.length
  have HB : Hid (Byt xs) := hr.byt
  have hcl := hr.cells
  clear hr
  go_enter Tryd.func48, Tryd.ntmps48
  go_wp2
  go_loop [3, 8] (fun u i => ∃ (k U : Nat), k ≤ len ∧ i = .int .i64 k ∧ u = .int .u64 U ∧ U < 18446744073709551616 ∧ Hid (U = leV (xs.take k)) ∧ Hid (U < 2 ^ (8 * k))) (fun _ i => len - (intOf i).toNat)
  case atStart => exact ⟨0, 0, by omega, rfl, rfl, by omega, rfl, by simp [Hid]⟩
  case round =>
    obtain ⟨k, U, hk, rfl, rfl, hU, hUe, hUl⟩ := hrel
    by_cases hlt : k < len
    · rcases hcl with h0 | ⟨b, off, rfl, hc⟩
      · omega
      have g := hc k hlt
      have hby := HB.out.at k
      have Htk : Hid (leV (xs.take (k + 1)) = leV (xs.take k) + (xs[k]?.getD 0).toNat * 2 ^ (8 * k)) := by
        unfold Hid
        have hk' : k < xs.length := by rw [HL.out]; exact hlt
        rw [List.take_succ_eq_append_getElem hk', leV_snoc, List.getElem?_eq_getElem hk', List.length_take, Nat.min_eq_left (by omega)]
        rfl
      clear hc
      generalize xs[k]?.getD 0 = c at *
      have HJ : Hid (_ ∧ _ ∧ _) := or_join64 U c k (by omega) hUl.out hby.1 hby.2
      go_wp2
      go_round
      case rel => exact ⟨k + 1, U + c.toNat * 2 ^ (8 * k), by omega, by go_num, by rw [← HJ.out.1], HJ.out.2.2, by unfold Hid; rw [Htk.out, ← hUe.out], HJ.out.2.1⟩
      case measure => simp [intOf]; omega
    · have hkl : k = len := by omega
      have HE : Hid (U = leV xs) := by unfold Hid; rw [hUe.out, hkl, List.take_of_length_le (by rw [HL.out]; exact Nat.le_refl _)]
      clear hkl
      go_wp2
      go_ret
      exact ⟨by rw [← HE.out]; rfl, rfl⟩

/-- What a read of a number of eight bytes tells: its bits, the place behind it, the error. -/
def rdF (xs : List Int) (p : Int) : Nat × Int × Int :=
  if p < 0 ∨ (xs.length : Int) < p then (0, 0, 1) else if xs.length < p.toNat + 8 then (0, 0, 10)
  else if isNum (leV ((xs.drop p.toNat).take 8)) then (leV ((xs.drop p.toNat).take 8), p + 8, 0) else (0, 0, 15)
def rdFv (r : Nat × Int × Int) : Value := .tuple #[.float .f64 r.1, .int .i64 r.2.1, .int .i64 r.2.2]
def rdFu (r : Nat × Int × Int) : Value := .tuple #[.int .u64 (r.1 : Int), .int .i64 r.2.1, .int .i64 r.2.2]

theorem leV8_lt {xs : List Int} (h : Byt xs) (p : Nat) : leV ((xs.drop p).take 8) < 18446744073709551616 := by
  have h1 := leV_lt _ ((h.drop p).take 8)
  have h2 : 2 ^ (8 * ((xs.drop p).take 8).length) ≤ 2 ^ 64 := Nat.pow_le_pow_right (by decide) (by rw [List.length_take]; omega)
  have h64 : (2 : Nat) ^ 64 = 18446744073709551616 := rfl
  omega

set_option maxRecDepth 100000 in
set_option maxHeartbeats 1000000 in
theorem readFloat_any (ao : Option Addr) (len cap : Nat) (xs : List Int) (p : Int) (w : World) (hr : Rd w ao len cap xs) :
    Calls Tryd.prog 24 #[.slice ao len cap, .int .i64 p] w fun e w' => e = .returned (rdFv (rdF xs p)) ∧ Below w.heap.size w w' := by
  have hm := hr.max
  have hle := hr.le
  have hl := hr.length
  by_cases ho : p < 0 ∨ (len : Int) < p
  · have HE : Hid (rdF xs p = (0, 0, 1)) := by unfold Hid rdF; rw [hl, if_pos ho]
    clear hr hl
    go_enter Tryd.func24, Tryd.ntmps24
    go_wp2_with fail
    refine (outside_any _ _ _ _ _ (by omega) true (by simp; omega)).mono ?_
    rintro e w' ⟨rfl, rfl⟩
    go_wp2
    go_ret3
    exact ⟨by rw [HE.out]; rfl, Below.refl _ _⟩
  · obtain ⟨q, rfl⟩ := Int.eq_ofNat_of_zero_le (show 0 ≤ p by omega)
    have hq : q ≤ len := by omega
    have he : rdF xs q = if len < q + 8 then (0, 0, 10) else if isNum (leV ((xs.drop q).take 8)) then (leV ((xs.drop q).take 8), (q : Int) + 8, 0) else (0, 0, 15) := by
      unfold rdF; rw [hl, if_neg ho, Int.toNat_natCast]
    rw [he]
    clear he ho
    obtain ⟨ao', len', cap', hcut, hr'⟩ := cut_from hr q hq
    have hl' := hr'.length
    rw [List.length_drop, hl] at hl'
    have hlen' : q + len' = len := by omega
    clear hl'
    by_cases h8 : len < q + 8
    · rw [if_pos h8]
      have h8' : len' < 8 := by omega
      clear hr hr' hl hlen' h8
      go_enter Tryd.func24, Tryd.ntmps24
      go_wp2_with fail
      refine (outside_any _ _ _ _ _ (by omega) false (by simp; omega)).mono ?_
      rintro e w' ⟨rfl, rfl⟩
      go_wp2
      go_ret3
      exact ⟨rfl, Below.refl _ _⟩
    · rw [if_neg h8]
      have h8' : 8 ≤ len' := by omega
      have hq8 : q + 8 ≤ 9223372036854775807 := by omega
      obtain ⟨ao2, len2, cap2, hcut2, hr2⟩ := cut_to hr' 8 h8'
      have hcut2' : ∀ w, (Instr.slice 33 (.slice ao' len' cap') none (some (.int .i64 8)) none).run Tryd.prog w = .ok (.slice ao2 len2 cap2) w := hcut2
      have hu := leV8_lt hr.byt q
      have hl2 : len2 ≤ 8 := by have := hr2.length; rw [List.length_take] at this; omega
      have HR2 : Hid _ := hr2
      have hmm := hr'.max
      have hll := hr'.le
      clear hr hr' hl hlen' h8 hcut2 hr2
      generalize hg : (xs.drop q).take 8 = ys at *
      clear hg
      generalize hUe : leV ys = U at *
      have HU : Hid _ := hUe
      clear hUe
      cases hn : isNum U with
      | false =>
        have HN : Hid _ := hn
        clear hn
        rw [if_neg (by simp)]
        go_enter Tryd.func24, Tryd.ntmps24
        go_wp2_with fail
        refine (outside_any _ _ _ _ _ (by omega) false (by simp; omega)).mono ?_
        rintro e w' ⟨rfl, rfl⟩
        go_wp2_with fail
        refine (low_any _ _ _ _ _ HR2.out hl2).mono ?_
        rintro e w1 ⟨rfl, rfl⟩
        rw [HU.out]
        go_wp2_with fail
        refine (isNumber_any U hu _).mono ?_
        rintro e w2 ⟨rfl, rfl⟩
        rw [HN.out]
        go_wp2
        go_ret3
        exact ⟨rfl, Below.refl _ _⟩
      | true =>
        have HN : Hid _ := hn
        clear hn
        rw [if_pos rfl]
        go_enter Tryd.func24, Tryd.ntmps24
        go_wp2_with fail
        refine (outside_any _ _ _ _ _ (by omega) false (by simp; omega)).mono ?_
        rintro e w' ⟨rfl, rfl⟩
        go_wp2_with fail
        refine (low_any _ _ _ _ _ HR2.out hl2).mono ?_
        rintro e w1 ⟨rfl, rfl⟩
        rw [HU.out]
        go_wp2_with fail
        refine (isNumber_any U hu _).mono ?_
        rintro e w2 ⟨rfl, rfl⟩
        rw [HN.out]
        go_wp2_with fail
        refine (float_any U _).mono ?_
        rintro e w3 ⟨rfl, rfl⟩
        go_wp2
        go_ret3
        exact ⟨rfl, Below.refl _ _⟩

theorem leV_cons_drop (xs : List Int) (j : Nat) (hj : j < xs.length) : leV (xs.drop j) = (xs[j]?.getD 0).toNat + 256 * leV (xs.drop (j + 1)) := by
  rw [List.drop_eq_getElem_cons hj, leV, List.getElem?_eq_getElem hj]; rfl

set_option maxRecDepth 100000 in
set_option maxHeartbeats 1000000 in
theorem refReadFloat_any (ao : Option Addr) (len cap : Nat) (xs : List Int) (p : Int) (w : World) (hr : Rd w ao len cap xs) (hb : len ≤ 9223372036854775000) :
    Calls Tryd.prog 25 #[.slice ao len cap, .int .i64 p] w fun e w' => e = .returned (rdFu (rdF xs p)) ∧ Below w.heap.size w w' := by
  have hm := hr.max
  have hle := hr.le
  have hl := hr.length
  by_cases ho : p < 0 ∨ (len : Int) < p
  · have HE : Hid (rdF xs p = (0, 0, 1)) := by unfold Hid rdF; rw [hl, if_pos ho]
    clear hr hl
    go_enter Tryd.func25, Tryd.ntmps25
    go_wp2_with fail
    refine (refOutside_any _ _ _ _ _ (by omega) true (by simp; omega)).mono ?_
    rintro e w' ⟨rfl, rfl⟩
    go_wp2
    go_ret3
    exact ⟨by rw [HE.out]; rfl, Below.refl _ _⟩
  · obtain ⟨q, rfl⟩ := Int.eq_ofNat_of_zero_le (show 0 ≤ p by omega)
    have hq : q ≤ len := by omega
    have he : rdF xs q = if len < q + 8 then (0, 0, 10) else if isNum (leV ((xs.drop q).take 8)) then (leV ((xs.drop q).take 8), (q : Int) + 8, 0) else (0, 0, 15) := by
      unfold rdF; rw [hl, if_neg ho, Int.toNat_natCast]
    rw [he]
    clear he ho
    by_cases h8 : len < q + 8
    · rw [if_pos h8]
      clear hr hl
      go_enter Tryd.func25, Tryd.ntmps25
      go_wp2_with fail
      refine (refOutside_any _ _ _ _ _ (by omega) false (by simp; omega)).mono ?_
      rintro e w' ⟨rfl, rfl⟩
      go_wp2
      go_ret3
      exact ⟨rfl, Below.refl _ _⟩
    · rw [if_neg h8]
      have hu := leV8_lt hr.byt q
      have hcl := hr.cells
      have HB : Hid (Byt ((xs.drop q).take 8)) := (hr.byt.drop q).take 8
      have HY : Hid (∀ j, j < 8 → ((xs.drop q).take 8)[j]?.getD 0 = xs[q + j]?.getD 0) := by
        intro j hj
        rw [List.getElem?_take, if_pos hj, List.getElem?_drop]
      have HL8 : Hid (((xs.drop q).take 8).length = 8) := by unfold Hid; rw [List.length_take, List.length_drop]; omega
      clear hr hl
      generalize (xs.drop q).take 8 = ys at *
      have walk : ∀ (b : Bool), isNum (leV ys) = b → Calls Tryd.prog 25 #[.slice ao len cap, .int .i64 q] w fun e w' => e = .returned (rdFu (if b then (leV ys, (q : Int) + 8, 0) else (0, 0, 15))) ∧ Below w.heap.size w w' := by
        intro b hb2
        have HN : Hid _ := hb2
        clear hb2
        go_enter Tryd.func25, Tryd.ntmps25
        go_wp2_with fail
        refine (refOutside_any _ _ _ _ _ (by omega) false (by simp; omega)).mono ?_
        rintro e w' ⟨rfl, rfl⟩
        go_wp2
        go_loop [7, 8] (fun u i => ∃ (m U : Nat), m ≤ 8 ∧ i = .int .i64 (7 - (m : Int)) ∧ u = .int .u64 U ∧ Hid (U = leV (ys.drop (8 - m))) ∧ U < 18446744073709551616) (fun _ i => (intOf i + 1).toNat)
        case atStart => exact ⟨0, 0, by omega, rfl, rfl, by unfold Hid; rw [List.drop_eq_nil_of_le (by rw [HL8.out]; omega)]; rfl, by omega⟩
        case round =>
          obtain ⟨m, U, hm8, rfl, rfl, hUe, hUl⟩ := hrel
          by_cases hlt : m < 8
          · rcases hcl with h0 | ⟨b, off, rfl, hc⟩
            · omega
            obtain ⟨j, hj⟩ : ∃ j, j = 7 - m := ⟨_, rfl⟩
            have hjm : j + m = 7 := by omega
            have ej : (7 : Int) - (m : Int) = (j : Int) := by omega
            rw [ej]
            have g := hc (q + j) (by omega)
            have hy := HY.out j (by omega)
            rw [← hy] at g
            have hby := HB.out.at j
            have Hst : Hid (leV (ys.drop j) = (ys[j]?.getD 0).toNat + 256 * U) := by
              unfold Hid; rw [leV_cons_drop ys j (by rw [HL8.out]; omega), hUe.out, show 8 - m = j + 1 from by omega]
            have hU56 : U < 72057594037927936 := by
              have h1 := leV_lt (ys.drop (8 - m)) (HB.out.drop _)
              rw [← hUe.out, List.length_drop, HL8.out] at h1
              have h2 : 2 ^ (8 * (8 - (8 - m))) ≤ 2 ^ 56 := Nat.pow_le_pow_right (by decide) (by omega)
              have h56 : (2 : Nat) ^ 56 = 72057594037927936 := rfl
              omega
            have hj7 : j ≤ 7 := by omega
            clear hc hy hj ej
            generalize ys[j]?.getD 0 = c at *
            go_wp2
            go_round
            case rel =>
              refine ⟨m + 1, c.toNat + 256 * U, by omega, ?_, ?_, ?_, by omega⟩
              · have : (j : Int) - 1 = 7 - ((m + 1 : Nat) : Int) := by omega
                rw [this]
              · have : (U : Int) * 256 + c = ((c.toNat + 256 * U : Nat) : Int) := by omega
                rw [this]
              · unfold Hid; rw [show 8 - (m + 1) = j from by omega, Hst.out]
            case measure => simp [intOf]
          · have hm' : m = 8 := by omega
            have HE : Hid (U = leV ys) := by unfold Hid; rw [hUe.out, hm']; rfl
            have hge : 8 ≤ m := by omega
            clear hm'
            go_wp2_with fail
            refine (refNumber_any U hUl _).mono ?_
            rintro e w1 ⟨rfl, rfl⟩
            rw [HE.out, HN.out]
            cases b with
            | false =>
              go_wp2
              go_ret3
              exact ⟨rfl, Below.refl _ _⟩
            | true =>
              go_wp2
              go_ret3
              exact ⟨rfl, Below.refl _ _⟩
      exact walk _ rfl
end Go.Proofs.YtfldgjkpkmnkbaaDoor
