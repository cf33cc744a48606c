import Derived.Test.YtpinpcefgbhdmaaDoorMem
import Derived.Laws.BitsAllLaws
namespace Go.Proofs.YtpinpcefgbhdmaaDoor
open Go.RowKit
set_option linter.unusedVariables false

/-- What stands at a place: seven bits a byte, at most f bytes more, i of them gone by. -/
def rdG (p : Int) : Nat → Nat → Int → List Int → Int × Int × Int
  | 0, _, _, _ => (0, 0, 12)
  | _ + 1, _, _, [] => (0, 0, 10)
  | f + 1, i, v, c :: cs => if 128 ≤ c then rdG p f (i + 1) (v + (c - 128) * 2 ^ (7 * i)) cs else if c = 0 ∧ 0 < i then (0, 0, 11) else (v + c * 2 ^ (7 * i), p + i + 1, 0)

theorem outside_any (ao : Option Addr) (len cap : Nat) (p : Int) (w : World) (hl : len ≤ 9223372036854775807) (b : Bool) (hb : b = decide (p < 0 ∨ (len : Int) < p)) :
    Calls Tryd.prog 29 #[.slice ao len cap, .int .i64 p] w fun e w' => e = .returned (.bool b) ∧ w' = w := by
  subst hb
  by_cases h1 : p < 0
  · have e : decide (p < 0 ∨ (len : Int) < p) = true := by simp; omega
    rw [e]
    clear e
    go_enter Tryd.func29, Tryd.ntmps29
    go_wp2
    go_ret
    exact ⟨rfl, rfl⟩
  · have h2 : decide (p < 0) = false := by simpa using h1
    have e : decide (p < 0 ∨ (len : Int) < p) = decide ((len : Int) < p) := by simp [h1]
    rw [e]
    clear e
    go_enter Tryd.func29, Tryd.ntmps29
    go_wp2
    all_goals go_ret
    all_goals exact ⟨rfl, rfl⟩

def rdV (r : Int × Int × Int) : Value := .tuple #[.int .i64 r.1, .int .i64 r.2.1, .int .i64 r.2.2]

theorem ret_rdV {a b c : Int} {r : Int × Int × Int} (h : r = (a, b, c)) : Ending.returned (.tuple #[.int .i64 a, .int .i64 b, .int .i64 c]) = .returned (rdV r) := by rw [h]; rfl
theorem wraps_i64 (n : Int) (h₀ : 0 ≤ n) (h₁ : n < 2 ^ 63) : IntKind.i64.wrap n = n := by rw [IntKind.wrap_i64]; omega
theorem or_join (V c : Int) (k : Nat) (hk : k ≤ 8) (h0 : 0 ≤ V) (h1 : V < 2 ^ (7 * k)) (c0 : 0 ≤ c) (c1 : c < 128) : bits .or .i64 V (wrap64 (c * 2 ^ (7 * k))) = V + c * 2 ^ (7 * k) ∧ 0 ≤ V + c * 2 ^ (7 * k) ∧ V + c * 2 ^ (7 * k) < 2 ^ (7 * (k + 1)) := by
  have hp : (0 : Int) < 2 ^ (7 * k) := Int.pow_pos (by decide)
  have e7 : (2 : Int) ^ (7 * (k + 1)) = 128 * 2 ^ (7 * k) := by rw [show 7 * (k + 1) = 7 * k + 7 from by omega, Int.pow_add]; omega
  have hle : (2 : Int) ^ (7 * (k + 1)) ≤ 2 ^ 63 := by
    have : (2 : Nat) ^ (7 * (k + 1)) ≤ 2 ^ 63 := Nat.pow_le_pow_right (by decide) (by omega)
    exact_mod_cast this
  have hcx : c * 2 ^ (7 * k) ≤ 127 * 2 ^ (7 * k) := Int.mul_le_mul_of_nonneg_right (by omega) (by omega)
  have hc0 : 0 ≤ c * 2 ^ (7 * k) := Int.mul_nonneg c0 (by omega)
  rw [e7] at hle ⊢
  have hw : wrap64 (c * 2 ^ (7 * k)) = c * 2 ^ (7 * k) := IntWalk.wrap64_in _ ⟨by omega, by omega⟩
  rw [hw]
  refine ⟨bits_join_low .i64 63 (by decide) wraps_i64 (7 * k) V _ h0 h1 (by omega) hc0 (Int.mul_emod_left _ _) (by omega), by omega, by omega⟩
theorem rdG_more (p : Int) (k : Nat) (hk : k ≤ 8) (V c : Int) (cs : List Int) (h : 128 ≤ c) : rdG p (9 - k) k V (c :: cs) = rdG p (9 - (k + 1)) (k + 1) (V + (c - 128) * 2 ^ (7 * k)) cs := by
  rw [show 9 - k = (9 - (k + 1)) + 1 from by omega]
  simp only [rdG]
  rw [if_pos h]
theorem rdG_last (p : Int) (k : Nat) (hk : k ≤ 8) (V c : Int) (cs : List Int) (h : ¬ 128 ≤ c) (hn : ¬ (c = 0 ∧ 0 < k)) : rdG p (9 - k) k V (c :: cs) = (V + c * 2 ^ (7 * k), p + k + 1, 0) := by
  rw [show 9 - k = (9 - (k + 1)) + 1 from by omega]
  simp only [rdG]
  rw [if_neg h, if_neg hn]
theorem rdG_form (p : Int) (k : Nat) (hk : k ≤ 8) (V : Int) (cs : List Int) (h : 0 < k) : rdG p (9 - k) k V (0 :: cs) = (0, 0, 11) := by
  rw [show 9 - k = (9 - (k + 1)) + 1 from by omega]
  simp only [rdG]
  rw [if_neg (by decide), if_pos ⟨trivial, h⟩]

set_option maxRecDepth 100000 in
set_option maxHeartbeats 1000000 in
theorem readUint_core (ao : Option Addr) (len cap : Nat) (p : Nat) (w : World) (hm : cap ≤ 9223372036854775807) (hle : len ≤ cap) (hp : p ≤ len)
    (ao' : Option Addr) (len' cap' : Nat) (ds : List Int) (hdp : p + len' = len) (hcut : ∀ w, (Instr.slice 23 (.slice ao len cap) (some (.int .i64 p)) none none).run Tryd.prog w = .ok (.slice ao' len' cap') w) (hr' : Rd w ao' len' cap' ds) :
    Calls Tryd.prog 18 #[.slice ao len cap, .int .i64 p] w fun e w' => e = .returned (rdV (rdG p 9 0 0 ds)) ∧ Below w.heap.size w w' := by
  have hcl := hr'.cells
  have hm' := hr'.max
  have hle' := hr'.le
  have hpl : p + len' ≤ 9223372036854775807 := by omega
  have HL : Hid (ds.length = len') := hr'.length
  have HB : Hid (Byt ds) := hr'.byt
  clear hr' hdp
  go_enter Tryd.func18, Tryd.ntmps18
  go_wp2_with fail
  refine (outside_any _ _ _ _ _ (by omega) false (by simp; omega)).mono ?_
  rintro e w' ⟨rfl, rfl⟩
  go_wp2
  clear hcut
  go_loop [8, 17] (fun n i => ∃ (k : Nat) (V : Int), k ≤ 9 ∧ k ≤ len' ∧ i = .int .i64 k ∧ n = .int .i64 V ∧ 0 ≤ V ∧ Hid (V < 2 ^ (7 * k)) ∧ Hid (rdG p 9 0 0 ds = rdG p (9 - k) k V (ds.drop k))) (fun _ i => 9 - (intOf i).toNat)
  case atStart => exact ⟨0, 0, by omega, by omega, rfl, rfl, by omega, by simp [Hid], rfl⟩
  case round =>
    obtain ⟨k, V, hk9, hkl, rfl, rfl, hV0, hV1, hR⟩ := hrel
    by_cases hk : k = 9
    · subst hk
      go_wp2
      go_ret3
      exact ⟨by rw [hR.out]; rfl, Below.refl _ _⟩
    · by_cases hkl2 : k = len'
      · have HE : Hid (rdG p 9 0 0 ds = (0, 0, 10)) := by
          unfold Hid
          rw [hR.out, show 9 - k = (8 - k) + 1 from by omega, List.drop_eq_nil_of_le (by rw [HL.out]; omega)]; rfl
        have hne : ((k : Int) == (len' : Int)) = true := by simp; omega
        clear hkl2
        go_wp2
        go_ret3
        exact ⟨by rw [HE.out]; rfl, Below.refl _ _⟩
      · have hlt : k < len' := by omega
        rcases hcl with h0 | ⟨b, off, rfl, hc⟩
        · omega
        have g := hc k hlt
        have hby := HB.out.at k
        have hdr : Hid (ds.drop k = ds[k]?.getD 0 :: ds.drop (k + 1)) := by
          unfold Hid
          rw [List.drop_eq_getElem_cons (by rw [HL.out]; exact hlt), List.getElem?_eq_getElem (by rw [HL.out]; exact hlt)]; rfl
        have hne : ((k : Int) == (len' : Int)) = false := by simp; omega
        clear hc
        generalize ds[k]?.getD 0 = c at *
        by_cases h128 : 128 ≤ c
        · have HJ : Hid (_ ∧ _ ∧ _) := or_join V (c - 128) k (by omega) hV0 hV1.out (by omega) (by omega)
          go_wp2
          go_round
          case rel => exact ⟨k + 1, V + (c - 128) * 2 ^ (7 * k), by omega, by omega, by go_num, by rw [HJ.out.1], HJ.out.2.1, HJ.out.2.2, by unfold Hid; rw [hR.out, hdr.out, rdG_more p k (by omega) V c _ h128]⟩
          case measure => simp [intOf]; omega
        · by_cases hz : c = 0
          · by_cases hk0 : k = 0
            · have HE : Hid (rdG p 9 0 0 ds = (V + c * 2 ^ (7 * k), (p : Int) + k + 1, (0 : Int))) := by
                unfold Hid
                rw [hR.out, hdr.out, rdG_last p k (by omega) V c _ h128 (by omega)]
              have HJ : Hid (_ ∧ _ ∧ _) := or_join V c k (by omega) hV0 hV1.out (by omega) (by omega)
              have hkd : decide ((0 : Int) < (k : Int)) = false := by simp; omega
              have hz' : (c == 0) = true := by simp; omega
              have hk8 : k ≤ 0 := by omega
              clear hk0 hz
              go_wp2
              go_ret3
              exact ⟨ret_rdV (HE.out.trans (by rw [HJ.out.1])), Below.refl _ _⟩
            · have HE : Hid (rdG p 9 0 0 ds = (0, 0, 11)) := by
                unfold Hid
                rw [hR.out, hdr.out, hz, rdG_form p k (by omega) V _ (by omega)]
              have hz' : (c == 0) = true := by simp; omega
              clear hz
              have hkp : 0 < k := by omega
              go_wp2
              go_ret3
              exact ⟨by rw [HE.out]; rfl, Below.refl _ _⟩
          · have HE : Hid (rdG p 9 0 0 ds = (V + c * 2 ^ (7 * k), (p : Int) + k + 1, (0 : Int))) := by
              unfold Hid
              rw [hR.out, hdr.out, rdG_last p k (by omega) V c _ h128 (by omega)]
            have HJ : Hid (_ ∧ _ ∧ _) := or_join V c k (by omega) hV0 hV1.out (by omega) (by omega)
            have hz' : (c == 0) = false := by simp; omega
            clear hz
            go_wp2
            go_ret3
            exact ⟨ret_rdV (HE.out.trans (by rw [HJ.out.1])), Below.refl _ _⟩

/-- What a read of a number tells. -/
def rdU (xs : List Int) (p : Int) : Int × Int × Int := if p < 0 ∨ (xs.length : Int) < p then (0, 0, 1) else rdG p 9 0 0 (xs.drop p.toNat)

set_option maxRecDepth 100000 in
theorem readUint_any (ao : Option Addr) (len cap : Nat) (xs : List Int) (p : Int) (w : World) (hr : Rd w ao len cap xs) :
    Calls Tryd.prog 18 #[.slice ao len cap, .int .i64 p] w fun e w' => e = .returned (rdV (rdU xs p)) ∧ Below w.heap.size w w' := by
  have hm := hr.max
  have hle := hr.le
  have hl := hr.length
  by_cases ho : p < 0 ∨ (len : Int) < p
  · have HE : Hid (rdU xs p = (0, 0, 1)) := by unfold Hid rdU; rw [hl, if_pos ho]
    clear hr hl
    go_enter Tryd.func18, Tryd.ntmps18
    go_wp2_with fail
    refine (outside_any _ _ _ _ _ (by omega) true (by simp; omega)).mono ?_
    rintro e w' ⟨rfl, rfl⟩
    go_wp2
    go_ret3
    exact ⟨by rw [HE.out]; rfl, Below.refl _ _⟩
  · have he : rdU xs p = rdG p 9 0 0 (xs.drop p.toNat) := by unfold rdU; rw [hl, if_neg ho]
    rw [he]
    obtain ⟨q, rfl⟩ := Int.eq_ofNat_of_zero_le (show 0 ≤ p by omega)
    rw [Int.toNat_natCast]
    obtain ⟨ao', len', cap', hcut, hr'⟩ := cut_from hr q (by omega)
    have hl' := hr'.length
    rw [List.length_drop] at hl'
    exact readUint_core ao len cap q w hm hle (by omega) ao' len' cap' _ (by omega) hcut hr'
end Go.Proofs.YtpinpcefgbhdmaaDoor
