import Derived.Test.YtpinpcefgbhdmaaDoorLow
import Derived.Test.YtpinpcefgbhdmaaDoorReadUint
namespace Go.Proofs.YtpinpcefgbhdmaaDoor
open Go.RowKit
set_option linter.unusedVariables false

/-- The number that lies in bytes, the lowest first. -/
def leV : List Int → Nat
  | [] => 0
  | c :: cs => c.toNat + 256 * leV cs
theorem leV_lt (xs : List Int) (h : Byt xs) : leV xs < 2 ^ (8 * xs.length) := by
  induction xs with
  | nil => simp [leV]
  | cons c cs ih =>
    have hc := h c List.mem_cons_self
    have := ih (fun x hx => h x (List.mem_cons_of_mem _ hx))
    simp only [leV, List.length_cons]
    rw [show 8 * (cs.length + 1) = 8 * cs.length + 8 from by omega, Nat.pow_add]
    omega
theorem leV_snoc (xs : List Int) (c : Int) : leV (xs ++ [c]) = leV xs + c.toNat * 2 ^ (8 * xs.length) := by
  induction xs with
  | nil => simp [leV]
  | cons d ds ih =>
    simp only [List.cons_append, leV, List.length_cons, ih]
    rw [show 8 * (ds.length + 1) = 8 + 8 * ds.length from by omega, Nat.pow_add, Nat.mul_add]
    have e : 256 * (c.toNat * 2 ^ (8 * ds.length)) = c.toNat * (2 ^ 8 * 2 ^ (8 * ds.length)) := by
      rw [show (2 : Nat) ^ 8 = 256 from rfl, Nat.mul_left_comm]
    omega

theorem or_join64 (U : Nat) (c : Int) (k : Nat) (hk : k ≤ 7) (h1 : U < 2 ^ (8 * k)) (c0 : 0 ≤ c) (c1 : c ≤ 255) :
    bits .or .u64 (U : Int) (IntKind.u64.wrap (c * 2 ^ (8 * k))) = ((U + c.toNat * 2 ^ (8 * k) : Nat) : Int) ∧ U + c.toNat * 2 ^ (8 * k) < 2 ^ (8 * (k + 1)) ∧ U + c.toNat * 2 ^ (8 * k) < 18446744073709551616 := by
  obtain ⟨d, rfl⟩ := Int.eq_ofNat_of_zero_le c0
  rw [Int.toNat_natCast]
  have hp : 0 < 2 ^ (8 * k) := Nat.two_pow_pos _
  have e8 : 2 ^ (8 * (k + 1)) = 256 * 2 ^ (8 * k) := by rw [show 8 * (k + 1) = 8 * k + 8 from by omega, Nat.pow_add]; omega
  have hle : 2 ^ (8 * (k + 1)) ≤ 2 ^ 64 := Nat.pow_le_pow_right (by decide) (by omega)
  have hd : d * 2 ^ (8 * k) ≤ 255 * 2 ^ (8 * k) := Nat.mul_le_mul_right _ (by omega)
  have h64 : (2 : Nat) ^ 64 = 18446744073709551616 := rfl
  have ec : ((d : Int) * 2 ^ (8 * k)) = ((d * 2 ^ (8 * k) : Nat) : Int) := by rw [Int.natCast_mul, Int.natCast_pow]; rfl
  rw [ec, u64_wrap_id _ (by omega) (by omega)]
  refine ⟨?_, by omega, by omega⟩
  have hx : ((d * 2 ^ (8 * k) : Nat) : Int) % 2 ^ (8 * k) = 0 := by
    have : ((2 : Int) ^ (8 * k)) = ((2 ^ (8 * k) : Nat) : Int) := by rw [Int.natCast_pow]; rfl
    rw [this, ← Int.natCast_emod, Nat.mul_mod_left]; rfl
  have hy : (U : Int) < 2 ^ (8 * k) := by
    have : ((2 : Int) ^ (8 * k)) = ((2 ^ (8 * k) : Nat) : Int) := by rw [Int.natCast_pow]; rfl
    rw [this]; omega
  rw [bits_join_low .u64 64 (by decide) wraps_u64 (8 * k) (U : Int) _ (by omega) hy (by omega) (by omega) hx (by omega)]
  omega

set_option maxRecDepth 100000 in
set_option maxHeartbeats 1000000 in
theorem low_any (ao : Option Addr) (len cap : Nat) (xs : List Int) (w : World) (hr : Rd w ao len cap xs) (hl : len ≤ 8) :
    Calls Tryd.prog 31 #[.slice ao len cap] w fun e w' => e = .returned (.int .u64 ((leV xs : Nat) : Int)) ∧ w' = w := by
  have HL : Hid (xs.length = len) := hr.length
  have HB : Hid (Byt xs) := hr.byt
  have hcl := hr.cells
  clear hr
  go_enter Tryd.func31, Tryd.ntmps31
  go_wp2
  go_loop [3, 8] (fun u i => ∃ (k U : Nat), k ≤ len ∧ i = .int .i64 k ∧ u = .int .u64 U ∧ U < 18446744073709551616 ∧ Hid (U = leV (xs.take k)) ∧ Hid (U < 2 ^ (8 * k))) (fun _ i => len - (intOf i).toNat)
  case atStart => exact ⟨0, 0, by omega, rfl, rfl, by omega, rfl, by simp [Hid]⟩
  case round =>
    obtain ⟨k, U, hk, rfl, rfl, hU, hUe, hUl⟩ := hrel
    by_cases hlt : k < len
    · rcases hcl with h0 | ⟨b, off, rfl, hc⟩
      · omega
      have g := hc k hlt
      have hby := HB.out.at k
      have Htk : Hid (leV (xs.take (k + 1)) = leV (xs.take k) + (xs[k]?.getD 0).toNat * 2 ^ (8 * k)) := by
        unfold Hid
        have hk' : k < xs.length := by rw [HL.out]; exact hlt
        rw [List.take_succ_eq_append_getElem hk', leV_snoc, List.getElem?_eq_getElem hk', List.length_take, Nat.min_eq_left (by omega)]
        rfl
      clear hc
      generalize xs[k]?.getD 0 = c at *
      have HJ : Hid (_ ∧ _ ∧ _) := or_join64 U c k (by omega) hUl.out hby.1 hby.2
      go_wp2
      go_round
      case rel => exact ⟨k + 1, U + c.toNat * 2 ^ (8 * k), by omega, by go_num, by rw [← HJ.out.1], HJ.out.2.2, by unfold Hid; rw [Htk.out, ← hUe.out], HJ.out.2.1⟩
      case measure => simp [intOf]; omega
    · have hkl : k = len := by omega
      have HE : Hid (U = leV xs) := by unfold Hid; rw [hUe.out, hkl, List.take_of_length_le (by rw [HL.out]; exact Nat.le_refl _)]
      clear hkl
      go_wp2
      go_ret
      exact ⟨by rw [← HE.out]; rfl, rfl⟩

theorem leV_cons_drop (xs : List Int) (j : Nat) (hj : j < xs.length) : leV (xs.drop j) = (xs[j]?.getD 0).toNat + 256 * leV (xs.drop (j + 1)) := by
  rw [List.drop_eq_getElem_cons hj, leV, List.getElem?_eq_getElem hj]; rfl

theorem leV_low8 (n : Nat) : ∀ u, u < 256 ^ n → leV (low8 u n) = u := by
  induction n with
  | zero => intro u h; simp at h; subst h; rfl
  | succ n ih =>
    intro u h
    simp only [low8, leV]
    rw [ih (u / 256) (by rw [Nat.pow_succ] at h; exact Nat.div_lt_of_lt_mul (by omega))]
    omega
theorem low8_leV (ys : List Int) (h : Byt ys) : low8 (leV ys) ys.length = ys := by
  induction ys with
  | nil => rfl
  | cons c cs ih =>
    have hc := h c List.mem_cons_self
    have := ih (fun x hx => h x (List.mem_cons_of_mem _ hx))
    simp only [leV, List.length_cons, low8]
    rw [show (c.toNat + 256 * leV cs) / 256 = leV cs from by omega, this, show (c.toNat + 256 * leV cs) % 256 = c.toNat from by omega]
    congr 1
    omega
end Go.Proofs.YtpinpcefgbhdmaaDoor
