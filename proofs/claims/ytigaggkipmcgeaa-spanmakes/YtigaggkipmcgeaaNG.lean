import Derived.Test.YtigaggkipmcgeaaNF
import Derived.Test.YtigaggkipmcgeaaRL
namespace Go.Proofs.Ytigaggkipmcgeaa
open Go.RowKit
set_option linter.unusedVariables false

/-- The reference's word of what is told: the rung q or the next one. -/
def moreR (d : Int) (neg rest : Bool) (h : Nat) : Bool := (d == 0 && decide (h % 2 = 1) && (rest || decide (h / 2 % 2 = 1))) || (((d == 1 && !neg) || (d == 2 && neg)) && (decide (h % 2 = 1) || rest))
theorem odd_bit (h : Nat) (hh : h < 18446744073709551616) : (bits .and .u64 (h : Int) 1 == 1) = decide (h % 2 = 1) := by
  have k := u64_and_nat h 1 hh (by decide)
  rw [show ((1 : Nat) : Int) = 1 from rfl] at k
  rw [k, Nat.and_one_is_mod]
  by_cases ho : h % 2 = 1
  · rw [ho]; rfl
  · have : h % 2 = 0 := by omega
    rw [this]; rfl
set_option maxRecDepth 100000 in
set_option maxHeartbeats 4000000 in
theorem rtold_any (d : Int) (neg rest : Bool) (h : Nat) (e : Int) (hd : d = 0 ∨ d = 1 ∨ d = 2) (hh : h < 18014398509481984) (he : -1074 ≤ e ∧ e ≤ 100000) (hfm : e = -1074 ∨ 4503599627370496 ≤ h / 2) (w : World) (p : Nat × Bool)
    (hp : p = if infK ≤ ((e + 1074).toNat * 4503599627370496 + h / 2 + (moreR d neg rest h).toNat) ∨ 971 < e then (if d = 0 ∨ moreR d neg rest h = true ∨ (d = 1 ∧ neg = false) ∨ (d = 2 ∧ neg = true) then (0, false) else (sgnK neg 9218868437227405311, true)) else (sgnK neg ((e + 1074).toNat * 4503599627370496 + h / 2 + (moreR d neg rest h).toNat), true)) :
    Calls Try.prog 111 #[.int .i64 d, .bool neg, .int .u64 h, .bool rest, .int .i64 e] w fun e' w' => e' = .returned (.tuple #[.int .u64 p.1, .bool p.2]) ∧ w' = w := by
  have hb1 := odd_bit h (by omega)
  have hb2 := odd_bit (h / 2) (by omega)
  have hc : ((h / 2 : Nat) : Int) = (h : Int) / 2 := by omega
  rw [hc] at hb2
  have HP : Hid _ := hp
  clear hp
  go_enter Try.func111, Try.ntmps111
  go_upto_region 3 with fail
  go_cut [13, 14] (fun s13 r wx => r = .bool (moreR d neg rest h) ∧ wx = w)
  case first =>
    clear HP
    by_cases ho : h % 2 = 1 <;> by_cases hq : h / 2 % 2 = 1
    all_goals
      simp only [ho, hq, decide_true, decide_false] at hb1 hb2
      rcases hd with rfl | rfl | rfl <;> cases neg <;> cases rest
    all_goals
      go_wp2_with fail
      go_meet
      exact ⟨by simp [moreR, ho, hq], rfl⟩
  case rest =>
  obtain ⟨rfl, rfl⟩ := hcut
  generalize hM : moreR d neg rest h = M at *
  clear hb1 hb2
  go_upto_if 55 with fail
  go_cut [12] (fun s12 wx => s12 = .int .u64 ((h / 2 + M.toNat : Nat) : Int) ∧ wx = wc)
  case first =>
    cases M
    · go_wp2_with fail
      go_meet
      exact ⟨by rw [← hc]; rfl, rfl⟩
    · go_wp2_with fail
      go_meet
      exact ⟨by rw [← hc]; rfl, rfl⟩
  case rest =>
  obtain ⟨rfl, rfl⟩ := hcut
  have hQ : h / 2 + M.toNat ≤ 9007199254740992 := by have := Bool.toNat_le M; omega
  have hQ2 : e = -1074 ∨ 4503599627370496 ≤ h / 2 + M.toNat := by omega
  rw [Nat.add_assoc] at HP
  generalize h / 2 + M.toNat = Q at *
  obtain ⟨e1, he1⟩ : ∃ e1 : Int, e1 = if Q = 9007199254740992 then e + 1 else e := ⟨_, rfl⟩
  obtain ⟨q1, hq1⟩ : ∃ q1 : Nat, q1 = if Q = 9007199254740992 then 4503599627370496 else Q := ⟨_, rfl⟩
  go_upto_if 59 with fail
  go_cut [4, 12] (fun s4 s12 wx => s4 = .int .i64 e1 ∧ s12 = .int .u64 (q1 : Int) ∧ wx = wc)
  case first =>
    by_cases h53 : Q = 9007199254740992
    · rw [if_pos h53] at he1 hq1
      subst he1 hq1 h53
      go_wp2_with fail
      go_meet
      exact ⟨rfl, rfl, rfl⟩
    · rw [if_neg h53] at he1 hq1
      subst he1 hq1
      have hne : ((q1 : Int) == 9007199254740992) = false := by rw [beq_eq_false_iff_ne]; omega
      rw [hne]
      go_wp2_with fail
      go_meet
      exact ⟨rfl, rfl, rfl⟩
  case rest =>
  obtain ⟨rfl, rfl, rfl⟩ := hcut
  have hq1b : q1 < 9007199254740992 := by rw [hq1]; split <;> omega
  have he1b : -1074 ≤ e1 ∧ e1 ≤ 100001 := by rw [he1]; split <;> omega
  have hq1f : e1 = -1074 ∨ 4503599627370496 ≤ q1 := by rw [he1, hq1]; split <;> omega
  have HRG : Hid ((e1 + 1074).toNat * 4503599627370496 + q1 = (e + 1074).toNat * 4503599627370496 + Q) := by unfold Hid; rw [he1, hq1]; split <;> omega
  have HOV : Hid ((infK ≤ (e + 1074).toNat * 4503599627370496 + Q ∨ 971 < e) ↔ 971 < e1) := by
    unfold Hid infK; rw [he1]; split <;> omega
  clear hc hQ hQ2 hfm he1 hq1 he
  have hsgn : ∀ U : Nat, 0 < U → U < 9223372036854775808 → bits .or .u64 (U : Int) 9223372036854775808 = ((sgnK true U : Nat) : Int) := by
    intro U h0 h1
    have k := u64_or_nat U 9223372036854775808 (by omega) (by decide)
    rw [show ((9223372036854775808 : Nat) : Int) = 9223372036854775808 from rfl] at k
    have k2 := Nat.two_pow_add_eq_or_of_lt (i := 63) (b := U) (by omega) 1
    rw [show (2 : Nat) ^ 63 = 9223372036854775808 by decide, Nat.mul_one] at k2
    unfold sgnK
    rw [k, if_pos ⟨rfl, h0⟩, Nat.or_comm, ← k2]
  by_cases h971 : e1 ≤ 971
  · have HPE : Hid (p = (sgnK neg ((e1 + 1074).toNat * 4503599627370496 + q1), true)) := by
      unfold Hid; rw [HP.out, if_neg (fun c => by have := HOV.out.1 c; omega), HRG.out]
    by_cases hb : 4503599627370496 ≤ q1
    · obtain ⟨U, hU⟩ : ∃ U : Nat, U = (e1 + 1074).toNat * 4503599627370496 + q1 := ⟨_, rfl⟩
      have hand : bits .and .u64 (q1 : Int) 4503599627370495 = ((q1 - 4503599627370496 : Nat) : Int) := by
        have k := u64_and_nat q1 4503599627370495 (by omega) (by decide)
        rw [show ((4503599627370495 : Nat) : Int) = 4503599627370495 from rfl] at k
        rw [k, show (4503599627370495 : Nat) = 2 ^ 52 - 1 by decide, Nat.and_two_pow_sub_one_eq_mod, show (2 : Nat) ^ 52 = 4503599627370496 by decide]
        omega
      have hor : bits .or .u64 ((e1 + 1075) * 4503599627370496) ((q1 - 4503599627370496 : Nat) : Int) = (U : Int) := by
        rw [show (e1 + 1075) * 4503599627370496 = (((e1 + 1075).toNat * 4503599627370496 : Nat) : Int) by omega, u64_or_nat _ _ (by omega) (by omega)]
        have k := or_field (s := 0) (k := (e1 + 1075).toNat) (f := q1 - 4503599627370496) (by omega) (by omega) (by omega)
        rw [Nat.zero_mul, Nat.zero_add, Nat.zero_add] at k
        rw [Nat.or_comm, k, hU]
        omega
      generalize hq2 : q1 - 4503599627370496 = q2 at *
      have hU0 : 0 < U := by omega
      have hU1 : U < 9223372036854775808 := by omega
      have hs := hsgn U hU0 hU1
      rw [← hU] at HPE
      clear hsgn HP HRG HOV hU hq2
      cases neg
      · have hp : p = (U, true) := by have := HPE.out; unfold sgnK at this; simpa using this
        subst hp
        clear HPE
        go_wp2_with fail
        go_ret2
        exact ⟨rfl, rfl⟩
      · have hp := HPE.out
        subst hp
        clear HPE
        go_wp2_with fail
        go_ret2
        exact ⟨rfl, rfl⟩
    · have he0 : e1 = -1074 := by omega
      subst he0
      rw [show ((-1074 : Int) + 1074).toNat * 4503599627370496 + q1 = q1 by omega] at HPE
      have hs := hsgn q1
      clear hsgn HP HRG HOV
      cases neg
      · have hp : p = (q1, true) := by have := HPE.out; unfold sgnK at this; simpa using this
        subst hp
        clear HPE
        go_wp2_with fail
        all_goals (go_ret2; exact ⟨rfl, rfl⟩)
      · have hp := HPE.out
        subst hp
        clear HPE
        by_cases h0 : q1 = 0
        · subst h0
          have hz : ((0 : Nat) : Int) = 0 := rfl
          rw [hz]
          clear hs
          go_wp2_with fail
          go_ret2
          exact ⟨rfl, rfl⟩
        · have hs := hs (by omega) (by omega)
          go_wp2_with fail
          go_ret2
          exact ⟨rfl, rfl⟩
  · have HPE : Hid (p = if d = 0 ∨ M = true ∨ (d = 1 ∧ neg = false) ∨ (d = 2 ∧ neg = true) then (0, false) else (sgnK neg 9218868437227405311, true)) := by
      unfold Hid; rw [HP.out, if_pos (HOV.out.2 (by omega))]
    have hs := hsgn 9218868437227405311 (by decide) (by decide)
    rw [show ((9218868437227405311 : Nat) : Int) = 9218868437227405311 from rfl] at hs
    have hb : 4503599627370496 ≤ q1 := by omega
    clear hsgn HP HRG HOV hM
    rcases hd with rfl | rfl | rfl <;> cases neg <;> cases M
    all_goals
      have hp := HPE.out
      simp at hp
      subst hp
      clear HPE
      go_wp2_with fail
      go_ret2
      exact ⟨rfl, rfl⟩
end Go.Proofs.Ytigaggkipmcgeaa
