import Derived.Test.YtbjnkefjlaplkaaMN
import Derived.Test.YtbjnkefjlaplkaaMR
import Derived.Deep.RegionHeld3
import Derived.Test.YtbjnkefjlaplkaaMQ
namespace Go.Proofs.Ytbjnkefjlaplkaa
open Go.RowKit
set_option linter.unusedVariables false

/-- The reference's word of what is told: the rung q or the next one. -/
def moreR (d : Int) (neg rest : Bool) (h : Nat) : Bool := (d == 0 && decide (h % 2 = 1) && (rest || decide (h / 2 % 2 = 1))) || (((d == 1 && !neg) || (d == 2 && neg)) && (decide (h % 2 = 1) || rest))
theorem odd_bit (h : Nat) (hh : h < 18446744073709551616) : (bits .and .u64 (h : Int) 1 == 1) = decide (h % 2 = 1) := by
  have k := u64_and_nat h 1 hh (by decide)
  rw [show ((1 : Nat) : Int) = 1 from rfl] at k
  rw [k, Nat.and_one_is_mod]
  by_cases ho : h % 2 = 1
  · rw [ho]; rfl
  · have : h % 2 = 0 := by omega
    rw [this]; rfl
set_option maxRecDepth 100000 in
set_option maxHeartbeats 4000000 in
theorem rtold_any (d : Int) (neg rest : Bool) (h : Nat) (e : Int) (hd : d = 0 ∨ d = 1 ∨ d = 2) (hh : h < 18014398509481984) (he : -1074 ≤ e ∧ e ≤ 100000) (hfm : e = -1074 ∨ 4503599627370496 ≤ h / 2) (w : World) (p : Nat × Bool)
    (hp : p = if infK ≤ ((e + 1074).toNat * 4503599627370496 + h / 2 + (moreR d neg rest h).toNat) ∨ 971 < e then (if d = 0 ∨ moreR d neg rest h = true ∨ (d = 1 ∧ neg = false) ∨ (d = 2 ∧ neg = true) then (0, false) else (sgnK neg 9218868437227405311, true)) else (sgnK neg ((e + 1074).toNat * 4503599627370496 + h / 2 + (moreR d neg rest h).toNat), true)) :
    Calls Try.prog 52 #[.int .i64 d, .bool neg, .int .u64 h, .bool rest, .int .i64 e] w fun e' w' => e' = .returned (.tuple #[.int .u64 p.1, .bool p.2]) ∧ w' = w := by
  have hb1 := odd_bit h (by omega)
  have hb2 := odd_bit (h / 2) (by omega)
  have hc : ((h / 2 : Nat) : Int) = (h : Int) / 2 := by omega
  rw [hc] at hb2
  have HP : Hid _ := hp
  clear hp
  go_enter Try.func52, Try.ntmps52
  go_upto_region 3 with fail
  go_cut [13, 14] (fun s13 r wx => r = .bool (moreR d neg rest h) ∧ wx = w)
  case first =>
    clear HP
    by_cases ho : h % 2 = 1 <;> by_cases hq : h / 2 % 2 = 1
    all_goals
      simp only [ho, hq, decide_true, decide_false] at hb1 hb2
      rcases hd with rfl | rfl | rfl <;> cases neg <;> cases rest
    all_goals
      go_wp2_with fail
      go_meet
      exact ⟨by simp [moreR, ho, hq], rfl⟩
  case rest =>
  obtain ⟨rfl, rfl⟩ := hcut
  generalize hM : moreR d neg rest h = M at *
  clear hb1 hb2
  go_upto_if 55 with fail
  go_cut [12] (fun s12 wx => s12 = .int .u64 ((h / 2 + M.toNat : Nat) : Int) ∧ wx = wc)
  case first =>
    cases M
    · go_wp2_with fail
      go_meet
      exact ⟨by rw [← hc]; rfl, rfl⟩
    · go_wp2_with fail
      go_meet
      exact ⟨by rw [← hc]; rfl, rfl⟩
  case rest =>
  obtain ⟨rfl, rfl⟩ := hcut
  have hQ : h / 2 + M.toNat ≤ 9007199254740992 := by have := Bool.toNat_le M; omega
  have hQ2 : e = -1074 ∨ 4503599627370496 ≤ h / 2 + M.toNat := by omega
  rw [Nat.add_assoc] at HP
  generalize h / 2 + M.toNat = Q at *
  obtain ⟨e1, he1⟩ : ∃ e1 : Int, e1 = if Q = 9007199254740992 then e + 1 else e := ⟨_, rfl⟩
  obtain ⟨q1, hq1⟩ : ∃ q1 : Nat, q1 = if Q = 9007199254740992 then 4503599627370496 else Q := ⟨_, rfl⟩
  go_upto_if 59 with fail
  go_cut [4, 12] (fun s4 s12 wx => s4 = .int .i64 e1 ∧ s12 = .int .u64 (q1 : Int) ∧ wx = wc)
  case first =>
    by_cases h53 : Q = 9007199254740992
    · rw [if_pos h53] at he1 hq1
      subst he1 hq1 h53
      go_wp2_with fail
      go_meet
      exact ⟨rfl, rfl, rfl⟩
    · rw [if_neg h53] at he1 hq1
      subst he1 hq1
      have hne : ((q1 : Int) == 9007199254740992) = false := by rw [beq_eq_false_iff_ne]; omega
      rw [hne]
      go_wp2_with fail
      go_meet
      exact ⟨rfl, rfl, rfl⟩
  case rest =>
  obtain ⟨rfl, rfl, rfl⟩ := hcut
  have hq1b : q1 < 9007199254740992 := by rw [hq1]; split <;> omega
  have he1b : -1074 ≤ e1 ∧ e1 ≤ 100001 := by rw [he1]; split <;> omega
  have hq1f : e1 = -1074 ∨ 4503599627370496 ≤ q1 := by rw [he1, hq1]; split <;> omega
  have HRG : Hid ((e1 + 1074).toNat * 4503599627370496 + q1 = (e + 1074).toNat * 4503599627370496 + Q) := by unfold Hid; rw [he1, hq1]; split <;> omega
  have HOV : Hid ((infK ≤ (e + 1074).toNat * 4503599627370496 + Q ∨ 971 < e) ↔ 971 < e1) := by
    unfold Hid infK; rw [he1]; split <;> omega
  clear hc hQ hQ2 hfm he1 hq1 he
  have hsgn : ∀ U : Nat, 0 < U → U < 9223372036854775808 → bits .or .u64 (U : Int) 9223372036854775808 = ((sgnK true U : Nat) : Int) := by
    intro U h0 h1
    have k := u64_or_nat U 9223372036854775808 (by omega) (by decide)
    rw [show ((9223372036854775808 : Nat) : Int) = 9223372036854775808 from rfl] at k
    have k2 := Nat.two_pow_add_eq_or_of_lt (i := 63) (b := U) (by omega) 1
    rw [show (2 : Nat) ^ 63 = 9223372036854775808 by decide, Nat.mul_one] at k2
    unfold sgnK
    rw [k, if_pos ⟨rfl, h0⟩, Nat.or_comm, ← k2]
  by_cases h971 : e1 ≤ 971
  · have HPE : Hid (p = (sgnK neg ((e1 + 1074).toNat * 4503599627370496 + q1), true)) := by
      unfold Hid; rw [HP.out, if_neg (fun c => by have := HOV.out.1 c; omega), HRG.out]
    by_cases hb : 4503599627370496 ≤ q1
    · obtain ⟨U, hU⟩ : ∃ U : Nat, U = (e1 + 1074).toNat * 4503599627370496 + q1 := ⟨_, rfl⟩
      have hand : bits .and .u64 (q1 : Int) 4503599627370495 = ((q1 - 4503599627370496 : Nat) : Int) := by
        have k := u64_and_nat q1 4503599627370495 (by omega) (by decide)
        rw [show ((4503599627370495 : Nat) : Int) = 4503599627370495 from rfl] at k
        rw [k, show (4503599627370495 : Nat) = 2 ^ 52 - 1 by decide, Nat.and_two_pow_sub_one_eq_mod, show (2 : Nat) ^ 52 = 4503599627370496 by decide]
        omega
      have hor : bits .or .u64 ((e1 + 1075) * 4503599627370496) ((q1 - 4503599627370496 : Nat) : Int) = (U : Int) := by
        rw [show (e1 + 1075) * 4503599627370496 = (((e1 + 1075).toNat * 4503599627370496 : Nat) : Int) by omega, u64_or_nat _ _ (by omega) (by omega)]
        have k := or_field (s := 0) (k := (e1 + 1075).toNat) (f := q1 - 4503599627370496) (by omega) (by omega) (by omega)
        rw [Nat.zero_mul, Nat.zero_add, Nat.zero_add] at k
        rw [Nat.or_comm, k, hU]
        omega
      generalize hq2 : q1 - 4503599627370496 = q2 at *
      have hU0 : 0 < U := by omega
      have hU1 : U < 9223372036854775808 := by omega
      have hs := hsgn U hU0 hU1
      rw [← hU] at HPE
      clear hsgn HP HRG HOV hU hq2
      cases neg
      · have hp : p = (U, true) := by have := HPE.out; unfold sgnK at this; simpa using this
        subst hp
        clear HPE
        go_wp2_with fail
        go_ret2
        exact ⟨rfl, rfl⟩
      · have hp := HPE.out
        subst hp
        clear HPE
        go_wp2_with fail
        go_ret2
        exact ⟨rfl, rfl⟩
    · have he0 : e1 = -1074 := by omega
      subst he0
      rw [show ((-1074 : Int) + 1074).toNat * 4503599627370496 + q1 = q1 by omega] at HPE
      have hs := hsgn q1
      clear hsgn HP HRG HOV
      cases neg
      · have hp : p = (q1, true) := by have := HPE.out; unfold sgnK at this; simpa using this
        subst hp
        clear HPE
        go_wp2_with fail
        all_goals (go_ret2; exact ⟨rfl, rfl⟩)
      · have hp := HPE.out
        subst hp
        clear HPE
        by_cases h0 : q1 = 0
        · subst h0
          have hz : ((0 : Nat) : Int) = 0 := rfl
          rw [hz]
          clear hs
          go_wp2_with fail
          go_ret2
          exact ⟨rfl, rfl⟩
        · have hs := hs (by omega) (by omega)
          go_wp2_with fail
          go_ret2
          exact ⟨rfl, rfl⟩
  · have HPE : Hid (p = if d = 0 ∨ M = true ∨ (d = 1 ∧ neg = false) ∨ (d = 2 ∧ neg = true) then (0, false) else (sgnK neg 9218868437227405311, true)) := by
      unfold Hid; rw [HP.out, if_pos (HOV.out.2 (by omega))]
    have hs := hsgn 9218868437227405311 (by decide) (by decide)
    rw [show ((9218868437227405311 : Nat) : Int) = 9218868437227405311 from rfl] at hs
    have hb : 4503599627370496 ≤ q1 := by omega
    clear hsgn HP HRG HOV hM
    rcases hd with rfl | rfl | rfl <;> cases neg <;> cases M
    all_goals
      have hp := HPE.out
      simp at hp
      subst hp
      clear HPE
      go_wp2_with fail
      go_ret2
      exact ⟨rfl, rfl⟩
end Go.Proofs.Ytbjnkefjlaplkaa

namespace Go.Proofs.Ytbjnkefjlaplkaa
open Go.RowKit
set_option linter.unusedVariables false

theorem rd4_none (w : World) : Rd4 w none 0 0 [] := Rd4.none w
theorem alloc2_other (w : World) (o o' c : Obj) (b : Nat) (hb : b ≠ w.heap.size) : ((w.alloc o).alloc c).heap[b]? = ((w.alloc o').alloc c).heap[b]? := by
  rcases Nat.lt_or_ge b w.heap.size with h | h
  · rw [Below.heap_alloc _ _ _ (by simp; omega), Below.heap_alloc _ _ _ h, Below.heap_alloc _ _ _ (by simp; omega), Below.heap_alloc _ _ _ h]
  · by_cases h1 : b = w.heap.size + 1
    · subst h1
      have e1 := heap_alloc_new (w.alloc o) c
      have e2 := heap_alloc_new (w.alloc o') c
      rw [show (w.alloc o).heap.size = w.heap.size + 1 by simp] at e1
      rw [show (w.alloc o').heap.size = w.heap.size + 1 by simp] at e2
      rw [e1, e2]
    · rw [Array.getElem?_eq_none (by simp; omega), Array.getElem?_eq_none (by simp; omega)]
theorem alloc2_first (w : World) (o c : Obj) : ((w.alloc o).alloc c).heap[w.heap.size]? = some o := by
  rw [Below.heap_alloc _ _ _ (by simp)]; exact heap_alloc_new w o
def ofM (u : Nat) : Nat := if frung u < 4503599627370496 then frung u else 4503599627370496 + frung u % 4503599627370496
def ofE (u : Nat) : Int := if frung u < 4503599627370496 then -1074 else (frung u / 4503599627370496 : Nat) - 1075
theorem words2 {m : Nat} (hm : m < 18446744073709551616) : dig [m % 4294967296, m / 4294967296] = m ∧ U4 [m % 4294967296, m / 4294967296] := by
  refine ⟨?_, ?_⟩
  · simp only [dig]; omega
  · intro x hx
    simp only [List.mem_cons, List.mem_nil_iff, or_false] at hx
    rcases hx with rfl | rfl <;> omega
theorem rd4_fresh2 (w : World) (a b : Nat) (hu : U4 [a, b]) : Rd4 (w.alloc (.cells #[.int .u32 (a : Int), .int .u32 (b : Int)] 94)) (some ⟨w.heap.size, 0, none⟩) 2 2 [a, b] := by
  refine ⟨rfl, Nat.le_refl _, by decide, hu, (fun h => by cases h), .inr ⟨_, _, rfl, fun j hj => ?_⟩⟩
  rw [Nat.zero_add, cell_of_row _ w.heap.size j _ _ _ (heap_alloc_new w _)]
  match j, hj with
  | 0, _ => rfl
  | 1, _ => rfl
theorem ofM_val {u : Nat} (hf : Fin u) : ofM u * 2 ^ (ofE u + 1074).toNat = rmag (frung u) ∧ -1074 ≤ ofE u ∧ ofE u ≤ 971 ∧ bl (ofM u) ≤ 53 ∧ (ofM u = 0 ↔ frung u = 0) := by
  unfold Fin infK at hf
  have hbl : ∀ m : Nat, m < 9007199254740992 → bl m ≤ 53 := by
    intro m hm
    rcases Nat.eq_zero_or_pos m with h0 | h0
    · rw [h0, bl_zero]; omega
    · have h3 := bl_spec (m := m) (by omega)
      rcases Nat.lt_or_ge 53 (bl m) with h4 | h4
      · have : 2 ^ 53 ≤ 2 ^ (bl m - 1) := Nat.pow_le_pow_right (by omega) (by omega)
        have h53 : (2 : Nat) ^ 53 = 9007199254740992 := by decide
        omega
      · exact h4
  unfold ofM ofE
  by_cases h : frung u < 4503599627370496
  · rw [if_pos h, if_pos h]
    refine ⟨?_, by omega, by omega, hbl _ (by omega), Iff.rfl⟩
    unfold rmag; rw [if_pos h, show ((-1074 : Int) + 1074).toNat = 0 from rfl, Nat.pow_zero, Nat.mul_one]
  · rw [if_neg h, if_neg h]
    refine ⟨?_, by omega, by omega, hbl _ (by omega), by omega⟩
    unfold rmag; rw [if_neg h]; congr 2; omega
end Go.Proofs.Ytbjnkefjlaplkaa


namespace Go.Proofs.Ytbjnkefjlaplkaa
open Go.RowKit
set_option linter.unusedVariables false

def rE (m : Nat) (e : Int) : Int := max ((bl m : Int) + e - 53) (-1074)
def rH (m : Nat) (e : Int) : Nat := if rE m e - 1 ≤ e then m * 2 ^ (e - (rE m e - 1)).toNat else m / 2 ^ (rE m e - 1 - e).toNat
def rR (m : Nat) (e : Int) : Bool := if rE m e - 1 ≤ e then false else nz (m % 2 ^ (rE m e - 1 - e).toNat)
/-- What told answers. -/
def rP (d : Int) (neg rest : Bool) (h : Nat) (e : Int) : Nat × Bool := if infK ≤ ((e + 1074).toNat * 4503599627370496 + h / 2 + (moreR d neg rest h).toNat) ∨ 971 < e then (if d = 0 ∨ moreR d neg rest h = true ∨ (d = 1 ∧ neg = false) ∨ (d = 2 ∧ neg = true) then (0, false) else (sgnK neg 9218868437227405311, true)) else (sgnK neg ((e + 1074).toNat * 4503599627370496 + h / 2 + (moreR d neg rest h).toNat), true)

/-- h, rest and what they stand for. -/
theorem halves_of {m0 drop K h : Nat} {rest : Bool} (hK : K = m0 / 2 ^ drop) (hh : (drop = 0 ∧ h = 2 * m0 ∧ rest = false) ∨ (1 ≤ drop ∧ h = m0 / 2 ^ (drop - 1) ∧ rest = nz (m0 % 2 ^ (drop - 1)))) :
    h / 2 = K ∧ (m0 % 2 ^ drop = 0 ↔ (h % 2 = 0 ∧ rest = false)) ∧ ((2 * (m0 % 2 ^ drop) < 2 ^ drop ∨ (2 * (m0 % 2 ^ drop) = 2 ^ drop ∧ K % 2 = 0)) ↔ ¬ (h % 2 = 1 ∧ (rest = true ∨ K % 2 = 1))) := by
  rcases hh with ⟨rfl, rfl, rfl⟩ | ⟨h1, rfl, rfl⟩
  · rw [Nat.pow_zero, Nat.div_one] at hK
    rw [Nat.pow_zero, Nat.mod_one]
    refine ⟨by omega, by simp, ?_⟩
    constructor
    · intro _ c; omega
    · intro _; left; omega
  · obtain ⟨j, rfl⟩ : ∃ j, drop = j + 1 := ⟨drop - 1, by omega⟩
    rw [show j + 1 - 1 = j from rfl]
    have hp := Nat.two_pow_pos j
    have e1 : (2 : Nat) ^ (j + 1) = 2 ^ j * 2 := Nat.pow_succ ..
    have e2 : m0 % (2 ^ j * 2) = m0 % 2 ^ j + 2 ^ j * (m0 / 2 ^ j % 2) := Nat.mod_mul ..
    have e3 : m0 / (2 ^ j * 2) = m0 / 2 ^ j / 2 := (Nat.div_div_eq_div_mul ..).symm
    rw [e1] at hK ⊢
    rw [e3] at hK
    rw [e2]
    have hr := Nat.mod_lt m0 hp
    have hb : m0 / 2 ^ j % 2 = 0 ∨ m0 / 2 ^ j % 2 = 1 := by omega
    have hnz : nz (m0 % 2 ^ j) = true ↔ m0 % 2 ^ j ≠ 0 := by unfold nz; rw [bne_iff_ne]
    have hnz' : nz (m0 % 2 ^ j) = false ↔ m0 % 2 ^ j = 0 := by
      cases hh : nz (m0 % 2 ^ j)
      · simp only [true_iff]
        rcases Nat.eq_zero_or_pos (m0 % 2 ^ j) with h0 | h0
        · exact h0
        · have := hnz.2 (by omega); rw [hh] at this; cases this
      · have := hnz.1 hh; simp [this]
    rw [hnz, hnz']
    generalize m0 % 2 ^ j = r at *
    generalize m0 / 2 ^ j = H at *
    generalize 2 ^ j = P at *
    rcases hb with hb | hb
    · rw [hb, Nat.mul_zero]
      refine ⟨by omega, ?_, ?_⟩
      · constructor
        · intro h; exact ⟨rfl, by omega⟩
        · intro h; omega
      · constructor
        · intro _ c; omega
        · intro _; left; omega
    · rw [hb, Nat.mul_one]
      refine ⟨by omega, ?_, ?_⟩
      · constructor
        · intro h; omega
        · intro h; omega
      · constructor
        · intro c; rcases c with c | c <;> omega
        · intro c; right; omega

theorem round_math (d : Int) (hd : d = 0 ∨ d = 1 ∨ d = 2) (neg : Bool) (m : Nat) (e : Int) (hm : m ≠ 0) :
    rH m e < 18014398509481984 ∧ (rE m e = -1074 ∨ 4503599627370496 ≤ rH m e / 2) ∧ Rnd d neg (nume m e) (deno e) (rP d neg (rR m e) (rH m e) (rE m e)) := by
  obtain ⟨ee, drop, K, he, hK, hed, hdrop, hform, hk⟩ := place_log m e hm
  have hE : rE m e = (ee : Int) - 1074 := by unfold rE bl; rw [if_neg hm]; omega
  have hc : 2 ^ (e + 1074 - ↑ee).toNat * 2 ^ (min ↑ee (e + 1074)).toNat = 2 ^ (e + 1074).toNat := by
    rw [← Nat.pow_add]; congr 1; omega
  have key := rung_of (m * 2 ^ (e + 1074 - ee).toNat) ee drop (2 ^ (min (ee : Int) (e + 1074)).toNat) (nume m e) (deno e) K
    (by unfold nume; rw [Nat.mul_assoc, hc]) (Nat.two_pow_pos _) (by unfold deno; rw [← Nat.pow_add, ← Nat.pow_add]; congr 1; omega) hK hform hk
  have hh : (drop = 0 ∧ rH m e = 2 * (m * 2 ^ (e + 1074 - ee).toNat) ∧ rR m e = false) ∨ (1 ≤ drop ∧ rH m e = (m * 2 ^ (e + 1074 - ee).toNat) / 2 ^ (drop - 1) ∧ rR m e = nz ((m * 2 ^ (e + 1074 - ee).toNat) % 2 ^ (drop - 1))) := by
    unfold rH rR
    rw [hE]
    by_cases h0 : drop = 0
    · left
      rw [if_pos (by omega), if_pos (by omega)]
      refine ⟨h0, ?_, rfl⟩
      rw [show (e - ((ee : Int) - 1074 - 1)).toNat = (e + 1074 - ee).toNat + 1 by omega, Nat.pow_succ, ← Nat.mul_assoc, Nat.mul_comm]
    · right
      have hz : (e + 1074 - (ee : Int)).toNat = 0 := by omega
      rw [hz, Nat.pow_zero, Nat.mul_one]
      refine ⟨by omega, ?_, ?_⟩
      · by_cases h1 : (ee : Int) - 1074 - 1 ≤ e
        · rw [if_pos h1, show (e - ((ee : Int) - 1074 - 1)).toNat = 0 by omega, show drop - 1 = 0 by omega, Nat.pow_zero, Nat.mul_one, Nat.div_one]
        · rw [if_neg h1, show ((ee : Int) - 1074 - 1 - e).toNat = drop - 1 by omega]
      · by_cases h1 : (ee : Int) - 1074 - 1 ≤ e
        · rw [if_pos h1, show drop - 1 = 0 by omega, Nat.pow_zero, Nat.mod_one]; rfl
        · rw [if_neg h1, show ((ee : Int) - 1074 - 1 - e).toNat = drop - 1 by omega]
  obtain ⟨a1, a2, a3⟩ := halves_of hK hh
  generalize rH m e = h at *
  generalize rR m e = rest at *
  refine ⟨by omega, by omega, _, key.1, ?_⟩
  unfold rP tellK
  rw [key.2.1, key.2.2, hE, a1, show ((ee : Int) - 1074 + 1074).toNat = ee by omega]
  have hov : (971 : Int) < (ee : Int) - 1074 → infK ≤ ee * 4503599627370496 + K := by intro h; unfold infK; omega
  have hnear : (if 2 * (m * 2 ^ (e + 1074 - ↑ee).toNat % 2 ^ drop) < 2 ^ drop ∨ 2 * (m * 2 ^ (e + 1074 - ↑ee).toNat % 2 ^ drop) = 2 ^ drop ∧ K % 2 = 0 then 0 else 1) = (decide (h % 2 = 1) && (rest || decide (K % 2 = 1))).toNat := by
    by_cases c : h % 2 = 1 ∧ (rest = true ∨ K % 2 = 1)
    · rw [if_neg (fun x => a3.1 x c)]
      have : (decide (h % 2 = 1) && (rest || decide (K % 2 = 1))) = true := by simp; exact c
      rw [this]; rfl
    · rw [if_pos (a3.2 c)]
      have : (decide (h % 2 = 1) && (rest || decide (K % 2 = 1))) = false := by
        rw [Bool.eq_false_iff]; intro x; simp at x; exact c x
      rw [this]; rfl
  have hup : (if m * 2 ^ (e + 1074 - ↑ee).toNat % 2 ^ drop = 0 then 0 else 1) = (decide (h % 2 = 1) || rest).toNat := by
    by_cases c : h % 2 = 0 ∧ rest = false
    · rw [if_pos (a2.2 c)]
      have : (decide (h % 2 = 1) || rest) = false := by rw [c.2, c.1]; rfl
      rw [this]; rfl
    · rw [if_neg (fun x => c (a2.1 x))]
      have : (decide (h % 2 = 1) || rest) = true := by
        cases rest
        · have : h % 2 = 1 := by
            rcases Nat.mod_two_eq_zero_or_one h with x | x
            · exact absurd ⟨x, rfl⟩ c
            · exact x
          simp [this]
        · simp
      rw [this]; rfl
  rw [hnear, hup]
  have hM : (9218868437227405311 : Nat) = infK - 1 := by decide
  have hi : 0 < infK := by decide
  rw [hM, ← a1]
  rw [← a1] at hov
  generalize infK = I at *
  have hbt : ∀ b : Bool, b.toNat = 0 ∨ b.toNat = 1 := fun b => by cases b <;> simp
  rcases hd with rfl | rfl | rfl
  · have e1 : moreR 0 neg rest h = (decide (h % 2 = 1) && (rest || decide (h / 2 % 2 = 1))) := by unfold moreR; simp
    rw [e1]
    generalize (decide (h % 2 = 1) && (rest || decide (h / 2 % 2 = 1))) = b
    rw [if_pos rfl, Nat.add_assoc]
    by_cases c : ee * 4503599627370496 + (h / 2 + b.toNat) < I
    · rw [if_neg (by omega), if_pos c]
    · rw [if_pos (by omega), if_pos (.inl rfl), if_neg c]
  · rw [if_neg (show ¬ ((1 : Int) = 0) by decide)]
    cases neg
    · have e1 : moreR 1 false rest h = (decide (h % 2 = 1) || rest) := by unfold moreR; simp
      rw [e1, if_pos (show (1 : Int) = 1 ∧ false = false ∨ (1 : Int) = 2 ∧ false = true from .inl ⟨rfl, rfl⟩)]
      generalize (decide (h % 2 = 1) || rest) = b
      rw [Nat.add_assoc]
      by_cases c : ee * 4503599627370496 + (h / 2 + b.toNat) < I
      · rw [if_neg (by omega), if_pos c]
      · rw [if_pos (by omega), if_pos (by simp), if_neg c]
    · have e1 : moreR 1 true rest h = false := by unfold moreR; simp
      rw [e1, if_neg (show ¬ ((1 : Int) = 1 ∧ true = false ∨ (1 : Int) = 2 ∧ true = true) by simp), if_pos (show (1 : Int) = 1 ∨ (1 : Int) = 2 from .inl rfl)]
      by_cases c : ee * 4503599627370496 + h / 2 < I
      · rw [if_neg (by simp only [Bool.toNat_false]; omega), Bool.toNat_false, Nat.add_zero, Nat.min_eq_left (by omega)]
      · rw [if_pos (by simp only [Bool.toNat_false]; omega), if_neg (by simp), Nat.min_eq_right (by omega)]
  · rw [if_neg (show ¬ ((2 : Int) = 0) by decide)]
    cases neg
    · have e1 : moreR 2 false rest h = false := by unfold moreR; simp
      rw [e1, if_neg (show ¬ ((2 : Int) = 1 ∧ false = false ∨ (2 : Int) = 2 ∧ false = true) by simp), if_pos (show (2 : Int) = 1 ∨ (2 : Int) = 2 from .inr rfl)]
      by_cases c : ee * 4503599627370496 + h / 2 < I
      · rw [if_neg (by simp only [Bool.toNat_false]; omega), Bool.toNat_false, Nat.add_zero, Nat.min_eq_left (by omega)]
      · rw [if_pos (by simp only [Bool.toNat_false]; omega), if_neg (by simp), Nat.min_eq_right (by omega)]
    · have e1 : moreR 2 true rest h = (decide (h % 2 = 1) || rest) := by unfold moreR; simp
      rw [e1, if_pos (show (2 : Int) = 1 ∧ true = false ∨ (2 : Int) = 2 ∧ true = true from .inr ⟨rfl, rfl⟩)]
      generalize (decide (h % 2 = 1) || rest) = b
      rw [Nat.add_assoc]
      by_cases c : ee * 4503599627370496 + (h / 2 + b.toNat) < I
      · rw [if_neg (by omega), if_pos c]
      · rw [if_pos (by omega), if_pos (by simp), if_neg c]
end Go.Proofs.Ytbjnkefjlaplkaa

namespace Go.Proofs.Ytbjnkefjlaplkaa
open Go.RowKit
set_option linter.unusedVariables false

theorem two_words {xs : List Nat} {len m : Nat} (hl : xs.length = len) (hu : U4 xs) (hn : Nm xs) (hm : dig xs = m) (hb : m < 18014398509481984) : len ≤ 2 := by
  have h1 := len_bl hl hu hn
  rw [hm] at h1
  have h2 : bl m ≤ 54 := by
    rcases Nat.eq_zero_or_pos m with h0 | h0
    · rw [h0, bl_zero]; omega
    · have h3 := bl_spec (m := m) (by omega)
      rcases Nat.lt_or_ge 54 (bl m) with h4 | h4
      · have : 2 ^ 54 ≤ 2 ^ (bl m - 1) := Nat.pow_le_pow_right (by omega) (by omega)
        have h54 : (2 : Nat) ^ 54 = 18014398509481984 := by decide
        omega
      · exact h4
  omega
theorem rtold_at (d : Int) (hd : d = 0 ∨ d = 1 ∨ d = 2) (neg : Bool) (m : Nat) (e : Int) (h1 : rH m e < 18014398509481984) (h2 : rE m e = -1074 ∨ 4503599627370496 ≤ rH m e / 2) (h3 : -1074 ≤ rE m e ∧ rE m e ≤ 20000) (W : World) :
    Calls Try.prog 52 #[.int .i64 d, .bool neg, .int .u64 ((rH m e : Nat) : Int), .bool (rR m e), .int .i64 (rE m e)] W fun e' w' => e' = .returned (.tuple #[.int .u64 ((rP d neg (rR m e) (rH m e) (rE m e)).1 : Int), .bool (rP d neg (rR m e) (rH m e) (rE m e)).2]) ∧ w' = W :=
  rtold_any d neg (rR m e) (rH m e) (rE m e) hd h1 (by omega) h2 W _ rfl
theorem over2_at (v : Value) (m : Nat) (e : Int) (he : -10000 ≤ e ∧ e ≤ 10000) (h3 : -1074 ≤ rE m e ∧ rE m e ≤ 20000) (hb : bl m ≤ 9000) (w : World) (h : NumV w v false m e) :
    Calls Try.prog 51 #[v, .int .i64 (rE m e - 1)] w fun e' w' => ∃ v', e' = .returned (.tuple #[v', .bool (rR m e)]) ∧ NumV w' v' false (rH m e) 0 ∧ Below w.heap.size w w' :=
  over2_any v false m e (rE m e - 1) (by omega) (by omega) (by omega) w h
/-- What a call tells of a real. -/
def RoundRes (d : Int) (neg : Bool) (n D : Nat) (w : World) (e' : Ending) (w' : World) : Prop := ∃ (a : Nat) (b : Bool), e' = .returned (.tuple #[.int .u64 (a : Int), .bool b]) ∧ Rnd d neg n D (a, b) ∧ Below w.heap.size w w'

set_option maxRecDepth 100000 in
set_option maxHeartbeats 2000000 in
theorem round_any (d : Int) (v : Value) (neg : Bool) (m : Nat) (e : Int) (w : World) (h : NumV w v neg m e) (he : -10000 ≤ e ∧ e ≤ 10000) (hb : bl m ≤ 9000) (hd0 : -9223372036854775808 ≤ d) (hd1 : d ≤ 9223372036854775807) :
    Calls Try.prog 29 #[.int .i64 d, v] w fun e' w' => RoundRes d neg (nume m e) (deno e) w e' w' := by
  have hD : 0 < deno e := Nat.two_pow_pos _
  obtain ⟨ao, len, cap, xs, rfl, hr, hnm, hm⟩ := h
  have hz := len_zero hr.length hr.lt hnm
  rw [hm] at hz
  by_cases hd : d = 0 ∨ d = 1 ∨ d = 2
  · have hdb : 0 ≤ d ∧ d ≤ 2 := by omega
    obtain ⟨hda, hdc⟩ := hdb
    by_cases hm0 : m = 0
    · have hl0 : len = 0 := hz.2 hm0
      subst hl0
      have hR := rnd_nought d neg (deno e) hD hd
      have hn0 : nume m e = 0 := by unfold nume; rw [hm0, Nat.zero_mul]
      have HR : Hid _ := hR
      clear hr hR hd
      rw [hn0]
      go_enter Try.func29, Try.ntmps29
      go_wp2_with fail
      go_ret2
      exact ⟨0, true, rfl, HR.out, (by first | exact Below.refl _ _ | exact (Below.refl _ _).alloc (Nat.le_refl _) _)⟩
    · have hl0 : 0 < len := by omega
      have hlb : ((len : Int) == 0) = false := by rw [beq_eq_false_iff_ne]; omega
      have hM := round_math d hd neg m e hm0
      have hE1 : -1074 ≤ rE m e ∧ rE m e ≤ 20000 := by unfold rE; omega
      have HM : Hid _ := hM
      have HR : Hid _ := hr
      have HD : Hid _ := hd
      have hEf : (if -1074 < (bl m : Int) + e - 53 then (bl m : Int) + e - 53 else -1074) = rE m e := by unfold rE; omega
      clear hM hr hd
      go_enter Try.func29, Try.ntmps29
      have hw1 : IntKind.i64.wrap ((bl m : Int) + e) = (bl m : Int) + e := by rw [IntKind.wrap_i64]; omega
      have hw2 : IntKind.i64.wrap ((bl m : Int) + e - 53) = (bl m : Int) + e - 53 := by rw [IntKind.wrap_i64]; omega
      go_upto_region 5 with fail
      go_cut [6] (fun s6 wx => s6 = .int .i64 (rE m e) ∧ Below w.heap.size w wx ∧ wx.heap[w.heap.size]? = some (.cells #[.bool neg, .slice ao len cap, .int .i64 e] 60) ∧ wx.heap.size = w.heap.size + 1)
      case first =>
        have m1 : (w.alloc (Obj.cells #[Value.bool neg, Value.slice ao len cap, Value.int IntKind.i64 e] 60)).cell? ⟨w.heap.size, 1, none⟩ = some (.slice ao len cap) := (three_cells (heap_alloc_new w _)).2.1
        have m2 : (w.alloc (Obj.cells #[Value.bool neg, Value.slice ao len cap, Value.int IntKind.i64 e] 60)).cell? ⟨w.heap.size, 2, none⟩ = some (.int .i64 e) := (three_cells (heap_alloc_new w _)).2.2
        have M3 : Hid ((w.alloc (Obj.cells #[Value.bool neg, Value.slice ao len cap, Value.int IntKind.i64 e] 60)).heap[w.heap.size]? = some (.cells #[.bool neg, .slice ao len cap, .int .i64 e] 60)) := heap_alloc_new w _
        have M4 : Hid (Below w.heap.size w (w.alloc (Obj.cells #[Value.bool neg, Value.slice ao len cap, Value.int IntKind.i64 e] 60))) := (Below.refl _ _).alloc (Nat.le_refl _) _
        have M5 : Hid ((w.alloc (Obj.cells #[Value.bool neg, Value.slice ao len cap, Value.int IntKind.i64 e] 60)).heap.size = w.heap.size + 1) := by unfold Hid; simp
        generalize (w.alloc (Obj.cells #[Value.bool neg, Value.slice ao len cap, Value.int IntKind.i64 e] 60)) = wa at *
        go_region_held3 (fun w' => w'.cell? ⟨w.heap.size, 1, none⟩ = some (.slice ao len cap) ∧ w'.cell? ⟨w.heap.size, 2, none⟩ = some (.int .i64 e)) (go_keep)
          (first | (go_at_call 50; refine (length_any ao len cap xs _ ?_ hnm).mono ?_; exact HR.out.later M4.out.drew; rintro ee ww ⟨rfl, rfl⟩; rw [hm]))
        all_goals go_wp2_with fail
        all_goals
          go_meet
          exact ⟨by unfold rE; congr 1; omega, M4.out.drew, M3.out, M5.out⟩
      case rest =>
      obtain ⟨rfl, hBc, hgc, hsz⟩ := hcut
      have HBc : Hid _ := hBc
      have HGc : Hid _ := hgc
      obtain ⟨c0, c1, c2⟩ := three_cells hgc
      clear hBc hgc hEf
      go_wp2_with fail
      refine (size_any _ neg m e _ ⟨ao, len, cap, xs, rfl, HR.out.later HBc.out, hnm, hm⟩).mono ?_
      rintro ee w2 ⟨v2, rfl, hN2, hb2⟩
      go_wp2_with fail
      refine (over2_at v2 m e he hE1 hb _ hN2).mono ?_
      rintro ee w3 ⟨v3, rfl, hN3, hb3⟩
      obtain ⟨ao3, len3, cap3, zs, rfl, hr3, hnm3, hm3⟩ := hN3
      have hl3 : len3 ≤ 2 := two_words hr3.length hr3.lt hnm3 hm3 HM.out.1
      have hBz := (hb2.size)
      have hg3 := (hb3.block w.heap.size (by omega)).trans ((hb2.block w.heap.size (by omega)).trans HGc.out)
      have hB3 : Below w.heap.size w w3 := HBc.out.trans ((hb2.mono (by omega)).trans (hb3.mono (by omega)))
      obtain ⟨d0, d1, d2⟩ := three_cells hg3
      have hs3 : w.heap.size < w3.heap.size := by have := hb3.size; omega
      have HR3 : Hid _ := hr3
      have HB3 : Hid _ := hB3
      have HG3 : Hid _ := hg3
      clear hr3 hb2 hb3 hB3 c0 c1 c2 hg3 hN2 HGc hBz
      have WC : ∀ W, Below w3.heap.size w3 W → Calls Try.prog 53 #[.slice ao3 len3 cap3] W fun e' w' => e' = .returned (.int .u64 ((rH m e : Nat) : Int)) ∧ w' = W := fun W hW => by
        have := word_any ao3 len3 cap3 zs W (HR3.out.later hW) hl3
        rw [hm3] at this
        exact this
      have TC : ∀ W, Calls Try.prog 52 #[.int .i64 d, .bool neg, .int .u64 ((rH m e : Nat) : Int), .bool (rR m e), .int .i64 (rE m e)] W fun e' w' => e' = .returned (.tuple #[.int .u64 ((rP d neg (rR m e) (rH m e) (rE m e)).1 : Int), .bool (rP d neg (rR m e) (rH m e) (rE m e)).2]) ∧ w' = W :=
        fun W => rtold_at d HD.out neg m e HM.out.1 HM.out.2.1 hE1 W
      have HRN : Hid _ := HM.out.2.2
      clear HM HD hl3 hm3 hnm3
      generalize rP d neg (rR m e) (rH m e) (rE m e) = pp at *
      obtain ⟨pa, pb⟩ := pp
      simp only at TC
      have k0 : (w3.alloc (Obj.cells #[Value.bool false, Value.slice ao3 len3 cap3, Value.int IntKind.i64 0] 60)).cell? ⟨w.heap.size, 0, none⟩ = some (.bool neg) := by
        rw [World.cell?_of_block (w := w3) (w' := w3.alloc (Obj.cells #[Value.bool false, Value.slice ao3 len3 cap3, Value.int IntKind.i64 0] 60)) (a := ⟨w.heap.size, 0, none⟩) (Below.heap_alloc w3 _ _ hs3)]; exact d0
      have k1 := (three_cells (heap_alloc_new w3 (Obj.cells #[Value.bool false, Value.slice ao3 len3 cap3, Value.int IntKind.i64 0] 60))).2.1
      have HB4 : Hid (Below w.heap.size w (w3.alloc (Obj.cells #[Value.bool false, Value.slice ao3 len3 cap3, Value.int IntKind.i64 0] 60))) := HB3.out.alloc (by omega) _
      have HB34 : Hid (Below w3.heap.size w3 (w3.alloc (Obj.cells #[Value.bool false, Value.slice ao3 len3 cap3, Value.int IntKind.i64 0] 60))) := (Below.refl _ _).alloc (Nat.le_refl _) _
      clear d0 d1 d2 HG3 HB3
      go_wp2_with fail
      generalize (w3.alloc (Obj.cells #[Value.bool false, Value.slice ao3 len3 cap3, Value.int IntKind.i64 0] 60)) = w4 at *
      go_region_held3 (fun w' => w'.cell? ⟨w.heap.size, 0, none⟩ = some (.bool neg) ∧ w'.cell? ⟨w3.heap.size, 1, none⟩ = some (.slice ao3 len3 cap3)) (go_keep)
        (first
          | (go_at_call 53; refine (WC _ ?_).mono ?_; exact HB34.out.drew; rintro ee ww ⟨rfl, rfl⟩)
          | (go_at_call 52; refine (TC _).mono ?_; rintro ee ww ⟨rfl, rfl⟩))
      all_goals go_wp2_with fail
      all_goals
        go_ret2
        exact ⟨pa, pb, rfl, HRN.out, HB4.out.drew⟩
  · have hR := rnd_none d neg (nume m e) (deno e) hD hd
    have HR : Hid _ := hR
    clear hr hR
    by_cases hneg : d < 0
    · clear hd
      go_enter Try.func29, Try.ntmps29
      go_wp2_with fail
      go_ret2
      exact ⟨0, false, rfl, HR.out, (by first | exact Below.refl _ _ | exact (Below.refl _ _).alloc (Nat.le_refl _) _)⟩
    · have hgt : 2 < d := by omega
      clear hd
      go_enter Try.func29, Try.ntmps29
      go_wp2_with fail
      go_ret2
      exact ⟨0, false, rfl, HR.out, (by first | exact Below.refl _ _ | exact (Below.refl _ _).alloc (Nat.le_refl _) _)⟩
end Go.Proofs.Ytbjnkefjlaplkaa

namespace Go.Proofs.Ytbjnkefjlaplkaa
open Go.RowKit
set_option linter.unusedVariables false

end Go.Proofs.Ytbjnkefjlaplkaa


namespace Go.Proofs.Ytbjnkefjlaplkaa
open Go.RowKit
set_option linter.unusedVariables false

end Go.Proofs.Ytbjnkefjlaplkaa


namespace Go.Proofs.Ytbjnkefjlaplkaa
open Go.RowKit
set_option linter.unusedVariables false

def RoundZ (d z : Int) (D : Nat) (w : World) (e' : Ending) (w' : World) : Prop := ∃ (a : Nat) (b : Bool), e' = .returned (.tuple #[.int .u64 (a : Int), .bool b]) ∧ RndZ d z D (a, b) ∧ Below w.heap.size w w'
theorem roundZ_any (d : Int) (v : Value) (s k : Nat) (T z : Int) (w : World) (h : NumZ w v s T z) (E : Nat) (hE : E = 1074) (hs : s = E + k) (hs2 : s ≤ 4000) (hT : 0 ≤ T ∧ T ≤ 4000) (hd0 : -9223372036854775808 ≤ d) (hd1 : d ≤ 9223372036854775807) :
    Calls Try.prog 29 #[.int .i64 d, v] w fun e' w' => RoundZ d z (2 ^ k) w e' w' := by
  obtain ⟨neg, m, e, h1, h2, h3, h4⟩ := h
  refine (round_any d v neg m e w h1 (by omega) (by omega) hd0 hd1).mono ?_
  rintro e' w' ⟨a, b, rfl, hR, hB⟩
  refine ⟨a, b, rfl, ?_, hB⟩
  have hz := zv_abs s neg m e
  rw [h4] at hz
  refine Rnd.toZ (g := neg) ?_ ?_
  · rw [hz]
    refine hR.of_eq (Nat.two_pow_pos _) ?_
    unfold nume deno
    rw [Nat.mul_assoc, Nat.mul_assoc, ← Nat.pow_add, ← Nat.pow_add]
    congr 2; omega
  · intro hne
    rw [← h4] at hne ⊢
    exact zv_lt hne
end Go.Proofs.Ytbjnkefjlaplkaa

namespace Go.Proofs.Ytbjnkefjlaplkaa
open Go.RowKit
set_option linter.unusedVariables false

end Go.Proofs.Ytbjnkefjlaplkaa

