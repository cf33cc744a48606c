import Derived.Test.YtpinpcefgbhdmaaDoorRefPoint
import Derived.Test.YtpinpcefgbhdmaaDoorStr
import Derived.Deep.QuietTactic
import Derived.BigQuiet
namespace Go.Proofs.YtpinpcefgbhdmaaDoor
open Go.RowKit
set_option linter.unusedVariables false

def atRes (s : ByteArray) (i : Nat) (p : Int) (n : Nat) : Int × Int := if i + n ≤ s.size ∧ (ptB p).length = n ∧ strB (ptB p) = s.extract i (i + n) then (p, (n : Int)) else (0, 0)
def atV (r : Int × Int) : Value := .tuple #[.int .i64 r.1, .int .i64 r.2]
theorem atRes_short (s : ByteArray) (i : Nat) (p : Int) (n : Nat) (h : s.size < i + n) : atRes s i p n = (0, 0) := by
  unfold atRes; rw [if_neg (by omega)]
theorem atRes_len (s : ByteArray) (i : Nat) (p : Int) (n : Nat) (h : (ptB p).length ≠ n) : atRes s i p n = (0, 0) := by
  unfold atRes; rw [if_neg (fun k => h k.2.1)]
theorem atRes_ne (s : ByteArray) (i : Nat) (p : Int) (n : Nat) (h : strB (ptB p) ≠ s.extract i (i + n)) : atRes s i p n = (0, 0) := by
  unfold atRes; rw [if_neg (fun k => h k.2.2)]
theorem atRes_eq (s : ByteArray) (i : Nat) (p : Int) (n : Nat) (h : i + n ≤ s.size) (h1 : (ptB p).length = n) (h2 : strB (ptB p) = s.extract i (i + n)) : atRes s i p n = (p, (n : Int)) := by
  unfold atRes; rw [if_pos ⟨h, h1, h2⟩]
theorem toList_ne {a b : ByteArray} (h : a ≠ b) : (a.toList == b.toList) = false := by
  rw [beq_eq_false_iff_ne, ByteArray.toList_eq, ByteArray.toList_eq]
  intro k
  apply h
  cases a; cases b
  exact congrArg ByteArray.mk (Array.toList_inj.1 k)
theorem lowV_ge (s : ByteArray) (i : Nat) : -1099511627776 ≤ lowV s i ∧ lowV s i ≤ 63 := by
  unfold lowV; split <;> omega
theorem refLow_at (s : ByteArray) (j : Int) (m : Nat) (h : j = m) (hi : m ≤ 4611686018427387904) (hs : s.size ≤ 4611686018427387904) (w : World) :
    Calls Tryd.prog 42 #[.string s, .int .i64 j] w fun e w' => e = .returned (.int .i64 (lowV s m)) ∧ w' = w := by
  subst h; exact refLow_any s m hi hs w

set_option maxRecDepth 100000 in
set_option maxHeartbeats 4000000 in
theorem refAt_one (s : ByteArray) (i : Nat) (hi : i < s.size) (hs : s.size ≤ 2305843009213693952) (w : World) (c : Nat) (hc : (s[i]'hi).toNat = c) (hlo : 0 ≤ c) (hhi : c < 192) :
    Calls Tryd.prog 39 #[.string s, .int .i64 i] w fun e w' => e = .returned (atV (atRes s i ((c : Int)) 1)) ∧ Below w.heap.size w w' := by
  generalize hR : atRes s i ((c : Int)) 1 = R
  have e1 := atRes_short s i ((c : Int)) 1
  have e2 := atRes_len s i ((c : Int)) 1
  have e3 := atRes_ne s i ((c : Int)) 1
  have e4 := atRes_eq s i ((c : Int)) 1
  rw [hR] at e1 e2 e3 e4
  have E1 : Hid _ := e1
  have E2 : Hid _ := e2
  have E3 : Hid _ := e3
  have E4 : Hid _ := e4
  clear hR e1 e2 e3 e4
  go_enter Tryd.func39, Tryd.ntmps39
  go_wp2_with fail
  try rw [hc]
  refine (refPoint_any ((c : Int)) (by omega) (by omega) _).mono ?_
  rintro e w1 ⟨v1, rfl, hO1, hB1⟩
  obtain ⟨a1, c1, rfl, hr1⟩ := hO1.rd (ptB_byt _)
  have hconv := fun k => str_of (hr1.later (below_drewN (Below.refl _ _) k))
  clear hr1 hO1
  generalize ptB ((c : Int)) = ys at *
  generalize hL : ys.length = L at *
  by_cases hsh : s.size < i + 1
  · have hd1 : decide ((s.size : Int) < (i : Int) + 1) = true := decide_eq_true (by omega)
    have E : Hid (R = (0, 0)) := E1.out hsh
    clear E1 E2 E3 E4 hsh hconv
    go_wp2
    go_quiet (fail)
    go_wp2
    go_ret2
    exact ⟨by rw [E.out]; rfl, below_drewN hB1 _⟩
  · have hd1 : decide ((s.size : Int) < (i : Int) + 1) = false := decide_eq_false (by omega)
    by_cases h2 : L = 1
    · subst h2
      have hsl : ∀ w, (Instr.slice 9 (.string s) (some (.int .i64 i)) (some (.int .i64 (i + 1))) none).run Tryd.prog w = .ok (.string (s.extract i (i + 1))) w := fun w => by
        have := run_slice_string (P := Tryd.prog) w 9 s .i64 .i64 (i : Int) ((i : Int) + 1) Tryd.underlying9 (by omega) (by omega) (by omega)
        rw [show ((i : Int) + 1).toNat = i + 1 from by omega] at this
        simpa using this
      by_cases h3 : strB ys = s.extract i (i + 1)
      · have E : Hid (R = ((c : Int), (1 : Int))) := E4.out (by omega) rfl h3
        clear E1 E2 E3 E4 hsh
        rw [← h3] at hsl
        have hne : ((strB ys).toList == (strB ys).toList) = true := beq_self_eq_true _
        clear h3
        go_wp2
        go_quiet (fail)
        go_wp2
        go_ret2
        exact ⟨by rw [E.out]; rfl, below_drewN hB1 _⟩
      · have E : Hid (R = (0, 0)) := E3.out h3
        clear E1 E2 E3 E4 hsh
        have hne : ((strB ys).toList == (s.extract i (i + 1)).toList) = false := toList_ne h3
        clear h3
        go_wp2
        go_quiet (fail)
        go_wp2
        go_ret2
        exact ⟨by rw [E.out]; rfl, below_drewN hB1 _⟩
    · have E : Hid (R = (0, 0)) := E2.out h2
      clear E1 E2 E3 E4 hsh hconv
      have h2' : ((L : Int) != 1) = true := by simp; omega
      clear h2
      go_wp2
      go_quiet (fail)
      go_wp2
      go_ret2
      exact ⟨by rw [E.out]; rfl, below_drewN hB1 _⟩

set_option maxRecDepth 100000 in
set_option maxHeartbeats 4000000 in
theorem refAt_two (s : ByteArray) (i : Nat) (hi : i < s.size) (hs : s.size ≤ 2305843009213693952) (w : World) (c : Nat) (hc : (s[i]'hi).toNat = c) (hlo : 192 ≤ c) (hhi : c < 224) (l1 : Int) (hl1 : lowV s (i + 1) = l1) :
    Calls Tryd.prog 39 #[.string s, .int .i64 i] w fun e w' => e = .returned (atV (atRes s i (((c : Int) - 192) * 64 + l1) 2)) ∧ Below w.heap.size w w' := by
  have hb1 := lowV_ge s (i + 1)
  rw [hl1] at hb1
  have C1 : Hid (∀ w, Calls Tryd.prog 42 #[.string s, .int .i64 ((i : Int) + 1)] w fun e w' => e = .returned (.int .i64 l1) ∧ w' = w) := fun w => by rw [← hl1]; exact refLow_at s _ (i + 1) (by omega) (by omega) (by omega) w
  clear hl1
  generalize hR : atRes s i (((c : Int) - 192) * 64 + l1) 2 = R
  have e1 := atRes_short s i (((c : Int) - 192) * 64 + l1) 2
  have e2 := atRes_len s i (((c : Int) - 192) * 64 + l1) 2
  have e3 := atRes_ne s i (((c : Int) - 192) * 64 + l1) 2
  have e4 := atRes_eq s i (((c : Int) - 192) * 64 + l1) 2
  rw [hR] at e1 e2 e3 e4
  have E1 : Hid _ := e1
  have E2 : Hid _ := e2
  have E3 : Hid _ := e3
  have E4 : Hid _ := e4
  clear hR e1 e2 e3 e4
  go_enter Tryd.func39, Tryd.ntmps39
  go_wp2_with fail
  refine Calls.mono (C1.out _) ?_
  rintro e wl1 ⟨rfl, rfl⟩
  go_wp2_with fail
  try rw [hc]
  refine (refPoint_any (((c : Int) - 192) * 64 + l1) (by omega) (by omega) _).mono ?_
  rintro e w1 ⟨v1, rfl, hO1, hB1⟩
  obtain ⟨a1, c1, rfl, hr1⟩ := hO1.rd (ptB_byt _)
  have hconv := fun k => str_of (hr1.later (below_drewN (Below.refl _ _) k))
  clear hr1 hO1
  generalize ptB (((c : Int) - 192) * 64 + l1) = ys at *
  generalize hL : ys.length = L at *
  by_cases hsh : s.size < i + 2
  · have hd1 : decide ((s.size : Int) < (i : Int) + 2) = true := decide_eq_true (by omega)
    have E : Hid (R = (0, 0)) := E1.out hsh
    clear E1 E2 E3 E4 hsh hconv
    go_wp2
    go_quiet (fail)
    go_wp2
    go_ret2
    exact ⟨by rw [E.out]; rfl, below_drewN hB1 _⟩
  · have hd1 : decide ((s.size : Int) < (i : Int) + 2) = false := decide_eq_false (by omega)
    by_cases h2 : L = 2
    · subst h2
      have hsl : ∀ w, (Instr.slice 9 (.string s) (some (.int .i64 i)) (some (.int .i64 (i + 2))) none).run Tryd.prog w = .ok (.string (s.extract i (i + 2))) w := fun w => by
        have := run_slice_string (P := Tryd.prog) w 9 s .i64 .i64 (i : Int) ((i : Int) + 2) Tryd.underlying9 (by omega) (by omega) (by omega)
        rw [show ((i : Int) + 2).toNat = i + 2 from by omega] at this
        simpa using this
      by_cases h3 : strB ys = s.extract i (i + 2)
      · have E : Hid (R = (((c : Int) - 192) * 64 + l1, (2 : Int))) := E4.out (by omega) rfl h3
        clear E1 E2 E3 E4 hsh
        rw [← h3] at hsl
        have hne : ((strB ys).toList == (strB ys).toList) = true := beq_self_eq_true _
        clear h3
        go_wp2
        go_quiet (fail)
        go_wp2
        go_ret2
        exact ⟨by rw [E.out]; rfl, below_drewN hB1 _⟩
      · have E : Hid (R = (0, 0)) := E3.out h3
        clear E1 E2 E3 E4 hsh
        have hne : ((strB ys).toList == (s.extract i (i + 2)).toList) = false := toList_ne h3
        clear h3
        go_wp2
        go_quiet (fail)
        go_wp2
        go_ret2
        exact ⟨by rw [E.out]; rfl, below_drewN hB1 _⟩
    · have E : Hid (R = (0, 0)) := E2.out h2
      clear E1 E2 E3 E4 hsh hconv
      have h2' : ((L : Int) != 2) = true := by simp; omega
      clear h2
      go_wp2
      go_quiet (fail)
      go_wp2
      go_ret2
      exact ⟨by rw [E.out]; rfl, below_drewN hB1 _⟩

set_option maxRecDepth 100000 in
set_option maxHeartbeats 4000000 in
theorem refAt_three (s : ByteArray) (i : Nat) (hi : i < s.size) (hs : s.size ≤ 2305843009213693952) (w : World) (c : Nat) (hc : (s[i]'hi).toNat = c) (hlo : 224 ≤ c) (hhi : c < 240) (l1 : Int) (hl1 : lowV s (i + 1) = l1) (l2 : Int) (hl2 : lowV s (i + 2) = l2) :
    Calls Tryd.prog 39 #[.string s, .int .i64 i] w fun e w' => e = .returned (atV (atRes s i (((c : Int) - 224) * 4096 + l1 * 64 + l2) 3)) ∧ Below w.heap.size w w' := by
  have hb1 := lowV_ge s (i + 1)
  rw [hl1] at hb1
  have C1 : Hid (∀ w, Calls Tryd.prog 42 #[.string s, .int .i64 ((i : Int) + 1)] w fun e w' => e = .returned (.int .i64 l1) ∧ w' = w) := fun w => by rw [← hl1]; exact refLow_at s _ (i + 1) (by omega) (by omega) (by omega) w
  clear hl1
  have hb2 := lowV_ge s (i + 2)
  rw [hl2] at hb2
  have C2 : Hid (∀ w, Calls Tryd.prog 42 #[.string s, .int .i64 ((i : Int) + 2)] w fun e w' => e = .returned (.int .i64 l2) ∧ w' = w) := fun w => by rw [← hl2]; exact refLow_at s _ (i + 2) (by omega) (by omega) (by omega) w
  clear hl2
  generalize hR : atRes s i (((c : Int) - 224) * 4096 + l1 * 64 + l2) 3 = R
  have e1 := atRes_short s i (((c : Int) - 224) * 4096 + l1 * 64 + l2) 3
  have e2 := atRes_len s i (((c : Int) - 224) * 4096 + l1 * 64 + l2) 3
  have e3 := atRes_ne s i (((c : Int) - 224) * 4096 + l1 * 64 + l2) 3
  have e4 := atRes_eq s i (((c : Int) - 224) * 4096 + l1 * 64 + l2) 3
  rw [hR] at e1 e2 e3 e4
  have E1 : Hid _ := e1
  have E2 : Hid _ := e2
  have E3 : Hid _ := e3
  have E4 : Hid _ := e4
  clear hR e1 e2 e3 e4
  go_enter Tryd.func39, Tryd.ntmps39
  go_wp2_with fail
  refine Calls.mono (C1.out _) ?_
  rintro e wl1 ⟨rfl, rfl⟩
  go_wp2_with fail
  refine Calls.mono (C2.out _) ?_
  rintro e wl2 ⟨rfl, rfl⟩
  go_wp2_with fail
  try rw [hc]
  refine (refPoint_any (((c : Int) - 224) * 4096 + l1 * 64 + l2) (by omega) (by omega) _).mono ?_
  rintro e w1 ⟨v1, rfl, hO1, hB1⟩
  obtain ⟨a1, c1, rfl, hr1⟩ := hO1.rd (ptB_byt _)
  have hconv := fun k => str_of (hr1.later (below_drewN (Below.refl _ _) k))
  clear hr1 hO1
  generalize ptB (((c : Int) - 224) * 4096 + l1 * 64 + l2) = ys at *
  generalize hL : ys.length = L at *
  by_cases hsh : s.size < i + 3
  · have hd1 : decide ((s.size : Int) < (i : Int) + 3) = true := decide_eq_true (by omega)
    have E : Hid (R = (0, 0)) := E1.out hsh
    clear E1 E2 E3 E4 hsh hconv
    go_wp2
    go_quiet (fail)
    go_wp2
    go_ret2
    exact ⟨by rw [E.out]; rfl, below_drewN hB1 _⟩
  · have hd1 : decide ((s.size : Int) < (i : Int) + 3) = false := decide_eq_false (by omega)
    by_cases h2 : L = 3
    · subst h2
      have hsl : ∀ w, (Instr.slice 9 (.string s) (some (.int .i64 i)) (some (.int .i64 (i + 3))) none).run Tryd.prog w = .ok (.string (s.extract i (i + 3))) w := fun w => by
        have := run_slice_string (P := Tryd.prog) w 9 s .i64 .i64 (i : Int) ((i : Int) + 3) Tryd.underlying9 (by omega) (by omega) (by omega)
        rw [show ((i : Int) + 3).toNat = i + 3 from by omega] at this
        simpa using this
      by_cases h3 : strB ys = s.extract i (i + 3)
      · have E : Hid (R = (((c : Int) - 224) * 4096 + l1 * 64 + l2, (3 : Int))) := E4.out (by omega) rfl h3
        clear E1 E2 E3 E4 hsh
        rw [← h3] at hsl
        have hne : ((strB ys).toList == (strB ys).toList) = true := beq_self_eq_true _
        clear h3
        go_wp2
        go_quiet (fail)
        go_wp2
        go_ret2
        exact ⟨by rw [E.out]; rfl, below_drewN hB1 _⟩
      · have E : Hid (R = (0, 0)) := E3.out h3
        clear E1 E2 E3 E4 hsh
        have hne : ((strB ys).toList == (s.extract i (i + 3)).toList) = false := toList_ne h3
        clear h3
        go_wp2
        go_quiet (fail)
        go_wp2
        go_ret2
        exact ⟨by rw [E.out]; rfl, below_drewN hB1 _⟩
    · have E : Hid (R = (0, 0)) := E2.out h2
      clear E1 E2 E3 E4 hsh hconv
      have h2' : ((L : Int) != 3) = true := by simp; omega
      clear h2
      go_wp2
      go_quiet (fail)
      go_wp2
      go_ret2
      exact ⟨by rw [E.out]; rfl, below_drewN hB1 _⟩

set_option maxRecDepth 100000 in
set_option maxHeartbeats 4000000 in
theorem refAt_four (s : ByteArray) (i : Nat) (hi : i < s.size) (hs : s.size ≤ 2305843009213693952) (w : World) (c : Nat) (hc : (s[i]'hi).toNat = c) (hlo : 240 ≤ c) (hhi : c < 256) (l1 : Int) (hl1 : lowV s (i + 1) = l1) (l2 : Int) (hl2 : lowV s (i + 2) = l2) (l3 : Int) (hl3 : lowV s (i + 3) = l3) :
    Calls Tryd.prog 39 #[.string s, .int .i64 i] w fun e w' => e = .returned (atV (atRes s i (((c : Int) - 240) * 262144 + l1 * 4096 + l2 * 64 + l3) 4)) ∧ Below w.heap.size w w' := by
  have hb1 := lowV_ge s (i + 1)
  rw [hl1] at hb1
  have C1 : Hid (∀ w, Calls Tryd.prog 42 #[.string s, .int .i64 ((i : Int) + 1)] w fun e w' => e = .returned (.int .i64 l1) ∧ w' = w) := fun w => by rw [← hl1]; exact refLow_at s _ (i + 1) (by omega) (by omega) (by omega) w
  clear hl1
  have hb2 := lowV_ge s (i + 2)
  rw [hl2] at hb2
  have C2 : Hid (∀ w, Calls Tryd.prog 42 #[.string s, .int .i64 ((i : Int) + 2)] w fun e w' => e = .returned (.int .i64 l2) ∧ w' = w) := fun w => by rw [← hl2]; exact refLow_at s _ (i + 2) (by omega) (by omega) (by omega) w
  clear hl2
  have hb3 := lowV_ge s (i + 3)
  rw [hl3] at hb3
  have C3 : Hid (∀ w, Calls Tryd.prog 42 #[.string s, .int .i64 ((i : Int) + 3)] w fun e w' => e = .returned (.int .i64 l3) ∧ w' = w) := fun w => by rw [← hl3]; exact refLow_at s _ (i + 3) (by omega) (by omega) (by omega) w
  clear hl3
  generalize hR : atRes s i (((c : Int) - 240) * 262144 + l1 * 4096 + l2 * 64 + l3) 4 = R
  have e1 := atRes_short s i (((c : Int) - 240) * 262144 + l1 * 4096 + l2 * 64 + l3) 4
  have e2 := atRes_len s i (((c : Int) - 240) * 262144 + l1 * 4096 + l2 * 64 + l3) 4
  have e3 := atRes_ne s i (((c : Int) - 240) * 262144 + l1 * 4096 + l2 * 64 + l3) 4
  have e4 := atRes_eq s i (((c : Int) - 240) * 262144 + l1 * 4096 + l2 * 64 + l3) 4
  rw [hR] at e1 e2 e3 e4
  have E1 : Hid _ := e1
  have E2 : Hid _ := e2
  have E3 : Hid _ := e3
  have E4 : Hid _ := e4
  clear hR e1 e2 e3 e4
  go_enter Tryd.func39, Tryd.ntmps39
  go_wp2_with fail
  refine Calls.mono (C1.out _) ?_
  rintro e wl1 ⟨rfl, rfl⟩
  go_wp2_with fail
  refine Calls.mono (C2.out _) ?_
  rintro e wl2 ⟨rfl, rfl⟩
  go_wp2_with fail
  refine Calls.mono (C3.out _) ?_
  rintro e wl3 ⟨rfl, rfl⟩
  go_wp2_with fail
  try rw [hc]
  refine (refPoint_any (((c : Int) - 240) * 262144 + l1 * 4096 + l2 * 64 + l3) (by omega) (by omega) _).mono ?_
  rintro e w1 ⟨v1, rfl, hO1, hB1⟩
  obtain ⟨a1, c1, rfl, hr1⟩ := hO1.rd (ptB_byt _)
  have hconv := fun k => str_of (hr1.later (below_drewN (Below.refl _ _) k))
  clear hr1 hO1
  generalize ptB (((c : Int) - 240) * 262144 + l1 * 4096 + l2 * 64 + l3) = ys at *
  generalize hL : ys.length = L at *
  by_cases hsh : s.size < i + 4
  · have hd1 : decide ((s.size : Int) < (i : Int) + 4) = true := decide_eq_true (by omega)
    have E : Hid (R = (0, 0)) := E1.out hsh
    clear E1 E2 E3 E4 hsh hconv
    go_wp2
    go_quiet (fail)
    go_wp2
    go_ret2
    exact ⟨by rw [E.out]; rfl, below_drewN hB1 _⟩
  · have hd1 : decide ((s.size : Int) < (i : Int) + 4) = false := decide_eq_false (by omega)
    by_cases h2 : L = 4
    · subst h2
      have hsl : ∀ w, (Instr.slice 9 (.string s) (some (.int .i64 i)) (some (.int .i64 (i + 4))) none).run Tryd.prog w = .ok (.string (s.extract i (i + 4))) w := fun w => by
        have := run_slice_string (P := Tryd.prog) w 9 s .i64 .i64 (i : Int) ((i : Int) + 4) Tryd.underlying9 (by omega) (by omega) (by omega)
        rw [show ((i : Int) + 4).toNat = i + 4 from by omega] at this
        simpa using this
      by_cases h3 : strB ys = s.extract i (i + 4)
      · have E : Hid (R = (((c : Int) - 240) * 262144 + l1 * 4096 + l2 * 64 + l3, (4 : Int))) := E4.out (by omega) rfl h3
        clear E1 E2 E3 E4 hsh
        rw [← h3] at hsl
        have hne : ((strB ys).toList == (strB ys).toList) = true := beq_self_eq_true _
        clear h3
        go_wp2
        go_quiet (fail)
        go_wp2
        go_ret2
        exact ⟨by rw [E.out]; rfl, below_drewN hB1 _⟩
      · have E : Hid (R = (0, 0)) := E3.out h3
        clear E1 E2 E3 E4 hsh
        have hne : ((strB ys).toList == (s.extract i (i + 4)).toList) = false := toList_ne h3
        clear h3
        go_wp2
        go_quiet (fail)
        go_wp2
        go_ret2
        exact ⟨by rw [E.out]; rfl, below_drewN hB1 _⟩
    · have E : Hid (R = (0, 0)) := E2.out h2
      clear E1 E2 E3 E4 hsh hconv
      have h2' : ((L : Int) != 4) = true := by simp; omega
      clear h2
      go_wp2
      go_quiet (fail)
      go_wp2
      go_ret2
      exact ⟨by rw [E.out]; rfl, below_drewN hB1 _⟩

end Go.Proofs.YtpinpcefgbhdmaaDoor
