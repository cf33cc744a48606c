import Derived.Test.YtkbafeghlfajhaaWA
namespace Go.Proofs.Ytkbafeghlfajhaa
open Go.RowKit
set_option linter.unusedVariables false

/-- The highest word that is not 0, from the given one down. -/
def High (f : Nat → Nat) (m r : Int) : Prop := r ≤ m ∧ (0 ≤ r → f r.toNat ≠ 0) ∧ (∀ j : Nat, (j : Int) ≤ m → r < j → f j = 0) ∧ (-1 ≤ r ∨ r = m)
set_option maxRecDepth 100000 in
set_option maxHeartbeats 1000000 in
theorem highest_any (B : Nat) (f : Nat → Nat) (m : Int) (hm0 : -2 ≤ m) (hm1 : m ≤ 75) (w : World) (hf : Wds w B f) :
    Calls Try.prog 68 #[.pointer (some ⟨B, 0, none⟩), .int .i64 m] w fun e w' => ∃ r : Int, e = .returned (.int .i64 r) ∧ High f m r ∧ w' = w := by
  have HF : Hid _ := hf
  clear hf
  go_enter Try.func68, Try.ntmps68
  go_wp2_with fail
  go_loopw [1] (fun iv wr => ∃ r : Int, iv = .int .i64 r ∧ Hid (wr = w) ∧ r ≤ m ∧ (∀ j : Nat, (j : Int) ≤ m → r < j → f j = 0) ∧ (-1 ≤ r ∨ r = m)) (fun iv _ => (intOf iv + 3).toNat)
  case atStart => exact ⟨m, rfl, (rfl : w = w), by omega, fun j h1 h2 => by omega, .inr rfl⟩
  case round =>
    obtain ⟨r, rfl, HE, h1, h2, h3⟩ := hrel
    by_cases hlt : 0 ≤ r
    · obtain ⟨k, rfl⟩ : ∃ k : Nat, r = (k : Int) := ⟨r.toNat, by omega⟩
      have hk : k < 76 := by omega
      have hd : decide ((0 : Int) ≤ (k : Int)) = true := decide_eq_true hlt
      have g0 : wr.cell? ⟨B, k, none⟩ = some (.int .u64 (f k : Nat)) := by rw [HE.out]; exact HF.out.cells k hk
      by_cases hz : f k = 0
      · rw [hz] at g0
        have H2 : Hid (∀ j : Nat, (j : Int) ≤ m → (k : Int) < j → f j = 0) := h2
        clear h2
        go_wp2_with fail
        go_roundw
        case rel =>
          refine ⟨(k : Int) - 1, by go_num, HE, by omega, fun j j1 j2 => ?_, by omega⟩
          by_cases e : j = k
          · rw [e]; exact hz
          · exact H2.out j j1 (by omega)
        case measure => simp [intOf]; omega
      · have hb : (((f k : Nat) : Int) == 0) = false := by rw [beq_eq_false_iff_ne]; omega
        have HZ : Hid (f k ≠ 0) := hz
        have H2 : Hid (∀ j : Nat, (j : Int) ≤ m → (k : Int) < j → f j = 0) := h2
        clear h2
        go_wp2_with fail
        go_ret
        exact ⟨(k : Int), rfl, ⟨by omega, fun _ => HZ.out, H2.out, by omega⟩, HE.out⟩
    · have hd : decide ((0 : Int) ≤ r) = false := decide_eq_false hlt
      have H2 : Hid (∀ j : Nat, (j : Int) ≤ m → r < j → f j = 0) := h2
      clear h2
      go_wp2_with fail
      go_ret
      exact ⟨r, rfl, ⟨by omega, fun c => by omega, H2.out, by omega⟩, HE.out⟩
set_option maxRecDepth 100000 in
set_option maxHeartbeats 1000000 in
theorem signW_any (B : Nat) (f : Nat → Nat) (z : Int) (w : World) (hf : Wds w B f) (hz : Tc f z) :
    Calls Try.prog 44 #[.pointer (some ⟨B, 0, none⟩)] w fun e w' => e = .returned (.int .i64 (sgi z)) ∧ w' = w := by
  have g0 := hf.cells 75 (by omega)
  have hneg := hz.neg_iff
  have hzer := hz.zero_iff
  have hlt := hz.lt 75 (by omega)
  have HF : Hid _ := hf
  clear hf
  by_cases h0 : z < 0
  · have h1 := hneg.1 h0
    have hs : sgi z = -1 := by unfold sgi; rw [if_pos h0]
    have hw : IntKind.i64.wrap ((f 75 : Nat) : Int) = (f 75 : Int) - 18446744073709551616 := by rw [IntKind.wrap_i64]; omega
    have hd : decide ((f 75 : Int) - 18446744073709551616 < 0) = true := decide_eq_true (by omega)
    rw [hs]
    clear hneg hzer
    go_enter Try.func44, Try.ntmps44
    go_wp2_with fail
    go_ret
    exact ⟨rfl, rfl⟩
  · have h1 : f 75 < 9223372036854775808 := by
      rcases Nat.lt_or_ge (f 75) 9223372036854775808 with h | h
      · exact h
      · exact absurd (hneg.2 h) h0
    have hw : IntKind.i64.wrap ((f 75 : Nat) : Int) = (f 75 : Int) := by rw [IntKind.wrap_i64]; omega
    have hd : decide ((f 75 : Int) < 0) = false := decide_eq_false (by omega)
    have HZ : Hid _ := hzer
    clear hneg hzer
    go_enter Try.func44, Try.ntmps44
    go_wp2_with fail
    refine (highest_any B f 75 (by omega) (by omega) _ HF.out).mono ?_
    rintro e w1 ⟨r, rfl, hh, rfl⟩
    by_cases hr : r < 0
    · have hdr : decide (r < 0) = true := decide_eq_true hr
      have hz0 : z = 0 := HZ.out.2 (fun j hj => hh.2.2.1 j (by omega) (by omega))
      have HS : Hid (sgi z = 0) := by unfold Hid; rw [hz0]; rfl
      clear hh
      go_wp2_with fail
      go_ret
      exact ⟨by rw [HS.out]; rfl, rfl⟩
    · have hdr : decide (r < 0) = false := decide_eq_false hr
      have hz0 : z ≠ 0 := fun c => hh.2.1 (by omega) (HZ.out.1 c r.toNat (by have := hh.1; omega))
      have HS : Hid (sgi z = 1) := by unfold Hid sgi; rw [if_neg (by omega), if_neg hz0]
      clear hh
      go_wp2_with fail
      go_ret
      exact ⟨by rw [HS.out]; rfl, rfl⟩
set_option maxRecDepth 100000 in
set_option maxHeartbeats 1000000 in
theorem held_any (B : Nat) (f : Nat → Nat) (z : Int) (w : World) (hf : Wds w B f) (hz : Tc f z) (b : Bool) (hb : b = true ↔ (-((2 ^ 4800 : Nat) : Int) < z ∧ z < ((2 ^ 4800 : Nat) : Int))) :
    Calls Try.prog 67 #[.pointer (some ⟨B, 0, none⟩)] w fun e w' => e = .returned (.bool b) ∧ w' = w := by
  have g0 := hf.cells 75 (by omega)
  have hh := hz.held_iff
  rw [← hb] at hh
  have HF : Hid _ := hf
  clear hf hb hz
  by_cases h0 : f 75 = 0
  · obtain rfl : b = true := hh.1 (.inl h0)
    rw [h0] at g0
    clear hh
    go_enter Try.func67, Try.ntmps67
    go_wp2_with fail
    go_ret
    exact ⟨rfl, rfl⟩
  · by_cases h1 : f 75 = 18446744073709551615
    · rw [h1] at g0
      have HH : Hid _ := hh
      clear hh
      go_enter Try.func67, Try.ntmps67
      go_wp2_with fail
      refine (highest_any B f 74 (by omega) (by omega) _ HF.out).mono ?_
      rintro e w1 ⟨r, rfl, hr, rfl⟩
      have hbr : decide (0 ≤ r) = b := by
        by_cases c : 0 ≤ r
        · have : b = true := HH.out.1 (.inr ⟨h1, r.toNat, by have := hr.1; omega, hr.2.1 c⟩)
          rw [this]; exact decide_eq_true c
        · have : ¬ b = true := fun hb => by
            rcases HH.out.2 hb with h | ⟨_, j, hj, hne⟩
            · exact h0 h
            · exact hne (hr.2.2.1 j (by omega) (by omega))
          rw [decide_eq_false c]
          cases b
          · rfl
          · exact absurd rfl this
      clear hr
      go_wp2_with fail
      go_ret
      exact ⟨by first | rfl | (rw [← hbr]; rfl), rfl⟩
    · have hb0 : ¬ b = true := fun hb => by
        rcases hh.2 hb with h | ⟨h, _⟩
        · exact h0 h
        · exact h1 h
      obtain rfl : b = false := by
        cases b
        · rfl
        · exact absurd rfl hb0
      have e0 : (((f 75 : Nat) : Int) == 0) = false := by rw [beq_eq_false_iff_ne]; omega
      have e1 : (((f 75 : Nat) : Int) == 18446744073709551615) = false := by rw [beq_eq_false_iff_ne]; omega
      clear hh hb0
      go_enter Try.func67, Try.ntmps67
      go_wp2_with fail
      go_ret
      exact ⟨rfl, rfl⟩
end Go.Proofs.Ytkbafeghlfajhaa
