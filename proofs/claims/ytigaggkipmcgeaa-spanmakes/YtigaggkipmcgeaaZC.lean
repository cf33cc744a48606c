import Derived.Test.YtigaggkipmcgeaaZB
namespace Go.Proofs.Ytigaggkipmcgeaa
open Go.RowKit
set_option linter.unusedVariables false

theorem AllGood.succ {F : Nat → Nat × Nat × Bool} {k : Nat} (h : AllGood F k) (hg : Good (F k).1 (F k).2.1 (F k).2.2) : AllGood F (k + 1) := by
  intro j hj
  rcases Nat.lt_or_ge j k with h1 | h1
  · exact h j h1
  · obtain rfl : j = k := by omega
    exact hg
set_option maxRecDepth 100000 in
set_option maxHeartbeats 2000000 in
theorem good_any (ao : Option Addr) (len cap : Nat) (F : Nat → Nat × Nat × Bool) (w : World) (h : RdS w ao len cap F) :
    Calls Try.prog 80 #[.slice ao len cap] w fun e w' => e = .returned (.bool (decide (AllGood F len))) ∧ Below w.heap.size w w' := by
  have HY : Hid (RdS w ao len cap F) := h
  have hmx := h.max
  have hle := h.le
  unfold maxLen at hmx
  clear h
  have hsf := run_store_f
  go_enter Try.func80, Try.ntmps80
  go_wp2_with fail
  go_loopw [4, 7] (fun sv iv wr => ∃ k : Nat, k ≤ len ∧ iv = .int .i64 k ∧ Hid (AllGood F k) ∧ Hid (Below w.heap.size w wr)) (fun _ iv _ => len - (intOf iv).toNat)
  case atStart => exact ⟨0, by omega, rfl, fun j hj => absurd hj (by omega), Below.refl _ _⟩
  case round =>
    obtain ⟨k, hk, rfl, K1, K4⟩ := hrel
    by_cases hlt : k < len
    · have hd : decide ((k : Int) < (len : Int)) = true := decide_eq_true (by omega)
      have hr := HY.out.later K4.out
      rcases hr.cells with h0 | ⟨b, off, rfl, hc⟩
      · omega
      · obtain ⟨g0, g1, g2⟩ := hc k hlt
        obtain ⟨b0, b1⟩ := HY.out.lt k hlt
        have i0 : (0 : Int) ≤ (k : Int) := by omega
        have i1 : (k : Int) < (len : Int) := by omega
        have HG : Hid (Good (F k).1 (F k).2.1 (F k).2.2 ∨ ¬ Good (F k).1 (F k).2.1 (F k).2.2) := Decidable.em _
        have HK : Hid (∀ j, j = k → F j = F k) := fun j hj => by rw [hj]
        obtain ⟨lo, hlo⟩ : ∃ a, (F k).1 = a := ⟨_, rfl⟩
        obtain ⟨hi, hhi⟩ : ∃ a, (F k).2.1 = a := ⟨_, rfl⟩
        obtain ⟨bad, hbad⟩ : ∃ a, (F k).2.2 = a := ⟨_, rfl⟩
        rw [hlo] at g0 b0
        rw [hhi] at g1 b1
        rw [hbad] at g2
        have HEQ : Hid ((F k).1 = lo ∧ (F k).2.1 = hi ∧ (F k).2.2 = bad) := ⟨hlo, hhi, hbad⟩
        have HN : Hid (¬ Good lo hi bad → ¬ AllGood F len) := fun hn ha => by
          have := ha k hlt; rw [hlo, hhi, hbad] at this; exact hn this
        have HB : Hid (Below w.heap.size w (wr.alloc (.cells #[.float .f64 lo, .float .f64 hi, .bool bad] 68))) := K4.out.alloc K4.out.size _
        clear hr hc hlo hhi hbad
        have hret : ∀ (hn : ¬ Good lo hi bad), decide (AllGood F len) = false := fun hn => decide_eq_false (HN.out hn)
        by_cases hb : bad = true
        · subst hb
          have HZ : Hid (decide (AllGood F len) = false) := hret (fun h => by have := h.1; cases this)
          clear HN hret
          go_wp2_with fail
          go_ret
          exact ⟨by rw [HZ.out]; rfl, HB.out⟩
        · obtain rfl : bad = false := by simpa using hb
          by_cases f1 : Fin lo
          · have hf1 : decide (Fin lo) = true := decide_eq_true f1
            by_cases f2 : Fin hi
            · have hf2 : decide (Fin hi) = true := decide_eq_true f2
              by_cases hs : srung lo ≤ srung hi
              · have hgt : (FloatKind.f64.format.order lo hi == some .gt) = false := by
                  rw [f64_fmt, ord_gt (Nat.le_of_lt f1) (Nat.le_of_lt f2)]; exact decide_eq_false (by omega)
                have HGK : Hid (AllGood F (k + 1)) := K1.out.succ (by rw [HEQ.out.1, HEQ.out.2.1, HEQ.out.2.2]; exact ⟨rfl, f1, f2, hs⟩)
                clear HN hret hb f1 f2 hs
                go_wp2_with (first | (go_at_call_of 116 (Value.float FloatKind.f64 lo); refine (number_any lo b0 _).mono ?_; rintro e wr2 ⟨rfl, rfl⟩; rw [hf1]) | (go_at_call_of 116 (Value.float FloatKind.f64 hi); refine (number_any hi b1 _).mono ?_; rintro e wr2 ⟨rfl, rfl⟩; rw [hf2]))
                go_roundw
                case rel => exact ⟨k + 1, by omega, by go_num, HGK, HB⟩
                case measure => simp [intOf]; omega
              · have hgt : (FloatKind.f64.format.order lo hi == some .gt) = true := by
                  rw [f64_fmt, ord_gt (Nat.le_of_lt f1) (Nat.le_of_lt f2)]; exact decide_eq_true (by omega)
                have HZ : Hid (decide (AllGood F len) = false) := hret (fun h => hs h.2.2.2)
                clear HN hret hb f1 f2 hs
                go_wp2_with (first | (go_at_call_of 116 (Value.float FloatKind.f64 lo); refine (number_any lo b0 _).mono ?_; rintro e wr2 ⟨rfl, rfl⟩; rw [hf1]) | (go_at_call_of 116 (Value.float FloatKind.f64 hi); refine (number_any hi b1 _).mono ?_; rintro e wr2 ⟨rfl, rfl⟩; rw [hf2]))
                go_ret
                exact ⟨by rw [HZ.out]; rfl, HB.out⟩
            · have hf2 : decide (Fin hi) = false := decide_eq_false f2
              have HZ : Hid (decide (AllGood F len) = false) := hret (fun h => f2 h.2.2.1)
              clear HN hret hb f1 f2
              go_wp2_with (first | (go_at_call_of 116 (Value.float FloatKind.f64 lo); refine (number_any lo b0 _).mono ?_; rintro e wr2 ⟨rfl, rfl⟩; rw [hf1]) | (go_at_call_of 116 (Value.float FloatKind.f64 hi); refine (number_any hi b1 _).mono ?_; rintro e wr2 ⟨rfl, rfl⟩; rw [hf2]))
              go_ret
              exact ⟨by rw [HZ.out]; rfl, HB.out⟩
          · have hf1 : decide (Fin lo) = false := decide_eq_false f1
            have HZ : Hid (decide (AllGood F len) = false) := hret (fun h => f1 h.2.1)
            clear HN hret hb f1
            go_wp2_with (first | (go_at_call_of 116 (Value.float FloatKind.f64 lo); refine (number_any lo b0 _).mono ?_; rintro e wr2 ⟨rfl, rfl⟩; rw [hf1]))
            go_ret
            exact ⟨by rw [HZ.out]; rfl, HB.out⟩
    · have hd : decide ((k : Int) < (len : Int)) = false := decide_eq_false (by omega)
      obtain rfl : k = len := by omega
      have HZ : Hid (decide (AllGood F k) = true) := decide_eq_true K1.out
      go_wp2_with fail
      go_ret
      exact ⟨by rw [HZ.out]; rfl, K4.out⟩
end Go.Proofs.Ytigaggkipmcgeaa
