import Derived.Test.YtepdhbhpiehigacRL
namespace Go.Proofs.Ytepdhbhpiehigac
open Go.RowKit
set_option linter.unusedVariables false

set_option maxHeartbeats 8000000 in
set_option maxRecDepth 100000 in
theorem roundBack_walk (a : Nat) (ha : a < 18446744073709551616) (n : Int) (n0 : -9223372036854775808 ≤ n) (n1 : n ≤ 9223372036854775807) (d : Int) (d0 : -9223372036854775808 ≤ d) (d1 : d ≤ 9223372036854775807) (w : World) :
    Calls Try.prog 3 #[.float .f64 a, .int .i64 n, .int .i64 d] w fun e w' => e = .returned (.bool true) ∧ Below w.heap.size w w' := by
  obtain ⟨⟨p, o1⟩, h1, k1, c1⟩ := scale_any 1 a n ha
  obtain ⟨⟨q, o2⟩, h2, k2, c2⟩ := scale_any 2 a n ha
  obtain ⟨⟨z, o3⟩, h3, k3, c3⟩ := scale_any d a 0 ha
  simp only at c1 c2 c3
  by_cases hf : Fin a
  · have hn : decide (Fin a) = true := decide_eq_true hf
    have h1 := h1 hf
    have h2 := h2 hf
    have h3 := h3 hf
    have f1 := (tell_fin h1).1
    have f2 := (tell_fin h2).1
    have f3 := (tell_fin h3).1
    have hne := ord_ne f1 f2
    have hza := ord_ne f3 hf
    have hz0 : clip 0 = 0 := by decide
    rw [hz0, show (0 : Int).toNat = 0 from rfl, show (-(0 : Int)).toNat = 0 from rfl, Nat.pow_zero] at h3
    have e3 := rnd_exact hf h3
    have ek := sgn_parts (fneg a) hf
    have hsa : srung a = (if fneg a then -(frung a : Int) else frung a) := rfl
    clear k1 k2 k3 h3
    by_cases hd : 0 ≤ d ∧ d ≤ 2
    · obtain ⟨hd0, hd2⟩ := hd
      rw [if_pos (by omega)] at e3
      cases e3
      have hzz : (FloatKind.f64.format.order (sgnK (fneg a) (frung a)) a != some .eq) = false := by rw [hza, ek.2.2.2, hsa]; simp
      clear hza f3 ek
      cases o1 with
      | false =>
        go_enter Try.func3, Try.ntmps3
        go_wp2_with (first
          | (go_at_call_of 5 (Value.int IntKind.i64 1); refine (c1 _).mono ?_; rintro e w' ⟨rfl, rfl⟩)
          | (go_at_call_of 5 (Value.int IntKind.i64 2); refine (c2 _).mono ?_; rintro e w' ⟨rfl, rfl⟩)
          | (go_at_call_of 5 (Value.int IntKind.i64 d); refine (c3 _).mono ?_; rintro e w' ⟨rfl, rfl⟩)
          | (go_at_call 6; refine (number_any a ha _).mono ?_; rintro e w' ⟨rfl, rfl⟩; rw [hn])
          | (go_at_call 7; refine (started_any _).mono ?_; rintro e w' ⟨rfl, rfl⟩))
        all_goals (go_ret; exact ⟨rfl, Below.refl _ _⟩)
      | true =>
        cases o2 with
        | false =>
          go_enter Try.func3, Try.ntmps3
          go_wp2_with (first
            | (go_at_call_of 5 (Value.int IntKind.i64 1); refine (c1 _).mono ?_; rintro e w' ⟨rfl, rfl⟩)
            | (go_at_call_of 5 (Value.int IntKind.i64 2); refine (c2 _).mono ?_; rintro e w' ⟨rfl, rfl⟩)
            | (go_at_call_of 5 (Value.int IntKind.i64 d); refine (c3 _).mono ?_; rintro e w' ⟨rfl, rfl⟩)
            | (go_at_call 6; refine (number_any a ha _).mono ?_; rintro e w' ⟨rfl, rfl⟩; rw [hn])
            | (go_at_call 7; refine (started_any _).mono ?_; rintro e w' ⟨rfl, rfl⟩))
          all_goals (go_ret; exact ⟨rfl, Below.refl _ _⟩)
        | true =>
          by_cases he : srung p = srung q
          · simp only [he, decide_true, Bool.not_true] at hne
            by_cases hb : -5000 ≤ n ∧ n ≤ 5000
            · obtain ⟨hb0, hb1⟩ := hb
              obtain ⟨k, hk, hx, rfl⟩ := rnd_both h1 h2 he
              have pk := sgn_parts (fneg a) hk
              obtain ⟨⟨b, o4⟩, h4, -, c4⟩ := scale_any 0 (sgnK (fneg a) k) (-n) pk.2.1
              simp only at c4
              have h4 := h4 f1
              rw [clip_neg, Int.neg_neg, pk.1, ← hx] at h4
              have e4 := rnd_exact hf h4
              rw [if_pos (.inl rfl)] at e4
              cases e4
              have e5 := sgn_parts (fneg (sgnK (fneg a) k)) hf
              have hk0 : frung a ≠ 0 → k ≠ 0 := by
                rintro h0 rfl
                rw [rmag_zero, Nat.zero_mul] at hx
                rcases Nat.mul_eq_zero.1 hx with h | h
                · have := le_rmag (frung a); omega
                · have := Nat.two_pow_pos (clip n).toNat; omega
              have hba : (FloatKind.f64.format.order (sgnK (fneg (sgnK (fneg a) k)) (frung a)) a == some .eq) = true := by
                rw [f64_fmt, ord_eq (by rw [e5.1]; exact Nat.le_of_lt hf) (Nat.le_of_lt hf)]
                apply decide_eq_true
                rw [e5.2.2.2, hsa]
                by_cases h0 : frung a = 0
                · rw [h0]; cases fneg a <;> cases fneg (sgnK _ k) <;> rfl
                · rw [pk.2.2.1 (hk0 h0)]
              clear h1 h2 h4 hx hk0 e5 pk f1 f2
              generalize sgnK (fneg (sgnK (fneg a) k)) (frung a) = B at *
              go_enter Try.func3, Try.ntmps3
              go_wp2_with (first
                | (go_at_call_of 5 (Value.int IntKind.i64 1); refine (c1 _).mono ?_; rintro e w' ⟨rfl, rfl⟩)
                | (go_at_call_of 5 (Value.int IntKind.i64 2); refine (c2 _).mono ?_; rintro e w' ⟨rfl, rfl⟩)
                | (go_at_call_of 5 (Value.int IntKind.i64 (-n)); refine (c4 _).mono ?_; rintro e w' ⟨rfl, rfl⟩)
                | (go_at_call_of 5 (Value.int IntKind.i64 d); refine (c3 _).mono ?_; rintro e w' ⟨rfl, rfl⟩)
                | (go_at_call 6; refine (number_any a ha _).mono ?_; rintro e w' ⟨rfl, rfl⟩; rw [hn])
                | (go_at_call 7; refine (started_any _).mono ?_; rintro e w' ⟨rfl, rfl⟩))
              all_goals (go_ret; exact ⟨rfl, Below.refl _ _⟩)
            · by_cases hb0 : n < -5000
              · clear h1 h2
                go_enter Try.func3, Try.ntmps3
                go_wp2_with (first
                  | (go_at_call_of 5 (Value.int IntKind.i64 1); refine (c1 _).mono ?_; rintro e w' ⟨rfl, rfl⟩)
                  | (go_at_call_of 5 (Value.int IntKind.i64 2); refine (c2 _).mono ?_; rintro e w' ⟨rfl, rfl⟩)
                  | (go_at_call_of 5 (Value.int IntKind.i64 d); refine (c3 _).mono ?_; rintro e w' ⟨rfl, rfl⟩)
                  | (go_at_call 6; refine (number_any a ha _).mono ?_; rintro e w' ⟨rfl, rfl⟩; rw [hn])
                  | (go_at_call 7; refine (started_any _).mono ?_; rintro e w' ⟨rfl, rfl⟩))
                all_goals (go_ret; exact ⟨rfl, Below.refl _ _⟩)
              · have hb1 : 5000 < n := by omega
                clear h1 h2
                go_enter Try.func3, Try.ntmps3
                go_wp2_with (first
                  | (go_at_call_of 5 (Value.int IntKind.i64 1); refine (c1 _).mono ?_; rintro e w' ⟨rfl, rfl⟩)
                  | (go_at_call_of 5 (Value.int IntKind.i64 2); refine (c2 _).mono ?_; rintro e w' ⟨rfl, rfl⟩)
                  | (go_at_call_of 5 (Value.int IntKind.i64 d); refine (c3 _).mono ?_; rintro e w' ⟨rfl, rfl⟩)
                  | (go_at_call 6; refine (number_any a ha _).mono ?_; rintro e w' ⟨rfl, rfl⟩; rw [hn])
                  | (go_at_call 7; refine (started_any _).mono ?_; rintro e w' ⟨rfl, rfl⟩))
                all_goals (go_ret; exact ⟨rfl, Below.refl _ _⟩)
          · simp only [he, decide_false, Bool.not_false] at hne
            clear h1 h2
            go_enter Try.func3, Try.ntmps3
            go_wp2_with (first
              | (go_at_call_of 5 (Value.int IntKind.i64 1); refine (c1 _).mono ?_; rintro e w' ⟨rfl, rfl⟩)
              | (go_at_call_of 5 (Value.int IntKind.i64 2); refine (c2 _).mono ?_; rintro e w' ⟨rfl, rfl⟩)
              | (go_at_call_of 5 (Value.int IntKind.i64 d); refine (c3 _).mono ?_; rintro e w' ⟨rfl, rfl⟩)
              | (go_at_call 6; refine (number_any a ha _).mono ?_; rintro e w' ⟨rfl, rfl⟩; rw [hn])
              | (go_at_call 7; refine (started_any _).mono ?_; rintro e w' ⟨rfl, rfl⟩))
            all_goals (go_ret; exact ⟨rfl, Below.refl _ _⟩)
    · rw [if_neg (by omega)] at e3
      cases e3
      clear hza f3 ek
      cases o1 with
      | false =>
        go_enter Try.func3, Try.ntmps3
        go_wp2_with (first
          | (go_at_call_of 5 (Value.int IntKind.i64 1); refine (c1 _).mono ?_; rintro e w' ⟨rfl, rfl⟩)
          | (go_at_call_of 5 (Value.int IntKind.i64 2); refine (c2 _).mono ?_; rintro e w' ⟨rfl, rfl⟩)
          | (go_at_call_of 5 (Value.int IntKind.i64 d); refine (c3 _).mono ?_; rintro e w' ⟨rfl, rfl⟩)
          | (go_at_call 6; refine (number_any a ha _).mono ?_; rintro e w' ⟨rfl, rfl⟩; rw [hn])
          | (go_at_call 7; refine (started_any _).mono ?_; rintro e w' ⟨rfl, rfl⟩))
        all_goals (go_ret; exact ⟨rfl, Below.refl _ _⟩)
      | true =>
        cases o2 with
        | false =>
          go_enter Try.func3, Try.ntmps3
          go_wp2_with (first
            | (go_at_call_of 5 (Value.int IntKind.i64 1); refine (c1 _).mono ?_; rintro e w' ⟨rfl, rfl⟩)
            | (go_at_call_of 5 (Value.int IntKind.i64 2); refine (c2 _).mono ?_; rintro e w' ⟨rfl, rfl⟩)
            | (go_at_call_of 5 (Value.int IntKind.i64 d); refine (c3 _).mono ?_; rintro e w' ⟨rfl, rfl⟩)
            | (go_at_call 6; refine (number_any a ha _).mono ?_; rintro e w' ⟨rfl, rfl⟩; rw [hn])
            | (go_at_call 7; refine (started_any _).mono ?_; rintro e w' ⟨rfl, rfl⟩))
          all_goals (go_ret; exact ⟨rfl, Below.refl _ _⟩)
        | true =>
          by_cases he : srung p = srung q
          · simp only [he, decide_true, Bool.not_true] at hne
            by_cases hb : -5000 ≤ n ∧ n ≤ 5000
            · obtain ⟨hb0, hb1⟩ := hb
              obtain ⟨k, hk, hx, rfl⟩ := rnd_both h1 h2 he
              have pk := sgn_parts (fneg a) hk
              obtain ⟨⟨b, o4⟩, h4, -, c4⟩ := scale_any 0 (sgnK (fneg a) k) (-n) pk.2.1
              simp only at c4
              have h4 := h4 f1
              rw [clip_neg, Int.neg_neg, pk.1, ← hx] at h4
              have e4 := rnd_exact hf h4
              rw [if_pos (.inl rfl)] at e4
              cases e4
              have e5 := sgn_parts (fneg (sgnK (fneg a) k)) hf
              have hk0 : frung a ≠ 0 → k ≠ 0 := by
                rintro h0 rfl
                rw [rmag_zero, Nat.zero_mul] at hx
                rcases Nat.mul_eq_zero.1 hx with h | h
                · have := le_rmag (frung a); omega
                · have := Nat.two_pow_pos (clip n).toNat; omega
              have hba : (FloatKind.f64.format.order (sgnK (fneg (sgnK (fneg a) k)) (frung a)) a == some .eq) = true := by
                rw [f64_fmt, ord_eq (by rw [e5.1]; exact Nat.le_of_lt hf) (Nat.le_of_lt hf)]
                apply decide_eq_true
                rw [e5.2.2.2, hsa]
                by_cases h0 : frung a = 0
                · rw [h0]; cases fneg a <;> cases fneg (sgnK _ k) <;> rfl
                · rw [pk.2.2.1 (hk0 h0)]
              clear h1 h2 h4 hx hk0 e5 pk f1 f2
              generalize sgnK (fneg (sgnK (fneg a) k)) (frung a) = B at *
              go_enter Try.func3, Try.ntmps3
              go_wp2_with (first
                | (go_at_call_of 5 (Value.int IntKind.i64 1); refine (c1 _).mono ?_; rintro e w' ⟨rfl, rfl⟩)
                | (go_at_call_of 5 (Value.int IntKind.i64 2); refine (c2 _).mono ?_; rintro e w' ⟨rfl, rfl⟩)
                | (go_at_call_of 5 (Value.int IntKind.i64 (-n)); refine (c4 _).mono ?_; rintro e w' ⟨rfl, rfl⟩)
                | (go_at_call_of 5 (Value.int IntKind.i64 d); refine (c3 _).mono ?_; rintro e w' ⟨rfl, rfl⟩)
                | (go_at_call 6; refine (number_any a ha _).mono ?_; rintro e w' ⟨rfl, rfl⟩; rw [hn])
                | (go_at_call 7; refine (started_any _).mono ?_; rintro e w' ⟨rfl, rfl⟩))
              all_goals (go_ret; exact ⟨rfl, Below.refl _ _⟩)
            · by_cases hb0 : n < -5000
              · clear h1 h2
                go_enter Try.func3, Try.ntmps3
                go_wp2_with (first
                  | (go_at_call_of 5 (Value.int IntKind.i64 1); refine (c1 _).mono ?_; rintro e w' ⟨rfl, rfl⟩)
                  | (go_at_call_of 5 (Value.int IntKind.i64 2); refine (c2 _).mono ?_; rintro e w' ⟨rfl, rfl⟩)
                  | (go_at_call_of 5 (Value.int IntKind.i64 d); refine (c3 _).mono ?_; rintro e w' ⟨rfl, rfl⟩)
                  | (go_at_call 6; refine (number_any a ha _).mono ?_; rintro e w' ⟨rfl, rfl⟩; rw [hn])
                  | (go_at_call 7; refine (started_any _).mono ?_; rintro e w' ⟨rfl, rfl⟩))
                all_goals (go_ret; exact ⟨rfl, Below.refl _ _⟩)
              · have hb1 : 5000 < n := by omega
                clear h1 h2
                go_enter Try.func3, Try.ntmps3
                go_wp2_with (first
                  | (go_at_call_of 5 (Value.int IntKind.i64 1); refine (c1 _).mono ?_; rintro e w' ⟨rfl, rfl⟩)
                  | (go_at_call_of 5 (Value.int IntKind.i64 2); refine (c2 _).mono ?_; rintro e w' ⟨rfl, rfl⟩)
                  | (go_at_call_of 5 (Value.int IntKind.i64 d); refine (c3 _).mono ?_; rintro e w' ⟨rfl, rfl⟩)
                  | (go_at_call 6; refine (number_any a ha _).mono ?_; rintro e w' ⟨rfl, rfl⟩; rw [hn])
                  | (go_at_call 7; refine (started_any _).mono ?_; rintro e w' ⟨rfl, rfl⟩))
                all_goals (go_ret; exact ⟨rfl, Below.refl _ _⟩)
          · simp only [he, decide_false, Bool.not_false] at hne
            clear h1 h2
            go_enter Try.func3, Try.ntmps3
            go_wp2_with (first
              | (go_at_call_of 5 (Value.int IntKind.i64 1); refine (c1 _).mono ?_; rintro e w' ⟨rfl, rfl⟩)
              | (go_at_call_of 5 (Value.int IntKind.i64 2); refine (c2 _).mono ?_; rintro e w' ⟨rfl, rfl⟩)
              | (go_at_call_of 5 (Value.int IntKind.i64 d); refine (c3 _).mono ?_; rintro e w' ⟨rfl, rfl⟩)
              | (go_at_call 6; refine (number_any a ha _).mono ?_; rintro e w' ⟨rfl, rfl⟩; rw [hn])
              | (go_at_call 7; refine (started_any _).mono ?_; rintro e w' ⟨rfl, rfl⟩))
            all_goals (go_ret; exact ⟨rfl, Below.refl _ _⟩)
  · have hn : decide (Fin a) = false := decide_eq_false hf
    cases k1 hf
    cases k2 hf
    cases k3 hf
    clear h1 h2 h3 k1 k2 k3
    go_enter Try.func3, Try.ntmps3
    go_wp2_with (first
      | (go_at_call_of 5 (Value.int IntKind.i64 1); refine (c1 _).mono ?_; rintro e w' ⟨rfl, rfl⟩)
      | (go_at_call_of 5 (Value.int IntKind.i64 2); refine (c2 _).mono ?_; rintro e w' ⟨rfl, rfl⟩)
      | (go_at_call_of 5 (Value.int IntKind.i64 d); refine (c3 _).mono ?_; rintro e w' ⟨rfl, rfl⟩)
      | (go_at_call 6; refine (number_any a ha _).mono ?_; rintro e w' ⟨rfl, rfl⟩; rw [hn])
      | (go_at_call 7; refine (started_any _).mono ?_; rintro e w' ⟨rfl, rfl⟩))
    all_goals (go_ret; exact ⟨rfl, Below.refl _ _⟩)
end Go.Proofs.Ytepdhbhpiehigac
