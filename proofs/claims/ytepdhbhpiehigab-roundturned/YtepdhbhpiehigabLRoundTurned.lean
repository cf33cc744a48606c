import Derived.Test.YtepdhbhpiehigabRN
namespace Go.Proofs.Ytepdhbhpiehigab
open Go.RowKit
set_option linter.unusedVariables false

set_option maxHeartbeats 8000000 in
set_option maxRecDepth 100000 in
theorem roundTurned_walk (a : Nat) (ha : a < 18446744073709551616) (b : Nat) (hb : b < 18446744073709551616) (w : World) :
    Calls Try.prog 8 #[.float .f64 a, .float .f64 b] w fun e w' => e = .returned (.bool true) ∧ Below w.heap.size w w' := by
  obtain ⟨⟨⟨p1, o1⟩, ⟨q1, o1'⟩, T1, a1, b1⟩, ⟨⟨p2, o2⟩, ⟨q2, o2'⟩, T2, a2, b2⟩, ⟨⟨p3, o3⟩, ⟨q3, o3'⟩, ⟨x3, y3⟩, T3, a3, b3, z3, f3, r3⟩⟩ := turned_calls a b ha hb
  obtain ⟨⟨⟨e1, oe⟩, fe, ec, ed⟩, ⟨⟨s1, os⟩, fs, sc, sd⟩, ⟨⟨v1, ov⟩, hv, vc, vd⟩⟩ := same_calls a b ha hb
  have t1 := T1.1
  have t2 := T2.1
  have t3 := T3.1
  have n1 := T1.ne
  have n2 := T2.ne
  have n3 := T3.ne
  simp only at t1 t2 t3 n1 n2 n3 hv fe fs f3
  subst t1 t2 t3
  have me : (FloatKind.f64.format.order e1 e1 != some .eq) = false := by rw [ord_ne fe fe]; simp
  have ms : (FloatKind.f64.format.order s1 s1 != some .eq) = false := by rw [ord_ne fs fs]; simp
  have m3 : (FloatKind.f64.format.order p3 p3 != some .eq) = false := by rw [ord_ne f3 f3]; simp
  have A1 := fun w => asked1 (p := (p1, o1)) a1 w
  have B1 := fun w => asked1 (p := (q1, o1)) b1 w
  have A2 := fun w => asked2 (p := (p2, o2)) a2 w
  have B2 := fun w => asked2 (p := (q2, o2)) b2 w
  have A3 := fun w => asked3 (p := (p3, o3)) a3 w
  have B3 := fun w => asked3 (p := (q3, o3)) b3 w
  have Z3 := fun w => asked3 (p := (x3, y3)) z3 w
  have hneg := run_neg
  have GA : ∀ x y, (x = a ∧ y = b ∨ x = b ∧ y = a) → ∀ w, Calls Try.prog 26 #[.int .i64 0, .float .f64 x, .float .f64 y] w fun e w' => e = .returned (.tuple #[.float .f64 s1, .bool os]) ∧ w' = w := by
    rintro x y (⟨rfl, rfl⟩ | ⟨rfl, rfl⟩) w
    · exact sc w
    · exact sd w
  have GM : ∀ x y, (x = a ∧ y = b ∨ x = b ∧ y = a) → ∀ w, Calls Try.prog 27 #[.int .i64 1, .float .f64 x, .float .f64 y] w fun e w' => e = .returned (.tuple #[.float .f64 p3, .bool o3]) ∧ w' = w := by
    rintro x y (⟨rfl, rfl⟩ | ⟨rfl, rfl⟩) w
    · exact a3 w
    · exact r3 w
  clear T1 T2 T3 fe fs f3 a1 b1 a2 b2 b3 z3 a3 r3 sc sd
  go_enter Try.func8, Try.ntmps8
  go_wp2_with fail
  go_loopg [5] 3 (fun g i wx => ∃ k : Nat, 1 ≤ k ∧ k ≤ 4 ∧ i = .int .i64 k ∧ wx = w ∧ 4 ≤ k + g)
  case atStart => exact ⟨1, by omega, by omega, rfl, rfl, by omega⟩
  case round =>
    obtain ⟨k, hk1, hk4, rfl, rfl, hfu⟩ := hrel
    have hk : k = 1 ∨ k = 2 ∨ k = 3 ∨ k = 4 := by omega
    rcases hk with rfl | rfl | rfl | rfl
    · obtain ⟨fu, rfl⟩ : ∃ g, gk = g + 1 := ⟨gk - 1, by omega⟩
      go_wp2_with (first
        | (go_at_call_of 12 (Value.float FloatKind.f64 a); refine (A1 _).mono ?_; rintro e w' ⟨rfl, rfl⟩)
        | (go_at_call_of 12 (Value.float FloatKind.f64 (fopp b)); refine (B1 _).mono ?_; rintro e w' ⟨rfl, rfl⟩))
      go_roundg fu
      case rel => exact ⟨2, by omega, by omega, rfl, rfl, by omega⟩
      case measure => omega
    · obtain ⟨fu, rfl⟩ : ∃ g, gk = g + 1 := ⟨gk - 1, by omega⟩
      go_wp2_with (first
        | (go_at_call_of 12 (Value.float FloatKind.f64 a); refine (A2 _).mono ?_; rintro e w' ⟨rfl, rfl⟩)
        | (go_at_call_of 12 (Value.float FloatKind.f64 (fopp b)); refine (B2 _).mono ?_; rintro e w' ⟨rfl, rfl⟩))
      go_roundg fu
      case rel => exact ⟨3, by omega, by omega, rfl, rfl, by omega⟩
      case measure => omega
    · obtain ⟨fu, rfl⟩ : ∃ g, gk = g + 1 := ⟨gk - 1, by omega⟩
      go_wp2_with (first
        | (go_at_call_of 12 (Value.float FloatKind.f64 a); refine (A3 _).mono ?_; rintro e w' ⟨rfl, rfl⟩)
        | (go_at_call_of 12 (Value.float FloatKind.f64 (fopp b)); refine (Z3 _).mono ?_; rintro e w' ⟨rfl, rfl⟩)
        | (go_at_call_of 12 (Value.float FloatKind.f64 (fopp a)); refine (B3 _).mono ?_; rintro e w' ⟨rfl, rfl⟩))
      go_roundg fu
      case rel => exact ⟨4, by omega, by omega, rfl, rfl, by omega⟩
      case measure => omega
    · cases ov with
      | false =>
        go_wp2_with (first
          | (go_at_call_of 23 (Value.float FloatKind.f64 a); refine (ec _).mono ?_; rintro e w' ⟨rfl, rfl⟩)
          | (go_at_call_of 23 (Value.float FloatKind.f64 (fopp a)); refine (ed _).mono ?_; rintro e w' ⟨rfl, rfl⟩)
          | (go_at_call_of 26 (Value.float FloatKind.f64 0); refine (vc _).mono ?_; rintro e w' ⟨rfl, rfl⟩)
          | (go_at_call_of 26 (Value.float FloatKind.f64 9223372036854775808); refine (vd _).mono ?_; rintro e w' ⟨rfl, rfl⟩)
          | (go_at_call 26; refine (GA _ _ ?_ _).mono ?_; (first | exact .inl ⟨rfl, rfl⟩ | exact .inr ⟨rfl, rfl⟩); rintro e w' ⟨rfl, rfl⟩)
          | (go_at_call 27; refine (GM _ _ ?_ _).mono ?_; (first | exact .inl ⟨rfl, rfl⟩ | exact .inr ⟨rfl, rfl⟩); rintro e w' ⟨rfl, rfl⟩)
          | (go_at_call 28; refine (float_int _ _).mono ?_; rintro e w' ⟨rfl, rfl⟩)
          | (go_at_call 20; refine (bits_any _ _).mono ?_; rintro e w' ⟨rfl, rfl⟩)
          | (go_at_call 10; refine (started_any _).mono ?_; rintro e w' ⟨rfl, rfl⟩))
        all_goals (go_ret; exact ⟨rfl, Below.refl _ _⟩)
      | true =>
        have hva := hv rfl
        go_wp2_with (first
          | (go_at_call_of 23 (Value.float FloatKind.f64 a); refine (ec _).mono ?_; rintro e w' ⟨rfl, rfl⟩)
          | (go_at_call_of 23 (Value.float FloatKind.f64 (fopp a)); refine (ed _).mono ?_; rintro e w' ⟨rfl, rfl⟩)
          | (go_at_call_of 26 (Value.float FloatKind.f64 0); refine (vc _).mono ?_; rintro e w' ⟨rfl, rfl⟩)
          | (go_at_call_of 26 (Value.float FloatKind.f64 9223372036854775808); refine (vd _).mono ?_; rintro e w' ⟨rfl, rfl⟩)
          | (go_at_call 26; refine (GA _ _ ?_ _).mono ?_; (first | exact .inl ⟨rfl, rfl⟩ | exact .inr ⟨rfl, rfl⟩); rintro e w' ⟨rfl, rfl⟩)
          | (go_at_call 27; refine (GM _ _ ?_ _).mono ?_; (first | exact .inl ⟨rfl, rfl⟩ | exact .inr ⟨rfl, rfl⟩); rintro e w' ⟨rfl, rfl⟩)
          | (go_at_call 28; refine (float_int _ _).mono ?_; rintro e w' ⟨rfl, rfl⟩)
          | (go_at_call 20; refine (bits_any _ _).mono ?_; rintro e w' ⟨rfl, rfl⟩)
          | (go_at_call 10; refine (started_any _).mono ?_; rintro e w' ⟨rfl, rfl⟩))
        all_goals (go_ret; exact ⟨rfl, Below.refl _ _⟩)
end Go.Proofs.Ytepdhbhpiehigab
