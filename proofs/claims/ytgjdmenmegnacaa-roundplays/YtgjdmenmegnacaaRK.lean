import Derived.Test.YtgjdmenmegnacaaRJ
namespace Go.Proofs.Ytgjdmenmegnacaa
open Go.RowKit
set_option linter.unusedVariables false

theorem st_near : RndZ 0 (fval 4607182418800017408 + fval 4368491638549381120) 1 (4607182418800017408, true) := ⟨4607182418800017408, ⟨by decide +kernel, by decide +kernel⟩, by decide +kernel⟩
theorem st_up : RndZ 1 (fval 4607182418800017408 + fval 4368491638549381120) 1 (4607182418800017409, true) := ⟨4607182418800017408, ⟨by decide +kernel, by decide +kernel⟩, by decide +kernel⟩
theorem st_third : Rnd 2 (fneg 4607182418800017408 ^^ fneg 4613937818241073152) (rmag (frung 4607182418800017408) * 2 ^ 1074) (rmag (frung 4613937818241073152)) (4599676419421066581, true) := ⟨4599676419421066581, ⟨by decide +kernel, by decide +kernel⟩, by decide +kernel⟩
theorem st_two : Rnd 0 (fneg 9218868437227405311 ^^ fneg 4611686018427387904) (rmag (frung 9218868437227405311) * rmag (frung 4611686018427387904)) (2 ^ 1074) (0, false) := ⟨9223372036854775807, ⟨by decide +kernel, by decide +kernel⟩, by decide +kernel⟩

theorem started_any (w : World) : Calls Try.prog 12 #[] w fun e w' => e = .returned (.bool true) ∧ w' = w := by
  obtain ⟨p1, h1, -, c1⟩ := add_any 0 4607182418800017408 4368491638549381120 (by decide) (by decide)
  obtain ⟨p2, h2, -, c2⟩ := add_any 1 4607182418800017408 4368491638549381120 (by decide) (by decide)
  obtain ⟨p3, h3, -, c3⟩ := div_any 2 4607182418800017408 4613937818241073152 (by decide) (by decide)
  obtain ⟨p4, h4, -, c4⟩ := mul_any 0 9218868437227405311 4611686018427387904 (by decide) (by decide)
  have e1 := RndZ.uniq (h1 (by decide) (by decide)) st_near
  have e2 := RndZ.uniq (h2 (by decide) (by decide)) st_up
  have e3 := Rnd.uniq (h3 (by decide) (by decide) (by decide) 1074 rfl) st_third
  have e4 := Rnd.uniq (h4 (by decide) (by decide) 1074 rfl) st_two
  subst e1 e2 e3 e4
  clear h1 h2 h3 h4
  have hE : (FloatKind.f64.format.order 4607182418800017408 4607182418800017408 == some .eq) = true := by rw [f64_fmt, ord_eq (by decide) (by decide)]; simp
  have hN : decide (Fin 4607182418800017408) = true := by decide
  go_enter Try.func12, Try.ntmps12
  go_wp2_with (first
    | (go_at_call_of 22 (Value.int IntKind.i64 0); refine (c1 _).mono ?_; rintro e w' ⟨rfl, rfl⟩)
    | (go_at_call_of 22 (Value.int IntKind.i64 1); refine (c2 _).mono ?_; rintro e w' ⟨rfl, rfl⟩)
    | (go_at_call 28; refine (c3 _).mono ?_; rintro e w' ⟨rfl, rfl⟩)
    | (go_at_call 26; refine (c4 _).mono ?_; rintro e w' ⟨rfl, rfl⟩)
    | (go_at_call 32; refine (float_int _ _).mono ?_; rintro e w' ⟨rfl, rfl⟩)
    | (go_at_call 10; refine (bits_any _ _).mono ?_; rintro e w' ⟨rfl, rfl⟩)
    | (go_at_call 8; refine (number_any _ (by decide) _).mono ?_; rintro e w' ⟨rfl, rfl⟩; rw [hN]))
  all_goals (go_ret; exact ⟨rfl, rfl⟩)
end Go.Proofs.Ytgjdmenmegnacaa
