import Derived.Test.YtigaggkipmcgeaaRJ
namespace Go.Proofs.Ytigaggkipmcgeaa
open Go.RowKit
set_option linter.unusedVariables false

theorem st_near : RndZ 0 (fval 4607182418800017408 + fval 4368491638549381120) 1 (4607182418800017408, true) := ⟨4607182418800017408, ⟨by decide +kernel, by decide +kernel⟩, by decide +kernel⟩
theorem st_up : RndZ 1 (fval 4607182418800017408 + fval 4368491638549381120) 1 (4607182418800017409, true) := ⟨4607182418800017408, ⟨by decide +kernel, by decide +kernel⟩, by decide +kernel⟩
theorem st_third : Rnd 2 (fneg 4607182418800017408 ^^ fneg 4613937818241073152) (rmag (frung 4607182418800017408) * 2 ^ 1074) (rmag (frung 4613937818241073152)) (4599676419421066581, true) := ⟨4599676419421066581, ⟨by decide +kernel, by decide +kernel⟩, by decide +kernel⟩
theorem st_two : Rnd 0 (fneg 9218868437227405311 ^^ fneg 4611686018427387904) (rmag (frung 9218868437227405311) * rmag (frung 4611686018427387904)) (2 ^ 1074) (0, false) := ⟨9223372036854775807, ⟨by decide +kernel, by decide +kernel⟩, by decide +kernel⟩
end Go.Proofs.Ytigaggkipmcgeaa
