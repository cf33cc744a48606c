import Derived.Test.YtmbnbleahehdaaaFC
namespace Go.Proofs.Ytmbnbleahehdaaa
open Go.RowKit
set_option linter.unusedVariables false

theorem rowsAlike_walk (out : Int) (a1 : -9223372036854775808 ≤ out) (a2 : out ≤ 9223372036854775807) (c : Int) (b1 : -9223372036854775808 ≤ c) (b2 : c ≤ 9223372036854775807) (x y z : Int) (hx : -9223372036854775808 ≤ x ∧ x ≤ 9223372036854775807) (hy : -9223372036854775808 ≤ y ∧ y ≤ 9223372036854775807) (hz : -9223372036854775808 ≤ z ∧ z ≤ 9223372036854775807) (seed : Int) (c1 : -9223372036854775808 ≤ seed) (c2 : seed ≤ 9223372036854775807) (W : World) :
    Calls Try.prog 4 #[.int .i64 out, .int .i64 c, .agg #[.int .i64 x, .int .i64 y, .int .i64 z], .int .i64 seed] W fun e w' => e = .returned (.bool true) ∧ Below W.heap.size W w' :=
  rowsAlike_main out c x y z seed hx.2 hy.2 hz.2 W
end Go.Proofs.Ytmbnbleahehdaaa
