import Derived.Test.YtfepcpkfbnpbjaaGreatMS
import Derived.LoopN
namespace Go.Proofs.YtfepcpkfbnpbjaaGreat
open Go.RowKit
set_option linter.unusedVariables false

def farX (d : Int) (x y : Nat) : Nat := if d = 2 then lesser x y else greater x y
def FC (x : Nat) : Prop := Fin x ∧ Canon x
end Go.Proofs.YtfepcpkfbnpbjaaGreat


namespace Go.Proofs.YtfepcpkfbnpbjaaGreat
open Go.RowKit
set_option linter.unusedVariables false
/-- The operation's four answers. -/
structure Four (K : Nat) (d : Int) (al ah bl bh : Nat) (p1 p2 p3 p4 : Nat × Bool) : Prop where
  f1 : FC p1.1
  f2 : FC p2.1
  f3 : FC p3.1
  f4 : FC p4.1
  c1 : ∀ w, Calls Tryz.prog K #[.int .i64 d, .float .f64 al, .float .f64 bl] w fun e w' => e = .returned (.tuple #[.float .f64 p1.1, .bool p1.2]) ∧ w' = w
  c2 : ∀ w, Calls Tryz.prog K #[.int .i64 d, .float .f64 al, .float .f64 bh] w fun e w' => e = .returned (.tuple #[.float .f64 p2.1, .bool p2.2]) ∧ w' = w
  c3 : ∀ w, Calls Tryz.prog K #[.int .i64 d, .float .f64 ah, .float .f64 bl] w fun e w' => e = .returned (.tuple #[.float .f64 p3.1, .bool p3.2]) ∧ w' = w
  c4 : ∀ w, Calls Tryz.prog K #[.int .i64 d, .float .f64 ah, .float .f64 bh] w fun e w' => e = .returned (.tuple #[.float .f64 p4.1, .bool p4.2]) ∧ w' = w
def far4 (d : Int) (p1 p2 p3 p4 : Nat × Bool) : Nat × Bool := (farX d (farX d (farX d p1.1 p2.1) p3.1) p4.1, p1.2 && p2.2 && p3.2 && p4.2)
end Go.Proofs.YtfepcpkfbnpbjaaGreat

