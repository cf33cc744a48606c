import Derived.Test.YtfepcpkfbnpbjaaGreatMT
namespace Go.Proofs.YtfepcpkfbnpbjaaGreat
open Go.RowKit
set_option linter.unusedVariables false

/-- What is asked of a call's answer. -/
def Ans (F : Nat) (args : Array Value) (r : Nat × Nat × Bool) : Prop := ∀ w, Calls Tryz.prog F args w fun e w' => e = .returned (.agg #[.float .f64 r.1, .float .f64 r.2.1, .bool r.2.2]) ∧ Below w.heap.size w w'
theorem blk_lt {W : World} {B : Nat} {o : Obj} (h : W.heap[B]? = some o) : B < W.heap.size := by
  rcases Nat.lt_or_ge B W.heap.size with c | c
  · exact c
  · rw [Array.getElem?_eq_none c] at h; cases h
end Go.Proofs.YtfepcpkfbnpbjaaGreat


namespace Go.Proofs.YtfepcpkfbnpbjaaGreat
open Go.RowKit
set_option linter.unusedVariables false

/-- A number lies between two. -/
def leF (x y : Nat) : Bool := decide (frung x ≤ infK ∧ frung y ≤ infK ∧ srung x ≤ srung y)
def hasB (lo hi a : Nat) : Bool := leF lo a && leF a hi
end Go.Proofs.YtfepcpkfbnpbjaaGreat


namespace Go.Proofs.YtfepcpkfbnpbjaaGreat
open Go.RowKit
set_option linter.unusedVariables false

/-- The span of all products. -/
def MulR (al ah bl bh : Nat) (ab bb : Bool) (E : Nat) (r : Nat × Nat × Bool) : Prop :=
  if Good al ah ab ∧ Good bl bh bb then SpR (min4 (fval al * fval bl) (fval al * fval bh) (fval ah * fval bl) (fval ah * fval bh)) (max4 (fval al * fval bl) (fval al * fval bh) (fval ah * fval bl) (fval ah * fval bh)) (2 ^ E) r else r = (0, 0, true)
/-- The span of all quotients. -/
def DivR (al ah bl bh : Nat) (ab bb : Bool) (E : Nat) (r : Nat × Nat × Bool) : Prop :=
  if Good al ah ab ∧ Good bl bh bb ∧ hasB bl bh 0 = false then SpR (min4 (fval al * fval bh * ((2 ^ E : Nat) : Int)) (fval al * fval bl * ((2 ^ E : Nat) : Int)) (fval ah * fval bh * ((2 ^ E : Nat) : Int)) (fval ah * fval bl * ((2 ^ E : Nat) : Int))) (max4 (fval al * fval bh * ((2 ^ E : Nat) : Int)) (fval al * fval bl * ((2 ^ E : Nat) : Int)) (fval ah * fval bh * ((2 ^ E : Nat) : Int)) (fval ah * fval bl * ((2 ^ E : Nat) : Int))) (fval bl * fval bh).natAbs r else r = (0, 0, true)
end Go.Proofs.YtfepcpkfbnpbjaaGreat


namespace Go.Proofs.YtfepcpkfbnpbjaaGreat
open Go.RowKit
set_option linter.unusedVariables false

end Go.Proofs.YtfepcpkfbnpbjaaGreat

