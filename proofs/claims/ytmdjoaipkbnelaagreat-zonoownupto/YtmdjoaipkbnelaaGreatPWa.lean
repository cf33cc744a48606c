import Derived.Test.YtmdjoaipkbnelaaGreatPWb
set_option linter.unusedVariables false
set_option linter.unusedSimpArgs false
namespace Go.Proofs.YtmdjoaipkbnelaaGreat
open Go.RowKit Go.Shelf
open Ieee
def turnV (a m:Int):Int:=(a.tmod m + m).tmod m
def partV (E:Nat) (is:List Int) (n:Int) (k:Nat):Int:=if k < is.length then (turnV (is[k]?.getD 0) (2 * 2 ^ (turnV n 17).toNat + 1) - 2 ^ (turnV n 17).toNat) * 2 ^ (E - (turnV n 17).toNat) else 2 ^ E
end Go.Proofs.YtmdjoaipkbnelaaGreat
