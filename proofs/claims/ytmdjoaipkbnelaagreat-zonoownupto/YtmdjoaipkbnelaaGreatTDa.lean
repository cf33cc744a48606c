import Derived.Test.YtmdjoaipkbnelaaGreatChecked
import Derived.WalkKit
namespace Go.Proofs.YtmdjoaipkbnelaaGreat
theorem pA (a : Act) (d : Nat) (v : Value) : a.put (some d) v = { a with tmps := a.tmps.setIfInBounds d v } := rfl
theorem pE (a : Act) (v : Value) : a.put none v = a := rfl
theorem pB {α : Type} (l : List α) (i : Nat) (a : α) : l.toArray.setIfInBounds i a = (l.set i a).toArray := List.setIfInBounds_toArray l i a
theorem pC {α : Type} (x : α) (l : List α) (a : α) : (x :: l).set 0 a = a :: l := List.set_cons_zero
theorem pD {α : Type} (x : α) (l : List α) (i : Nat) (a : α) : (x :: l).set (i + 1) a = x :: l.set i a := List.set_cons_succ
end Go.Proofs.YtmdjoaipkbnelaaGreat
