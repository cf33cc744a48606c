import Derived.Test.YtbncdcenckagcaaGreatMU
namespace Go.Proofs.YtbncdcenckagcaaGreat
open Go.RowKit
set_option linter.unusedVariables false

/-- The span of the reals from X to Y (units of 2^-1074), if there are some. -/
def MkR (X Y : Int) (r : Nat × Nat × Bool) : Prop := if X ≤ Y then SpR X Y 1 r else r = (0, 0, true)
theorem makeS_R {x y : Nat} (hx : x < 18446744073709551616) (hy : y < 18446744073709551616) (fx : Fin x) (fy : Fin y) : MkR (fval x) (fval y) (makeS x y) := by
  unfold MkR makeS
  have h := srung_le x y
  by_cases hg : Good x y false
  · rw [if_pos hg, if_pos (h.1 hg.2.2.2)]
    exact ⟨(plainM x, true), (plainM y, true), RndZ.plain 2 hx fx (by decide), RndZ.plain 1 hy fy (by decide), by unfold spOf; rw [if_pos ⟨rfl, rfl⟩]⟩
  · rw [if_neg hg, if_neg (fun c => hg ⟨rfl, fx, fy, h.2 c⟩)]
def BinR (P : Nat × Nat × Bool → Prop) (al ah bl bh : Nat) (ab bb : Bool) (r : Nat × Nat × Bool) : Prop := if Good al ah ab ∧ Good bl bh bb then P r else r = (0, 0, true)
theorem otherSide_any (d : Int) (lo hi : Nat) (bad : Bool) (w : World) :
    Calls Tryz.prog 27 #[.int .i64 d, .agg #[.float .f64 lo, .float .f64 hi, .bool bad]] w fun e w' => e = .returned (.float .f64 (if d = 2 then hi else lo)) ∧ Below w.heap.size w w' := by
  by_cases hd : d = 2
  · subst hd
    go_enter Tryz.func27, Tryz.ntmps27
    go_wp2
    go_ret
    exact ⟨rfl, (Below.refl _ w).alloc (Nat.le_refl _) _⟩
  · have hdd : (d == 2) = false := by simpa using hd
    rw [if_neg hd]
    go_enter Tryz.func27, Tryz.ntmps27
    go_wp2
    go_ret
    exact ⟨rfl, (Below.refl _ w).alloc (Nat.le_refl _) _⟩
end Go.Proofs.YtbncdcenckagcaaGreat
