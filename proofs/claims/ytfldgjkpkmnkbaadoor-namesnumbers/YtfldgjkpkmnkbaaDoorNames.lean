import Derived.Test.YtfldgjkpkmnkbaaDoorShelfI
import Derived.Test.YtfldgjkpkmnkbaaDoorFloats
import Derived.Lib.AppendIntMem
import Derived.Lib.SmallJoins
import Derived.Deep.QuietTactic
import Derived.BigQuiet
import Derived.WalkLawsBesides
import Derived.WalkSpells
namespace Go.Proofs.YtfldgjkpkmnkbaaDoor
open Go.RowKit
set_option linter.unusedVariables false

def errsL : List Int := [0, 0, 1, 1, 2, 2, 10, 10, 11, 11, 12, 12, 13, 13, 14, 14, 15, 15, 16, 16, 60, 60, 61, 61, 62, 62, 63, 63, 64, 64, 65, 65, 66, 66, 67, 67, 68, 68, 69, 69, 80, 80, 81, 81, 82, 82, 90, 90, 91, 91, 92, 92, 100, 100, 140, 140, 180, 180, 190, 190, 200, 200, 201, 201, 202, 202, 220, 220, 221, 221, 222, 222]
def limitsL : List Int := [256, 256, 65536, 65536, 64, 64, 16, 16, 16, 16, 256, 256, 1073741824, 1073741824, 64, 64, 8, 8, 8, 8, 1024, 1024, 32, 32, 1048576, 1048576, 1048576, 1048576, 1100, 1100, 65536, 65536, 16, 16, 65536, 65536, 512, 512, 20, 20, 0, 0, 1, 1, 2, 2, 1, 1, 2, 2, 3, 3, 4, 4, 5, 5, 6, 6, 7, 7, 8, 8, 9, 9, 10, 10, 11, 11, 12, 12, 1, 1, 2, 2, 3, 3, 4, 4]
def namesL : List Int := errsL ++ limitsL

theorem Tryd.infoPair : (Tryd.prog.info? 25).map (fun i => (i.zero, i.size, i.bytes)) = some (some (.agg #[.int .i64 0, .int .i64 0]), 2, 16) := by kernel_rfl

/-- A slice of pairs that the call itself made. -/
def OwnP (w : World) (base : Nat) (v : Value) (n : Nat) (ys : List Int) : Prop := w.ownsRow base 25 2 v n (ys.map (Value.int .i64))
theorem OwnP.later {w w' : World} {base n : Nat} {v : Value} {ys : List Int} (h : OwnP w base v n ys) (hb : Below w.heap.size w w') : OwnP w' base v n ys := by
  refine ⟨h.1, ?_⟩
  rcases h.2 with h2 | ⟨g, cap, cur, hv, hg, hh, r⟩
  · exact .inl h2
  · exact .inr ⟨g, cap, cur, hv, hg, by rw [hb.block g (Array.getElem?_eq_some_iff.1 hh).1]; exact hh, r⟩
theorem OwnP.fresh (w : World) (ys : List Int) (n : Nat) (hl : ys.length = n * 2) (hn : n ≤ 1000) : OwnP (w.alloc (.cells (ys.map (Value.int .i64)).toArray 25)) w.heap.size (.slice (some ⟨w.heap.size, 0, none⟩) n n) n ys := by
  refine ⟨by simp [hl], .inr ⟨w.heap.size, n, _, rfl, Nat.le_refl _, heap_alloc_new w _, Nat.le_refl _, by simp only [maxLen]; omega, by simp [hl], ?_⟩⟩
  rw [List.take_of_length_le (by simp [hl])]

set_option maxRecDepth 100000 in
set_option maxHeartbeats 4000000 in
theorem errs_any (w : World) : Calls Tryd.prog 9 #[] w fun e w' => ∃ v, e = .returned v ∧ OwnP w' w.heap.size v 36 errsL ∧ Below w.heap.size w w' := by
  go_enter Tryd.func9, Tryd.ntmps9
  go_wp2
  go_ret
  exact ⟨_, rfl, OwnP.fresh w errsL 36 (by decide) (by decide), (Below.refl _ _).alloc (Nat.le_refl _) _⟩
set_option maxRecDepth 100000 in
set_option maxHeartbeats 4000000 in
theorem limits_any (w : World) : Calls Tryd.prog 10 #[] w fun e w' => ∃ v, e = .returned v ∧ OwnP w' w.heap.size v 39 limitsL ∧ Below w.heap.size w w' := by
  go_enter Tryd.func10, Tryd.ntmps10
  go_wp2
  go_ret
  exact ⟨_, rfl, OwnP.fresh w limitsL 39 (by decide) (by decide), (Below.refl _ _).alloc (Nat.le_refl _) _⟩

end Go.Proofs.YtfldgjkpkmnkbaaDoor
