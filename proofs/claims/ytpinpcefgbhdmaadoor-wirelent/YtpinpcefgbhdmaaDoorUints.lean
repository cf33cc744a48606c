import Derived.Test.YtpinpcefgbhdmaaDoorUint
namespace Go.Proofs.YtpinpcefgbhdmaaDoor
open Go.RowKit

def uintB (n : Int) : List Int := if n < 0 then [] else grp n.toNat
def uintE (n : Int) : Int := if n < 0 then 1 else 0
theorem uintB_byt (n : Int) : Byt (uintB n) := by
  unfold uintB; split
  · exact Byt.nil
  · exact grp_byt _

set_option maxRecDepth 100000 in
set_option maxHeartbeats 400000 in
theorem uint_any (n : Int) (h0 : -9223372036854775808 ≤ n) (h1 : n ≤ 9223372036854775807) (w : World) :
    Calls Tryd.prog 6 #[.int .i64 n] w fun e w' => ∃ v, e = .returned (.tuple #[v, .int .i64 (uintE n)]) ∧ Own w' w.heap.size v (uintB n) ∧ Below w.heap.size w w' := by
  by_cases hn : n < 0
  · have hB : uintB n = [] := by unfold uintB; rw [if_pos hn]
    have hE : uintE n = 1 := by unfold uintE; rw [if_pos hn]
    rw [hB, hE]
    clear hB hE
    go_enter Tryd.func6, Tryd.ntmps6
    go_wp2
    go_ret2
    exact ⟨_, rfl, Own.nil _ _, Below.refl _ _⟩
  · have hB : uintB n = grp n.toNat := by unfold uintB; rw [if_neg hn]
    have hE : uintE n = 0 := by unfold uintE; rw [if_neg hn]
    rw [hB, hE]
    clear hB hE
    obtain ⟨m, rfl⟩ := Int.eq_ofNat_of_zero_le (show 0 ≤ n by omega)
    rw [Int.toNat_natCast]
    go_enter Tryd.func6, Tryd.ntmps6
    go_wp2_with fail
    refine (groups_any m (by omega) _).mono ?_
    rintro e w' ⟨v, rfl, ho, hb⟩
    go_wp2
    go_ret2
    exact ⟨_, rfl, ho, hb⟩

end Go.Proofs.YtpinpcefgbhdmaaDoor
