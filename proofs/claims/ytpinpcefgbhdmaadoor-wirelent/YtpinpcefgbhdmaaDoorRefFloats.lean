import Derived.Test.YtpinpcefgbhdmaaDoorFloats
namespace Go.Proofs.YtpinpcefgbhdmaaDoor
open Go.RowKit
set_option linter.unusedVariables false

theorem refNumber_any (u : Nat) (hu : u < 18446744073709551616) (w : World) : Calls Tryd.prog 33 #[.int .u64 u] w fun e w' => e = .returned (.bool (isNum u)) ∧ w' = w := by
  have HE : Hid _ := isNum_eq u hu
  go_enter Tryd.func33, Tryd.ntmps33
  go_wp2
  go_ret
  exact ⟨by rw [← HE.out]; rfl, rfl⟩

set_option maxRecDepth 100000 in
set_option maxHeartbeats 1000000 in
theorem refFloat_any (u : Nat) (hu : u < 18446744073709551616) (w : World) :
    Calls Tryd.prog 13 #[.int .u64 u] w fun e w' => ∃ v, e = .returned (.tuple #[v, .int .i64 (floatE u)]) ∧ Own w' w.heap.size v (floatB u) ∧ Below w.heap.size w w' := by
  cases hn : isNum u with
  | false =>
    have hB : floatB u = [] := by unfold floatB; rw [hn]; rfl
    have hE : floatE u = 15 := by unfold floatE; rw [hn]; rfl
    rw [hB, hE]
    have HN : Hid _ := hn
    clear hB hE hn
    go_enter Tryd.func13, Tryd.ntmps13
    go_wp2_with fail
    refine (refNumber_any u hu _).mono ?_
    rintro e w2 ⟨rfl, rfl⟩
    rw [HN.out]
    go_wp2
    go_ret2
    exact ⟨_, rfl, Own.nil _ _, Below.refl _ _⟩
  | true =>
    have hB : floatB u = low8 u 8 := by unfold floatB; rw [hn]; rfl
    have hE : floatE u = 0 := by unfold floatE; rw [hn]; rfl
    rw [hB, hE]
    have HN : Hid _ := hn
    clear hB hE hn
    go_enter Tryd.func13, Tryd.ntmps13
    go_wp2_with fail
    refine (refNumber_any u hu _).mono ?_
    rintro e w2 ⟨rfl, rfl⟩
    rw [HN.out]
    go_wp2
    go_loopw [0, 4, 5] (fun x v i wr => ∃ (k U : Nat) (zs : List Int), k ≤ 8 ∧ i = .int .i64 k ∧ x = .int .u64 U ∧ U < 18446744073709551616 ∧ zs.length ≤ 8 ∧ Own wr w2.heap.size v zs ∧ Hid (zs.length = k) ∧ Hid (zs ++ low8 U (8 - k) = low8 u 8) ∧ Below w2.heap.size w2 wr) (fun _ _ i _ => 8 - (intOf i).toNat)
    case atStart => exact ⟨0, u, [], by omega, rfl, rfl, hu, by simp, Own.nil _ _, rfl, rfl, Below.refl _ _⟩
    case round =>
      obtain ⟨k, U, zs, hk, rfl, rfl, hU, hzl, hown, hzk, he, hbel⟩ := hrel
      have hsz := hbel.size
      by_cases hlt : k < 8
      · have HN2 : Hid (low8 U (8 - k) = ((U % 256 : Nat) : Int) :: low8 (U / 256) (8 - (k + 1))) := by
          unfold Hid; rw [show 8 - k = (8 - (k + 1)) + 1 from by omega]; rfl
        go_wp2_with (at_builtin; refine append_rd _ rfl _ _ rfl w2.heap.size _ zs rfl (hown.alloc _) _ _ _ [(U : Int) % 256] rfl (Rd.fresh1 _ _ (by omega) (by omega)) (by omega) (by simp; omega) ?_; intro v' w1 hown' hb1)
        go_roundw
        case rel => exact ⟨k + 1, U / 256, zs ++ [(U : Int) % 256], by omega, by go_num, by go_num, by omega, by simp [hzk.out]; omega, hown', by unfold Hid; simp [hzk.out], by unfold Hid; rw [← he.out, HN2.out, List.append_assoc]; rfl, (hbel.alloc hsz _).trans hb1⟩
        case measure => simp [intOf]; omega
      · have hk8 : k = 8 := by omega
        have HE : Hid (zs = low8 u 8) := by
          unfold Hid; rw [← he.out, hk8, Nat.sub_self]; simp [low8]
        have hk8' : 8 ≤ k := by omega
        clear hk8
        go_wp2
        go_ret2
        exact ⟨_, rfl, by rw [← HE.out]; exact hown, hbel⟩
end Go.Proofs.YtpinpcefgbhdmaaDoor
