import Derived.Test.YtpinpcefgbhdmaaDoorUints
namespace Go.Proofs.YtpinpcefgbhdmaaDoor
open Go.RowKit

set_option maxRecDepth 100000 in
set_option maxHeartbeats 400000 in
theorem refUint_pos (n : Nat) (hn : n ≤ 9223372036854775807) (w : World) :
    Calls Tryd.prog 12 #[.int .i64 n] w fun e w' => ∃ v, e = .returned (.tuple #[v, .int .i64 0]) ∧ Own w' w.heap.size v (grp n) ∧ Below w.heap.size w w' := by
  have hlen := grp_len 9 n (by omega) (by omega)
  have Hn : Hid ((grp n).length ≤ 9) := hlen
  clear hlen
  go_enter Tryd.func12, Tryd.ntmps12
  go_wp2
  go_loopw [0, 4] (fun i v wr => ∃ (m : Nat) (ys : List Int), m ≤ 9223372036854775807 ∧ i = .int .i64 m ∧ Own wr w.heap.size v ys ∧ Hid (ys ++ grp m = grp n) ∧ Below w.heap.size w wr) (fun i _ _ => (intOf i).toNat)
  case atStart => exact ⟨n, [], hn, rfl, Own.nil _ _, rfl, Below.refl _ _⟩
  case round =>
    obtain ⟨m, ys, hm, rfl, hown, he, hbel⟩ := hrel
    have hl : ys.length ≤ 9 := by have h := Hn.out; rw [← he.out, List.length_append] at h; omega
    have hsz := hbel.size
    by_cases hlt : m < 128
    · go_wp2_with (at_builtin; refine append_rd _ rfl _ _ rfl w.heap.size _ ys rfl (hown.alloc _) _ _ _ [(m : Int)] rfl (Rd.fresh1 _ _ (by omega) (by omega)) (by omega) (by simp; omega) ?_; intro v' w1 hown' hb1)
      go_ret2
      exact ⟨_, rfl, by rw [← he.out, grp_small m hlt]; exact hown', (hbel.alloc hsz _).trans hb1⟩
    · go_wp2_with (at_builtin; refine append_rd _ rfl _ _ rfl w.heap.size _ ys rfl (hown.alloc _) _ _ _ [128 + (m : Int) % 128] rfl (Rd.fresh1 _ _ (by omega) (by omega)) (by omega) (by simp; omega) ?_; intro v' w1 hown' hb1)
      go_roundw
      case rel => exact ⟨m / 128, ys ++ [128 + (m : Int) % 128], by omega, by go_num, hown', by unfold Hid; rw [← he.out, grp_big m hlt, List.append_assoc]; rfl, (hbel.alloc hsz _).trans hb1⟩
      case measure => simp [intOf]; omega

set_option maxRecDepth 100000 in
theorem refUint_any (n : Int) (_h0 : -9223372036854775808 ≤ n) (h1 : n ≤ 9223372036854775807) (w : World) :
    Calls Tryd.prog 12 #[.int .i64 n] w fun e w' => ∃ v, e = .returned (.tuple #[v, .int .i64 (uintE n)]) ∧ Own w' w.heap.size v (uintB n) ∧ Below w.heap.size w w' := by
  by_cases hn : n < 0
  · have hB : uintB n = [] := by unfold uintB; rw [if_pos hn]
    have hE : uintE n = 1 := by unfold uintE; rw [if_pos hn]
    rw [hB, hE]
    clear hB hE
    go_enter Tryd.func12, Tryd.ntmps12
    go_wp2
    go_ret2
    exact ⟨_, rfl, Own.nil _ _, Below.refl _ _⟩
  · have hB : uintB n = grp n.toNat := by unfold uintB; rw [if_neg hn]
    have hE : uintE n = 0 := by unfold uintE; rw [if_neg hn]
    rw [hB, hE]
    obtain ⟨m, rfl⟩ := Int.eq_ofNat_of_zero_le (show 0 ≤ n by omega)
    rw [Int.toNat_natCast]
    exact refUint_pos m (by omega) w
end Go.Proofs.YtpinpcefgbhdmaaDoor
