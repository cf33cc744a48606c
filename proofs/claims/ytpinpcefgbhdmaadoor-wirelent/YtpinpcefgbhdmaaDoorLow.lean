import Derived.Test.YtpinpcefgbhdmaaDoorSum
namespace Go.Proofs.YtpinpcefgbhdmaaDoor
open Go.RowKit
set_option linter.unusedVariables false

/-- The lowest n bytes of u, the lowest first. -/
def low8 (u : Nat) : Nat → List Int
  | 0 => []
  | n + 1 => ((u % 256 : Nat) : Int) :: low8 (u / 256) n
theorem low8_len (n : Nat) : ∀ u, (low8 u n).length = n := by
  induction n with
  | zero => intro u; rfl
  | succ n ih => intro u; simp [low8, ih]
theorem low8_byt (n : Nat) : ∀ u, Byt (low8 u n) := by
  induction n with
  | zero => intro u; exact Byt.nil
  | succ n ih => intro u; exact Byt.cons (by omega) (by omega) (ih _)
theorem shr8 (m : Nat) : (m : Int) >>> 8 = ((m / 256 : Nat) : Int) := by
  show ((m >>> 8 : Nat) : Int) = _
  rw [Nat.shiftRight_eq_div_pow]

set_option maxRecDepth 100000 in
set_option maxHeartbeats 1000000 in
/-- appendLow -/
theorem appendLow_any (v : Value) (ys : List Int) (u cnt base : Nat) (w : World) (hown : Own w base v ys) (hbase : base ≤ w.heap.size) (hu : u < 18446744073709551616) (hc : cnt ≤ 8) (hl : ys.length ≤ 35184372088832) :
    Calls Tryd.prog 25 #[v, .int .u64 u, .int .i64 cnt] w fun e w' => ∃ v', e = .returned v' ∧ Own w' base v' (ys ++ low8 u cnt) ∧ Below base w w' := by
  have HO : Hid (Own w base v ys) := hown
  clear hown
  go_enter Tryd.func25, Tryd.ntmps25
  go_wp2
  go_loopw [0, 1, 8] (fun v x i wr => ∃ (k U : Nat) (zs : List Int), k ≤ cnt ∧ i = .int .i64 k ∧ x = .int .u64 U ∧ U < 18446744073709551616 ∧ zs.length = k ∧ Own wr base v (ys ++ zs) ∧ Hid (zs ++ low8 U (cnt - k) = low8 u cnt) ∧ Below base w wr) (fun _ _ i _ => cnt - (intOf i).toNat)
  case atStart => exact ⟨0, u, [], by omega, rfl, rfl, hu, rfl, by rw [List.append_nil]; exact HO.out, rfl, Below.refl _ _⟩
  case round =>
    obtain ⟨k, U, zs, hk, rfl, rfl, hU, hzl, hown, he, hbel⟩ := hrel
    have hsz := hbel.size
    have HZ : Hid (zs.length = k) := hzl
    clear hzl
    by_cases hlt : k < cnt
    · have hsh := shr8 U
      have HN : Hid (low8 U (cnt - k) = ((U % 256 : Nat) : Int) :: low8 (U / 256) (cnt - (k + 1))) := by
        unfold Hid; rw [show cnt - k = (cnt - (k + 1)) + 1 from by omega]; rfl
      go_wp2_with (at_builtin; refine append_rd _ rfl _ _ rfl base _ (ys ++ zs) rfl (hown.alloc _) _ _ _ [(U : Int) % 256] rfl (Rd.fresh1 _ _ (by omega) (by omega)) (by simp [HZ.out]; omega) (by simp; omega) ?_; intro v' w1 hown' hb1)
      go_roundw
      case rel => exact ⟨k + 1, U / 256, zs ++ [(U : Int) % 256], by omega, by go_num, by go_num, by omega, by simp [HZ.out], by rw [← List.append_assoc]; exact hown', by unfold Hid; rw [← he.out, HN.out, List.append_assoc]; rfl, (hbel.alloc (by omega) _).trans hb1⟩
      case measure => simp [intOf]; omega
    · have hkc : k = cnt := by omega
      have HE : Hid (zs = low8 u cnt) := by
        unfold Hid; rw [← he.out, hkc, Nat.sub_self]; simp [low8]
      clear hkc
      go_wp2
      go_ret
      exact ⟨_, rfl, by rw [← HE.out]; exact hown, hbel⟩
end Go.Proofs.YtpinpcefgbhdmaaDoor
