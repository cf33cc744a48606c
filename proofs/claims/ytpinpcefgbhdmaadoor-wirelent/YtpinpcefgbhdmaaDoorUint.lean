import Derived.Test.YtpinpcefgbhdmaaDoorMem
import Derived.Laws.BitsAllLaws
namespace Go.Proofs.YtpinpcefgbhdmaaDoor
open Go.RowKit

theorem low7 (m : Nat) : bits .or .u8 ((m : Int) % 256) 128 = ((128 + m % 128 : Nat) : Int) := by
  by_cases h : m % 256 < 128
  · rw [u8_or128_right _ (by omega) (by omega)]; omega
  · have e : (m : Int) % 256 = ((m % 256 : Nat) : Int) := by omega
    have k := u8_or_nat (m % 256) 128 (by omega) (by omega)
    rw [e, show ((128 : Int)) = ((128 : Nat) : Int) from rfl, k]
    have : m % 256 = 128 + m % 128 := by omega
    rw [this]
    have q : ∀ x : Fin 128, (128 + x.val) ||| 128 = 128 + x.val := by decide
    rw [q ⟨m % 128, by omega⟩]
theorem shr7 (m : Nat) : (m : Int) >>> 7 = ((m / 128 : Nat) : Int) := by
  show ((m >>> 7 : Nat) : Int) = _
  rw [Nat.shiftRight_eq_div_pow]

theorem make9 (w : World) : (Instr.makeSlice 23 (.int .i64 0) (.int .i64 9)).run Tryd.prog w = .ok (.slice (some ⟨w.heap.size, 0, none⟩) 0 9) (w.alloc (.cells (Array.replicate 9 (.int .u8 0)) 5)) := by kernel_rfl

set_option maxRecDepth 100000 in
set_option maxHeartbeats 400000 in
theorem groups_any (n : Nat) (hn : n ≤ 9223372036854775807) (w : World) :
    Calls Tryd.prog 22 #[.int .i64 n] w fun e w' => ∃ v, e = .returned v ∧ Own w' w.heap.size v (grp n) ∧ Below w.heap.size w w' := by
  have hmk := make9
  have hlen := grp_len 9 n (by omega) (by omega)
  have Hn : Hid ((grp n).length ≤ 9) := hlen
  clear hlen
  go_enter Tryd.func22, Tryd.ntmps22
  go_wp2
  go_loopw [0, 3] (fun i v wr => ∃ (m : Nat) (ys : List Int), m ≤ 9223372036854775807 ∧ i = .int .i64 m ∧ Own wr w.heap.size v ys ∧ Hid (ys ++ grp m = grp n) ∧ Below w.heap.size w wr) (fun i _ _ => (intOf i).toNat)
  case atStart => 
    exact ⟨n, [], hn, rfl, World.ownsRow_made w _ 9 (Nat.le_refl _) (by decide) (by simp), rfl, (Below.refl _ _).alloc (Nat.le_refl _) _⟩
  case round =>
    obtain ⟨m, ys, hm, rfl, hown, he, hbel⟩ := hrel
    clear hmk
    have hl : ys.length ≤ 9 := by have h := Hn.out; rw [← he.out, List.length_append] at h; omega
    have hsz := hbel.size
    by_cases hlt : m < 128
    · go_wp2_with (at_builtin; refine append_rd _ rfl _ _ rfl w.heap.size _ ys rfl (hown.alloc _) _ _ _ [(m : Int)] rfl (Rd.fresh1 _ _ (by omega) (by omega)) (by omega) (by simp; omega) ?_; intro v' w1 hown' hb1)
      go_ret
      exact ⟨_, rfl, by rw [← he.out, grp_small m hlt]; exact hown', (hbel.alloc hsz _).trans hb1⟩
    · have hb : Hid (bits .or .u8 ((m : Int) % 256) 128 = ((128 + m % 128 : Nat) : Int)) := low7 m
      have hsh := shr7 m
      go_wp2_with (at_builtin; refine append_rd _ rfl _ _ rfl w.heap.size _ ys rfl (hown.alloc _) _ _ _ [bits .or .u8 ((m : Int) % 256) 128] rfl (Rd.fresh1 _ _ (by rw [hb.out]; omega) (by rw [hb.out]; omega)) (by omega) (by simp; omega) ?_; intro v' w1 hown' hb1)
      go_roundw
      case rel => exact ⟨m / 128, ys ++ [((128 + m % 128 : Nat) : Int)], by omega, by go_num, by rw [← hb.out]; exact hown', by unfold Hid; rw [← he.out, grp_big m hlt, List.append_assoc]; rfl, (hbel.alloc hsz _).trans hb1⟩
      case measure => simp [intOf]; omega
end Go.Proofs.YtpinpcefgbhdmaaDoor
