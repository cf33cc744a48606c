import Derived.Test.YtpinpcefgbhdmaaDoorMem
import Derived.Test.YtpinpcefgbhdmaaDoorCrc
import Derived.Laws.Tables
namespace Go.Proofs.YtpinpcefgbhdmaaDoor
open Go.RowKit
set_option linter.unusedVariables false

/-- The table's first k numbers, the rest still 0. -/
def tabTo (k : Nat) : Array Value := ((List.range 16).map fun i => if i < k then Value.int .u32 ((stp4 i : Nat) : Int) else .int .u32 0).toArray
theorem tab_size (k : Nat) : (tabTo k).size = 16 := by simp [tabTo]
theorem tab_at (k j : Nat) (hj : j < 16) : (tabTo k)[j]? = some (if j < k then Value.int .u32 ((stp4 j : Nat) : Int) else .int .u32 0) := by
  simp [tabTo, hj]
theorem tab_set (k : Nat) (hk : k < 16) : (tabTo k).setIfInBounds k (.int .u32 ((stp4 k : Nat) : Int)) = tabTo (k + 1) := by
  apply Array.ext_getElem?
  intro j
  by_cases hj : j < 16
  · rw [Array.getElem?_setIfInBounds, tab_size, tab_at k j hj, tab_at (k + 1) j hj]
    by_cases h : k = j
    · subst h; rw [if_pos rfl, if_pos hk, if_pos (by omega)]
    · rw [if_neg h]
      by_cases h2 : j < k
      · rw [if_pos h2, if_pos (by omega)]
      · rw [if_neg h2, if_neg (by omega)]
  · rw [Array.getElem?_eq_none (by simp [tab_size]; omega), Array.getElem?_eq_none (by simp [tab_size]; omega)]
theorem tab_one (k : Nat) : (tabTo k).all (·.oneCell') = true := by
  rw [Array.all_eq_true_iff_forall_mem]
  intro v hv
  simp only [tabTo, List.mem_toArray, List.mem_map] at hv
  obtain ⟨i, _, rfl⟩ := hv
  split <;> rfl

def stpTo (k : Nat) : Nat → Nat
  | 0 => k
  | m + 1 => stp (stpTo k m)

/-- The two blocks while the table is filled. -/
structure TabW (w wr : World) (k : Nat) : Prop where
  tab : wr.heap[w.heap.size + 1]? = some (.cells (tabTo k) 67 (0, 0))
  res : wr.heap[w.heap.size]? = some (.cells (tabTo 0) 67 (0, 0))
  bel : Below w.heap.size w wr

theorem TabW.step {w wr : World} {k : Nat} (h : TabW w wr k) (hk : k < 16) : TabW w (wr.setCell ⟨w.heap.size + 1, k, none⟩ (.int .u32 ((stp4 k : Nat) : Int))) (k + 1) := by
  refine ⟨?_, ?_, ?_⟩
  · rw [heap_setCell_same _ _ _ _ _ _ h.tab, tab_set k hk]
  · rw [heap_setCell_other _ _ _ _ (by simp)]; exact h.res
  · exact h.bel.setCell (by simp) _

theorem and1 (R : Nat) (h : R < 4294967296) : bits .and .u32 (R : Int) 1 = ((R % 2 : Nat) : Int) := by
  have k := u32_and_nat R 1 h (by decide)
  rw [show ((1 : Nat) : Int) = 1 from rfl] at k
  rw [k, Nat.and_one_is_mod]
theorem xorP (R : Nat) (h : R < 4294967296) : bits .xor .u32 (R : Int) 2197175160 = ((R ^^^ 2197175160 : Nat) : Int) := by
  have k := u32_xor_nat R 2197175160 h (by decide)
  exact k

set_option maxRecDepth 100000 in
set_option maxHeartbeats 1000000 in
theorem table_any (w : World) :
    Calls Tryd.prog 38 #[] w fun e w' => e = .returned (.agg (tabTo 16)) ∧ Below w.heap.size w w' := by
  go_enter Tryd.func38, Tryd.ntmps38
  go_wp2
  go_loopw [4] (fun i wr => ∃ k : Nat, k ≤ 16 ∧ i = .int .i64 k ∧ Hid (TabW w wr k)) (fun i _ => 16 - (intOf i).toNat)
  case atStart => exact ⟨0, by omega, rfl, heap_alloc2_new _ _ _, heap_alloc2_old _ _ _, ((Below.refl _ _).alloc (Nat.le_refl _) _).alloc (by simp) _⟩
  case round =>
    obtain ⟨k, hk, rfl, hT⟩ := hrel
    by_cases hlt : k < 16
    · have hcell : wr.cell? ⟨w.heap.size + 1, k, none⟩ = some (.int .u32 0) := by
        rw [cell_of_row _ _ _ _ _ _ hT.out.tab, tab_at k k hlt, if_neg (by omega)]
      have hfz : wr.frozen? ⟨w.heap.size + 1, k, none⟩ = false := frozen_of_row _ _ _ _ _ hT.out.tab
      go_wp2
      go_loop [3, 9] (fun r j => ∃ (m R : Nat), m ≤ 4 ∧ j = .int .i64 m ∧ r = .int .u32 R ∧ R < 4294967296 ∧ Hid (R = stpTo k m)) (fun _ j => 4 - (intOf j).toNat)
      case atStart => exact ⟨0, k, by omega, rfl, rfl, by omega, rfl⟩
      case round =>
        obtain ⟨m, R, hm, rfl, rfl, hR, hRe⟩ := hrel
        by_cases hm4 : m < 4
        · have H1 : Hid (bits .and .u32 (R : Int) 1 = _) := and1 R hR
          have H2 : Hid (bits .xor .u32 ((R / 2 : Nat) : Int) 2197175160 = _) := xorP (R / 2) (by omega)
          rcases Nat.mod_two_eq_zero_or_one R with h | h
          · have ht : (bits .and .u32 (R : Int) 1 == 1) = false := by rw [H1.out, h]; rfl
            have HS : Hid (stp R = R / 2) := by unfold Hid stp; rw [if_neg (by omega)]
            clear h
            go_wp2
            go_round
            case rel => exact ⟨m + 1, R / 2, by omega, by go_num, by go_num, by omega, by unfold Hid; rw [stpTo, ← hRe.out, HS.out]⟩
            case measure => simp [intOf]; omega
          · have ht : (bits .and .u32 (R : Int) 1 == 1) = true := by rw [H1.out, h]; rfl
            have HS : Hid (stp R = (R / 2) ^^^ 2197175160) := by unfold Hid stp; rw [if_pos h]
            clear h
            go_wp2
            go_round
            case rel => exact ⟨m + 1, (R / 2) ^^^ 2197175160, by omega, by go_num, by rw [← H2.out]; rfl, xor_lt32 (by omega) (by decide), by unfold Hid; rw [stpTo, ← hRe.out, HS.out]⟩
            case measure => simp [intOf]; omega
        · have hm' : m = 4 := by omega
          subst hm'
          have e : R = stp4 k := hRe.out
          subst e
          go_wp2
          go_roundw
          case rel => exact ⟨k + 1, by omega, by go_num, hT.out.step hlt⟩
          case measure => simp [intOf]; omega
    · have hk16 : k = 16 := by omega
      subst hk16
      go_wp2_with (first | (refine wpList_load_row rfl 67 _ rfl (w.heap.size + 1) rfl 67 _ (0, 0) _ hT.out.tab Tryd.underlying67 rfl (by kernel_rfl) ?_) | (refine wpList_store_row rfl 67 _ _ rfl w.heap.size (tabTo 16) rfl rfl 67 _ hT.out.res (by kernel_rfl) rfl (tab_one 16) ?_))
      exact bodyPost_ret (v := .agg (tabTo 16)) (results_cell_row (by rfl) _ _ w.heap.size 67 (tabTo 16) (0, 0) _ rfl (setRow_heap _ _ _ _ _ _ hT.out.res) Tryd.underlying67 rfl (by kernel_rfl)) rfl ⟨rfl, hT.out.bel.trans ⟨rfl, rfl, rfl, by simp, fun k hk => setRow_other _ _ _ _ (by omega)⟩⟩
end Go.Proofs.YtpinpcefgbhdmaaDoor
