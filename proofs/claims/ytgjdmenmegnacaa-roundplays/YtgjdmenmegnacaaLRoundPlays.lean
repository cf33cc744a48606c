import Derived.Test.YtgjdmenmegnacaaOH
import Derived.Deep.DeepMust
import Derived.Deep.DeepCutAuto
namespace Go.Proofs.Ytgjdmenmegnacaa
open Go.RowKit
set_option linter.unusedVariables false

/-- One call of a script. -/
structure OpV where
  c : Int
  d : Int
  a : Nat
  b : Nat
  n : Int
/-- A slice of calls: what is read of it. -/
structure RdO (w : World) (ao : Option Addr) (len cap : Nat) (F : Nat → OpV) : Prop where
  le : len ≤ cap
  max : cap ≤ 9223372036854775807
  bnd : ∀ j, j < len → (-9223372036854775808 ≤ (F j).d ∧ (F j).d ≤ 9223372036854775807) ∧ (F j).a < 18446744073709551616 ∧ (F j).b < 18446744073709551616
  cells : len = 0 ∨ ∃ b off, ao = some ⟨b, off, none⟩ ∧ ∀ j, j < len → w.cell? ⟨b, off + 5 * j, none⟩ = some (.int .i64 (F j).c) ∧ w.cell? ⟨b, off + 5 * j + 1, none⟩ = some (.int .i64 (F j).d) ∧ w.cell? ⟨b, off + 5 * j + 2, none⟩ = some (.float .f64 (F j).a) ∧ w.cell? ⟨b, off + 5 * j + 3, none⟩ = some (.float .f64 (F j).b) ∧ w.cell? ⟨b, off + 5 * j + 4, none⟩ = some (.int .i64 (F j).n)
set_option maxRecDepth 100000 in
set_option maxHeartbeats 1000000 in
theorem roundPlays_walk (ao : Option Addr) (len cap : Nat) (F : Nat → OpV) (w : World) (hr : RdO w ao len cap F) :
    Calls Try.prog 7 #[.slice ao len cap] w fun e w' => e = .returned (.bool true) ∧ Below w.heap.size w w' := by
  have HR : Hid _ := hr
  have hlm : len ≤ 9223372036854775807 := by have := hr.le; have := hr.max; omega
  clear hr
  go_enter Try.func7, Try.ntmps7
  go_wp2_with fail
  go_loopw [3] (fun i wr => ∃ k : Nat, k ≤ len ∧ i = .int .i64 k ∧ Hid (Below w.heap.size w wr)) (fun i _ => len - (intOf i).toNat)
  case atStart => exact ⟨0, by omega, rfl, Below.refl _ _⟩
  case round =>
    obtain ⟨k, hk, rfl, hb⟩ := hrel
    by_cases hlt : k < len ∧ k < 200
    · obtain ⟨hl1, hl2⟩ := hlt
      have hd1 : decide ((k : Int) < (len : Int)) = true := decide_eq_true (by omega)
      have hd2 : decide ((k : Int) < 200) = true := decide_eq_true (by omega)
      obtain ⟨⟨bd0, bd1⟩, ba, bb⟩ := HR.out.bnd k hl1
      rcases HR.out.cells with h0 | ⟨b, off, rfl, hc⟩
      · omega
      obtain ⟨g0, g1, g2, g3, g4⟩ := hc k hl1
      have g0 := (hb.out.cell (World.block_lt_of_cell? w _ g0)).trans g0
      have g1 := (hb.out.cell (World.block_lt_of_cell? w _ g1)).trans g1
      have g2 := (hb.out.cell (World.block_lt_of_cell? w _ g2)).trans g2
      have g3 := (hb.out.cell (World.block_lt_of_cell? w _ g3)).trans g3
      have g4 := (hb.out.cell (World.block_lt_of_cell? w _ g4)).trans g4
      rw [show 5 * k = k * 5 from by omega] at g0 g1 g2 g3 g4
      clear hc
      generalize F k = o at *
      obtain ⟨oc, od, oa, ob, on⟩ := o
      simp only at g0 g1 g2 g3 g4 bd0 bd1 ba bb
      have hsf : ∀ (W : World) (a : Addr) (x : Nat), (store a (.float .f64 x)).run Try.prog W = stored Try.prog W a (.float .f64 x) .plain := fun W a x => run_store Try.prog W a _ .plain rfl
      go_wp2_with fail
      refine (one_any oc od oa ob on ba bb bd0 bd1 _).mono ?_
      rintro e w3 ⟨rfl, hb3⟩
      have HB3 : Hid (Below w.heap.size w w3) := (hb.out.alloc hb.out.size _).trans (hb3.mono (Nat.le_trans hb.out.size (by simp)))
      clear hb3 hsf
      go_wp2_with fail
      go_roundw
      case rel => exact ⟨k + 1, by omega, by go_num, HB3⟩
      case measure => simp [intOf]; omega
    · have hw : (decide ((k : Int) < (len : Int)) = false) ∨ (decide ((k : Int) < (len : Int)) = true ∧ decide ((k : Int) < 200) = false) := by
        by_cases h1 : k < len
        · exact .inr ⟨decide_eq_true (by omega), decide_eq_false (by omega)⟩
        · exact .inl (decide_eq_false (by omega))
      rcases hw with hd1 | ⟨hd1, hd2⟩
      all_goals go_wp2_with (first | (go_at_call 12; refine (started_any _).mono ?_; rintro e w2 ⟨rfl, rfl⟩))
      all_goals (go_ret; exact ⟨rfl, hb.out⟩)
end Go.Proofs.Ytgjdmenmegnacaa
