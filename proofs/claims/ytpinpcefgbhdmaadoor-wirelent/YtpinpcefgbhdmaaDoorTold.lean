import Derived.Test.YtpinpcefgbhdmaaDoorUints
import Derived.Test.YtpinpcefgbhdmaaDoorReadUint
import Derived.Test.YtpinpcefgbhdmaaDoorFrame
import Derived.Test.YtpinpcefgbhdmaaDoorSame
import Derived.Lib.OthersKept
import Derived.Test.YtpinpcefgbhdmaaDoorStr
namespace Go.Proofs.YtpinpcefgbhdmaaDoor
open Go.RowKit
set_option linter.unusedVariables false

def eAcute : ByteArray := ⟨#[195, 169]⟩

set_option maxRecDepth 100000 in
set_option maxHeartbeats 1000000 in
theorem runes_e (w : World) :
    Calls Tryd.prog 27 #[.string ⟨#[195, 169]⟩] w fun e w' => e = .returned (.tuple #[.int .i64 1, .bool true]) ∧ Below w.heap.size w w' := by
  have hn0 := fun ty => Lib.run_next_any_at (P := Tryd.prog) (w.iter ⟨#[195, 169]⟩ 0) w.heap.size ⟨#[195, 169]⟩ 0 ty (World.iter_heap _ _ _) (by decide)
  have hd : Utf8.decode ⟨#[195, 169]⟩ 0 = (233, 2) := by decide
  rw [hd] at hn0
  clear hd
  have hn1 := fun ty => Lib.run_next_end_at (P := Tryd.prog) ((w.iter ⟨#[195, 169]⟩ 0).iterAt w.heap.size ⟨#[195, 169]⟩ 2) w.heap.size ⟨#[195, 169]⟩ 2 ty (Lib.iterAt_heap _ _ _ 0 _ (World.iter_heap _ _ _)) (by decide)
  go_enter Tryd.func27, Tryd.ntmps27
  go_wp2
  refine wp_loop_rounds 2 ?_
  rw [rounds_succ]
  go_wp2
  rw [rounds_succ]
  go_wp2
  go_ret2
  refine ⟨rfl, ?_⟩
  exact Lib.below_iterAt ((Below.refl _ _).alloc (Nat.le_refl _) _) (Nat.le_refl _) _ _

set_option maxRecDepth 100000 in
set_option maxHeartbeats 1000000 in
theorem readText_e (a : Option Addr) (c : Nat) (w : World) (hr : Rd w a 3 c [2, 195, 169]) :
    Calls Tryd.prog 19 #[.slice a 3 c, .int .i64 0, .int .i64 2] w fun e w' => e = .returned (.tuple #[.string ⟨#[195, 169]⟩, .int .i64 3, .int .i64 0]) ∧ Below w.heap.size w w' := by
  have HR : Hid (Rd w a 3 c [2, 195, 169]) := hr
  obtain ⟨a', l', c', hcut, hr'⟩ := cut_mid hr 1 3 (by omega) (by omega)
  have hcut' : ∀ w, (Instr.slice 23 (.slice a 3 c) (some (.int .i64 1)) (some (.int .i64 3)) none).run Tryd.prog w = .ok (.slice a' l' c') w := hcut
  have HR' : Hid (Rd w a' l' c' [195, 169]) := hr'
  clear hr hr' hcut
  go_enter Tryd.func19, Tryd.ntmps19
  go_wp2_with fail
  refine (outside_any _ _ _ _ _ (by omega) false (by decide)).mono ?_
  rintro e w' ⟨rfl, rfl⟩
  go_wp2_with fail
  refine (readUint_any _ _ _ _ _ _ HR.out).mono ?_
  rintro e w1 ⟨rfl, hb1⟩
  have hu : rdU [2, 195, 169] 0 = (2, 1, 0) := by decide
  rw [hu]
  clear hu
  unfold rdV
  have hconv := str_of (HR'.out.later hb1)
  have hs : strB [195, 169] = ⟨#[195, 169]⟩ := by decide
  rw [hs] at hconv
  clear hs
  go_wp2_with fail
  refine (runes_e _).mono ?_
  rintro e w2 ⟨rfl, hb2⟩
  go_wp2
  go_ret3
  exact ⟨rfl, below_trans hb1 hb2⟩

theorem own_nil_rd (w : World) : Rd w none 0 0 [] := ⟨rfl, Nat.le_refl _, by decide, Byt.nil, fun _ => rfl, .inl rfl⟩

set_option maxRecDepth 100000 in
set_option maxHeartbeats 2000000 in
theorem told_any (w : World) : Calls Tryd.prog 4 #[] w fun e w' => e = .returned (.bool true) ∧ Below w.heap.size w w' := by
  go_enter Tryd.func4, Tryd.ntmps4
  go_wp2_with fail
  refine (uint_any 300 (by decide) (by decide) _).mono ?_
  rintro e w1 ⟨v1, rfl, hO1, hB1⟩
  have e1 : uintE 300 = 0 := rfl
  have e2 : uintB 300 = [172, 2] := by
    unfold uintB; rw [if_neg (by decide), show (300 : Int).toNat = 300 from rfl, grp_big 300 (by decide), grp_small (300 / 128) (by decide)]; rfl
  rw [e1]
  rw [e2] at hO1
  clear e1 e2
  obtain ⟨a1, L1, c1, rfl, hr1⟩ := hO1.rd' (by intro x hx; simp at hx; omega)
  have HR1 : Hid _ := hr1
  clear hO1 hr1
  go_wp2_with fail
  refine (readUint_any _ _ _ _ _ _ (Rd.fresh _ [172, 2] (by intro x hx; simp at hx; omega) (by simp))).mono ?_
  rintro e w2 ⟨rfl, hb2⟩
  have hu : rdU [172, 2] 0 = (300, 2, 0) := by decide
  rw [hu]
  clear hu
  unfold rdV
  have hB2 : Below w1.heap.size w1 w2 := below_trans ((Below.refl _ _).alloc (Nat.le_refl _) _) hb2
  clear hb2
  go_wp2_with fail
  refine (frame_small none 0 0 [] _ (own_nil_rd _) (by decide)).mono ?_
  rintro e w3 ⟨v3, rfl, hO3, hB3⟩
  obtain ⟨a3, L3, c3, rfl, hr3⟩ := hO3.rd' (frame_byt Byt.nil)
  have HR3 : Hid _ := hr3
  clear hO3 hr3
  go_wp2_with fail
  refine (refFrame_small none 0 0 [] _ (own_nil_rd _) (by decide)).mono ?_
  rintro e w4 ⟨v4, rfl, hO4, hB4⟩
  obtain ⟨a4, L4, c4, rfl, hr4⟩ := hO4.rd' (frame_byt Byt.nil)
  have HR4 : Hid _ := hr4
  clear hO4 hr4
  go_wp2_with fail
  refine (readText_e _ _ _ (Rd.fresh _ [2, 195, 169] (by intro x hx; simp at hx; omega) (by simp))).mono ?_
  rintro e w5 ⟨rfl, hb5⟩
  have hB5 : Below w4.heap.size w4 w5 := below_trans ((Below.refl _ _).alloc (Nat.le_refl _) _) hb5
  clear hb5
  have HB15 : Hid (Below w1.heap.size w1 w5) := below_trans hB2 (below_trans hB3 (below_trans hB4 hB5))
  have HB05 : Hid (Below w.heap.size w w5) := below_trans hB1 HB15.out
  have HR35 : Hid _ := HR3.out.later (below_trans hB4 hB5)
  have HR45 : Hid _ := HR4.out.later hB5
  clear hB1 hB2 hB3 hB4 hB5
  go_wp2_with fail
  refine (same_any _ _ _ _ _ _ [172, 2] [172, 2] _ (HR1.out.later (below_trans HB15.out ((Below.refl _ _).alloc (Nat.le_refl _) _))) (Rd.fresh _ [172, 2] (by intro x hx; simp at hx; omega) (by simp))).mono ?_
  rintro e w6 ⟨rfl, hb6⟩
  have hd : decide (([172, 2] : List Int) = [172, 2]) = true := by decide
  rw [hd]
  clear hd
  have HB56 : Hid (Below w5.heap.size w5 w6) := below_trans ((Below.refl _ _).alloc (Nat.le_refl _) _) hb6
  clear hb6
  go_wp2_with fail
  refine (same_any _ _ _ _ _ _ (frameB []) (frameB []) _ (HR35.out.later HB56.out) (HR45.out.later HB56.out)).mono ?_
  rintro e w7 ⟨rfl, hb7⟩
  have hd : decide (frameB [] = frameB []) = true := by simp
  rw [hd]
  clear hd
  go_wp2
  go_ret
  exact ⟨rfl, below_trans HB05.out (below_trans HB56.out hb7)⟩
end Go.Proofs.YtpinpcefgbhdmaaDoor
