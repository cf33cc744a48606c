import Derived.Test.YtigaggkipmcgeaaRH
import Derived.Test.YtigaggkipmcgeaaPur
namespace Go.Proofs.Ytigaggkipmcgeaa
open Go.RowKit
set_option linter.unusedVariables false

theorem run_neg (x : Nat) : ∀ w, (Op.unary .neg (.float .f64 x)).run Try.prog w = .ok (.float .f64 (fopp x)) w := fun w => rfl

theorem qside_inf {a b q : Nat} (hq : q < 18446744073709551616) (hi : ¬ Fin q) (w : World) :
    Calls Try.prog 137 #[.float .f64 a, .float .f64 b, .float .f64 q] w fun e w' => e = .returned (.float .f64 (fopp q)) ∧ w' = w := by
  have hd : decide (Fin q) = false := decide_eq_false hi
  have hn := run_neg q
  go_enter Try.func137, Try.ntmps137
  go_wp2_with (first
    | (go_at_call 116; refine (number_any q hq _).mono ?_; rintro e w' ⟨rfl, rfl⟩; rw [hd]))
  go_ret
  exact ⟨rfl, rfl⟩
theorem qside_fin {a b q x y fx fy q' high low d r : Nat} {n m : Int} (hq : q < 18446744073709551616) (hf : Fin q) (hb : frung b ≤ infK) (hxy : (x, y) = if srung b < 0 then (fopp a, fopp b) else (a, b))
    (bn : -1073 ≤ n ∧ n ≤ 1024) (bm : -1073 ≤ m ∧ m ≤ 1024)
    (ca : ∀ w, Calls Try.prog 144 #[.float .f64 x] w fun e w' => e = .returned (.tuple #[.float .f64 fx, .int .i64 n]) ∧ w' = w)
    (cb : ∀ w, Calls Try.prog 144 #[.float .f64 y] w fun e w' => e = .returned (.tuple #[.float .f64 fy, .int .i64 m]) ∧ w' = w)
    (cl : ∀ w, Calls Try.prog 108 #[.float .f64 q, .int .i64 (m - n)] w fun e w' => e = .returned (.float .f64 q') ∧ w' = w)
    (hP : Prd q' fy 4728779608772575232 high low) (hd : Ieee.double.sub fx high = some d) (hr : Ieee.double.sub d low = some r) (w : World) :
    Calls Try.prog 137 #[.float .f64 a, .float .f64 b, .float .f64 q] w fun e w' => e = .returned (.float .f64 r) ∧ w' = w := by
  have hdq : decide (Fin q) = true := decide_eq_true hf
  have hlt : (FloatKind.f64.format.order b 0 == some .lt) = decide (srung b < 0) := ord_lt hb (by decide)
  have r1 := run_sub hd
  have r2 := run_sub hr
  have HP : Hid _ := hP
  obtain ⟨b1, b2⟩ := bn
  obtain ⟨b3, b4⟩ := bm
  clear hd hP hr
  by_cases h0 : srung b < 0
  · simp only [h0, decide_true] at hlt
    rw [if_pos h0] at hxy
    simp only [Prod.mk.injEq] at hxy
    obtain ⟨rfl, rfl⟩ := hxy
    have hn1 := run_neg a
    have hn2 := run_neg b
    go_enter Try.func137, Try.ntmps137
    go_wp2_with (first
      | (go_at_call 116; refine (number_any q hq _).mono ?_; rintro e w' ⟨rfl, rfl⟩; rw [hdq])
      | (go_at_call_of 144 (Value.float FloatKind.f64 (fopp a)); refine (ca _).mono ?_; rintro e w' ⟨rfl, rfl⟩)
      | (go_at_call_of 144 (Value.float FloatKind.f64 (fopp b)); refine (cb _).mono ?_; rintro e w' ⟨rfl, rfl⟩)
      | (go_at_call 145; refine (product_any HP.out _).mono ?_; rintro e w' ⟨rfl, rfl⟩)
      | (go_at_call 108; refine (cl _).mono ?_; rintro e w' ⟨rfl, rfl⟩))
    all_goals (go_ret; exact ⟨rfl, rfl⟩)
  · simp only [h0, decide_false] at hlt
    rw [if_neg h0] at hxy
    simp only [Prod.mk.injEq] at hxy
    obtain ⟨rfl, rfl⟩ := hxy
    go_enter Try.func137, Try.ntmps137
    go_wp2_with (first
      | (go_at_call 116; refine (number_any q hq _).mono ?_; rintro e w' ⟨rfl, rfl⟩; rw [hdq])
      | (go_at_call_of 144 (Value.float FloatKind.f64 x); refine (ca _).mono ?_; rintro e w' ⟨rfl, rfl⟩)
      | (go_at_call_of 144 (Value.float FloatKind.f64 y); refine (cb _).mono ?_; rintro e w' ⟨rfl, rfl⟩)
      | (go_at_call 145; refine (product_any HP.out _).mono ?_; rintro e w' ⟨rfl, rfl⟩)
      | (go_at_call 108; refine (cl _).mono ?_; rintro e w' ⟨rfl, rfl⟩))
    all_goals (go_ret; exact ⟨rfl, rfl⟩)

theorem srung_lt_neg {b : Nat} (h0 : frung b ≠ 0) : srung b < 0 ↔ fneg b = true := by
  unfold srung; cases fneg b <;> simp <;> omega
theorem div_any (d : Int) (a b : Nat) (ha : a < 18446744073709551616) (hb : b < 18446744073709551616) : ∃ p, (Fin a → Fin b → frung b ≠ 0 → ∀ E, E = 1074 → Rnd d (fneg a ^^ fneg b) (rmag (frung a) * 2 ^ E) (rmag (frung b)) p) ∧ (¬ (Fin a ∧ Fin b ∧ frung b ≠ 0) → p = (0, false)) ∧
    ∀ w, Calls Try.prog 120 #[.int .i64 d, .float .f64 a, .float .f64 b] w fun e w' => e = .returned (.tuple #[.float .f64 p.1, .bool p.2]) ∧ w' = w := by
  have hz : Fin b → (FloatKind.f64.format.order b 0 == some .eq) = decide (frung b = 0) := by
    intro hf
    rw [f64_fmt, ord_eq (Nat.le_of_lt hf) (by decide), show srung 0 = 0 by decide]
    congr 1; apply propext
    unfold srung; split <;> omega
  by_cases hf : Fin a ∧ Fin b ∧ frung b ≠ 0
  · obtain ⟨hfa, hfb, hb0⟩ := hf
    obtain ⟨E, hE⟩ : ∃ E : Nat, E = 1074 := ⟨_, rfl⟩
    obtain ⟨q, hq, hRq⟩ := div_fin hE hfa hfb hb0
    obtain ⟨R, _, hq1, hq2, hql⟩ := hRq.rung
    have hqi : frung q ≤ infK := by rw [hq1]; exact Nat.min_le_right ..
    have hside : ∃ r, r < 18446744073709551616 ∧ Sides (fneg a ^^ fneg b) (rmag (frung a) * 2 ^ E) (rmag (frung b)) q r ∧ ∀ w, Calls Try.prog 137 #[.float .f64 a, .float .f64 b, .float .f64 q] w fun e w' => e = .returned (.float .f64 r) ∧ w' = w := by
      by_cases hf : Fin q
      · have hp : ∃ x y, (x, y) = (if srung b < 0 then (fopp a, fopp b) else (a, b)) ∧ Fin x ∧ Fin y ∧ x < 18446744073709551616 ∧ y < 18446744073709551616 ∧ fneg y = false ∧ fneg x = (fneg a ^^ fneg b) ∧ frung x = frung a ∧ frung y = frung b := by
          have fa := fopp_parts ha
          have fb := fopp_parts hb
          by_cases h : srung b < 0
          · have hbn := (srung_lt_neg hb0).1 h
            refine ⟨fopp a, fopp b, by rw [if_pos h], by unfold Fin; rw [fa.1]; exact hfa, by unfold Fin; rw [fb.1]; exact hfb, fa.2.2, fb.2.2, by rw [fb.2.1, hbn]; rfl, by rw [fa.2.1, hbn]; cases fneg a <;> rfl, fa.1, fb.1⟩
          · have hbn : fneg b = false := by
              cases hh : fneg b
              · rfl
              · exact absurd ((srung_lt_neg hb0).2 hh) h
            exact ⟨a, b, by rw [if_neg h], hfa, hfb, ha, hb, hbn, by rw [hbn]; cases fneg a <;> rfl, rfl, rfl⟩
        obtain ⟨x, y, hxy, hfx, hfy, hlx, hly, hyn, hxn, hrx, hry⟩ := hp
        obtain ⟨fx, A, n, Fx, hlfx, ca⟩ := frexp_any x hlx hfx
        obtain ⟨fy, B, m, Fy, hlfy, cb⟩ := frexp_any y hly hfy
        have l1 := Fx.lo
        have l2 := Fx.hi
        have l3 := Fy.lo
        have l4 := Fy.hi
        obtain ⟨q', hw1, hw2, hlq', cl⟩ := ldexp_any q (m - n) hql (by omega) hqi
        have hRq' := hRq
        rw [← hxn, ← hrx, ← hry] at hRq'
        obtain ⟨high, low, dd, r, hP, hd, hr, hrl, hS⟩ := quot_all hfx hfy (by rw [hry]; exact hb0) hyn Fx Fy splitter_sc hE hRq' hf (hw1 hf)
        rw [hxn, hrx, hry] at hS
        exact ⟨r, hrl, hS, fun w => qside_fin hql hf (Nat.le_of_lt hfb) hxy ⟨l1, l2⟩ ⟨l3, l4⟩ ca cb cl hP hd hr w⟩
      · have hi : frung q = infK := by unfold Fin at hf; omega
        have fq := fopp_parts hql
        exact ⟨fopp q, fq.2.2, sides_inf hRq hi (by rw [fq.1]; exact hi) (by rw [fq.2.1, hq2]), fun w => qside_inf hql hf w⟩
    obtain ⟨r, hrl, hS, cq⟩ := hside
    refine ⟨toldM d q r, fun _ _ _ E' hE' => by rw [show E' = E by omega]; exact told_rnd d hRq hS, fun h => absurd ⟨hfa, hfb, hb0⟩ h, fun w => ?_⟩
    have rq := run_quo hq
    have hzz := hz hfb
    simp only [hb0, decide_false] at hzz
    have HS : Hid _ := hS
    have HG : Hid _ := hRq
    have hda : decide (Fin a) = true := decide_eq_true hfa
    have hdb : decide (Fin b) = true := decide_eq_true hfb
    clear hS hRq hq hz
    go_enter Try.func120, Try.ntmps120
    go_wp2_with (first
      | (go_at_call_of 116 (Value.float FloatKind.f64 a); refine (number_any a ha _).mono ?_; rintro e w' ⟨rfl, rfl⟩; rw [hda])
      | (go_at_call_of 116 (Value.float FloatKind.f64 b); refine (number_any b hb _).mono ?_; rintro e w' ⟨rfl, rfl⟩; rw [hdb])
      | (go_at_call 137; refine (cq _).mono ?_; rintro e w' ⟨rfl, rfl⟩)
      | (go_at_call 117; refine (told_any d HG.out HS.out hrl _).mono ?_; rintro e w' ⟨rfl, rfl⟩))
    all_goals (go_ret2; exact ⟨rfl, rfl⟩)
  · refine ⟨(0, false), fun h1 h2 h3 => absurd ⟨h1, h2, h3⟩ hf, fun _ => rfl, fun w => ?_⟩
    by_cases hfa : Fin a
    · have hda : decide (Fin a) = true := decide_eq_true hfa
      by_cases hfb : Fin b
      · have hdb : decide (Fin b) = true := decide_eq_true hfb
        have hb0 : frung b = 0 := by
          rcases Nat.eq_zero_or_pos (frung b) with h | h
          · exact h
          · exact absurd ⟨hfa, hfb, by omega⟩ hf
        have hzz := hz hfb
        simp only [hb0, decide_true] at hzz
        clear hz
        go_enter Try.func120, Try.ntmps120
        go_wp2_with (first
          | (go_at_call_of 116 (Value.float FloatKind.f64 a); refine (number_any a ha _).mono ?_; rintro e w' ⟨rfl, rfl⟩; rw [hda])
          | (go_at_call_of 116 (Value.float FloatKind.f64 b); refine (number_any b hb _).mono ?_; rintro e w' ⟨rfl, rfl⟩; rw [hdb]))
        all_goals (go_ret2; exact ⟨rfl, rfl⟩)
      · have hdb : decide (Fin b) = false := decide_eq_false hfb
        clear hz
        go_enter Try.func120, Try.ntmps120
        go_wp2_with (first
          | (go_at_call_of 116 (Value.float FloatKind.f64 a); refine (number_any a ha _).mono ?_; rintro e w' ⟨rfl, rfl⟩; rw [hda])
          | (go_at_call_of 116 (Value.float FloatKind.f64 b); refine (number_any b hb _).mono ?_; rintro e w' ⟨rfl, rfl⟩; rw [hdb]))
        all_goals (go_ret2; exact ⟨rfl, rfl⟩)
    · have hda : decide (Fin a) = false := decide_eq_false hfa
      clear hz
      go_enter Try.func120, Try.ntmps120
      go_wp2_with (first
        | (go_at_call_of 116 (Value.float FloatKind.f64 a); refine (number_any a ha _).mono ?_; rintro e w' ⟨rfl, rfl⟩; rw [hda]))
      all_goals (go_ret2; exact ⟨rfl, rfl⟩)
end Go.Proofs.Ytigaggkipmcgeaa
