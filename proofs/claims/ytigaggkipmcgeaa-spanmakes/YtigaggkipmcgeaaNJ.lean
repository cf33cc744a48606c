import Derived.Test.YtigaggkipmcgeaaNI
import Derived.Deep.RegionHeld3
namespace Go.Proofs.Ytigaggkipmcgeaa
open Go.RowKit
set_option linter.unusedVariables false

theorem two_words {xs : List Nat} {len m : Nat} (hl : xs.length = len) (hu : U4 xs) (hn : Nm xs) (hm : dig xs = m) (hb : m < 18014398509481984) : len ≤ 2 := by
  have h1 := len_bl hl hu hn
  rw [hm] at h1
  have h2 : bl m ≤ 54 := by
    rcases Nat.eq_zero_or_pos m with h0 | h0
    · rw [h0, bl_zero]; omega
    · have h3 := bl_spec (m := m) (by omega)
      rcases Nat.lt_or_ge 54 (bl m) with h4 | h4
      · have : 2 ^ 54 ≤ 2 ^ (bl m - 1) := Nat.pow_le_pow_right (by omega) (by omega)
        have h54 : (2 : Nat) ^ 54 = 18014398509481984 := by decide
        omega
      · exact h4
  omega
theorem rtold_at (d : Int) (hd : d = 0 ∨ d = 1 ∨ d = 2) (neg : Bool) (m : Nat) (e : Int) (h1 : rH m e < 18014398509481984) (h2 : rE m e = -1074 ∨ 4503599627370496 ≤ rH m e / 2) (h3 : -1074 ≤ rE m e ∧ rE m e ≤ 20000) (W : World) :
    Calls Try.prog 111 #[.int .i64 d, .bool neg, .int .u64 ((rH m e : Nat) : Int), .bool (rR m e), .int .i64 (rE m e)] W fun e' w' => e' = .returned (.tuple #[.int .u64 ((rP d neg (rR m e) (rH m e) (rE m e)).1 : Int), .bool (rP d neg (rR m e) (rH m e) (rE m e)).2]) ∧ w' = W :=
  rtold_any d neg (rR m e) (rH m e) (rE m e) hd h1 (by omega) h2 W _ rfl
theorem over2_at (v : Value) (m : Nat) (e : Int) (he : -10000 ≤ e ∧ e ≤ 10000) (h3 : -1074 ≤ rE m e ∧ rE m e ≤ 20000) (hb : bl m ≤ 9000) (w : World) (h : NumV w v false m e) :
    Calls Try.prog 110 #[v, .int .i64 (rE m e - 1)] w fun e' w' => ∃ v', e' = .returned (.tuple #[v', .bool (rR m e)]) ∧ NumV w' v' false (rH m e) 0 ∧ Below w.heap.size w w' :=
  over2_any v false m e (rE m e - 1) (by omega) (by omega) (by omega) w h
/-- What a call tells of a real. -/
def RoundRes (d : Int) (neg : Bool) (n D : Nat) (w : World) (e' : Ending) (w' : World) : Prop := ∃ (a : Nat) (b : Bool), e' = .returned (.tuple #[.int .u64 (a : Int), .bool b]) ∧ Rnd d neg n D (a, b) ∧ Below w.heap.size w w'

set_option maxRecDepth 100000 in
set_option maxHeartbeats 2000000 in
theorem round_any (d : Int) (v : Value) (neg : Bool) (m : Nat) (e : Int) (w : World) (h : NumV w v neg m e) (he : -10000 ≤ e ∧ e ≤ 10000) (hb : bl m ≤ 9000) (hd0 : -9223372036854775808 ≤ d) (hd1 : d ≤ 9223372036854775807) :
    Calls Try.prog 75 #[.int .i64 d, v] w fun e' w' => RoundRes d neg (nume m e) (deno e) w e' w' := by
  have hD : 0 < deno e := Nat.two_pow_pos _
  obtain ⟨ao, len, cap, xs, rfl, hr, hnm, hm⟩ := h
  have hz := len_zero hr.length hr.lt hnm
  rw [hm] at hz
  by_cases hd : d = 0 ∨ d = 1 ∨ d = 2
  · have hdb : 0 ≤ d ∧ d ≤ 2 := by omega
    obtain ⟨hda, hdc⟩ := hdb
    by_cases hm0 : m = 0
    · have hl0 : len = 0 := hz.2 hm0
      subst hl0
      have hR := rnd_nought d neg (deno e) hD hd
      have hn0 : nume m e = 0 := by unfold nume; rw [hm0, Nat.zero_mul]
      have HR : Hid _ := hR
      clear hr hR hd
      rw [hn0]
      go_enter Try.func75, Try.ntmps75
      go_wp2_with fail
      go_ret2
      exact ⟨0, true, rfl, HR.out, (by first | exact Below.refl _ _ | exact (Below.refl _ _).alloc (Nat.le_refl _) _)⟩
    · have hl0 : 0 < len := by omega
      have hlb : ((len : Int) == 0) = false := by rw [beq_eq_false_iff_ne]; omega
      have hM := round_math d hd neg m e hm0
      have hE1 : -1074 ≤ rE m e ∧ rE m e ≤ 20000 := by unfold rE; omega
      have HM : Hid _ := hM
      have HR : Hid _ := hr
      have HD : Hid _ := hd
      have hEf : (if -1074 < (bl m : Int) + e - 53 then (bl m : Int) + e - 53 else -1074) = rE m e := by unfold rE; omega
      clear hM hr hd
      go_enter Try.func75, Try.ntmps75
      have hw1 : IntKind.i64.wrap ((bl m : Int) + e) = (bl m : Int) + e := by rw [IntKind.wrap_i64]; omega
      have hw2 : IntKind.i64.wrap ((bl m : Int) + e - 53) = (bl m : Int) + e - 53 := by rw [IntKind.wrap_i64]; omega
      go_upto_region 5 with fail
      go_cut [6] (fun s6 wx => s6 = .int .i64 (rE m e) ∧ Below w.heap.size w wx ∧ wx.heap[w.heap.size]? = some (.cells #[.bool neg, .slice ao len cap, .int .i64 e] 27) ∧ wx.heap.size = w.heap.size + 1)
      case first =>
        have m1 : (w.alloc (Obj.cells #[Value.bool neg, Value.slice ao len cap, Value.int IntKind.i64 e] 27)).cell? ⟨w.heap.size, 1, none⟩ = some (.slice ao len cap) := (three_cells (heap_alloc_new w _)).2.1
        have m2 : (w.alloc (Obj.cells #[Value.bool neg, Value.slice ao len cap, Value.int IntKind.i64 e] 27)).cell? ⟨w.heap.size, 2, none⟩ = some (.int .i64 e) := (three_cells (heap_alloc_new w _)).2.2
        have M3 : Hid ((w.alloc (Obj.cells #[Value.bool neg, Value.slice ao len cap, Value.int IntKind.i64 e] 27)).heap[w.heap.size]? = some (.cells #[.bool neg, .slice ao len cap, .int .i64 e] 27)) := heap_alloc_new w _
        have M4 : Hid (Below w.heap.size w (w.alloc (Obj.cells #[Value.bool neg, Value.slice ao len cap, Value.int IntKind.i64 e] 27))) := (Below.refl _ _).alloc (Nat.le_refl _) _
        have M5 : Hid ((w.alloc (Obj.cells #[Value.bool neg, Value.slice ao len cap, Value.int IntKind.i64 e] 27)).heap.size = w.heap.size + 1) := by unfold Hid; simp
        generalize (w.alloc (Obj.cells #[Value.bool neg, Value.slice ao len cap, Value.int IntKind.i64 e] 27)) = wa at *
        go_region_held3 (fun w' => w'.cell? ⟨w.heap.size, 1, none⟩ = some (.slice ao len cap) ∧ w'.cell? ⟨w.heap.size, 2, none⟩ = some (.int .i64 e)) (go_keep)
          (first | (go_at_call 109; refine (length_any ao len cap xs _ ?_ hnm).mono ?_; exact HR.out.later M4.out.drew; rintro ee ww ⟨rfl, rfl⟩; rw [hm]))
        all_goals go_wp2_with fail
        all_goals
          go_meet
          exact ⟨by unfold rE; congr 1; omega, M4.out.drew, M3.out, M5.out⟩
      case rest =>
      obtain ⟨rfl, hBc, hgc, hsz⟩ := hcut
      have HBc : Hid _ := hBc
      have HGc : Hid _ := hgc
      obtain ⟨c0, c1, c2⟩ := three_cells hgc
      clear hBc hgc hEf
      go_wp2_with fail
      refine (size_any _ neg m e _ ⟨ao, len, cap, xs, rfl, HR.out.later HBc.out, hnm, hm⟩).mono ?_
      rintro ee w2 ⟨v2, rfl, hN2, hb2⟩
      go_wp2_with fail
      refine (over2_at v2 m e he hE1 hb _ hN2).mono ?_
      rintro ee w3 ⟨v3, rfl, hN3, hb3⟩
      obtain ⟨ao3, len3, cap3, zs, rfl, hr3, hnm3, hm3⟩ := hN3
      have hl3 : len3 ≤ 2 := two_words hr3.length hr3.lt hnm3 hm3 HM.out.1
      have hBz := (hb2.size)
      have hg3 := (hb3.block w.heap.size (by omega)).trans ((hb2.block w.heap.size (by omega)).trans HGc.out)
      have hB3 : Below w.heap.size w w3 := HBc.out.trans ((hb2.mono (by omega)).trans (hb3.mono (by omega)))
      obtain ⟨d0, d1, d2⟩ := three_cells hg3
      have hs3 : w.heap.size < w3.heap.size := by have := hb3.size; omega
      have HR3 : Hid _ := hr3
      have HB3 : Hid _ := hB3
      have HG3 : Hid _ := hg3
      clear hr3 hb2 hb3 hB3 c0 c1 c2 hg3 hN2 HGc hBz
      have WC : ∀ W, Below w3.heap.size w3 W → Calls Try.prog 112 #[.slice ao3 len3 cap3] W fun e' w' => e' = .returned (.int .u64 ((rH m e : Nat) : Int)) ∧ w' = W := fun W hW => by
        have := word_any ao3 len3 cap3 zs W (HR3.out.later hW) hl3
        rw [hm3] at this
        exact this
      have TC : ∀ W, Calls Try.prog 111 #[.int .i64 d, .bool neg, .int .u64 ((rH m e : Nat) : Int), .bool (rR m e), .int .i64 (rE m e)] W fun e' w' => e' = .returned (.tuple #[.int .u64 ((rP d neg (rR m e) (rH m e) (rE m e)).1 : Int), .bool (rP d neg (rR m e) (rH m e) (rE m e)).2]) ∧ w' = W :=
        fun W => rtold_at d HD.out neg m e HM.out.1 HM.out.2.1 hE1 W
      have HRN : Hid _ := HM.out.2.2
      clear HM HD hl3 hm3 hnm3
      generalize rP d neg (rR m e) (rH m e) (rE m e) = pp at *
      obtain ⟨pa, pb⟩ := pp
      simp only at TC
      have k0 : (w3.alloc (Obj.cells #[Value.bool false, Value.slice ao3 len3 cap3, Value.int IntKind.i64 0] 27)).cell? ⟨w.heap.size, 0, none⟩ = some (.bool neg) := by
        rw [World.cell?_of_block (w := w3) (w' := w3.alloc (Obj.cells #[Value.bool false, Value.slice ao3 len3 cap3, Value.int IntKind.i64 0] 27)) (a := ⟨w.heap.size, 0, none⟩) (Below.heap_alloc w3 _ _ hs3)]; exact d0
      have k1 := (three_cells (heap_alloc_new w3 (Obj.cells #[Value.bool false, Value.slice ao3 len3 cap3, Value.int IntKind.i64 0] 27))).2.1
      have HB4 : Hid (Below w.heap.size w (w3.alloc (Obj.cells #[Value.bool false, Value.slice ao3 len3 cap3, Value.int IntKind.i64 0] 27))) := HB3.out.alloc (by omega) _
      have HB34 : Hid (Below w3.heap.size w3 (w3.alloc (Obj.cells #[Value.bool false, Value.slice ao3 len3 cap3, Value.int IntKind.i64 0] 27))) := (Below.refl _ _).alloc (Nat.le_refl _) _
      clear d0 d1 d2 HG3 HB3
      go_wp2_with fail
      generalize (w3.alloc (Obj.cells #[Value.bool false, Value.slice ao3 len3 cap3, Value.int IntKind.i64 0] 27)) = w4 at *
      go_region_held3 (fun w' => w'.cell? ⟨w.heap.size, 0, none⟩ = some (.bool neg) ∧ w'.cell? ⟨w3.heap.size, 1, none⟩ = some (.slice ao3 len3 cap3)) (go_keep)
        (first
          | (go_at_call 112; refine (WC _ ?_).mono ?_; exact HB34.out.drew; rintro ee ww ⟨rfl, rfl⟩)
          | (go_at_call 111; refine (TC _).mono ?_; rintro ee ww ⟨rfl, rfl⟩))
      all_goals go_wp2_with fail
      all_goals
        go_ret2
        exact ⟨pa, pb, rfl, HRN.out, HB4.out.drew⟩
  · have hR := rnd_none d neg (nume m e) (deno e) hD hd
    have HR : Hid _ := hR
    clear hr hR
    by_cases hneg : d < 0
    · clear hd
      go_enter Try.func75, Try.ntmps75
      go_wp2_with fail
      go_ret2
      exact ⟨0, false, rfl, HR.out, (by first | exact Below.refl _ _ | exact (Below.refl _ _).alloc (Nat.le_refl _) _)⟩
    · have hgt : 2 < d := by omega
      clear hd
      go_enter Try.func75, Try.ntmps75
      go_wp2_with fail
      go_ret2
      exact ⟨0, false, rfl, HR.out, (by first | exact Below.refl _ _ | exact (Below.refl _ _).alloc (Nat.le_refl _) _)⟩
end Go.Proofs.Ytigaggkipmcgeaa
