import Derived.Test.YtgjdmenmegnacaaNK
import Derived.Test.YtgjdmenmegnacaaRI
namespace Go.Proofs.Ytgjdmenmegnacaa
open Go.RowKit
set_option linter.unusedVariables false

def ScaleRes (d : Int) (u : Nat) (n : Int) (w : World) (e' : Ending) (w' : World) : Prop := ∃ (a : Nat) (b : Bool), e' = .returned (.tuple #[.int .u64 (a : Int), .bool b]) ∧ (Fin u → Rnd d (fneg u) (rmag (frung u) * 2 ^ (clip5 n).toNat) (2 ^ (-(clip5 n)).toNat) (a, b)) ∧ (¬ Fin u → (a, b) = (0, false)) ∧ Below w.heap.size w w'
/-- The exact real that is scaled, as it is asked for. -/
theorem scale_rnd {d : Int} {u : Nat} (hf : Fin u) {neg : Bool} {e c : Int} (h : frung u ≠ 0 → neg = fneg u ∧ e = ofE u) {p : Nat × Bool} (hr : Rnd d neg (nume (ofM u) (if ofM u = 0 then e else e + c)) (deno (if ofM u = 0 then e else e + c)) p) :
    Rnd d (fneg u) (rmag (frung u) * 2 ^ c.toNat) (2 ^ (-c).toNat) p := by
  have hv := ofM_val hf
  by_cases h0 : frung u = 0
  · have hm : ofM u = 0 := hv.2.2.2.2.2 h0
    have hn : nume (ofM u) (if ofM u = 0 then e else e + c) = 0 := by unfold nume; rw [hm, Nat.zero_mul]
    rw [hn] at hr
    rw [h0, rmag_zero, Nat.zero_mul]
    obtain ⟨R, hR, rfl⟩ := hr
    have e1 := fl_zero hR
    subst e1
    have hf0 : Fl 0 (2 ^ (-c).toNat) 0 := by have := Fl.exact 0 (2 ^ (-c).toNat) (Nat.two_pow_pos _); rw [rmag_zero, Nat.zero_mul] at this; exact this
    have k1 := rnd_exact (d := d) (neg := neg) (k := 0) (D := deno (if ofM u = 0 then e else e + c)) (by decide) ⟨0, by rw [rmag_zero, Nat.zero_mul]; exact hR, rfl⟩
    have k2 := rnd_exact (d := d) (neg := fneg u) (k := 0) (D := 2 ^ (-c).toNat) (by decide) ⟨0, by rw [rmag_zero, Nat.zero_mul]; exact hf0, rfl⟩
    have hs : ∀ g, sgnK g 0 = 0 := fun g => by unfold sgnK; simp
    rw [rmag_zero, Nat.zero_mul, hs] at k1 k2
    exact ⟨0, hf0, by rw [k1, k2]⟩
  · obtain ⟨rfl, rfl⟩ := h h0
    have hm : ofM u ≠ 0 := fun x => h0 (hv.2.2.2.2.1 x)
    rw [if_neg hm] at hr
    refine hr.of_eq (Nat.two_pow_pos _) ?_
    unfold nume deno
    rw [← hv.1]
    have hl := hv.2.1
    rw [Nat.mul_assoc, Nat.mul_assoc, Nat.mul_assoc, ← Nat.pow_add, ← Nat.pow_add, ← Nat.pow_add]
    congr 2
    omega

set_option maxRecDepth 100000 in
set_option maxHeartbeats 1000000 in
theorem rscale_any (d : Int) (u : Nat) (n : Int) (hu : u < 18446744073709551616) (hd0 : -9223372036854775808 ≤ d) (hd1 : d ≤ 9223372036854775807) (w : World) :
    Calls Try.prog 31 #[.int .i64 d, .int .u64 u, .int .i64 n] w fun e' w' => ScaleRes d u n w e' w' := by
  have hcl : (if 5000 < (if n < -5000 then -5000 else n) then (5000 : Int) else (if n < -5000 then -5000 else n)) = clip5 n := by unfold clip5; omega
  have hcb : -5000 ≤ clip5 n ∧ clip5 n ≤ 5000 := by unfold clip5; omega
  by_cases hf : Fin u
  · have hdf : decide (Fin u) = true := decide_eq_true hf
    have hv := ofM_val hf
    have HS : Hid (∀ neg e c p, (frung u ≠ 0 → neg = fneg u ∧ e = ofE u) → Rnd d neg (nume (ofM u) (if ofM u = 0 then e else e + c)) (deno (if ofM u = 0 then e else e + c)) p → Rnd d (fneg u) (rmag (frung u) * 2 ^ c.toNat) (2 ^ (-c).toNat) p) := fun neg e c p h hr => scale_rnd hf h hr
    go_enter Try.func31, Try.ntmps31
    go_wp2_with fail
    refine (of_any u hu _).mono ?_
    rintro ee w1 ⟨v, rfl, ⟨neg, e, hN, hne, hea, heb⟩, hb1⟩
    rw [hdf]
    rw [if_pos hf] at hN
    obtain ⟨ao, len, cap, xs, rfl, hr, hnm, hm⟩ := hN
    have hbl := hv.2.2.2.1
    have HR : Hid _ := hr
    have HB1 : Hid _ := hb1
    have HNE : Hid _ := hne hf
    clear hr hb1 hne hv
    have hbe : -10000 ≤ (if ofM u = 0 then e else e + clip5 n) ∧ (if ofM u = 0 then e else e + clip5 n) ≤ 10000 := by split <;> omega
    go_wp2_with fail
    all_goals
      refine (moved_any _ neg (ofM u) e (clip5 n) (by omega) (by omega) _ ⟨ao, len, cap, xs, rfl, HR.out.later ((Below.refl _ _).alloc (Nat.le_refl _) _), hnm, hm⟩).mono ?_
      rintro ee2 w2 ⟨v2, rfl, hN2, hb2⟩
      have HB2 : Hid (Below w.heap.size w w2) := (HB1.out.alloc HB1.out.size _).trans (hb2.mono (by have := HB1.out.size; simp; omega))
      clear hb2
      go_wp2_with fail
      refine (round_any d v2 neg (ofM u) _ _ hN2 hbe (by omega) hd0 hd1).mono ?_
      rintro ee3 w3 ⟨p, b, rfl, hR, hb3⟩
      have HR3 : Hid _ := HS.out neg e (clip5 n) _ HNE.out hR
      have HB3 : Hid (Below w.heap.size w w3) := HB2.out.trans (hb3.mono HB2.out.size)
      clear hR hb3
      go_wp2_with fail
      go_ret2
      exact ⟨p, b, rfl, fun _ => HR3.out, fun h => absurd hf h, HB3.out⟩
  · have hdf : decide (Fin u) = false := decide_eq_false hf
    go_enter Try.func31, Try.ntmps31
    go_wp2_with fail
    refine (of_any u hu _).mono ?_
    rintro ee w1 ⟨v, rfl, ⟨neg, e, hN, -, -, -⟩, hb1⟩
    rw [hdf]
    obtain ⟨ao, len, cap, xs, rfl, hr, hnm, hm⟩ := hN
    have HB1 : Hid _ := hb1
    clear hr hb1 hm
    go_wp2_with fail
    go_ret2
    exact ⟨0, false, rfl, fun h => absurd h hf, fun _ => rfl, HB1.out.alloc HB1.out.size _⟩
end Go.Proofs.Ytgjdmenmegnacaa
