import Derived.Test.YtajopgndpomggaaQE
import Derived.Test.YtajopgndpomggaaMY
namespace Go.Proofs.Ytajopgndpomggaa
open Go.RowKit
set_option linter.unusedVariables false
set_option linter.unusedSimpArgs false

/-- What Over tells. -/
def OvrO (d : Int) (o p : Option Int) (u : Nat) (b : Bool) : Prop := match o, p with
  | some x, some y => if y = 0 then u = 0 ∧ b = false else ∀ E, E = 1074 → Rnd d (decide (x < 0) != decide (y < 0)) (x.natAbs * 2 ^ E) y.natAbs (u, b)
  | _, _ => u = 0 ∧ b = false
theorem ovr_scaled {d : Int} {ng : Bool} {V W b E : Nat} {p : Nat × Bool} (hW : 0 < W) (h : Rnd d ng (V * 2 ^ b * 2 ^ E) (W * 2 ^ b) p) : Rnd d ng (V * 2 ^ E) W p := by
  refine h.of_eq hW ?_
  ac_rfl
set_option maxRecDepth 100000 in
set_option maxHeartbeats 4000000 in
theorem accOver_any (d : Int) (B C : Nat) (o p : Option Int) (w : World) (hB : AccO w B o) (hC : AccO w C p) :
    Calls Try.prog 13 #[.pointer (some ⟨B, 0, none⟩), .int .i64 d, .pointer (some ⟨C, 0, none⟩)] w fun e w' => ∃ u b, e = .returned (.tuple #[.float .f64 u, .bool b]) ∧ OvrO d o p u b ∧ Below w.heap.size w w' := by
  have HB : Hid _ := hB
  have HC : Hid _ := hC
  clear hB hC
  cases o with
  | none =>
    go_enter Try.func13, Try.ntmps13
    go_wp2_with (first
      | (go_at_call 37; refine (bad_any B none _ HB.out).mono ?_; rintro e w1 ⟨rfl, rfl⟩))
    go_ret2
    exact ⟨0, false, rfl, ⟨rfl, rfl⟩, Below.refl _ _⟩
  | some x =>
    by_cases hs : signO p = 0
    · have HS : Hid (∀ y, p = some y → y = 0) := fun y hy => by
        rw [hy] at hs
        have h2 : sgi y = 0 := hs
        unfold sgi at h2
        split at h2
        · omega
        · split at h2
          · assumption
          · omega
      go_enter Try.func13, Try.ntmps13
      go_wp2_with (first
        | (go_at_call 37; refine (bad_any B (some x) _ HB.out).mono ?_; rintro e w1 ⟨rfl, rfl⟩)
        | (go_at_call 24; refine (accSign_any C p _ HC.out).mono ?_; rintro e w1 ⟨rfl, rfl⟩))
      go_ret2
      refine ⟨0, false, rfl, ?_, Below.refl _ _⟩
      cases p with
      | none => exact ⟨rfl, rfl⟩
      | some y =>
        show if y = 0 then _ else _
        rw [if_pos (HS.out y rfl)]
        exact ⟨rfl, rfl⟩
    · cases p with
      | none => exact absurd rfl hs
      | some y =>
        have hy0 : y ≠ 0 := fun c => hs (by rw [c]; rfl)
        have hsb : (signO (some y) == 0) = false := by rw [beq_eq_false_iff_ne]; exact hs
        obtain ⟨f, k1, k2⟩ := HB.out.ex
        obtain ⟨t1, t2, t3⟩ := k2 x rfl
        obtain ⟨g, k3, k4⟩ := HC.out.ex
        obtain ⟨t4, t5, t6⟩ := k4 y rfl
        have HK : Hid (Wds w B f ∧ Tc f x) := ⟨k1, t1⟩
        have HKC : Hid (Wds w C g ∧ Tc g y) := ⟨k3, t4⟩
        have HX : Hid (-((2 ^ 4800 : Nat) : Int) < x ∧ x < ((2 ^ 4800 : Nat) : Int)) := ⟨t2, t3⟩
        have HY : Hid (-((2 ^ 4800 : Nat) : Int) < y ∧ y < ((2 ^ 4800 : Nat) : Int)) := ⟨t5, t6⟩
        have HLX : Hid (-((2 ^ 4863 : Nat) : Int) < x) := by unfold Hid; have := pow_4800_4863; have := pow4800; generalize ((2 ^ 4800 : Nat) : Int) = L at *; generalize ((2 ^ 4863 : Nat) : Int) = M at *; omega
        have HLY : Hid (-((2 ^ 4863 : Nat) : Int) < y) := by unfold Hid; have := pow_4800_4863; have := pow4800; generalize ((2 ^ 4800 : Nat) : Int) = L at *; generalize ((2 ^ 4863 : Nat) : Int) = M at *; omega
        have HY0 : Hid (y ≠ 0) := hy0
        clear k1 k2 k3 k4 t1 t2 t3 t4 t5 t6 hs hy0
        go_enter Try.func13, Try.ntmps13
        go_upto_region 3 with (first
          | (go_at_call 37; refine (bad_any B (some x) _ HB.out).mono ?_; rintro e w1 ⟨rfl, rfl⟩)
          | (go_at_call 24; refine (accSign_any C (some y) _ HC.out).mono ?_; rintro e w1 ⟨rfl, rfl⟩))
        obtain ⟨nx, hnx⟩ : ∃ nx, decide (x < 0) = nx := ⟨_, rfl⟩
        obtain ⟨ny, hny⟩ : ∃ ny, decide (y < 0) = ny := ⟨_, rfl⟩
        have HNX : Hid (decide (x < 0) = nx ∧ decide (y < 0) = ny) := ⟨hnx, hny⟩
        have SX : Hid (Calls Try.prog 46 #[.pointer (some ⟨B, 0, none⟩)] w1 fun e w' => ∃ h, e = .returned (.tuple #[.agg (wda h).toArray, .bool nx]) ∧ (∀ j, j < 76 → h j < 18446744073709551616) ∧ wv h 76 = x.natAbs ∧ Below w1.heap.size w1 w') := (size_words_any B f x _ HK.out.1 HK.out.2 HLX.out).mono (by rintro e w' ⟨h, rfl, a1, a2, a3, a4⟩; exact ⟨h, by rw [hnx], a1, a2, a4⟩)
        clear hnx hny
        go_upto_region 4 with (first
          | (go_at_call 46; refine Calls.mono SX.out ?_; rintro e w2 ⟨h, rfl, l1, l2, l4⟩; have hst := store_words (Wds.new w2) h; have HS : Hid _ := (Wds.new w2).stored (g := h) l1; have HB2 : Hid (Below w1.heap.size w1 ((w2.alloc (.cells Try.zeroCells63 63)).setCells w2.heap.size 0 (wda h))) := Below.setCells l4.size _ _ _ (l4.alloc l4.size _); have HL1 : Hid (∀ j, j < 76 → h j < 18446744073709551616) := l1; have HL2 : Hid (wv h 76 = x.natAbs) := l2; clear l1 l2 l4))
        clear hst SX
        obtain ⟨P1, hP1⟩ : ∃ P1, w2.heap.size = P1 := ⟨_, rfl⟩
        rw [hP1] at HS HB2 ⊢
        clear hP1
        generalize (w2.alloc (.cells Try.zeroCells63 63)).setCells P1 0 (wda h) = w3 at HS HB2 ⊢
        have HKC3 : Hid (Wds w3 C g) := HKC.out.1.below HB2.out HKC.out.1.block
        have SY : Hid (Calls Try.prog 46 #[.pointer (some ⟨C, 0, none⟩)] w3 fun e w' => ∃ h, e = .returned (.tuple #[.agg (wda h).toArray, .bool ny]) ∧ (∀ j, j < 76 → h j < 18446744073709551616) ∧ wv h 76 = y.natAbs ∧ Below w3.heap.size w3 w') := (size_words_any C g y _ HKC3.out HKC.out.2 HLY.out).mono (by rintro e w' ⟨h, rfl, a1, a2, a3, a4⟩; exact ⟨h, by rw [HNX.out.2], a1, a2, a4⟩)
        go_upto_region 5 with (first
          | (go_at_call 46; refine Calls.mono SY.out ?_; rintro e w4 ⟨h', rfl, l1, l2, l4⟩; have hst := store_words (Wds.new w4) h'; have HS2 : Hid _ := (Wds.new w4).stored (g := h') l1; have HB3 : Hid (Below w3.heap.size w3 ((w4.alloc (.cells Try.zeroCells63 63)).setCells w4.heap.size 0 (wda h'))) := Below.setCells l4.size _ _ _ (l4.alloc l4.size _); have HL3 : Hid (∀ j, j < 76 → h' j < 18446744073709551616) := l1; have HL4 : Hid (wv h' 76 = y.natAbs) := l2; clear l1 l2 l4))
        clear hst SY HKC3
        obtain ⟨P2, hP2⟩ : ∃ P2, w4.heap.size = P2 := ⟨_, rfl⟩
        rw [hP2] at HS2 HB3 ⊢
        clear hP2
        generalize (w4.alloc (.cells Try.zeroCells63 63)).setCells P2 0 (wda h') = w5 at HS2 HB3 ⊢
        have HS1 : Hid (Wds w5 P1 h) := HS.out.below HB3.out HS.out.block
        have HB4 : Hid (Below w1.heap.size w1 w5) := HB2.out.trans (HB3.out.mono HB2.out.size)
        obtain ⟨P, hP⟩ : ∃ P : Nat, P = 4800 := ⟨_, rfl⟩
        obtain ⟨E, hE⟩ : ∃ E : Nat, E = 1074 := ⟨_, rfl⟩
        have bx : x.natAbs < 2 ^ P := by
          have := HX.out
          rw [hP]
          generalize 2 ^ 4800 = Q at *
          omega
        have bY : y.natAbs < 2 ^ P := by
          have := HY.out
          rw [hP]
          generalize 2 ^ 4800 = Q at *
          omega
        have QT : Hid _ := quotient_any h h' x.natAbs y.natAbs w5 HL1.out HL3.out HL2.out HL4.out P hP bx bY (by have := HY0.out; omega) E hE
        clear bx bY hP HS HB2 HB3
        go_upto_region 6 with (first
          | (go_at_call 47; refine Calls.mono QT.out ?_; rintro e w6 ⟨whole, power, more, rfl, q1, q2, q3⟩; have Q1 : Hid _ := q1; have Q2 : Hid _ := q2; have B6 : Hid (Below w1.heap.size w1 w6) := HB4.out.trans (q3.mono HB4.out.size); clear q1 q2 q3)
          | (refine wpList_load_mid (by rfl) _ _ (by rfl) P1 0 (by rfl) (wda h) _ HS1.out.range Try.underlying63 rfl (size_wda h) ?_)
          | (refine wpList_load_mid (by rfl) _ _ (by rfl) P2 0 (by rfl) (wda h') _ HS2.out.range Try.underlying63 rfl (size_wda h') ?_))
        clear QT
        by_cases hx0 : x.natAbs = 0
        · obtain ⟨rfl, rfl, rfl⟩ := Q1.out hx0
          have HX0 : Hid (x.natAbs = 0) := hx0
          clear Q1 Q2 hx0
          go_wp2_with (first
            | (go_at_call 48; refine (told_zero d (nx != ny) _).mono ?_; rintro e w7 ⟨u, b, rfl, hr, rfl⟩; have HR : Hid _ := hr; clear hr))
          go_ret2
          refine ⟨u, b, rfl, ?_, B6.out.drew⟩
          show if y = 0 then _ else _
          rw [if_neg HY0.out, HX0.out, HNX.out.1, HNX.out.2]
          intro E _
          rw [Nat.zero_mul]
          exact HR.out _ (by have := HY0.out; omega)
        · obtain ⟨b0, fr, p1, p2⟩ := Q2.out hx0
          have FR : Hid _ := fr
          clear Q1 Q2 hx0 fr
          go_wp2_with (first
            | (go_at_call 48; refine (told_frt d (nx != ny) whole power more _ _ FR.out (Nat.mul_pos (by have := HY0.out; omega) (Nat.two_pow_pos _)) ⟨by omega, by omega⟩ _).mono ?_; rintro e w7 ⟨u, b, rfl, hr, rfl⟩; have HR : Hid _ := hr; clear hr))
          go_ret2
          refine ⟨u, b, rfl, ?_, B6.out.drew⟩
          show if y = 0 then _ else _
          rw [if_neg HY0.out, HNX.out.1, HNX.out.2]
          intro E2 hE2
          rw [hE2, ← hE]
          exact ovr_scaled (by have := HY0.out; omega) HR.out
end Go.Proofs.Ytajopgndpomggaa
