import Derived.Test.YtkbafeghlfajhaaWI
namespace Go.Proofs.Ytkbafeghlfajhaa
open Go.RowKit
set_option linter.unusedVariables false

set_option maxRecDepth 100000 in
set_option maxHeartbeats 1000000 in
theorem accCmp_any (B C : Nat) (x y : Int) (w : World) (hB : AccO w B (some x)) (hC : AccO w C (some y)) :
    Calls Try.prog 31 #[.pointer (some ⟨B, 0, none⟩), .pointer (some ⟨C, 0, none⟩)] w fun e w' => e = .returned (.tuple #[.int .i64 (sgi (x - y)), .bool true]) ∧ Below w.heap.size w w' := by
  have HB : Hid _ := hB
  have HC : Hid _ := hC
  clear hB hC
  obtain ⟨f, k1, k2⟩ := HB.out.ex
  obtain ⟨g, k3, k4⟩ := HC.out.ex
  obtain ⟨t1, t2, t3⟩ := k2 x rfl
  obtain ⟨t4, t5, t6⟩ := k4 y rfl
  have hb : -((2 ^ 4863 : Nat) : Int) ≤ x - y ∧ x - y < ((2 ^ 4863 : Nat) : Int) := by
    have := pow_4800_4863
    generalize ((2 ^ 4800 : Nat) : Int) = L at *
    generalize ((2 ^ 4863 : Nat) : Int) = M at *
    omega
  have HF : Hid _ := And.intro k1 (And.intro k3 (And.intro t1 t4))
  have HR : Hid _ := hb
  clear k1 k2 k3 k4 t1 t2 t3 t4 t5 t6 hb
  have HN : Hid _ := Wds.new w
  have HBL : Hid (Below w.heap.size w (w.alloc (.cells Try.zeroCells62 62))) := (Below.refl _ w).alloc (Nat.le_refl _) _
  have HG : Hid _ := HF.out.2.1.below HBL.out HF.out.2.1.block
  have hst := store_words HN.out f
  have HS : Hid (Wds ((w.alloc (.cells Try.zeroCells62 62)).setCells w.heap.size 0 (wda f)) w.heap.size f ∧ Wds ((w.alloc (.cells Try.zeroCells62 62)).setCells w.heap.size 0 (wda f)) C g ∧ Below w.heap.size w ((w.alloc (.cells Try.zeroCells62 62)).setCells w.heap.size 0 (wda f))) :=
    ⟨HN.out.stored HF.out.1.lt, HG.out.heap (heap_setCells_other _ _ _ _ _ (by have := HF.out.2.1.block; omega)), Below.setCells (Nat.le_refl _) _ _ _ HBL.out⟩
  generalize (w.alloc (.cells Try.zeroCells62 62)).setCells w.heap.size 0 (wda f) = w2 at hst HS
  go_enter Try.func31, Try.ntmps31
  go_wp2_with fail
  refine (bad_any B (some x) _ HB.out).mono ?_
  rintro e w1 ⟨rfl, rfl⟩
  go_wp2_with fail
  refine (bad_any C (some y) _ HC.out).mono ?_
  rintro e w1 ⟨rfl, rfl⟩
  go_wp2_with (first | (refine wpList_load_mid (by rfl) _ _ (by rfl) B 0 (by rfl) (wda f) _ HF.out.1.range Try.underlying62 rfl (size_wda f) ?_))
  refine (join_tc w1.heap.size C f g x y true _ HS.out.1 HS.out.2.1 HF.out.2.2.1 HF.out.2.2.2 (x - y) (by simp; omega) HR.out.1 HR.out.2).mono ?_
  rintro e w3 ⟨rfl, h, j1, j2, j3⟩
  have HJ : Hid _ := And.intro j1 j3
  have HB3 : Hid (Below w1.heap.size w1 w3) := HS.out.2.2.trans j2.below
  clear j1 j2 j3
  go_wp2_with fail
  refine (signW_any w1.heap.size h (x - y) _ HJ.out.1 HJ.out.2).mono ?_
  rintro e w4 ⟨rfl, rfl⟩
  go_wp2_with fail
  go_ret2
  exact ⟨rfl, HB3.out⟩
set_option maxRecDepth 100000 in
theorem accCmp_bad (B C : Nat) (o p : Option Int) (w : World) (hB : AccO w B o) (hC : AccO w C p) (h : o = none ∨ p = none) :
    Calls Try.prog 31 #[.pointer (some ⟨B, 0, none⟩), .pointer (some ⟨C, 0, none⟩)] w fun e w' => e = .returned (.tuple #[.int .i64 0, .bool false]) ∧ w' = w := by
  have HB : Hid _ := hB
  have HC : Hid _ := hC
  clear hB hC
  cases o with
  | none =>
    go_enter Try.func31, Try.ntmps31
    go_wp2_with fail
    refine (bad_any B none _ HB.out).mono ?_
    rintro e w1 ⟨rfl, rfl⟩
    go_wp2_with fail
    go_ret2
    exact ⟨rfl, rfl⟩
  | some x =>
    obtain rfl : p = none := by rcases h with h | h <;> simp_all
    go_enter Try.func31, Try.ntmps31
    go_wp2_with fail
    refine (bad_any B (some x) _ HB.out).mono ?_
    rintro e w1 ⟨rfl, rfl⟩
    go_wp2_with fail
    refine (bad_any C none _ HC.out).mono ?_
    rintro e w1 ⟨rfl, rfl⟩
    go_wp2_with fail
    go_ret2
    exact ⟨rfl, rfl⟩
set_option maxRecDepth 100000 in
theorem accCmp_nil (B : Nat) (o : Option Int) (w : World) (hB : AccO w B o) :
    Calls Try.prog 31 #[.pointer (some ⟨B, 0, none⟩), .pointer none] w fun e w' => e = .returned (.tuple #[.int .i64 0, .bool false]) ∧ w' = w := by
  have HB : Hid _ := hB
  clear hB
  cases o with
  | none =>
    go_enter Try.func31, Try.ntmps31
    go_wp2_with fail
    refine (bad_any B none _ HB.out).mono ?_
    rintro e w1 ⟨rfl, rfl⟩
    go_wp2_with fail
    go_ret2
    exact ⟨rfl, rfl⟩
  | some x =>
    go_enter Try.func31, Try.ntmps31
    go_wp2_with fail
    refine (bad_any B (some x) _ HB.out).mono ?_
    rintro e w1 ⟨rfl, rfl⟩
    go_wp2_with fail
    refine (bad_nil _).mono ?_
    rintro e w1 ⟨rfl, rfl⟩
    go_wp2_with fail
    go_ret2
    exact ⟨rfl, rfl⟩
structure IsV (h : Nat → Nat) (V : Nat) : Prop where
  eq : wv h 76 = V
/-- What Round tells. -/
def RndO (d : Int) (o : Option Int) (u : Nat) (b : Bool) : Prop := match o with | none => u = 0 ∧ b = false | some z => ∀ a, a = 1166 → RndZ d z (2 ^ a) (u, b)
theorem RndO.uniq {d : Int} {o : Option Int} {u v : Nat} {b c : Bool} (h : RndO d o u b) (k : RndO d o v c) : u = v ∧ b = c := by
  cases o with
  | none => exact ⟨h.1.trans k.1.symm, h.2.trans k.2.symm⟩
  | some z =>
    obtain ⟨a, ha⟩ : ∃ a : Nat, a = 1166 := ⟨_, rfl⟩
    have := RndZ.uniq (h a ha) (k a ha)
    exact ⟨congrArg Prod.fst this, congrArg Prod.snd this⟩
theorem round_scaled {d : Int} {z : Int} {a b A : Nat} {p : Nat × Bool} (ha : a = 1166) (hb : b = 64) (hA : A = 1230) (h : Rnd d (decide (z < 0)) (z.natAbs * 2 ^ b) (2 ^ A) p) : RndZ d z (2 ^ a) p := by
  refine h.of_eq (Nat.two_pow_pos _) ?_
  rw [Nat.mul_assoc, ← Nat.pow_add, show b + a = A by omega]
set_option maxRecDepth 100000 in
set_option maxHeartbeats 1000000 in
theorem accRound_any (d : Int) (B : Nat) (o : Option Int) (w : World) (hB : AccO w B o) :
    Calls Try.prog 19 #[.pointer (some ⟨B, 0, none⟩), .int .i64 d] w fun e w' => ∃ u b, e = .returned (.tuple #[.float .f64 u, .bool b]) ∧ RndO d o u b ∧ Below w.heap.size w w' := by
  have HB : Hid _ := hB
  clear hB
  cases o with
  | none =>
    go_enter Try.func19, Try.ntmps19
    go_wp2_with fail
    refine (bad_any B none _ HB.out).mono ?_
    rintro e w1 ⟨rfl, rfl⟩
    go_wp2_with fail
    go_ret2
    exact ⟨0, false, rfl, ⟨rfl, rfl⟩, Below.refl _ _⟩
  | some z =>
    obtain ⟨f, k1, k2⟩ := HB.out.ex
    obtain ⟨t1, t2, t3⟩ := k2 z rfl
    have HK : Hid _ := And.intro k1 t1
    have HLO : Hid (-((2 ^ 4863 : Nat) : Int) < z) := by unfold Hid; have := pow_4800_4863; have := pow4800; generalize ((2 ^ 4800 : Nat) : Int) = L at *; generalize ((2 ^ 4863 : Nat) : Int) = M at *; omega
    clear k1 k2 t1 t2 t3
    go_enter Try.func19, Try.ntmps19
    go_wp2_with fail
    refine (bad_any B (some z) _ HB.out).mono ?_
    rintro e w1 ⟨rfl, rfl⟩
    go_wp2_with fail
    refine (size_words_any B f z _ HK.out.1 HK.out.2 HLO.out).mono ?_
    rintro e w2 ⟨h, rfl, l1, l2, l3, l4⟩
    have HN := Wds.new w2
    have hst := store_words HN h
    have HB2 : Hid (Below w1.heap.size w1 ((w2.alloc (.cells Try.zeroCells62 62)).setCells w2.heap.size 0 (wda h))) := Below.setCells l4.size _ _ _ (l4.alloc l4.size _)
    have HS : Hid _ := HN.stored (g := h) l1
    generalize (w2.alloc (.cells Try.zeroCells62 62)).setCells w2.heap.size 0 (wda h) = w3 at hst HS HB2
    have HL : IsV h z.natAbs := ⟨l2⟩
    clear HB HK HLO l3
    generalize hng : decide (z < 0) = ng
    have HNG : Hid _ := hng
    clear l1 l2 l4 HN hng
    go_wp2_with fail
    by_cases h0 : wv h 76 = 0
    · refine (front_zero w2.heap.size h _ HS.out h0).mono ?_
      rintro e w4 ⟨rfl, rfl⟩
      go_wp2_with fail
      refine (told_zero d ng _).mono ?_
      rintro e w5 ⟨u, b, rfl, hr, rfl⟩
      have HR : Hid _ := hr
      clear hr
      go_wp2_with fail
      go_ret2
      refine ⟨u, b, rfl, fun a ha => ?_, HB2.out.drew⟩
      have hz : z.natAbs = 0 := by rw [← HL.eq]; exact h0
      unfold RndZ
      rw [hz, HNG.out]
      exact HR.out _ (Nat.two_pow_pos _)
    · obtain ⟨bb, hbb⟩ : ∃ bb : Nat, bb = 64 := ⟨_, rfl⟩
      obtain ⟨aa, haa⟩ : ∃ aa : Nat, aa = 1230 := ⟨_, rfl⟩
      have HAB : Hid _ := And.intro hbb haa
      refine (front_pos w2.heap.size h _ HS.out h0 bb aa hbb haa).mono ?_
      rintro e w4 ⟨whole, power, more, rfl, hfr, rfl⟩
      have HFR : Hid _ := hfr
      clear hfr h0 hbb haa
      go_wp2_with fail
      refine (told_frt d ng whole power more _ _ HFR.out.1 (Nat.two_pow_pos _) (by have := HFR.out.2; omega) _).mono ?_
      rintro e w5 ⟨u, b, rfl, hr, rfl⟩
      have HR : Hid _ := hr
      clear hr
      go_wp2_with fail
      go_ret2
      refine ⟨u, b, rfl, fun a ha => ?_, HB2.out.drew.drew⟩
      have h2 := HR.out
      rw [HL.eq] at h2
      exact round_scaled ha HAB.out.1 HAB.out.2 (by rw [HNG.out]; exact h2)
end Go.Proofs.Ytkbafeghlfajhaa
