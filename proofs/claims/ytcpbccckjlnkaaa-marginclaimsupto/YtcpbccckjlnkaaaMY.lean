import Derived.Test.YtcpbccckjlnkaaaMX
import Derived.Test.YtcpbccckjlnkaaaMZ
namespace Go.Proofs.Ytcpbccckjlnkaaa
open Go.RowKit
set_option linter.unusedVariables false

def joinO (o p : Option Int) (neg : Bool) : Option Int := o.bind fun x => p.bind fun y => holdZ (x + (if neg then -y else y))
theorem Mut.top {B : Nat} {w w' : World} (h : Mut B w w') : w'.cell? ⟨B, 76, none⟩ = w.cell? ⟨B, 76, none⟩ ∧ w'.frozen? ⟨B, 76, none⟩ = w.frozen? ⟨B, 76, none⟩ := ⟨h.high 76 (by omega), h.froz 76⟩
theorem pow_4800_4863 : ((2 ^ 4800 : Nat) : Int) * 4 ≤ ((2 ^ 4863 : Nat) : Int) := by
  have := pow_top
  have h2 := Nat.two_pow_pos 4800
  rw [this]
  generalize 2 ^ 4800 = L at *
  omega
set_option maxRecDepth 100000 in
set_option maxHeartbeats 1000000 in
theorem accJoin_any (B C : Nat) (o p : Option Int) (neg : Bool) (w : World) (hB : AccO w B o) (hC : AccO w C p) :
    Calls Try.prog 36 #[.pointer (some ⟨B, 0, none⟩), .pointer (some ⟨C, 0, none⟩), .bool neg] w fun e w' => e = .returned (.tuple #[]) ∧ AccO w' B (joinO o p neg) ∧ Chg B w w' := by
  have HB : Hid _ := hB
  have HC : Hid _ := hC
  clear hB hC
  obtain ⟨f0, b0, hw0⟩ := HB.out.words
  have HW0 : Hid _ := hw0
  clear hw0
  cases o with
  | none =>
    go_enter Try.func36, Try.ntmps36
    go_wp2_with fail
    refine (bad_any B none _ HB.out).mono ?_
    rintro e w1 ⟨rfl, rfl⟩
    go_wp2_with fail
    refine (spoil_any B f0 b0 _ HW0.out.1 HW0.out.2.1 HW0.out.2.2.1 HW0.out.2.2.2).mono ?_
    rintro e w1 ⟨rfl, hs⟩
    have HS : Hid _ := hs
    clear hs
    go_wp2_with fail
    (try simp only [Exit.inBlock, Exit.then]); refine bodyPost_ret (results_none rfl _ _ _) rfl ?_
    exact ⟨rfl, HS.out.1, HS.out.2⟩
  | some x =>
    cases p with
    | none =>
      go_enter Try.func36, Try.ntmps36
      go_wp2_with fail
      refine (bad_any B (some x) _ HB.out).mono ?_
      rintro e w1 ⟨rfl, rfl⟩
      go_wp2_with fail
      refine (bad_any C none _ HC.out).mono ?_
      rintro e w1 ⟨rfl, rfl⟩
      go_wp2_with fail
      refine (spoil_any B f0 b0 _ HW0.out.1 HW0.out.2.1 HW0.out.2.2.1 HW0.out.2.2.2).mono ?_
      rintro e w1 ⟨rfl, hs⟩
      have HS : Hid _ := hs
      clear hs
      go_wp2_with fail
      (try simp only [Exit.inBlock, Exit.then]); refine bodyPost_ret (results_none rfl _ _ _) rfl ?_
      exact ⟨rfl, HS.out.1, HS.out.2⟩
    | some y =>
      obtain ⟨f, k1, k2⟩ := HB.out.ex
      obtain ⟨g, k3, k4⟩ := HC.out.ex
      obtain ⟨t1, t2, t3⟩ := k2 x rfl
      obtain ⟨t4, t5, t6⟩ := k4 y rfl
      obtain ⟨r, hr⟩ : ∃ r, r = x + (if neg then -y else y) := ⟨_, rfl⟩
      have hb : -((2 ^ 4863 : Nat) : Int) ≤ r ∧ r < ((2 ^ 4863 : Nat) : Int) := by
        have := pow_4800_4863
        rw [hr]
        generalize ((2 ^ 4800 : Nat) : Int) = L at *
        generalize ((2 ^ 4863 : Nat) : Int) = M at *
        cases neg <;> simp <;> omega
      have HX : Hid (joinO (some x) (some y) neg = holdZ r) := by unfold Hid joinO; rw [hr]; rfl
      have HF : Hid _ := And.intro k1 (And.intro k3 (And.intro t1 t4))
      have HR : Hid _ := And.intro hr hb
      have HC0 : Hid _ := And.intro HB.out.cell HB.out.froz
      clear k1 k2 k3 k4 t1 t2 t3 t4 t5 t6 hr hb HW0
      go_enter Try.func36, Try.ntmps36
      go_wp2_with fail
      refine (bad_any B (some x) _ HB.out).mono ?_
      rintro e w1 ⟨rfl, rfl⟩
      go_wp2_with fail
      refine (bad_any C (some y) _ HC.out).mono ?_
      rintro e w1 ⟨rfl, rfl⟩
      go_wp2_with fail
      go_region_with (go_at_call 54; refine (join_tc B C f g x y neg _ HF.out.1.drew HF.out.2.1.drew HF.out.2.2.1 HF.out.2.2.2 r HR.out.1 HR.out.2.1 HR.out.2.2).mono ?_; rintro e w2 ⟨rfl, h, j1, j2, j3⟩)
      have HJ : Hid _ := And.intro j1 j3
      have hct := (HC0.out.1)
      have hcf := (HC0.out.2)
      have HT : Hid (w2.cell? ⟨B, 76, none⟩ = some (.bool false) ∧ w2.frozen? ⟨B, 76, none⟩ = false) := ⟨j2.top.1.trans hct, j2.top.2.trans hcf⟩
      have HM : Hid (Chg B w1 w2) := (Chg.refl B w1).drew.trans j2.chg
      have HTP : Hid (∀ j, 77 ≤ j → w2.cell? ⟨B, j, none⟩ = none) := fun j hj => (j2.high j (by omega)).trans (HB.out.top j hj)
      clear j1 j2 j3 hct hcf
      go_wp2_with fail
      refine (settle_any B h r _ HJ.out.1 HJ.out.2 HT.out.1 HT.out.2 HTP.out).mono ?_
      rintro e w3 ⟨rfl, s1, s2⟩
      have HS : Hid _ := And.intro s1 s2
      clear s1 s2
      go_wp2_with fail
      go_end0
      exact ⟨rfl, by rw [HX.out]; exact HS.out.1, HM.out.trans HS.out.2⟩
def signO (o : Option Int) : Int := match o with | none => 0 | some z => sgi z
set_option maxRecDepth 100000 in
theorem accSign_any (B : Nat) (o : Option Int) (w : World) (hB : AccO w B o) :
    Calls Try.prog 27 #[.pointer (some ⟨B, 0, none⟩)] w fun e w' => e = .returned (.int .i64 (signO o)) ∧ w' = w := by
  have HB : Hid _ := hB
  clear hB
  cases o with
  | none =>
    go_enter Try.func27, Try.ntmps27
    go_wp2_with fail
    refine (bad_any B none _ HB.out).mono ?_
    rintro e w1 ⟨rfl, rfl⟩
    go_wp2_with fail
    go_ret
    exact ⟨rfl, rfl⟩
  | some x =>
    obtain ⟨f, k1, k2⟩ := HB.out.ex
    obtain ⟨t1, t2, t3⟩ := k2 x rfl
    have HK : Hid _ := And.intro k1 t1
    clear k1 k2 t1 t2 t3
    go_enter Try.func27, Try.ntmps27
    go_wp2_with fail
    refine (bad_any B (some x) _ HB.out).mono ?_
    rintro e w1 ⟨rfl, rfl⟩
    go_wp2_with fail
    refine (signW_any B f x _ HK.out.1 HK.out.2).mono ?_
    rintro e w1 ⟨rfl, rfl⟩
    go_wp2_with fail
    go_ret
    exact ⟨rfl, rfl⟩
/-- A store of words over an Acc's leaves its last cell. -/
theorem AccO.words_stored {w : World} {B : Nat} {f g : Nat → Nat} {z : Int} (h : Wds w B f) (hc : w.cell? ⟨B, 76, none⟩ = some (.bool false)) (hf : w.frozen? ⟨B, 76, none⟩ = false) (hg : Tc g z) (h1 : -((2 ^ 4800 : Nat) : Int) < z) (h2 : z < ((2 ^ 4800 : Nat) : Int)) (ht : ∀ j, 77 ≤ j → w.cell? ⟨B, j, none⟩ = none) : AccO (w.setCells B 0 (wda g)) B (some z) :=
  ⟨⟨g, h.stored hg.lt, fun y hy => by cases hy; exact ⟨hg, h1, h2⟩⟩, by rw [World.cell?_setCells_out _ _ _ _ _ (fun _ _ => .inr (by rw [wda_len]; show 0 + 76 ≤ 76; omega))]; exact hc, by rw [World.frozen?_setCells]; exact hf, fun j hj => by rw [World.cell?_setCells_out _ _ _ _ _ (fun _ _ => .inr (by rw [wda_len]; show 0 + 76 ≤ j; omega))]; exact ht j hj⟩
def absO (o : Option Int) : Option Int := o.map fun z => (z.natAbs : Int)
set_option maxRecDepth 100000 in
set_option maxHeartbeats 1000000 in
theorem accAbs_any (B : Nat) (o : Option Int) (w : World) (hB : AccO w B o) :
    Calls Try.prog 35 #[.pointer (some ⟨B, 0, none⟩)] w fun e w' => e = .returned (.tuple #[]) ∧ AccO w' B (absO o) ∧ Chg B w w' := by
  have HB : Hid _ := hB
  clear hB
  by_cases hs : signO o < 0
  · cases o with
    | none => simp [signO] at hs
    | some z =>
      have hz : z < 0 := by unfold signO sgi at hs; simp only at hs; split at hs <;> (try split at hs) <;> omega
      have hs1 : signO (some z) = -1 := by show sgi z = -1; unfold sgi; rw [if_pos hz]
      obtain ⟨f, k1, k2⟩ := HB.out.ex
      obtain ⟨t1, t2, t3⟩ := k2 z rfl
      have HK : Hid _ := And.intro k1 (And.intro t1 (And.intro t2 t3))
      have HLO : Hid (-((2 ^ 4863 : Nat) : Int) < z) := by unfold Hid; have := pow_4800_4863; have := pow4800; generalize ((2 ^ 4800 : Nat) : Int) = L at *; generalize ((2 ^ 4863 : Nat) : Int) = M at *; omega
      have HA : Hid (absO (some z) = some (-z)) := by unfold Hid absO; simp; omega
      have HC0 : Hid _ := And.intro HB.out.cell HB.out.froz
      clear k1 k2 t1 t2 t3 hs hz
      go_enter Try.func35, Try.ntmps35
      go_wp2_with fail
      refine (accSign_any B (some z) _ HB.out).mono ?_
      rintro e w1 ⟨rfl, rfl⟩
      go_wp2_with fail
      refine (turnedW_any B f z _ HK.out.1 HK.out.2.1 HLO.out).mono ?_
      rintro e w2 ⟨h, rfl, ht, hb⟩
      have hlt := HK.out.1.block
      have HW2 : Hid (Wds w2 B f) := HK.out.1.below hb hlt
      have HC2 : Hid (w2.cell? ⟨B, 76, none⟩ = some (.bool false) ∧ w2.frozen? ⟨B, 76, none⟩ = false) := ⟨(cell_of_heap (hb.block B hlt) 76).1.trans HC0.out.1, (cell_of_heap (hb.block B hlt) 76).2.trans HC0.out.2⟩
      have HR : Hid (AccO (w2.setCells B 0 (wda h)) B (some (-z)) ∧ Chg B w1 (w2.setCells B 0 (wda h))) := ⟨AccO.words_stored HW2.out HC2.out.1 HC2.out.2 ht (by have := HK.out.2.2.2; omega) (by have := HK.out.2.2.1; omega) (fun j hj => (cell_of_heap (hb.block B hlt) j).1.trans (HB.out.top j hj)), (Chg.of_below hb (by omega)).setCells _ 0⟩
      have hst := store_words HW2.out h
      generalize w2.setCells B 0 (wda h) = w3 at hst HR
      clear ht hb hlt
      go_wp2_with fail
      go_end0
      exact ⟨rfl, by rw [HA.out]; exact HR.out.1, HR.out.2⟩
  · have hd : decide (signO o < 0) = false := decide_eq_false hs
    have HA : Hid (absO o = o) := by
      unfold Hid absO
      cases o with
      | none => rfl
      | some z =>
        have : 0 ≤ z := by unfold signO sgi at hs; simp only at hs; split at hs <;> (try split at hs) <;> omega
        simp; omega
    clear hs
    go_enter Try.func35, Try.ntmps35
    go_wp2_with fail
    refine (accSign_any B o _ HB.out).mono ?_
    rintro e w1 ⟨rfl, rfl⟩
    go_wp2_with fail
    go_end0
    exact ⟨rfl, by rw [HA.out]; exact HB.out, Chg.refl _ _⟩
end Go.Proofs.Ytcpbccckjlnkaaa


namespace Go.Proofs.Ytcpbccckjlnkaaa
open Go.RowKit
set_option linter.unusedVariables false

structure IsV (h : Nat → Nat) (V : Nat) : Prop where
  eq : wv h 76 = V
/-- What Round tells. -/
def RndO (d : Int) (o : Option Int) (u : Nat) (b : Bool) : Prop := match o with | none => u = 0 ∧ b = false | some z => ∀ a, a = 1166 → RndZ d z (2 ^ a) (u, b)
theorem RndO.uniq {d : Int} {o : Option Int} {u v : Nat} {b c : Bool} (h : RndO d o u b) (k : RndO d o v c) : u = v ∧ b = c := by
  cases o with
  | none => exact ⟨h.1.trans k.1.symm, h.2.trans k.2.symm⟩
  | some z =>
    obtain ⟨a, ha⟩ : ∃ a : Nat, a = 1166 := ⟨_, rfl⟩
    have := RndZ.uniq (h a ha) (k a ha)
    exact ⟨congrArg Prod.fst this, congrArg Prod.snd this⟩
theorem round_scaled {d : Int} {z : Int} {a b A : Nat} {p : Nat × Bool} (ha : a = 1166) (hb : b = 64) (hA : A = 1230) (h : Rnd d (decide (z < 0)) (z.natAbs * 2 ^ b) (2 ^ A) p) : RndZ d z (2 ^ a) p := by
  refine h.of_eq (Nat.two_pow_pos _) ?_
  rw [Nat.mul_assoc, ← Nat.pow_add, show b + a = A by omega]
set_option maxRecDepth 100000 in
set_option maxHeartbeats 1000000 in
theorem accRound_any (d : Int) (B : Nat) (o : Option Int) (w : World) (hB : AccO w B o) :
    Calls Try.prog 25 #[.pointer (some ⟨B, 0, none⟩), .int .i64 d] w fun e w' => ∃ u b, e = .returned (.tuple #[.float .f64 u, .bool b]) ∧ RndO d o u b ∧ Below w.heap.size w w' := by
  have HB : Hid _ := hB
  clear hB
  cases o with
  | none =>
    go_enter Try.func25, Try.ntmps25
    go_wp2_with fail
    refine (bad_any B none _ HB.out).mono ?_
    rintro e w1 ⟨rfl, rfl⟩
    go_wp2_with fail
    go_ret2
    exact ⟨0, false, rfl, ⟨rfl, rfl⟩, Below.refl _ _⟩
  | some z =>
    obtain ⟨f, k1, k2⟩ := HB.out.ex
    obtain ⟨t1, t2, t3⟩ := k2 z rfl
    have HK : Hid _ := And.intro k1 t1
    have HLO : Hid (-((2 ^ 4863 : Nat) : Int) < z) := by unfold Hid; have := pow_4800_4863; have := pow4800; generalize ((2 ^ 4800 : Nat) : Int) = L at *; generalize ((2 ^ 4863 : Nat) : Int) = M at *; omega
    clear k1 k2 t1 t2 t3
    go_enter Try.func25, Try.ntmps25
    go_wp2_with fail
    refine (bad_any B (some z) _ HB.out).mono ?_
    rintro e w1 ⟨rfl, rfl⟩
    go_wp2_with fail
    refine (size_words_any B f z _ HK.out.1 HK.out.2 HLO.out).mono ?_
    rintro e w2 ⟨h, rfl, l1, l2, l3, l4⟩
    have HN := Wds.new w2
    have hst := store_words HN h
    have HB2 : Hid (Below w1.heap.size w1 ((w2.alloc (.cells Try.zeroCells75 75)).setCells w2.heap.size 0 (wda h))) := Below.setCells l4.size _ _ _ (l4.alloc l4.size _)
    have HS : Hid _ := HN.stored (g := h) l1
    generalize (w2.alloc (.cells Try.zeroCells75 75)).setCells w2.heap.size 0 (wda h) = w3 at hst HS HB2
    have HL : IsV h z.natAbs := ⟨l2⟩
    clear HB HK HLO l3
    generalize hng : decide (z < 0) = ng
    have HNG : Hid _ := hng
    clear l1 l2 l4 HN hng
    go_wp2_with fail
    by_cases h0 : wv h 76 = 0
    · refine (front_zero w2.heap.size h _ HS.out h0).mono ?_
      rintro e w4 ⟨rfl, rfl⟩
      go_wp2_with fail
      refine (told_zero d ng _).mono ?_
      rintro e w5 ⟨u, b, rfl, hr, rfl⟩
      have HR : Hid _ := hr
      clear hr
      go_wp2_with fail
      go_ret2
      refine ⟨u, b, rfl, fun a ha => ?_, HB2.out.drew⟩
      have hz : z.natAbs = 0 := by rw [← HL.eq]; exact h0
      unfold RndZ
      rw [hz, HNG.out]
      exact HR.out _ (Nat.two_pow_pos _)
    · obtain ⟨bb, hbb⟩ : ∃ bb : Nat, bb = 64 := ⟨_, rfl⟩
      obtain ⟨aa, haa⟩ : ∃ aa : Nat, aa = 1230 := ⟨_, rfl⟩
      have HAB : Hid _ := And.intro hbb haa
      refine (front_pos w2.heap.size h _ HS.out h0 bb aa hbb haa).mono ?_
      rintro e w4 ⟨whole, power, more, rfl, hfr, rfl⟩
      have HFR : Hid _ := hfr
      clear hfr h0 hbb haa
      go_wp2_with fail
      refine (told_frt d ng whole power more _ _ HFR.out.1 (Nat.two_pow_pos _) (by have := HFR.out.2; omega) _).mono ?_
      rintro e w5 ⟨u, b, rfl, hr, rfl⟩
      have HR : Hid _ := hr
      clear hr
      go_wp2_with fail
      go_ret2
      refine ⟨u, b, rfl, fun a ha => ?_, HB2.out.drew.drew⟩
      have h2 := HR.out
      rw [HL.eq] at h2
      exact round_scaled ha HAB.out.1 HAB.out.2 (by rw [HNG.out]; exact h2)
end Go.Proofs.Ytcpbccckjlnkaaa


namespace Go.Proofs.Ytcpbccckjlnkaaa
open Go.RowKit
set_option linter.unusedVariables false

/-- What parts tells. -/
def PartsR (u : Nat) (m : Nat) (x : Int) (b : Bool) : Prop := (b = true ↔ Fin u) ∧ (b = true → m < 9007199254740992 ∧ -1074 ≤ x ∧ x ≤ 971 ∧ m * 2 ^ (x + 1074).toNat = rmag (frung u)) ∧ (b = false → m = 0 ∧ x = 0)
set_option maxRecDepth 100000 in
set_option maxHeartbeats 1000000 in
theorem parts_any (u : Nat) (hu : u < 18446744073709551616) (w : World) :
    Calls Try.prog 56 #[.float .f64 u] w fun e w' => ∃ (m : Nat) (x : Int) (b : Bool), e = .returned (.tuple #[.int .u64 (m : Int), .int .i64 x, .bool b]) ∧ PartsR u m x b ∧ w' = w := by
  obtain ⟨E, hE⟩ : ∃ E : Nat, u / 4503599627370496 % 2048 = E := ⟨_, rfl⟩
  obtain ⟨m, hm⟩ : ∃ m : Nat, u % 4503599627370496 = m := ⟨_, rfl⟩
  have fE : bits .and .u64 ((u : Int) / 4503599627370496) 2047 = (E : Int) := by
    have k := u64_and_nat (u / 4503599627370496) 2047 (by omega) (by decide)
    rw [show ((2047 : Nat) : Int) = 2047 from rfl] at k
    rw [show (u : Int) / 4503599627370496 = ((u / 4503599627370496 : Nat) : Int) by omega, k, and_2047, hE]
  have fm : bits .and .u64 (u : Int) 4503599627370495 = (m : Int) := by
    have k := u64_and_nat u 4503599627370495 hu (by decide)
    rw [show ((4503599627370495 : Nat) : Int) = 4503599627370495 from rfl] at k
    rw [k, show (4503599627370495 : Nat) = 2 ^ 52 - 1 by decide, Nat.and_two_pow_sub_one_eq_mod, show (2 : Nat) ^ 52 = 4503599627370496 by decide, hm]
  have hr : frung u = E * 4503599627370496 + m := by unfold frung; omega
  have hEb : E < 2048 := by omega
  have hmb : m < 4503599627370496 := by omega
  have hFin : Fin u ↔ E < 2047 := by unfold Fin infK; rw [hr]; omega
  have fo : bits .or .u64 (m : Int) 4503599627370496 = ((4503599627370496 + m : Nat) : Int) := by
    have k := u64_or_nat m 4503599627370496 (by omega) (by decide)
    rw [show ((4503599627370496 : Nat) : Int) = 4503599627370496 from rfl] at k
    rw [k, Nat.or_comm]
    have := Nat.two_pow_add_eq_or_of_lt (i := 52) (b := m) (by simpa using hmb) 1
    rw [show (2 : Nat) ^ 52 * 1 = 4503599627370496 by decide] at this
    rw [← this]
  generalize hM : 4503599627370496 + m = M at fo
  clear hE hm
  by_cases h2047 : E = 2047
  · subst h2047
    have HR : Hid (PartsR u 0 0 false) := ⟨by rw [hFin]; simp, fun h => (by cases h), fun _ => ⟨rfl, rfl⟩⟩
    have hz : ((2047 : Nat) : Int) = 2047 := rfl
    rw [hz] at fE
    clear hr hFin hM
    go_enter Try.func56, Try.ntmps56
    go_wp2_with (first | (go_at_call 32; refine (bits_any _ _).mono ?_; rintro e w' ⟨rfl, rfl⟩))
    go_ret3
    exact ⟨0, 0, false, rfl, HR.out, rfl⟩
  · by_cases h0 : E = 0
    · subst h0
      have HR : Hid (PartsR u m (-1074) true) := ⟨by rw [hFin]; simp, fun _ => ⟨by omega, by omega, by omega, by
        rw [hr]
        have := rmag_form 0 m (.inl rfl) (by omega)
        rw [this]; simp⟩, by simp⟩
      have hz : ((0 : Nat) : Int) = 0 := rfl
      rw [hz] at fE
      clear hr hFin hM
      go_enter Try.func56, Try.ntmps56
      go_wp2_with (first | (go_at_call 32; refine (bits_any _ _).mono ?_; rintro e w' ⟨rfl, rfl⟩))
      go_ret3
      exact ⟨m, -1074, true, rfl, HR.out, rfl⟩
    · have HR : Hid (PartsR u M (-1074 + (E : Int) - 1) true) := ⟨by rw [hFin]; simp; omega, fun _ => ⟨by omega, by omega, by omega, by
        obtain ⟨F, rfl⟩ : ∃ F, E = F + 1 := ⟨E - 1, by omega⟩
        have := rmag_form F M (.inr (by omega)) (by omega)
        rw [hr, show (F + 1) * 4503599627370496 + m = F * 4503599627370496 + M by omega, this, show (-1074 + ((F + 1 : Nat) : Int) - 1 + 1074).toNat = F by omega]⟩, by simp⟩
      have n0 : ((E : Int) == 0) = false := by simp; omega
      have n1 : ((E : Int) == 2047) = false := by simp; omega
      have hEw : wrap64 (E : Int) = (E : Int) := by unfold wrap64; omega
      have HEW : Hid _ := hEw
      clear hr hFin hM hEw
      go_enter Try.func56, Try.ntmps56
      go_wp2_with (first | (go_at_call 32; refine (bits_any _ _).mono ?_; rintro e w' ⟨rfl, rfl⟩))
      go_ret3
      exact ⟨M, -1074 + (E : Int) - 1, true, rfl, HR.out, rfl⟩
set_option maxRecDepth 100000 in
theorem signbit_any (u : Nat) (hu : u < 18446744073709551616) (w : World) : Calls Try.prog 59 #[.float .f64 u] w fun e w' => e = .returned (.bool (fneg u)) ∧ w' = w := by
  have hcb := call_bits
  have HN : Hid (decide (wrap64 (u : Int) < 0) = fneg u) := by
    unfold Hid fneg
    unfold wrap64
    by_cases h : 9223372036854775808 ≤ u
    · rw [decide_eq_true (by omega), show u / 9223372036854775808 % 2 = 1 by omega]; rfl
    · rw [decide_eq_false (by omega), show u / 9223372036854775808 % 2 = 0 by omega]; rfl
  go_enter Try.func59, Try.ntmps59
  go_wp2_with fail
  go_ret
  exact ⟨congrArg (fun b => Ending.returned (.bool b)) HN.out, rfl⟩
/-- A product's part of the real. -/
def prodZ (a b : Nat) (n : Int) : Int := fval a * fval b * ((2 ^ (n + 92).toNat : Nat) : Int)
def prodO (o : Option Int) (a b : Nat) (n : Int) : Option Int := o.bind fun z => if Fin a ∧ Fin b ∧ -64 ≤ n ∧ n ≤ 64 then holdZ (z + prodZ a b n) else none
theorem prod_parts {a b am bm place : Nat} {ax bx n : Int} (ha : am * 2 ^ (ax + 1074).toNat = rmag (frung a)) (hb : bm * 2 ^ (bx + 1074).toNat = rmag (frung b)) (ha0 : -1074 ≤ ax) (hb0 : -1074 ≤ bx) (hn : -64 ≤ n) (hp : (place : Int) = ax + bx + n + 2240) :
    prodZ a b n = sv (fneg a != fneg b) (am * bm * 2 ^ place) := by
  have e1 : am * bm * 2 ^ place = rmag (frung a) * rmag (frung b) * 2 ^ (n + 92).toNat := by
    rw [← ha, ← hb]
    have : (2 : Nat) ^ place = 2 ^ (ax + 1074).toNat * 2 ^ (bx + 1074).toNat * 2 ^ (n + 92).toNat := by
      rw [← Nat.pow_add, ← Nat.pow_add]; congr 1; omega
    rw [this]; ac_rfl
  rw [e1]
  unfold prodZ fval sv
  cases fneg a <;> cases fneg b <;> simp [Int.neg_mul, Int.mul_neg]
theorem prod_small {am bm place : Nat} {P Q : Nat} (ha : am < 9007199254740992) (hb : bm < 9007199254740992) (hp : place ≤ 4300) (hQ : Q = 4800) : am * bm * 2 ^ place < 2 ^ Q := by
  have h1 : am * bm ≤ 9007199254740992 * 9007199254740992 := Nat.mul_le_mul (by omega) (by omega)
  have h2 : (2 : Nat) ^ Q = 2 ^ (Q - place) * 2 ^ place := by rw [← Nat.pow_add]; congr 1; omega
  have h3 : (2 : Nat) ^ 107 ≤ 2 ^ (Q - place) := Nat.pow_le_pow_right (by omega) (by omega)
  have h4 : (9007199254740992 * 9007199254740992 : Nat) < 2 ^ 107 := by decide
  rw [h2]
  exact Nat.mul_lt_mul_of_pos_right (by omega) (Nat.two_pow_pos _)
set_option maxRecDepth 100000 in
set_option maxHeartbeats 1000000 in
theorem prod_spoils (B : Nat) (o : Option Int) (a b : Nat) (n : Int) (ha : a < 18446744073709551616) (hb : b < 18446744073709551616) (w : World) (hB : AccO w B o) (hno : ¬ (o ≠ none ∧ Fin a ∧ Fin b ∧ -64 ≤ n ∧ n ≤ 64)) :
    Calls Try.prog 37 #[.pointer (some ⟨B, 0, none⟩), .float .f64 a, .float .f64 b, .int .i64 n] w fun e w' => e = .returned (.tuple #[]) ∧ AccO w' B none ∧ Chg B w w' := by
  have HB : Hid _ := hB
  clear hB
  obtain ⟨f0, b0, hw0⟩ := HB.out.words
  have HW0 : Hid _ := hw0
  clear hw0
  go_enter Try.func37, Try.ntmps37
  go_wp2_with fail
  refine (parts_any a ha _).mono ?_
  rintro e w1 ⟨am, ax, ab, rfl, hpa, rfl⟩
  go_wp2_with fail
  refine (parts_any b hb _).mono ?_
  rintro e w1 ⟨bm, bx, bb, rfl, hpb, rfl⟩
  have HH : Hid (¬ (o.isNone = false ∧ ab = true ∧ bb = true ∧ -64 ≤ n ∧ n ≤ 64)) := by
    rintro ⟨h1, h2, h3, h4, h5⟩
    exact hno ⟨by cases o <;> simp_all, hpa.1.1 h2, hpb.1.1 h3, h4, h5⟩
  clear hpa hpb hno
  go_wp2_with fail
  refine (bad_any B o _ HB.out).mono ?_
  rintro e w1 ⟨rfl, rfl⟩
  by_cases c0 : o.isNone = false
  · by_cases c1 : ab = true
    · by_cases c2 : bb = true
      · by_cases c3 : -64 ≤ n
        · have c4 : ¬ n ≤ 64 := fun c => HH.out ⟨c0, c1, c2, c3, c⟩
          subst c1 c2
          have d1 : decide (n < -64) = false := decide_eq_false (by omega)
          have d2 : decide (64 < n) = true := decide_eq_true (by omega)
          clear HH
          go_wp2_with (first | (go_at_call 53; refine (spoil_any B f0 b0 _ HW0.out.1 HW0.out.2.1 HW0.out.2.2.1 HW0.out.2.2.2).mono ?_; rintro e w' ⟨rfl, hs1, hs2⟩))
          (try simp only [Exit.inBlock, Exit.then]); refine bodyPost_ret (results_none rfl _ _ _) rfl ?_
          exact ⟨rfl, hs1, hs2⟩
        · subst c1 c2
          have d1 : decide (n < -64) = true := decide_eq_true (by omega)
          clear HH
          go_wp2_with (first | (go_at_call 53; refine (spoil_any B f0 b0 _ HW0.out.1 HW0.out.2.1 HW0.out.2.2.1 HW0.out.2.2.2).mono ?_; rintro e w' ⟨rfl, hs1, hs2⟩))
          (try simp only [Exit.inBlock, Exit.then]); refine bodyPost_ret (results_none rfl _ _ _) rfl ?_
          exact ⟨rfl, hs1, hs2⟩
      · obtain rfl : bb = false := by simpa using c2
        subst c1
        clear HH
        go_wp2_with (first | (go_at_call 53; refine (spoil_any B f0 b0 _ HW0.out.1 HW0.out.2.1 HW0.out.2.2.1 HW0.out.2.2.2).mono ?_; rintro e w' ⟨rfl, hs1, hs2⟩))
        (try simp only [Exit.inBlock, Exit.then]); refine bodyPost_ret (results_none rfl _ _ _) rfl ?_
        exact ⟨rfl, hs1, hs2⟩
    · obtain rfl : ab = false := by simpa using c1
      clear HH
      go_wp2_with (first | (go_at_call 53; refine (spoil_any B f0 b0 _ HW0.out.1 HW0.out.2.1 HW0.out.2.2.1 HW0.out.2.2.2).mono ?_; rintro e w' ⟨rfl, hs1, hs2⟩))
      (try simp only [Exit.inBlock, Exit.then]); refine bodyPost_ret (results_none rfl _ _ _) rfl ?_
      exact ⟨rfl, hs1, hs2⟩
  · have c0' : o.isNone = true := by simpa using c0
    clear HH c0
    go_wp2_with (first | (go_at_call 53; refine (spoil_any B f0 b0 _ HW0.out.1 HW0.out.2.1 HW0.out.2.2.1 HW0.out.2.2.2).mono ?_; rintro e w' ⟨rfl, hs1, hs2⟩))
    (try simp only [Exit.inBlock, Exit.then]); refine bodyPost_ret (results_none rfl _ _ _) rfl ?_
    exact ⟨rfl, hs1, hs2⟩
set_option maxRecDepth 100000 in
set_option maxHeartbeats 1000000 in
theorem prod_adds (B : Nat) (z : Int) (a b : Nat) (n : Int) (ha : a < 18446744073709551616) (hb : b < 18446744073709551616) (w : World) (hB : AccO w B (some z)) (fa : Fin a) (fb : Fin b) (hn0 : -64 ≤ n) (hn1 : n ≤ 64) :
    Calls Try.prog 37 #[.pointer (some ⟨B, 0, none⟩), .float .f64 a, .float .f64 b, .int .i64 n] w fun e w' => e = .returned (.tuple #[]) ∧ AccO w' B (holdZ (z + prodZ a b n)) ∧ Chg B w w' := by
  have HB : Hid _ := hB
  clear hB
  obtain ⟨f, k1, k2⟩ := HB.out.ex
  obtain ⟨t1, t2, t3⟩ := k2 z rfl
  have HK : Hid _ := And.intro k1 (And.intro t1 (And.intro t2 t3))
  have HC0 : Hid _ := And.intro HB.out.cell HB.out.froz
  clear k1 k2 t1 t2 t3
  go_enter Try.func37, Try.ntmps37
  go_wp2_with fail
  refine (parts_any a ha _).mono ?_
  rintro e w1 ⟨am, ax, ab, rfl, hpa, rfl⟩
  go_wp2_with fail
  refine (parts_any b hb _).mono ?_
  rintro e w1 ⟨bm, bx, bb, rfl, hpb, rfl⟩
  obtain rfl : ab = true := hpa.1.2 fa
  obtain rfl : bb = true := hpb.1.2 fb
  obtain ⟨a1, a2, a3, a4⟩ := hpa.2.1 rfl
  obtain ⟨b1, b2, b3, b4⟩ := hpb.2.1 rfl
  obtain ⟨place, hpl⟩ : ∃ place : Nat, (place : Int) = ax + bx + n + 2240 := ⟨(ax + bx + n + 2240).toNat, by omega⟩
  have HPZ : Hid (prodZ a b n = sv (fneg a != fneg b) (am * bm * 2 ^ place)) := prod_parts a4 b4 a2 b2 hn0 hpl
  obtain ⟨k, hk⟩ : ∃ k, place / 64 = k := ⟨_, rfl⟩
  obtain ⟨nn, hnn⟩ : ∃ nn, place % 64 = nn := ⟨_, rfl⟩
  obtain ⟨high, hhi⟩ : ∃ high, am * bm / 18446744073709551616 = high := ⟨_, rfl⟩
  obtain ⟨low, hlo⟩ : ∃ low, am * bm % 18446744073709551616 = low := ⟨_, rfl⟩
  have hll : low < 18446744073709551616 := by rw [← hlo]; exact Nat.mod_lt _ (by omega)
  have hhl : high < 18446744073709551616 := by
    rw [← hhi, Nat.div_lt_iff_lt_mul (by omega)]
    have : am * bm ≤ 9007199254740992 * 9007199254740992 := Nat.mul_le_mul (by omega) (by omega)
    omega
  have hmb : high * 18446744073709551616 + low = am * bm := by have := Nat.div_add_mod (am * bm) 18446744073709551616; omega
  have hpk : place = 64 * k + nn := by omega
  obtain ⟨ng, hng⟩ : ∃ ng, (fneg a != fneg b) = ng := ⟨_, rfl⟩
  have HE : Hid (z + prodZ a b n = z + sv ng ((high * 18446744073709551616 + low) * 2 ^ (64 * k + nn))) := by unfold Hid; rw [HPZ.out, hng, hmb, hpk]
  have HBD : Hid (-((2 ^ 4863 : Nat) : Int) ≤ z + sv ng ((high * 18446744073709551616 + low) * 2 ^ (64 * k + nn)) ∧ z + sv ng ((high * 18446744073709551616 + low) * 2 ^ (64 * k + nn)) < ((2 ^ 4863 : Nat) : Int)) := by
    obtain ⟨Q, hQ⟩ : ∃ Q : Nat, Q = 4800 := ⟨_, rfl⟩
    have hs := prod_small (P := 0) a1 b1 (show place ≤ 4300 by omega) hQ
    rw [hmb, ← hpk]
    have h2 := HK.out.2.2
    have h3 := pow_4800_4863
    rw [hQ] at hs
    have hs' : ((am * bm * 2 ^ place : Nat) : Int) < ((2 ^ 4800 : Nat) : Int) := by exact_mod_cast hs
    unfold Hid sv
    generalize am * bm * 2 ^ place = X at *
    generalize ((2 ^ 4800 : Nat) : Int) = L at *
    generalize ((2 ^ 4863 : Nat) : Int) = M at *
    split <;> omega
  have hpw : ax + bx + n + 2240 = 64 * (k : Int) + nn := by omega
  have hnn64 : nn < 64 := by omega
  have hk76 : k + 3 ≤ 76 := by omega
  have hml := Try.bits_Mul64 am bm (by omega) (by omega) w1
  rw [hhi, hlo] at hml
  have HML : Hid _ := hml
  have hab : -5000 ≤ ax + bx ∧ ax + bx ≤ 5000 ∧ -5000 ≤ ax + bx + n ∧ ax + bx + n ≤ 5000 := by omega
  have HPW : Hid _ := hpw
  have HM : Hid (Calls Try.prog 57 #[.int .u64 (am : Int), .int .u64 (bm : Int)] w1 fun e w' => e = .returned (.tuple #[.int .u64 (high : Int), .int .u64 (low : Int)]) ∧ w' = w1) := hml
  have HNG : Hid _ := hng
  have d1 : decide (n < -64) = false := decide_eq_false (by omega)
  have d2 : decide (64 < n) = false := decide_eq_false (by omega)
  clear HML hml hpw hmb hpk hhi hlo hk hnn hpl hpa hpb a1 a2 a3 a4 b1 b2 b3 b4 HPZ hng fa fb
  go_wp2_with fail
  refine (bad_any B (some z) _ HB.out).mono ?_
  rintro e w2 ⟨rfl, rfl⟩
  go_wp2_with fail
  refine Calls.mono HM.out ?_
  rintro e w2 ⟨rfl, rfl⟩
  go_wp2_with fail
  obtain ⟨sa, hsa⟩ : ∃ sa, fneg a = sa := ⟨_, rfl⟩
  obtain ⟨sb, hsb⟩ : ∃ sb, fneg b = sb := ⟨_, rfl⟩
  have hng := HNG.out
  rw [hsa, hsb] at hng
  have HSA : Hid (∀ w : World, Calls Try.prog 59 #[.float .f64 a] w fun e w' => e = .returned (.bool sa) ∧ w' = w) := fun w => by rw [← hsa]; exact signbit_any a ha w
  have HSB : Hid (∀ w : World, Calls Try.prog 59 #[.float .f64 b] w fun e w' => e = .returned (.bool sb) ∧ w' = w) := fun w => by rw [← hsb]; exact signbit_any b hb w
  have hng2 : (!sa == sb) = ng := hng
  have v1 : IntKind.i64.wrap (ax + bx) = ax + bx := by rw [IntKind.wrap_i64]; omega
  have v2 : IntKind.i64.wrap (ax + bx + n) = ax + bx + n := by rw [IntKind.wrap_i64]; omega
  clear hsa hsb HNG
  have HPUT : Hid (Calls Try.prog 58 #[.pointer (some ⟨B, 0, none⟩), .int .u64 (high : Int), .int .u64 (low : Int), .int .i64 (ax + bx + n), .bool ng] w2.drew fun e w' => e = .returned (.tuple #[]) ∧ ∃ h, Wds w' B h ∧ Mut B w2.drew w' ∧ Tc h (z + sv ng ((high * 18446744073709551616 + low) * 2 ^ (64 * k + nn)))) :=
    put_any B f z high low k nn (ax + bx + n) ng hk76 hnn64 HPW.out hll hhl _ HK.out.1.drew HK.out.2.1 HBD.out.1 HBD.out.2
  clear HBD HPW
  go_region_held3 (fun w' => True) (trivial) ((first | (go_at_call_of 59 (Value.float FloatKind.f64 a); refine Calls.mono (HSA.out _) ?_; rintro e w' ⟨rfl, rfl⟩) | (go_at_call_of 59 (Value.float FloatKind.f64 b); refine Calls.mono (HSB.out _) ?_; rintro e w' ⟨rfl, rfl⟩) | (go_at_call 58; refine Calls.mono HPUT.out ?_; rintro e w3 ⟨rfl, h, j1, j2, j3⟩)))
  have HJ : Hid _ := And.intro j1 j3
  have HT : Hid (w3.cell? ⟨B, 76, none⟩ = some (.bool false) ∧ w3.frozen? ⟨B, 76, none⟩ = false) := ⟨j2.top.1.trans HC0.out.1, j2.top.2.trans HC0.out.2⟩
  have HM : Hid (Chg B w2 w3) := (Chg.refl B w2).drew.trans j2.chg
  have HTP : Hid (∀ j, 77 ≤ j → w3.cell? ⟨B, j, none⟩ = none) := fun j hj => (j2.high j (by omega)).trans (HB.out.top j hj)
  clear j1 j2 j3
  go_wp2_with fail
  refine (settle_any B h _ _ HJ.out.1 HJ.out.2 HT.out.1 HT.out.2 HTP.out).mono ?_
  rintro e w4 ⟨rfl, s1, s2⟩
  have HS : Hid _ := And.intro s1 s2
  clear s1 s2
  go_wp2_with fail
  go_end0
  exact ⟨rfl, by rw [HE.out]; exact HS.out.1, HM.out.trans HS.out.2⟩
theorem accProd_any (B : Nat) (o : Option Int) (a b : Nat) (n : Int) (ha : a < 18446744073709551616) (hb : b < 18446744073709551616) (w : World) (hB : AccO w B o) :
    Calls Try.prog 37 #[.pointer (some ⟨B, 0, none⟩), .float .f64 a, .float .f64 b, .int .i64 n] w fun e w' => e = .returned (.tuple #[]) ∧ AccO w' B (prodO o a b n) ∧ Chg B w w' := by
  by_cases h : o ≠ none ∧ Fin a ∧ Fin b ∧ -64 ≤ n ∧ n ≤ 64
  · obtain ⟨h0, h1, h2, h3, h4⟩ := h
    cases o with
    | none => exact absurd rfl h0
    | some z =>
      have : prodO (some z) a b n = holdZ (z + prodZ a b n) := if_pos ⟨h1, h2, h3, h4⟩
      rw [this]
      exact prod_adds B z a b n ha hb w hB h1 h2 h3 h4
  · have : prodO o a b n = none := by
      cases o with
      | none => rfl
      | some z => exact if_neg (fun c => h ⟨by simp, c⟩)
    rw [this]
    exact prod_spoils B o a b n ha hb w hB h
set_option maxRecDepth 100000 in
theorem accAdd_any (B : Nat) (o : Option Int) (a : Nat) (ha : a < 18446744073709551616) (w : World) (hB : AccO w B o) :
    Calls Try.prog 34 #[.pointer (some ⟨B, 0, none⟩), .float .f64 a] w fun e w' => e = .returned (.tuple #[]) ∧ AccO w' B (prodO o a 4607182418800017408 0) ∧ Chg B w w' := by
  have HB : Hid _ := hB
  clear hB
  go_enter Try.func34, Try.ntmps34
  go_wp2_with fail
  refine (accProd_any B o a 4607182418800017408 0 ha (by omega) _ HB.out).mono ?_
  rintro e w1 ⟨rfl, h1, h2⟩
  have HS : Hid _ := And.intro h1 h2
  clear h1 h2
  go_wp2_with fail
  go_end0
  exact ⟨rfl, HS.out.1, HS.out.2⟩
end Go.Proofs.Ytcpbccckjlnkaaa

