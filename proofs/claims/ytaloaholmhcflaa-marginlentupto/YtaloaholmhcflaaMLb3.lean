import Derived.Test.YtaloaholmhcflaaMLb2
import Ieee.Arith
import Derived.Test.YtaloaholmhcflaaChecked
import Derived.WalkKit
import Derived.WalkSmall
import Derived.WalkLawsBesides
import Derived.Lib.EndianBits
import Derived.Laws.Bits128
import Derived.Laws.BitsAll
import Derived.BigQuiet
import Derived.RangeFuncNested
import Derived.RangeFuncBound
import Derived.RangeFuncCalls
import Derived.RangeFuncLeaves
import Derived.RangeFuncFrom
import Derived.RangeFuncWrites
import Derived.Shelf.Abstract
import Derived.Shelf.RegionOpen
import Derived.OwnWalkIn
import Derived.TacticsInMore
import Derived.LoopNIn
import Derived.LoopIn
import Derived.Deep.WholeRow
import Derived.Deep.MidRow
import Derived.Laws.CopyOwn
import Derived.Deep.RegionHeld3
import Derived.Deep.QuietTactic
import Derived.Deep.RegionWith
import Derived.Deep.DeepCutAuto
import Derived.Laws.Externs
import Derived.Deep.DeepMust
import Derived.Laws.MakeOwn
import Derived.Laws.OwnMore
import Derived.ArgAppend
import Derived.OwnWalk
import Derived.Orders
import Derived.RegionTactic
import Derived.Below
import Derived.Deep.CutRange
import Derived.Laws.AppendOwnNone
import Derived.Test.YtaloaholmhcflaaRows
import Derived.Deep.Slices
import Derived.OpenShut
import Derived.Lib.SmallJoins
import Derived.ChangeSame
namespace Go.Proofs.Ytaloaholmhcflaa
open Go.RowKit
set_option linter.unusedVariables false
def joinO (o p : Option Int) (neg : Bool) : Option Int := o.bind fun x => p.bind fun y => holdZ (x + (if neg then -y else y))
theorem Mut.top {B : Nat} {w w' : World} (h : Mut B w w') : w'.cell? ⟨B, 76, none⟩ = w.cell? ⟨B, 76, none⟩ ∧ w'.frozen? ⟨B, 76, none⟩ = w.frozen? ⟨B, 76, none⟩ := ⟨h.high 76 (by omega), h.froz 76⟩
theorem pow_4800_4863 : ((2 ^ 4800 : Nat) : Int) * 4 ≤ ((2 ^ 4863 : Nat) : Int) := by
  have := pow_top
  have h2 := Nat.two_pow_pos 4800
  rw [this]
  generalize 2 ^ 4800 = L at *
  omega
set_option maxRecDepth 100000 in
set_option maxHeartbeats 1000000 in
theorem accJoin_any (B C : Nat) (o p : Option Int) (neg : Bool) (w : World) (hB : AccO w B o) (hC : AccO w C p) :
    Calls Try.prog 46 #[.pointer (some ⟨B, 0, none⟩), .pointer (some ⟨C, 0, none⟩), .bool neg] w fun e w' => e = .returned (.tuple #[]) ∧ AccO w' B (joinO o p neg) ∧ Chg B w w' := by
  have HB : Hid _ := hB
  have HC : Hid _ := hC
  clear hB hC
  obtain ⟨f0, b0, hw0⟩ := HB.out.words
  have HW0 : Hid _ := hw0
  clear hw0
  cases o with
  | none =>
    go_enter Try.func46, Try.ntmps46
    go_wp2_with fail
    refine (bad_any B none _ HB.out).mono ?_
    rintro e w1 ⟨rfl, rfl⟩
    go_wp2_with fail
    refine (spoil_any B f0 b0 _ HW0.out.1 HW0.out.2.1 HW0.out.2.2.1 HW0.out.2.2.2).mono ?_
    rintro e w1 ⟨rfl, hs⟩
    have HS : Hid _ := hs
    clear hs
    go_wp2_with fail
    (try simp only [Exit.inBlock, Exit.then]); refine bodyPost_ret (results_none rfl _ _ _) rfl ?_
    exact ⟨rfl, HS.out.1, HS.out.2⟩
  | some x =>
    cases p with
    | none =>
      go_enter Try.func46, Try.ntmps46
      go_wp2_with fail
      refine (bad_any B (some x) _ HB.out).mono ?_
      rintro e w1 ⟨rfl, rfl⟩
      go_wp2_with fail
      refine (bad_any C none _ HC.out).mono ?_
      rintro e w1 ⟨rfl, rfl⟩
      go_wp2_with fail
      refine (spoil_any B f0 b0 _ HW0.out.1 HW0.out.2.1 HW0.out.2.2.1 HW0.out.2.2.2).mono ?_
      rintro e w1 ⟨rfl, hs⟩
      have HS : Hid _ := hs
      clear hs
      go_wp2_with fail
      (try simp only [Exit.inBlock, Exit.then]); refine bodyPost_ret (results_none rfl _ _ _) rfl ?_
      exact ⟨rfl, HS.out.1, HS.out.2⟩
    | some y =>
      obtain ⟨f, k1, k2⟩ := HB.out.ex
      obtain ⟨g, k3, k4⟩ := HC.out.ex
      obtain ⟨t1, t2, t3⟩ := k2 x rfl
      obtain ⟨t4, t5, t6⟩ := k4 y rfl
      obtain ⟨r, hr⟩ : ∃ r, r = x + (if neg then -y else y) := ⟨_, rfl⟩
      have hb : -((2 ^ 4863 : Nat) : Int) ≤ r ∧ r < ((2 ^ 4863 : Nat) : Int) := by
        have := pow_4800_4863
        rw [hr]
        generalize ((2 ^ 4800 : Nat) : Int) = L at *
        generalize ((2 ^ 4863 : Nat) : Int) = M at *
        cases neg <;> simp <;> omega
      have HX : Hid (joinO (some x) (some y) neg = holdZ r) := by unfold Hid joinO; rw [hr]; rfl
      have HF : Hid _ := And.intro k1 (And.intro k3 (And.intro t1 t4))
      have HR : Hid _ := And.intro hr hb
      have HC0 : Hid _ := And.intro HB.out.cell HB.out.froz
      clear k1 k2 k3 k4 t1 t2 t3 t4 t5 t6 hr hb HW0
      go_enter Try.func46, Try.ntmps46
      go_wp2_with fail
      refine (bad_any B (some x) _ HB.out).mono ?_
      rintro e w1 ⟨rfl, rfl⟩
      go_wp2_with fail
      refine (bad_any C (some y) _ HC.out).mono ?_
      rintro e w1 ⟨rfl, rfl⟩
      go_wp2_with fail
      go_region_with (go_at_call 66; refine (join_tc B C f g x y neg _ HF.out.1.drew HF.out.2.1.drew HF.out.2.2.1 HF.out.2.2.2 r HR.out.1 HR.out.2.1 HR.out.2.2).mono ?_; rintro e w2 ⟨rfl, h, j1, j2, j3⟩)
      have HJ : Hid _ := And.intro j1 j3
      have hct := (HC0.out.1)
      have hcf := (HC0.out.2)
      have HT : Hid (w2.cell? ⟨B, 76, none⟩ = some (.bool false) ∧ w2.frozen? ⟨B, 76, none⟩ = false) := ⟨j2.top.1.trans hct, j2.top.2.trans hcf⟩
      have HM : Hid (Chg B w1 w2) := (Chg.refl B w1).drew.trans j2.chg
      have HTP : Hid (∀ j, 77 ≤ j → w2.cell? ⟨B, j, none⟩ = none) := fun j hj => (j2.high j (by omega)).trans (HB.out.top j hj)
      clear j1 j2 j3 hct hcf
      go_wp2_with fail
      refine (settle_any B h r _ HJ.out.1 HJ.out.2 HT.out.1 HT.out.2 HTP.out).mono ?_
      rintro e w3 ⟨rfl, s1, s2⟩
      have HS : Hid _ := And.intro s1 s2
      clear s1 s2
      go_wp2_with fail
      go_end0
      exact ⟨rfl, by rw [HX.out]; exact HS.out.1, HM.out.trans HS.out.2⟩
def signO (o : Option Int) : Int := match o with | none => 0 | some z => sgi z
set_option maxRecDepth 100000 in
theorem accSign_any (B : Nat) (o : Option Int) (w : World) (hB : AccO w B o) :
    Calls Try.prog 26 #[.pointer (some ⟨B, 0, none⟩)] w fun e w' => e = .returned (.int .i64 (signO o)) ∧ w' = w := by
  have HB : Hid _ := hB
  clear hB
  cases o with
  | none =>
    go_enter Try.func26, Try.ntmps26
    go_wp2_with fail
    refine (bad_any B none _ HB.out).mono ?_
    rintro e w1 ⟨rfl, rfl⟩
    go_wp2_with fail
    go_ret
    exact ⟨rfl, rfl⟩
  | some x =>
    obtain ⟨f, k1, k2⟩ := HB.out.ex
    obtain ⟨t1, t2, t3⟩ := k2 x rfl
    have HK : Hid _ := And.intro k1 t1
    clear k1 k2 t1 t2 t3
    go_enter Try.func26, Try.ntmps26
    go_wp2_with fail
    refine (bad_any B (some x) _ HB.out).mono ?_
    rintro e w1 ⟨rfl, rfl⟩
    go_wp2_with fail
    refine (signW_any B f x _ HK.out.1 HK.out.2).mono ?_
    rintro e w1 ⟨rfl, rfl⟩
    go_wp2_with fail
    go_ret
    exact ⟨rfl, rfl⟩
/-- A store of words over an Acc's leaves its last cell. -/
theorem AccO.words_stored {w : World} {B : Nat} {f g : Nat → Nat} {z : Int} (h : Wds w B f) (hc : w.cell? ⟨B, 76, none⟩ = some (.bool false)) (hf : w.frozen? ⟨B, 76, none⟩ = false) (hg : Tc g z) (h1 : -((2 ^ 4800 : Nat) : Int) < z) (h2 : z < ((2 ^ 4800 : Nat) : Int)) (ht : ∀ j, 77 ≤ j → w.cell? ⟨B, j, none⟩ = none) : AccO (w.setCells B 0 (wda g)) B (some z) :=
  ⟨⟨g, h.stored hg.lt, fun y hy => by cases hy; exact ⟨hg, h1, h2⟩⟩, by rw [World.cell?_setCells_out _ _ _ _ _ (fun _ _ => .inr (by rw [wda_len]; show 0 + 76 ≤ 76; omega))]; exact hc, by rw [World.frozen?_setCells]; exact hf, fun j hj => by rw [World.cell?_setCells_out _ _ _ _ _ (fun _ _ => .inr (by rw [wda_len]; show 0 + 76 ≤ j; omega))]; exact ht j hj⟩
def absO (o : Option Int) : Option Int := o.map fun z => (z.natAbs : Int)
set_option maxRecDepth 100000 in
set_option maxHeartbeats 1000000 in
theorem accAbs_any (B : Nat) (o : Option Int) (w : World) (hB : AccO w B o) :
    Calls Try.prog 45 #[.pointer (some ⟨B, 0, none⟩)] w fun e w' => e = .returned (.tuple #[]) ∧ AccO w' B (absO o) ∧ Chg B w w' := by
  have HB : Hid _ := hB
  clear hB
  by_cases hs : signO o < 0
  · cases o with
    | none => simp [signO] at hs
    | some z =>
      have hz : z < 0 := by unfold signO sgi at hs; simp only at hs; split at hs <;> (try split at hs) <;> omega
      have hs1 : signO (some z) = -1 := by show sgi z = -1; unfold sgi; rw [if_pos hz]
      obtain ⟨f, k1, k2⟩ := HB.out.ex
      obtain ⟨t1, t2, t3⟩ := k2 z rfl
      have HK : Hid _ := And.intro k1 (And.intro t1 (And.intro t2 t3))
      have HLO : Hid (-((2 ^ 4863 : Nat) : Int) < z) := by unfold Hid; have := pow_4800_4863; have := pow4800; generalize ((2 ^ 4800 : Nat) : Int) = L at *; generalize ((2 ^ 4863 : Nat) : Int) = M at *; omega
      have HA : Hid (absO (some z) = some (-z)) := by unfold Hid absO; simp; omega
      have HC0 : Hid _ := And.intro HB.out.cell HB.out.froz
      clear k1 k2 t1 t2 t3 hs hz
      go_enter Try.func45, Try.ntmps45
      go_wp2_with fail
      refine (accSign_any B (some z) _ HB.out).mono ?_
      rintro e w1 ⟨rfl, rfl⟩
      go_wp2_with fail
      refine (turnedW_any B f z _ HK.out.1 HK.out.2.1 HLO.out).mono ?_
      rintro e w2 ⟨h, rfl, ht, hb⟩
      have hlt := HK.out.1.block
      have HW2 : Hid (Wds w2 B f) := HK.out.1.below hb hlt
      have HC2 : Hid (w2.cell? ⟨B, 76, none⟩ = some (.bool false) ∧ w2.frozen? ⟨B, 76, none⟩ = false) := ⟨(cell_of_heap (hb.block B hlt) 76).1.trans HC0.out.1, (cell_of_heap (hb.block B hlt) 76).2.trans HC0.out.2⟩
      have HR : Hid (AccO (w2.setCells B 0 (wda h)) B (some (-z)) ∧ Chg B w1 (w2.setCells B 0 (wda h))) := ⟨AccO.words_stored HW2.out HC2.out.1 HC2.out.2 ht (by have := HK.out.2.2.2; omega) (by have := HK.out.2.2.1; omega) (fun j hj => (cell_of_heap (hb.block B hlt) j).1.trans (HB.out.top j hj)), (Chg.of_below hb (by omega)).setCells _ 0⟩
      have hst := store_words HW2.out h
      generalize w2.setCells B 0 (wda h) = w3 at hst HR
      clear ht hb hlt
      go_wp2_with fail
      go_end0
      exact ⟨rfl, by rw [HA.out]; exact HR.out.1, HR.out.2⟩
  · have hd : decide (signO o < 0) = false := decide_eq_false hs
    have HA : Hid (absO o = o) := by
      unfold Hid absO
      cases o with
      | none => rfl
      | some z =>
        have : 0 ≤ z := by unfold signO sgi at hs; simp only at hs; split at hs <;> (try split at hs) <;> omega
        simp; omega
    clear hs
    go_enter Try.func45, Try.ntmps45
    go_wp2_with fail
    refine (accSign_any B o _ HB.out).mono ?_
    rintro e w1 ⟨rfl, rfl⟩
    go_wp2_with fail
    go_end0
    exact ⟨rfl, by rw [HA.out]; exact HB.out, Chg.refl _ _⟩
end Go.Proofs.Ytaloaholmhcflaa

namespace Go.Proofs.Ytaloaholmhcflaa
open Go.RowKit
set_option linter.unusedVariables false
structure IsV (h : Nat → Nat) (V : Nat) : Prop where
  eq : wv h 76 = V
/-- What Round tells. -/
def RndO (d : Int) (o : Option Int) (u : Nat) (b : Bool) : Prop := match o with | none => u = 0 ∧ b = false | some z => ∀ a, a = 1166 → RndZ d z (2 ^ a) (u, b)
theorem RndO.uniq {d : Int} {o : Option Int} {u v : Nat} {b c : Bool} (h : RndO d o u b) (k : RndO d o v c) : u = v ∧ b = c := by
  cases o with
  | none => exact ⟨h.1.trans k.1.symm, h.2.trans k.2.symm⟩
  | some z =>
    obtain ⟨a, ha⟩ : ∃ a : Nat, a = 1166 := ⟨_, rfl⟩
    have := RndZ.uniq (h a ha) (k a ha)
    exact ⟨congrArg Prod.fst this, congrArg Prod.snd this⟩
theorem round_scaled {d : Int} {z : Int} {a b A : Nat} {p : Nat × Bool} (ha : a = 1166) (hb : b = 64) (hA : A = 1230) (h : Rnd d (decide (z < 0)) (z.natAbs * 2 ^ b) (2 ^ A) p) : RndZ d z (2 ^ a) p := by
  refine h.of_eq (Nat.two_pow_pos _) ?_
  rw [Nat.mul_assoc, ← Nat.pow_add, show b + a = A by omega]
set_option maxRecDepth 100000 in
set_option maxHeartbeats 1000000 in
theorem accRound_any (d : Int) (B : Nat) (o : Option Int) (w : World) (hB : AccO w B o) :
    Calls Try.prog 32 #[.pointer (some ⟨B, 0, none⟩), .int .i64 d] w fun e w' => ∃ u b, e = .returned (.tuple #[.float .f64 u, .bool b]) ∧ RndO d o u b ∧ Below w.heap.size w w' := by
  have HB : Hid _ := hB
  clear hB
  cases o with
  | none =>
    go_enter Try.func32, Try.ntmps32
    go_wp2_with fail
    refine (bad_any B none _ HB.out).mono ?_
    rintro e w1 ⟨rfl, rfl⟩
    go_wp2_with fail
    go_ret2
    exact ⟨0, false, rfl, ⟨rfl, rfl⟩, Below.refl _ _⟩
  | some z =>
    obtain ⟨f, k1, k2⟩ := HB.out.ex
    obtain ⟨t1, t2, t3⟩ := k2 z rfl
    have HK : Hid _ := And.intro k1 t1
    have HLO : Hid (-((2 ^ 4863 : Nat) : Int) < z) := by unfold Hid; have := pow_4800_4863; have := pow4800; generalize ((2 ^ 4800 : Nat) : Int) = L at *; generalize ((2 ^ 4863 : Nat) : Int) = M at *; omega
    clear k1 k2 t1 t2 t3
    go_enter Try.func32, Try.ntmps32
    go_wp2_with fail
    refine (bad_any B (some z) _ HB.out).mono ?_
    rintro e w1 ⟨rfl, rfl⟩
    go_wp2_with fail
    refine (size_words_any B f z _ HK.out.1 HK.out.2 HLO.out).mono ?_
    rintro e w2 ⟨h, rfl, l1, l2, l3, l4⟩
    have HN := Wds.new w2
    have hst := store_words HN h
    have HB2 : Hid (Below w1.heap.size w1 ((w2.alloc (.cells Try.zeroCells79 79)).setCells w2.heap.size 0 (wda h))) := Below.setCells l4.size _ _ _ (l4.alloc l4.size _)
    have HS : Hid _ := HN.stored (g := h) l1
    generalize (w2.alloc (.cells Try.zeroCells79 79)).setCells w2.heap.size 0 (wda h) = w3 at hst HS HB2
    have HL : IsV h z.natAbs := ⟨l2⟩
    clear HB HK HLO l3
    generalize hng : decide (z < 0) = ng
    have HNG : Hid _ := hng
    clear l1 l2 l4 HN hng
    go_wp2_with fail
    by_cases h0 : wv h 76 = 0
    · refine (front_zero w2.heap.size h _ HS.out h0).mono ?_
      rintro e w4 ⟨rfl, rfl⟩
      go_wp2_with fail
      refine (told_zero d ng _).mono ?_
      rintro e w5 ⟨u, b, rfl, hr, rfl⟩
      have HR : Hid _ := hr
      clear hr
      go_wp2_with fail
      go_ret2
      refine ⟨u, b, rfl, fun a ha => ?_, HB2.out.drew⟩
      have hz : z.natAbs = 0 := by rw [← HL.eq]; exact h0
      unfold RndZ
      rw [hz, HNG.out]
      exact HR.out _ (Nat.two_pow_pos _)
    · obtain ⟨bb, hbb⟩ : ∃ bb : Nat, bb = 64 := ⟨_, rfl⟩
      obtain ⟨aa, haa⟩ : ∃ aa : Nat, aa = 1230 := ⟨_, rfl⟩
      have HAB : Hid _ := And.intro hbb haa
      refine (front_pos w2.heap.size h _ HS.out h0 bb aa hbb haa).mono ?_
      rintro e w4 ⟨whole, power, more, rfl, hfr, rfl⟩
      have HFR : Hid _ := hfr
      clear hfr h0 hbb haa
      go_wp2_with fail
      refine (told_frt d ng whole power more _ _ HFR.out.1 (Nat.two_pow_pos _) (by have := HFR.out.2; omega) _).mono ?_
      rintro e w5 ⟨u, b, rfl, hr, rfl⟩
      have HR : Hid _ := hr
      clear hr
      go_wp2_with fail
      go_ret2
      refine ⟨u, b, rfl, fun a ha => ?_, HB2.out.drew.drew⟩
      have h2 := HR.out
      rw [HL.eq] at h2
      exact round_scaled ha HAB.out.1 HAB.out.2 (by rw [HNG.out]; exact h2)
end Go.Proofs.Ytaloaholmhcflaa

namespace Go.Proofs.Ytaloaholmhcflaa
open Go.RowKit
set_option linter.unusedVariables false
/-- What parts tells. -/
def PartsR (u : Nat) (m : Nat) (x : Int) (b : Bool) : Prop := (b = true ↔ Fin u) ∧ (b = true → m < 9007199254740992 ∧ -1074 ≤ x ∧ x ≤ 971 ∧ m * 2 ^ (x + 1074).toNat = rmag (frung u)) ∧ (b = false → m = 0 ∧ x = 0)
set_option maxRecDepth 100000 in
set_option maxHeartbeats 1000000 in
theorem parts_any (u : Nat) (hu : u < 18446744073709551616) (w : World) :
    Calls Try.prog 58 #[.float .f64 u] w fun e w' => ∃ (m : Nat) (x : Int) (b : Bool), e = .returned (.tuple #[.int .u64 (m : Int), .int .i64 x, .bool b]) ∧ PartsR u m x b ∧ w' = w := by
  obtain ⟨E, hE⟩ : ∃ E : Nat, u / 4503599627370496 % 2048 = E := ⟨_, rfl⟩
  obtain ⟨m, hm⟩ : ∃ m : Nat, u % 4503599627370496 = m := ⟨_, rfl⟩
  have fE : bits .and .u64 ((u : Int) / 4503599627370496) 2047 = (E : Int) := by
    have k := u64_and_nat (u / 4503599627370496) 2047 (by omega) (by decide)
    rw [show ((2047 : Nat) : Int) = 2047 from rfl] at k
    rw [show (u : Int) / 4503599627370496 = ((u / 4503599627370496 : Nat) : Int) by omega, k, and_2047, hE]
  have fm : bits .and .u64 (u : Int) 4503599627370495 = (m : Int) := by
    have k := u64_and_nat u 4503599627370495 hu (by decide)
    rw [show ((4503599627370495 : Nat) : Int) = 4503599627370495 from rfl] at k
    rw [k, show (4503599627370495 : Nat) = 2 ^ 52 - 1 by decide, Nat.and_two_pow_sub_one_eq_mod, show (2 : Nat) ^ 52 = 4503599627370496 by decide, hm]
  have hr : frung u = E * 4503599627370496 + m := by unfold frung; omega
  have hEb : E < 2048 := by omega
  have hmb : m < 4503599627370496 := by omega
  have hFin : Fin u ↔ E < 2047 := by unfold Fin infK; rw [hr]; omega
  have fo : bits .or .u64 (m : Int) 4503599627370496 = ((4503599627370496 + m : Nat) : Int) := by
    have k := u64_or_nat m 4503599627370496 (by omega) (by decide)
    rw [show ((4503599627370496 : Nat) : Int) = 4503599627370496 from rfl] at k
    rw [k, Nat.or_comm]
    have := Nat.two_pow_add_eq_or_of_lt (i := 52) (b := m) (by simpa using hmb) 1
    rw [show (2 : Nat) ^ 52 * 1 = 4503599627370496 by decide] at this
    rw [← this]
  generalize hM : 4503599627370496 + m = M at fo
  clear hE hm
  by_cases h2047 : E = 2047
  · subst h2047
    have HR : Hid (PartsR u 0 0 false) := ⟨by rw [hFin]; simp, fun h => (by cases h), fun _ => ⟨rfl, rfl⟩⟩
    have hz : ((2047 : Nat) : Int) = 2047 := rfl
    rw [hz] at fE
    clear hr hFin hM
    go_enter Try.func58, Try.ntmps58
    go_wp2_with (first | (go_at_call 33; refine (bits_any _ _).mono ?_; rintro e w' ⟨rfl, rfl⟩))
    go_ret3
    exact ⟨0, 0, false, rfl, HR.out, rfl⟩
  · by_cases h0 : E = 0
    · subst h0
      have HR : Hid (PartsR u m (-1074) true) := ⟨by rw [hFin]; simp, fun _ => ⟨by omega, by omega, by omega, by
        rw [hr]
        have := rmag_form 0 m (.inl rfl) (by omega)
        rw [this]; simp⟩, by simp⟩
      have hz : ((0 : Nat) : Int) = 0 := rfl
      rw [hz] at fE
      clear hr hFin hM
      go_enter Try.func58, Try.ntmps58
      go_wp2_with (first | (go_at_call 33; refine (bits_any _ _).mono ?_; rintro e w' ⟨rfl, rfl⟩))
      go_ret3
      exact ⟨m, -1074, true, rfl, HR.out, rfl⟩
    · have HR : Hid (PartsR u M (-1074 + (E : Int) - 1) true) := ⟨by rw [hFin]; simp; omega, fun _ => ⟨by omega, by omega, by omega, by
        obtain ⟨F, rfl⟩ : ∃ F, E = F + 1 := ⟨E - 1, by omega⟩
        have := rmag_form F M (.inr (by omega)) (by omega)
        rw [hr, show (F + 1) * 4503599627370496 + m = F * 4503599627370496 + M by omega, this, show (-1074 + ((F + 1 : Nat) : Int) - 1 + 1074).toNat = F by omega]⟩, by simp⟩
      have n0 : ((E : Int) == 0) = false := by simp; omega
      have n1 : ((E : Int) == 2047) = false := by simp; omega
      have hEw : wrap64 (E : Int) = (E : Int) := by unfold wrap64; omega
      have HEW : Hid _ := hEw
      clear hr hFin hM hEw
      go_enter Try.func58, Try.ntmps58
      go_wp2_with (first | (go_at_call 33; refine (bits_any _ _).mono ?_; rintro e w' ⟨rfl, rfl⟩))
      go_ret3
      exact ⟨M, -1074 + (E : Int) - 1, true, rfl, HR.out, rfl⟩
set_option maxRecDepth 100000 in
theorem signbit_any (u : Nat) (hu : u < 18446744073709551616) (w : World) : Calls Try.prog 62 #[.float .f64 u] w fun e w' => e = .returned (.bool (fneg u)) ∧ w' = w := by
  have hcb := call_bits
  have HN : Hid (decide (wrap64 (u : Int) < 0) = fneg u) := by
    unfold Hid fneg
    unfold wrap64
    by_cases h : 9223372036854775808 ≤ u
    · rw [decide_eq_true (by omega), show u / 9223372036854775808 % 2 = 1 by omega]; rfl
    · rw [decide_eq_false (by omega), show u / 9223372036854775808 % 2 = 0 by omega]; rfl
  go_enter Try.func62, Try.ntmps62
  go_wp2_with fail
  go_ret
  exact ⟨congrArg (fun b => Ending.returned (.bool b)) HN.out, rfl⟩
/-- A product's part of the real. -/
def prodZ (a b : Nat) (n : Int) : Int := fval a * fval b * ((2 ^ (n + 92).toNat : Nat) : Int)
def prodO (o : Option Int) (a b : Nat) (n : Int) : Option Int := o.bind fun z => if Fin a ∧ Fin b ∧ -64 ≤ n ∧ n ≤ 64 then holdZ (z + prodZ a b n) else none
theorem prod_parts {a b am bm place : Nat} {ax bx n : Int} (ha : am * 2 ^ (ax + 1074).toNat = rmag (frung a)) (hb : bm * 2 ^ (bx + 1074).toNat = rmag (frung b)) (ha0 : -1074 ≤ ax) (hb0 : -1074 ≤ bx) (hn : -64 ≤ n) (hp : (place : Int) = ax + bx + n + 2240) :
    prodZ a b n = sv (fneg a != fneg b) (am * bm * 2 ^ place) := by
  have e1 : am * bm * 2 ^ place = rmag (frung a) * rmag (frung b) * 2 ^ (n + 92).toNat := by
    rw [← ha, ← hb]
    have : (2 : Nat) ^ place = 2 ^ (ax + 1074).toNat * 2 ^ (bx + 1074).toNat * 2 ^ (n + 92).toNat := by
      rw [← Nat.pow_add, ← Nat.pow_add]; congr 1; omega
    rw [this]; ac_rfl
  rw [e1]
  unfold prodZ fval sv
  cases fneg a <;> cases fneg b <;> simp [Int.neg_mul, Int.mul_neg]
theorem prod_small {am bm place : Nat} {P Q : Nat} (ha : am < 9007199254740992) (hb : bm < 9007199254740992) (hp : place ≤ 4300) (hQ : Q = 4800) : am * bm * 2 ^ place < 2 ^ Q := by
  have h1 : am * bm ≤ 9007199254740992 * 9007199254740992 := Nat.mul_le_mul (by omega) (by omega)
  have h2 : (2 : Nat) ^ Q = 2 ^ (Q - place) * 2 ^ place := by rw [← Nat.pow_add]; congr 1; omega
  have h3 : (2 : Nat) ^ 107 ≤ 2 ^ (Q - place) := Nat.pow_le_pow_right (by omega) (by omega)
  have h4 : (9007199254740992 * 9007199254740992 : Nat) < 2 ^ 107 := by decide
  rw [h2]
  exact Nat.mul_lt_mul_of_pos_right (by omega) (Nat.two_pow_pos _)
set_option maxRecDepth 100000 in
set_option maxHeartbeats 1000000 in
theorem prod_spoils (B : Nat) (o : Option Int) (a b : Nat) (n : Int) (ha : a < 18446744073709551616) (hb : b < 18446744073709551616) (w : World) (hB : AccO w B o) (hno : ¬ (o ≠ none ∧ Fin a ∧ Fin b ∧ -64 ≤ n ∧ n ≤ 64)) :
    Calls Try.prog 39 #[.pointer (some ⟨B, 0, none⟩), .float .f64 a, .float .f64 b, .int .i64 n] w fun e w' => e = .returned (.tuple #[]) ∧ AccO w' B none ∧ Chg B w w' := by
  have HB : Hid _ := hB
  clear hB
  obtain ⟨f0, b0, hw0⟩ := HB.out.words
  have HW0 : Hid _ := hw0
  clear hw0
  go_enter Try.func39, Try.ntmps39
  go_wp2_with fail
  refine (parts_any a ha _).mono ?_
  rintro e w1 ⟨am, ax, ab, rfl, hpa, rfl⟩
  go_wp2_with fail
  refine (parts_any b hb _).mono ?_
  rintro e w1 ⟨bm, bx, bb, rfl, hpb, rfl⟩
  have HH : Hid (¬ (o.isNone = false ∧ ab = true ∧ bb = true ∧ -64 ≤ n ∧ n ≤ 64)) := by
    rintro ⟨h1, h2, h3, h4, h5⟩
    exact hno ⟨by cases o <;> simp_all, hpa.1.1 h2, hpb.1.1 h3, h4, h5⟩
  clear hpa hpb hno
  go_wp2_with fail
  refine (bad_any B o _ HB.out).mono ?_
  rintro e w1 ⟨rfl, rfl⟩
  by_cases c0 : o.isNone = false
  · by_cases c1 : ab = true
    · by_cases c2 : bb = true
      · by_cases c3 : -64 ≤ n
        · have c4 : ¬ n ≤ 64 := fun c => HH.out ⟨c0, c1, c2, c3, c⟩
          subst c1 c2
          have d1 : decide (n < -64) = false := decide_eq_false (by omega)
          have d2 : decide (64 < n) = true := decide_eq_true (by omega)
          clear HH
          go_wp2_with (first | (go_at_call 59; refine (spoil_any B f0 b0 _ HW0.out.1 HW0.out.2.1 HW0.out.2.2.1 HW0.out.2.2.2).mono ?_; rintro e w' ⟨rfl, hs1, hs2⟩))
          (try simp only [Exit.inBlock, Exit.then]); refine bodyPost_ret (results_none rfl _ _ _) rfl ?_
          exact ⟨rfl, hs1, hs2⟩
        · subst c1 c2
          have d1 : decide (n < -64) = true := decide_eq_true (by omega)
          clear HH
          go_wp2_with (first | (go_at_call 59; refine (spoil_any B f0 b0 _ HW0.out.1 HW0.out.2.1 HW0.out.2.2.1 HW0.out.2.2.2).mono ?_; rintro e w' ⟨rfl, hs1, hs2⟩))
          (try simp only [Exit.inBlock, Exit.then]); refine bodyPost_ret (results_none rfl _ _ _) rfl ?_
          exact ⟨rfl, hs1, hs2⟩
      · obtain rfl : bb = false := by simpa using c2
        subst c1
        clear HH
        go_wp2_with (first | (go_at_call 59; refine (spoil_any B f0 b0 _ HW0.out.1 HW0.out.2.1 HW0.out.2.2.1 HW0.out.2.2.2).mono ?_; rintro e w' ⟨rfl, hs1, hs2⟩))
        (try simp only [Exit.inBlock, Exit.then]); refine bodyPost_ret (results_none rfl _ _ _) rfl ?_
        exact ⟨rfl, hs1, hs2⟩
    · obtain rfl : ab = false := by simpa using c1
      clear HH
      go_wp2_with (first | (go_at_call 59; refine (spoil_any B f0 b0 _ HW0.out.1 HW0.out.2.1 HW0.out.2.2.1 HW0.out.2.2.2).mono ?_; rintro e w' ⟨rfl, hs1, hs2⟩))
      (try simp only [Exit.inBlock, Exit.then]); refine bodyPost_ret (results_none rfl _ _ _) rfl ?_
      exact ⟨rfl, hs1, hs2⟩
  · have c0' : o.isNone = true := by simpa using c0
    clear HH c0
    go_wp2_with (first | (go_at_call 59; refine (spoil_any B f0 b0 _ HW0.out.1 HW0.out.2.1 HW0.out.2.2.1 HW0.out.2.2.2).mono ?_; rintro e w' ⟨rfl, hs1, hs2⟩))
    (try simp only [Exit.inBlock, Exit.then]); refine bodyPost_ret (results_none rfl _ _ _) rfl ?_
    exact ⟨rfl, hs1, hs2⟩
set_option maxRecDepth 100000 in
set_option maxHeartbeats 1000000 in
theorem prod_adds (B : Nat) (z : Int) (a b : Nat) (n : Int) (ha : a < 18446744073709551616) (hb : b < 18446744073709551616) (w : World) (hB : AccO w B (some z)) (fa : Fin a) (fb : Fin b) (hn0 : -64 ≤ n) (hn1 : n ≤ 64) :
    Calls Try.prog 39 #[.pointer (some ⟨B, 0, none⟩), .float .f64 a, .float .f64 b, .int .i64 n] w fun e w' => e = .returned (.tuple #[]) ∧ AccO w' B (holdZ (z + prodZ a b n)) ∧ Chg B w w' := by
  have HB : Hid _ := hB
  clear hB
  obtain ⟨f, k1, k2⟩ := HB.out.ex
  obtain ⟨t1, t2, t3⟩ := k2 z rfl
  have HK : Hid _ := And.intro k1 (And.intro t1 (And.intro t2 t3))
  have HC0 : Hid _ := And.intro HB.out.cell HB.out.froz
  clear k1 k2 t1 t2 t3
  go_enter Try.func39, Try.ntmps39
  go_wp2_with fail
  refine (parts_any a ha _).mono ?_
  rintro e w1 ⟨am, ax, ab, rfl, hpa, rfl⟩
  go_wp2_with fail
  refine (parts_any b hb _).mono ?_
  rintro e w1 ⟨bm, bx, bb, rfl, hpb, rfl⟩
  obtain rfl : ab = true := hpa.1.2 fa
  obtain rfl : bb = true := hpb.1.2 fb
  obtain ⟨a1, a2, a3, a4⟩ := hpa.2.1 rfl
  obtain ⟨b1, b2, b3, b4⟩ := hpb.2.1 rfl
  obtain ⟨place, hpl⟩ : ∃ place : Nat, (place : Int) = ax + bx + n + 2240 := ⟨(ax + bx + n + 2240).toNat, by omega⟩
  have HPZ : Hid (prodZ a b n = sv (fneg a != fneg b) (am * bm * 2 ^ place)) := prod_parts a4 b4 a2 b2 hn0 hpl
  obtain ⟨k, hk⟩ : ∃ k, place / 64 = k := ⟨_, rfl⟩
  obtain ⟨nn, hnn⟩ : ∃ nn, place % 64 = nn := ⟨_, rfl⟩
  obtain ⟨high, hhi⟩ : ∃ high, am * bm / 18446744073709551616 = high := ⟨_, rfl⟩
  obtain ⟨low, hlo⟩ : ∃ low, am * bm % 18446744073709551616 = low := ⟨_, rfl⟩
  have hll : low < 18446744073709551616 := by rw [← hlo]; exact Nat.mod_lt _ (by omega)
  have hhl : high < 18446744073709551616 := by
    rw [← hhi, Nat.div_lt_iff_lt_mul (by omega)]
    have : am * bm ≤ 9007199254740992 * 9007199254740992 := Nat.mul_le_mul (by omega) (by omega)
    omega
  have hmb : high * 18446744073709551616 + low = am * bm := by have := Nat.div_add_mod (am * bm) 18446744073709551616; omega
  have hpk : place = 64 * k + nn := by omega
  obtain ⟨ng, hng⟩ : ∃ ng, (fneg a != fneg b) = ng := ⟨_, rfl⟩
  have HE : Hid (z + prodZ a b n = z + sv ng ((high * 18446744073709551616 + low) * 2 ^ (64 * k + nn))) := by unfold Hid; rw [HPZ.out, hng, hmb, hpk]
  have HBD : Hid (-((2 ^ 4863 : Nat) : Int) ≤ z + sv ng ((high * 18446744073709551616 + low) * 2 ^ (64 * k + nn)) ∧ z + sv ng ((high * 18446744073709551616 + low) * 2 ^ (64 * k + nn)) < ((2 ^ 4863 : Nat) : Int)) := by
    obtain ⟨Q, hQ⟩ : ∃ Q : Nat, Q = 4800 := ⟨_, rfl⟩
    have hs := prod_small (P := 0) a1 b1 (show place ≤ 4300 by omega) hQ
    rw [hmb, ← hpk]
    have h2 := HK.out.2.2
    have h3 := pow_4800_4863
    rw [hQ] at hs
    have hs' : ((am * bm * 2 ^ place : Nat) : Int) < ((2 ^ 4800 : Nat) : Int) := by exact_mod_cast hs
    unfold Hid sv
    generalize am * bm * 2 ^ place = X at *
    generalize ((2 ^ 4800 : Nat) : Int) = L at *
    generalize ((2 ^ 4863 : Nat) : Int) = M at *
    split <;> omega
  have hpw : ax + bx + n + 2240 = 64 * (k : Int) + nn := by omega
  have hnn64 : nn < 64 := by omega
  have hk76 : k + 3 ≤ 76 := by omega
  have hml := Try.bits_Mul64 am bm (by omega) (by omega) w1
  rw [hhi, hlo] at hml
  have HML : Hid _ := hml
  have hab : -5000 ≤ ax + bx ∧ ax + bx ≤ 5000 ∧ -5000 ≤ ax + bx + n ∧ ax + bx + n ≤ 5000 := by omega
  have HPW : Hid _ := hpw
  have HM : Hid (Calls Try.prog 60 #[.int .u64 (am : Int), .int .u64 (bm : Int)] w1 fun e w' => e = .returned (.tuple #[.int .u64 (high : Int), .int .u64 (low : Int)]) ∧ w' = w1) := hml
  have HNG : Hid _ := hng
  have d1 : decide (n < -64) = false := decide_eq_false (by omega)
  have d2 : decide (64 < n) = false := decide_eq_false (by omega)
  clear HML hml hpw hmb hpk hhi hlo hk hnn hpl hpa hpb a1 a2 a3 a4 b1 b2 b3 b4 HPZ hng fa fb
  go_wp2_with fail
  refine (bad_any B (some z) _ HB.out).mono ?_
  rintro e w2 ⟨rfl, rfl⟩
  go_wp2_with fail
  refine Calls.mono HM.out ?_
  rintro e w2 ⟨rfl, rfl⟩
  go_wp2_with fail
  obtain ⟨sa, hsa⟩ : ∃ sa, fneg a = sa := ⟨_, rfl⟩
  obtain ⟨sb, hsb⟩ : ∃ sb, fneg b = sb := ⟨_, rfl⟩
  have hng := HNG.out
  rw [hsa, hsb] at hng
  have HSA : Hid (∀ w : World, Calls Try.prog 62 #[.float .f64 a] w fun e w' => e = .returned (.bool sa) ∧ w' = w) := fun w => by rw [← hsa]; exact signbit_any a ha w
  have HSB : Hid (∀ w : World, Calls Try.prog 62 #[.float .f64 b] w fun e w' => e = .returned (.bool sb) ∧ w' = w) := fun w => by rw [← hsb]; exact signbit_any b hb w
  have hng2 : (!sa == sb) = ng := hng
  have v1 : IntKind.i64.wrap (ax + bx) = ax + bx := by rw [IntKind.wrap_i64]; omega
  have v2 : IntKind.i64.wrap (ax + bx + n) = ax + bx + n := by rw [IntKind.wrap_i64]; omega
  clear hsa hsb HNG
  have HPUT : Hid (Calls Try.prog 61 #[.pointer (some ⟨B, 0, none⟩), .int .u64 (high : Int), .int .u64 (low : Int), .int .i64 (ax + bx + n), .bool ng] w2.drew fun e w' => e = .returned (.tuple #[]) ∧ ∃ h, Wds w' B h ∧ Mut B w2.drew w' ∧ Tc h (z + sv ng ((high * 18446744073709551616 + low) * 2 ^ (64 * k + nn)))) :=
    put_any B f z high low k nn (ax + bx + n) ng hk76 hnn64 HPW.out hll hhl _ HK.out.1.drew HK.out.2.1 HBD.out.1 HBD.out.2
  clear HBD HPW
  go_region_held3 (fun w' => True) (trivial) ((first | (go_at_call_of 62 (Value.float FloatKind.f64 a); refine Calls.mono (HSA.out _) ?_; rintro e w' ⟨rfl, rfl⟩) | (go_at_call_of 62 (Value.float FloatKind.f64 b); refine Calls.mono (HSB.out _) ?_; rintro e w' ⟨rfl, rfl⟩) | (go_at_call 61; refine Calls.mono HPUT.out ?_; rintro e w3 ⟨rfl, h, j1, j2, j3⟩)))
  have HJ : Hid _ := And.intro j1 j3
  have HT : Hid (w3.cell? ⟨B, 76, none⟩ = some (.bool false) ∧ w3.frozen? ⟨B, 76, none⟩ = false) := ⟨j2.top.1.trans HC0.out.1, j2.top.2.trans HC0.out.2⟩
  have HM : Hid (Chg B w2 w3) := (Chg.refl B w2).drew.trans j2.chg
  have HTP : Hid (∀ j, 77 ≤ j → w3.cell? ⟨B, j, none⟩ = none) := fun j hj => (j2.high j (by omega)).trans (HB.out.top j hj)
  clear j1 j2 j3
  go_wp2_with fail
  refine (settle_any B h _ _ HJ.out.1 HJ.out.2 HT.out.1 HT.out.2 HTP.out).mono ?_
  rintro e w4 ⟨rfl, s1, s2⟩
  have HS : Hid _ := And.intro s1 s2
  clear s1 s2
  go_wp2_with fail
  go_end0
  exact ⟨rfl, by rw [HE.out]; exact HS.out.1, HM.out.trans HS.out.2⟩
theorem accProd_any (B : Nat) (o : Option Int) (a b : Nat) (n : Int) (ha : a < 18446744073709551616) (hb : b < 18446744073709551616) (w : World) (hB : AccO w B o) :
    Calls Try.prog 39 #[.pointer (some ⟨B, 0, none⟩), .float .f64 a, .float .f64 b, .int .i64 n] w fun e w' => e = .returned (.tuple #[]) ∧ AccO w' B (prodO o a b n) ∧ Chg B w w' := by
  by_cases h : o ≠ none ∧ Fin a ∧ Fin b ∧ -64 ≤ n ∧ n ≤ 64
  · obtain ⟨h0, h1, h2, h3, h4⟩ := h
    cases o with
    | none => exact absurd rfl h0
    | some z =>
      have : prodO (some z) a b n = holdZ (z + prodZ a b n) := if_pos ⟨h1, h2, h3, h4⟩
      rw [this]
      exact prod_adds B z a b n ha hb w hB h1 h2 h3 h4
  · have : prodO o a b n = none := by
      cases o with
      | none => rfl
      | some z => exact if_neg (fun c => h ⟨by simp, c⟩)
    rw [this]
    exact prod_spoils B o a b n ha hb w hB h
set_option maxRecDepth 100000 in
theorem accAdd_any (B : Nat) (o : Option Int) (a : Nat) (ha : a < 18446744073709551616) (w : World) (hB : AccO w B o) :
    Calls Try.prog 44 #[.pointer (some ⟨B, 0, none⟩), .float .f64 a] w fun e w' => e = .returned (.tuple #[]) ∧ AccO w' B (prodO o a 4607182418800017408 0) ∧ Chg B w w' := by
  have HB : Hid _ := hB
  clear hB
  go_enter Try.func44, Try.ntmps44
  go_wp2_with fail
  refine (accProd_any B o a 4607182418800017408 0 ha (by omega) _ HB.out).mono ?_
  rintro e w1 ⟨rfl, h1, h2⟩
  have HS : Hid _ := And.intro h1 h2
  clear h1 h2
  go_wp2_with fail
  go_end0
  exact ⟨rfl, HS.out.1, HS.out.2⟩
end Go.Proofs.Ytaloaholmhcflaa

namespace Go.Proofs.Ytaloaholmhcflaa
open Go.RowKit Go.Shelf
set_option linter.unusedVariables false
set_option linter.unusedSimpArgs false
attribute [local go_sem] Oper.semAt_some
theorem res_tmp2J (f : Func) (i j : Nat) (hf : f.results = #[ResultVar.tmp i, ResultVar.tmp j]) (tmps : Array Value) (W : World) (a b : Value) (h1 : tmps[i]? = some a) (h2 : tmps[j]? = some b) : (results f tmps).run Try.prog W = .ok (.tuple #[a, b]) W := by
  simp [results, hf, h1, h2]
theorem frung_ltJ {u : Nat} (h : u < 18446744073709551616) : frung u < 18446744073709551616 := by unfold frung; omega
end Go.Proofs.Ytaloaholmhcflaa

namespace Go.Proofs.Ytaloaholmhcflaa
open Go.RowKit
set_option linter.unusedVariables false
set_option linter.unusedSimpArgs false
theorem info3J {P : Program} {t : TypeId} {z : Value} {s b : Nat} (h : (P.info? t).map (fun i => (i.zero, i.size, i.bytes)) = some (some z, s, b)) : ∃ i, P.info? t = some i ∧ i.zero = some z ∧ i.size = s ∧ i.bytes = b := by
  cases hi : P.info? t with
  | none => simp [hi] at h
  | some i =>
    simp [hi] at h
    exact ⟨i, rfl, h.1, h.2.1, h.2.2⟩
theorem Try.infoFJ : (Try.prog.info? 50).map (fun i => (i.zero, i.size, i.bytes)) = some (some (.float .f64 0), 1, 8) := by kernel_rfl
def flN (n : Nat) : Array Value := madeCells #[.float .f64 0] n
theorem makeFJ (n : Nat) (hn : n ≤ 1000000) (w : World) :
    (Instr.makeSlice 22 (.int .i64 (n : Int)) (.int .i64 (n : Int))).run Try.prog w = .ok (.slice (some ⟨w.heap.size, 0, none⟩) n n) (w.alloc (.cells (flN n) 50)) := by
  obtain ⟨i0, hi, hz0, hz1, hz2⟩ := info3J Try.infoFJ
  have h := run_makeSlice (P := Try.prog) w 22 50 i0 (.float .f64 0) Try.underlying22 hi hz0 .i64 .i64 (n : Int) (n : Int) (by omega) (by omega) (by rw [hz1, Int.toNat_natCast]; omega) (by rw [hz2]; omega) (by omega)
  rw [Int.toNat_natCast, hz1, Nat.mul_one] at h
  exact h
end Go.Proofs.Ytaloaholmhcflaa

namespace Go.Proofs.Ytaloaholmhcflaa
open Go.RowKit
set_option linter.unusedVariables false
def two (a b : Nat × Nat × Bool) (j : Nat) : Nat × Nat × Bool := if j = 0 then a else b
end Go.Proofs.Ytaloaholmhcflaa

namespace Go.Proofs.Ytaloaholmhcflaa
open Go.RowKit Go.Shelf
set_option linter.unusedVariables false
open Ieee
theorem fval_zeroJ : fval 0 = 0 := by decide +kernel
theorem fin_zeroJ : Fin 0 := by decide
/-- All numbers of a zonotope are numbers. -/
structure FnZ (z : ZD) : Prop where
  c : ∀ j : Nat, Fin (z.cs[j]?.getD 0)
  r : ∀ j : Nat, Fin (z.rs[j]?.getD 0)
  g : ∀ k j : Nat, Fin ((z.gs[k]?.getD [])[j]?.getD 0)
  few : z.dn ≤ 1050000
end Go.Proofs.Ytaloaholmhcflaa

namespace Go.Proofs.Ytaloaholmhcflaa
open Go.RowKit
set_option linter.unusedVariables false
set_option linter.unusedSimpArgs false
theorem drop_eqI {is js : List Int} {k : Nat} (h1 : k < is.length) (h2 : k < js.length) : decide (is.drop k = js.drop k) = (decide (is[k]?.getD 0 = js[k]?.getD 0) && decide (is.drop (k + 1) = js.drop (k + 1))) := by
  rw [List.drop_eq_getElem_cons h1, List.drop_eq_getElem_cons h2, List.getElem?_eq_getElem h1, List.getElem?_eq_getElem h2]
  simp only [List.cons.injEq, Option.getD_some, Bool.decide_and]
end Go.Proofs.Ytaloaholmhcflaa

namespace Go.Proofs.Ytaloaholmhcflaa
open Go.RowKit Go.Shelf
set_option linter.unusedVariables false
set_option linter.unusedSimpArgs false
theorem neq_ord {u v : Nat} (hu : Fin u) (hv : Fin v) : (FloatKind.f64.format.order u v == some Ordering.eq) = decide (srung u = srung v) := by
  have ho := order_rung (x := u) (y := v) (Nat.le_of_lt hu) (Nat.le_of_lt hv)
  rw [f64_fmtJ, ho]
  by_cases h : srung u = srung v
  · rw [Int.compare_eq_eq.2 h, decide_eq_true h]; rfl
  · rw [decide_eq_false h]
    by_cases h2 : srung u < srung v
    · rw [Int.compare_eq_lt.2 h2]; rfl
    · rw [Int.compare_eq_gt.2 (by omega)]; rfl
theorem neq_ordN {u v : Nat} (hu : Fin u) (hv : Fin v) : (FloatKind.f64.format.order u v != some Ordering.eq) = !decide (srung u = srung v) := by
  rw [← neq_ord hu hv]; rfl
end Go.Proofs.Ytaloaholmhcflaa

namespace Go.Proofs.Ytaloaholmhcflaa
open Go.RowKit Go.Shelf
set_option linter.unusedVariables false
set_option linter.unusedSimpArgs false
def zRow (z : ZD) : Array Value := #[.int .i64 z.N, .slice z.co z.cn z.cc, .slice z.io z.dn z.dc, .slice z.go z.gn z.gc, .slice z.ro z.rn z.rc, .bool z.bad]
end Go.Proofs.Ytaloaholmhcflaa

namespace Go.Proofs.Ytaloaholmhcflaa
open Go.RowKit Go.Shelf
set_option linter.unusedVariables false
open Ieee
theorem fin_getD {us : List Nat} (h : ∀ u ∈ us, Fin u) (j : Nat) : Fin (us[j]?.getD 0) := by
  by_cases hj : j < us.length
  · rw [List.getElem?_eq_getElem hj]; exact h _ (List.getElem_mem hj)
  · rw [List.getElem?_eq_none (by omega)]; exact fin_zeroJ
theorem colsB_num {z : ZD} : ∀ {ks : List (_root_.Fin z.dn)} {last : Int}, colsB z last ks = true → ∀ k ∈ ks, numN (z.gs[k.val]?.getD []) z.N = true
  | [], _, _, k, hk => by cases hk
  | x :: ks, last, h, k, hk => by
    have h' : (colOk z last x && colsB z (idZ z x) ks) = true := h
    rw [Bool.and_eq_true] at h'
    rcases List.mem_cons.1 hk with rfl | hk
    · have := h'.1
      unfold colOk at this
      simp only [Bool.and_eq_true] at this
      exact this.2
    · exact colsB_num h'.2 k hk
/-- What a whole zonotope has. -/
structure WhF (z : ZD) : Prop where
  n1 : 1 ≤ z.rn
  n2 : z.rn ≤ 256
  N : z.N = (z.rn : Int)
  cn : z.cn = z.rn
  dg : z.dn = z.gn
  cl : z.cs.length = z.rn
  rl : z.rs.length = z.rn
  gl : ∀ k, k < z.dn → (z.gs[k]?.getD []).length = z.rn
  pos : ∀ i : Nat, 0 ≤ fval (z.rs[i]?.getD 0)
  fin : FnZ z
theorem WhF.of {w : World} {z : ZD} (hz : ZR w z) (hd : z.dn ≤ 1050000) (h : wholeB z = true) : WhF z := by
  unfold wholeB at h
  simp only [Bool.and_eq_true, decide_eq_true_eq] at h
  obtain ⟨⟨⟨⟨⟨⟨h1, h2⟩, h3⟩, h4⟩, h5⟩, h6⟩, h7⟩ := h
  obtain ⟨c1, c2⟩ := numN_fin h3
  obtain ⟨r1, r2⟩ := numN_fin h4
  have hl := hz.r.length
  have hlc := hz.c.length
  have hg := fun (k : Nat) (hk : k < z.dn) => numN_fin (colsB_num h7 ⟨k, hk⟩ (List.mem_finRange _))
  refine ⟨by omega, by omega, by omega, by omega, h5, by omega, hl, fun k hk => by have := (hg k hk).1; dsimp only at this; omega, fun i => ?_, ⟨fin_getD c2, fin_getD r2, fun k j => ?_, hd⟩⟩
  · by_cases hi : i < z.rs.length
    · rw [List.getElem?_eq_getElem hi]
      have h8 := List.all_eq_true.1 h6 _ (List.getElem_mem hi)
      have h9 : ¬ srung z.rs[i] < 0 := of_decide_eq_true h8
      have h10 := srung_le 0 z.rs[i]
      rw [fval_zeroJ, show srung 0 = 0 by decide] at h10
      exact h10.1 (by omega)
    · rw [List.getElem?_eq_none (by omega)]; exact Int.le_of_eq fval_zeroJ.symm
  · by_cases hk : k < z.dn
    · exact fin_getD (hg k hk).2 j
    · have e : z.gs[k]? = none := List.getElem?_eq_none (by have := hz.g.length; omega)
      rw [e]
      exact fin_zeroJ
end Go.Proofs.Ytaloaholmhcflaa

namespace Go.Proofs.Ytaloaholmhcflaa
open Go.RowKit Go.Shelf
set_option linter.unusedVariables false
set_option linter.unusedSimpArgs false
theorem wpList_load_rowG {P : Program} {ops : Array Oper} {rest : List Oper} {op : Oper} {a : Act} {w : World} {Q : Exit → Act → World → Prop} (hgd : Region.wanted op (yielded ops a.tmps) = true) (ty : TypeId) (x : Operand) (ho : op.op = .load ty x)
    (B : Nat) (c : Array Value) (hx : a.eval x = .pointer (some ⟨B, 0, none⟩)) (hB : w.heap[B]? = some (.cells c ty)) (d : TypeDesc) (hu : P.underlying ty = some d) (hd : d.isRow = true)
    (n : Nat) (hi : (P.info? ty).map (·.size) = some n) (hn : c.size = n)
    (h : wpList P ops Q rest (a.put op.dst (.agg c)) w) : wpList P ops Q (op :: rest) a w := by
  have hr : w.rangeAt B 0 c.toList := by
    have := World.rangeAt_of_block hB 0 c.size
    simpa using this
  refine wpList_step fun K hK => ?_
  rw [if_pos hgd]
  refine wp_load_mid ty x ho B 0 hx c.toList d hr hu hd (by simpa [hn] using hi) ?_
  refine hK _ _ ?_
  simpa using h
end Go.Proofs.Ytaloaholmhcflaa

namespace Go.Proofs.Ytaloaholmhcflaa
open Go.RowKit Go.Shelf
set_option linter.unusedVariables false
set_option linter.unusedSimpArgs false
theorem rdF2 {W : World} {B x y : Nat} {t : TypeId} (h : W.heap[B]? = some (.cells #[.float .f64 x, .float .f64 y] t)) (hx : x < 18446744073709551616) (hy : y < 18446744073709551616) : RdF W (some ⟨B, 0, none⟩) 2 2 [x, y] := by
  refine ⟨rfl, by decide, fun u hu => ?_, .inr ⟨B, 0, rfl, fun j hj => ?_⟩⟩
  · simp only [List.mem_cons, List.not_mem_nil, or_false] at hu
    rcases hu with rfl | rfl <;> assumption
  · match j, hj with
    | 0, _ => exact cellAtJ h 0 _ rfl
    | 1, _ => exact cellAtJ h 1 _ rfl
theorem rdG2 {W : World} {B : Nat} {p q : Option Addr × Nat × Nat} {us vs : List Nat} {t : TypeId} (h : W.heap[B]? = some (.cells #[.slice p.1 p.2.1 p.2.2, .slice q.1 q.2.1 q.2.2] t)) (hp : RdF W p.1 p.2.1 p.2.2 us) (hq : RdF W q.1 q.2.1 q.2.2 vs) : RdGs W (some ⟨B, 0, none⟩) 2 2 (fun j => if j = 0 then p else q) [us, vs] := by
  refine ⟨rfl, by decide, .inr ⟨B, 0, rfl, fun j hj => ?_⟩, fun j hj => ?_⟩
  · match j, hj with
    | 0, _ => exact cellAtJ h 0 _ rfl
    | 1, _ => exact cellAtJ h 1 _ rfl
  · match j, hj with
    | 0, _ => exact hp
    | 1, _ => exact hq
end Go.Proofs.Ytaloaholmhcflaa

namespace Go.Proofs.Ytaloaholmhcflaa
open Go.RowKit Go.Shelf
set_option linter.unusedVariables false
set_option linter.unusedSimpArgs false
/-- A slice of words. -/
structure RdUs (w : World) (ao : Option Addr) (len cap : Nat) (us : List Nat) : Prop where
  length : us.length = len
  max : len ≤ maxLen
  cells : len = 0 ∨ ∃ b off, ao = some ⟨b, off, none⟩ ∧ ∀ j, j < len → w.cell? ⟨b, off + j, none⟩ = some (.int .u64 ((us[j]?.getD 0 : Nat) : Int))
theorem RdUs.later {w w' : World} {ao : Option Addr} {len cap : Nat} {us : List Nat} (h : RdUs w ao len cap us) (hb : Below w.heap.size w w') : RdUs w' ao len cap us := by
  refine ⟨h.length, h.max, ?_⟩
  rcases h.cells with h0 | ⟨b, off, ha, hc⟩
  · exact .inl h0
  · refine .inr ⟨b, off, ha, fun j hj => ?_⟩
    rw [hb.cell (p := ⟨b, off + j, none⟩) (World.block_lt_of_cell? w _ (hc j hj))]
    exact hc j hj
theorem apiBits_any (u : Nat) (w : World) : Calls Try.prog 33 #[.float .f64 u] w fun e w' => e = .returned (.int .u64 u) ∧ w' = w := by
  have hcb := call_bits u
  go_enter Try.func33, Try.ntmps33
  go_wp2_with fail
  go_ret
  exact ⟨rfl, rfl⟩
theorem drop_eqU {us vs : List Nat} {k : Nat} (h1 : k < us.length) (h2 : k < vs.length) : decide (us.drop k = vs.drop k) = (decide (us[k]?.getD 0 = vs[k]?.getD 0) && decide (us.drop (k + 1) = vs.drop (k + 1))) := by
  rw [List.drop_eq_getElem_cons h1, List.drop_eq_getElem_cons h2, List.getElem?_eq_getElem h1, List.getElem?_eq_getElem h2]
  simp only [List.cons.injEq, Option.getD_some, Bool.decide_and]
set_option maxRecDepth 100000 in
set_option maxHeartbeats 1500000 in
theorem refSame_any (ao bo : Option Addr) (al ac bl bc : Nat) (us vs : List Nat) (w : World) (h : RdF w ao al ac us) (h' : RdUs w bo bl bc vs) :
    Calls Try.prog 43 #[.slice ao al ac, .slice bo bl bc] w fun e w' => e = .returned (.bool (decide (us = vs))) ∧ Below w.heap.size w w' := by
  have HR : Hid _ := h
  have HR' : Hid _ := h'
  have HLN : Hid (us.length = al ∧ vs.length = bl ∧ al ≤ 9223372036854775807) := ⟨h.length, h'.length, Nat.le_trans h.max maxLen_le⟩
  have hmx : al ≤ 9223372036854775807 := Nat.le_trans h.max maxLen_le
  clear h h'
  by_cases hn : al = bl
  · subst hn
    go_enter Try.func43, Try.ntmps43
    go_wp2_with fail
    go_loopg [5] al (fun g iv wx => ∃ k : Nat, iv = .int .i64 k ∧ k + g = al ∧ Hid (Below w.heap.size w wx) ∧ Hid (decide (us.drop k = vs.drop k) = decide (us = vs)))
    case atStart => exact ⟨0, rfl, by omega, Below.refl _ w, rfl⟩
    case round =>
      obtain ⟨k, rfl, hk, HB, HD⟩ := hrel
      by_cases hlt : k < al
      · have hd : decide ((k : Int) < (al : Int)) = true := decide_eq_true (by omega)
        obtain ⟨g, rfl⟩ : ∃ g, gk = g + 1 := ⟨gk - 1, by omega⟩
        rcases (HR.out.later HB.out).cells with h0 | ⟨ab, aoff, rfl, hca⟩
        · omega
        rcases (HR'.out.later HB.out).cells with h0 | ⟨bb, boff, rfl, hcb⟩
        · omega
        have ga := hca k hlt
        have gb := hcb k hlt
        have HDs : Hid (_ = _) := drop_eqU (us := us) (vs := vs) (k := k) (by rw [HLN.out.1]; exact hlt) (by rw [HLN.out.2.1]; exact hlt)
        obtain ⟨x, hx⟩ : ∃ x, us[k]?.getD 0 = x := ⟨_, rfl⟩
        obtain ⟨y, hy⟩ : ∃ y, vs[k]?.getD 0 = y := ⟨_, rfl⟩
        rw [hx, hy] at HDs
        rw [hx] at ga
        rw [hy] at gb
        have HIG : Hid (k + (g + 1) = al) := hk
        clear hca hcb hx hy hk
        have HB1 : Hid (Below w.heap.size w wr.drew) := HB.out.drew
        go_upto_region 6 with fail
        have hS : (fun w' => w'.cell? ⟨ab, aoff + k, none⟩ = some (.float .f64 x) ∧ w'.cell? ⟨bb, boff + k, none⟩ = some (.int .u64 (y : Int))) wr.drew := ⟨ga, gb⟩
        refine wp_region_noPanic ?_
        refine wp_region_held_drew (S := (fun w' => w'.cell? ⟨ab, aoff + k, none⟩ = some (.float .f64 x) ∧ w'.cell? ⟨bb, boff + k, none⟩ = some (.int .u64 (y : Int)))) (by kernel_rfl) hS (fun _ => ?_)
        refine takeH 17 (i := 0) (v := ?_) rfl rfl (by kernel_rfl) (by kernel_rfl) (by kernel_rfl) (fun _ _ _ h => h) (Or.inl ⟨by kernel_rfl, ?_⟩) (by assumption) ?_
        rotate_left
        · intro w' hSw; (try dsimp only at hSw); go_simp; try with_reducible rfl
        try simp only [Act.put, List.setIfInBounds_toArray, List.set_cons_zero, List.set_cons_succ]
        refine takeH 18 (i := 1) (v := ?_) rfl rfl (by kernel_rfl) (by kernel_rfl) (by kernel_rfl) (fun _ _ _ h => h) (Or.inl ⟨by kernel_rfl, ?_⟩) (by assumption) ?_
        rotate_left
        · intro w' hSw; (try dsimp only at hSw); go_simp; try with_reducible rfl
        try simp only [Act.put, List.setIfInBounds_toArray, List.set_cons_zero, List.set_cons_succ]
        refine takeH 19 (i := 2) (v := ?_) rfl rfl (by kernel_rfl) (by kernel_rfl) (by kernel_rfl) (fun _ _ _ h => h) (Or.inl ⟨by kernel_rfl, ?_⟩) (by assumption) ?_
        rotate_left
        · intro w' hSw; (try dsimp only at hSw); go_simp; try with_reducible rfl
        try simp only [Act.put, List.setIfInBounds_toArray, List.set_cons_zero, List.set_cons_succ]
        refine takeH 20 (i := 3) (v := ?_) rfl rfl (by kernel_rfl) (by kernel_rfl) (by kernel_rfl) (fun _ _ _ h => h) (Or.inl ⟨by kernel_rfl, ?_⟩) (by assumption) ?_
        rotate_left
        · intro w' hSw; (try dsimp only at hSw); go_simp; try with_reducible rfl
        try simp only [Act.put, List.setIfInBounds_toArray, List.set_cons_zero, List.set_cons_succ]
        refine takeH 22 (i := 5) (v := ?_) rfl rfl (by kernel_rfl) (by kernel_rfl) (by kernel_rfl) (fun _ _ _ h => h) (Or.inl ⟨by kernel_rfl, ?_⟩) (by assumption) ?_
        rotate_left
        · intro w' hSw; (try dsimp only at hSw); go_simp; try with_reducible rfl
        try simp only [Act.put, List.setIfInBounds_toArray, List.set_cons_zero, List.set_cons_succ]
        refine takeH 23 (i := 6) (v := ?_) rfl rfl (by kernel_rfl) (by kernel_rfl) (by kernel_rfl) (fun _ _ _ h => h) (Or.inl ⟨by kernel_rfl, ?_⟩) (by assumption) ?_
        rotate_left
        · intro w' hSw; (try dsimp only at hSw); go_simp; try with_reducible rfl
        try simp only [Act.put, List.setIfInBounds_toArray, List.set_cons_zero, List.set_cons_succ]
        refine takeH 24 (i := 7) (v := ?_) rfl rfl (by kernel_rfl) (by kernel_rfl) (by kernel_rfl) (fun _ _ _ h => h) (Or.inl ⟨by kernel_rfl, ?_⟩) (by assumption) ?_
        rotate_left
        · intro w' hSw; (try dsimp only at hSw); go_simp; try with_reducible rfl
        try simp only [Act.put, List.setIfInBounds_toArray, List.set_cons_zero, List.set_cons_succ]
        refine takeH 25 (i := 8) (v := ?_) rfl rfl (by kernel_rfl) (by kernel_rfl) (by kernel_rfl) (fun _ _ _ h => h) (Or.inl ⟨by kernel_rfl, ?_⟩) (by assumption) ?_
        rotate_left
        · intro w' hSw; (try dsimp only at hSw); go_simp; try with_reducible rfl
        try simp only [Act.put, List.setIfInBounds_toArray, List.set_cons_zero, List.set_cons_succ]
        refine wpAnyH_ready (rs := [4]) (by kernel_rfl) (by simp) ?_
        refine consH _ rfl (hopCd 21 rfl (by kernel_rfl) rfl (by kernel_rfl) (Calls.mono (apiBits_any x _) ?_)) AllReadyH.nil
        rintro e m ⟨rfl, hm⟩
        subst hm
        refine ⟨_, rfl, hS, ?_⟩
        try simp only [Act.put, List.setIfInBounds_toArray, List.set_cons_zero, List.set_cons_succ]
        refine takeH 26 (i := 9) (v := ?_) rfl rfl (by kernel_rfl) (by kernel_rfl) (by kernel_rfl) (fun _ _ _ h => h) (Or.inl ⟨by kernel_rfl, ?_⟩) (by assumption) ?_
        rotate_left
        · intro w' hSw; (try dsimp only at hSw); go_simp; try with_reducible rfl
        try simp only [Act.put, List.setIfInBounds_toArray, List.set_cons_zero, List.set_cons_succ]
        refine wpAnyH_done (by kernel_rfl) ?_ _
        refine NoPanic.normal ?_
        try simp only [Act.put, List.setIfInBounds_toArray, List.set_cons_zero, List.set_cons_succ]
        clear hS
        by_cases hxy : x = y
        · have HDt : Hid (decide (us.drop (k + 1) = vs.drop (k + 1)) = decide (us = vs)) := by
            have h1 := HDs.out
            rw [decide_eq_true hxy, Bool.true_and] at h1
            unfold Hid; rw [← h1]; exact HD.out
          have hne : ((x : Int) != (y : Int)) = false := by simp [hxy]
          clear hxy HDs
          go_wp2_with fail
          go_roundg g
          case measure => omega
          case rel => exact ⟨k + 1, by go_num, by have := HIG.out; omega, HB1, HDt⟩
        · have hne : ((x : Int) != (y : Int)) = true := by simpa using (show ¬ (x : Int) = (y : Int) by omega)
          have HE : Hid (decide (us = vs) = false) := by
            have h1 := HDs.out
            rw [decide_eq_false hxy, Bool.false_and] at h1
            unfold Hid; rw [← HD.out]; exact h1
          go_wp2_with fail
          go_ret
          exact ⟨by rw [HE.out]; rfl, HB1.out⟩
      · have hd : decide ((k : Int) < (al : Int)) = false := decide_eq_false (by omega)
        have hd' : decide (k < al) = false := decide_eq_false (by omega)
        have HE : Hid (decide (us = vs) = true) := by
          have h1 := HD.out
          rw [List.drop_eq_nil_of_le (by rw [HLN.out.1]; omega), List.drop_eq_nil_of_le (by rw [HLN.out.2.1]; omega), decide_eq_true rfl] at h1
          exact h1.symm
        go_wp2_with fail
        go_ret
        exact ⟨by rw [HE.out]; rfl, HB.out⟩
  · have hd : ((al : Int) != (bl : Int)) = true := by simpa using (show ¬ ((al : Int) = (bl : Int)) by omega)
    have HE : Hid (decide (us = vs) = false) := by
      unfold Hid
      refine decide_eq_false fun c => hn ?_
      rw [← HLN.out.1, ← HLN.out.2.1, c]
    go_enter Try.func43, Try.ntmps43
    go_wp2_with fail
    go_ret
    exact ⟨by rw [HE.out]; rfl, Below.refl _ w⟩
end Go.Proofs.Ytaloaholmhcflaa

namespace Go.Proofs.Ytaloaholmhcflaa
open Go.RowKit Go.Shelf
set_option linter.unusedVariables false
set_option linter.unusedSimpArgs false
/-- A slice of lists of words; gv: where each of them lies. -/
structure RdGu (w : World) (ao : Option Addr) (len cap : Nat) (gv : Nat → Option Addr × Nat × Nat) (gs : List (List Nat)) : Prop where
  length : gs.length = len
  max : len ≤ maxLen
  cells : len = 0 ∨ ∃ b off, ao = some ⟨b, off, none⟩ ∧ ∀ j, j < len → w.cell? ⟨b, off + j, none⟩ = some (.slice (gv j).1 (gv j).2.1 (gv j).2.2)
  each : ∀ j, j < len → RdUs w (gv j).1 (gv j).2.1 (gv j).2.2 (gs[j]?.getD [])
theorem RdGu.later {w w' : World} {ao : Option Addr} {len cap : Nat} {gv : Nat → Option Addr × Nat × Nat} {gs : List (List Nat)} (h : RdGu w ao len cap gv gs) (hb : Below w.heap.size w w') : RdGu w' ao len cap gv gs := by
  refine ⟨h.length, h.max, ?_, fun j hj => (h.each j hj).later hb⟩
  rcases h.cells with h0 | ⟨b, off, ha, hc⟩
  · exact .inl h0
  · refine .inr ⟨b, off, ha, fun j hj => ?_⟩
    rw [hb.cell (p := ⟨b, off + j, none⟩) (World.block_lt_of_cell? w _ (hc j hj))]
    exact hc j hj
/-- The document's zonotope lies in w. -/
structure ZU (w : World) (z : ZD) : Prop where
  c : RdUs w z.co z.cn z.cc z.cs
  i : RdIs w z.io z.dn z.dc z.ids
  g : RdGu w z.go z.gn z.gc z.gv z.gs
  r : RdUs w z.ro z.rn z.rc z.rs
theorem ZU.later {w w' : World} {z : ZD} (h : ZU w z) (hb : Below w.heap.size w w') : ZU w' z := ⟨h.c.later hb, h.i.later hb, h.g.later hb, h.r.later hb⟩
theorem drop_eqGG {us vs : List (List Nat)} {k : Nat} (h1 : k < us.length) (h2 : k < vs.length) : decide (us.drop k = vs.drop k) = (decide (us[k]?.getD [] = vs[k]?.getD []) && decide (us.drop (k + 1) = vs.drop (k + 1))) := by
  rw [List.drop_eq_getElem_cons h1, List.drop_eq_getElem_cons h2, List.getElem?_eq_getElem h1, List.getElem?_eq_getElem h2]
  simp only [List.cons.injEq, Option.getD_some, Bool.decide_and]
/-- Does the answer a have the bits that b tells? -/
def bitsB (a b : ZD) : Bool := decide (a.N = b.N) && decide (a.bad = b.bad) && decide (a.cs = b.cs) && decide (a.rs = b.rs) && decide (a.ids = b.ids) && decide (a.gs = b.gs)
set_option maxRecDepth 100000 in
set_option maxHeartbeats 2000000 in
theorem refSameZ_any (a b : ZD) (w : World) (ha : ZR w a) (hb : ZU w b) :
    Calls Try.prog 30 #[.agg (zRow a), .agg (zRow b)] w fun e w' => e = .returned (.bool (bitsB a b)) ∧ Below w.heap.size w w' := by
  unfold zRow
  have HC : Hid (∀ W', Below w.heap.size w W' → Calls Try.prog 43 #[.slice a.co a.cn a.cc, .slice b.co b.cn b.cc] W' fun e w' => e = .returned (.bool (decide (a.cs = b.cs))) ∧ Below W'.heap.size W' w') := fun W' h => refSame_any _ _ _ _ _ _ _ _ W' (ha.later h).c (hb.later h).c
  have HR : Hid (∀ W', Below w.heap.size w W' → Calls Try.prog 43 #[.slice a.ro a.rn a.rc, .slice b.ro b.rn b.rc] W' fun e w' => e = .returned (.bool (decide (a.rs = b.rs))) ∧ Below W'.heap.size W' w') := fun W' h => refSame_any _ _ _ _ _ _ _ _ W' (ha.later h).r (hb.later h).r
  have HIa : Hid (∀ W', Below w.heap.size w W' → RdIs W' a.io a.dn a.dc a.ids) := fun W' h => (ha.later h).i
  have HIb : Hid (∀ W', Below w.heap.size w W' → RdIs W' b.io b.dn b.dc b.ids) := fun W' h => (hb.later h).i
  have HGa : Hid (∀ W', Below w.heap.size w W' → RdGs W' a.go a.gn a.gc a.gv a.gs) := fun W' h => (ha.later h).g
  have HGb : Hid (∀ W', Below w.heap.size w W' → RdGu W' b.go b.gn b.gc b.gv b.gs) := fun W' h => (hb.later h).g
  have HLN : Hid (a.ids.length = a.dn ∧ b.ids.length = b.dn ∧ a.gs.length = a.gn ∧ b.gs.length = b.gn) := ⟨ha.i.length, hb.i.length, ha.g.length, hb.g.length⟩
  have hmi : a.dn ≤ 9223372036854775807 := Nat.le_trans ha.i.max maxLen_le
  have hmg : a.gn ≤ 9223372036854775807 := Nat.le_trans ha.g.max maxLen_le
  have HE : Hid (bitsB a b = (decide (a.N = b.N) && decide (a.bad = b.bad) && decide (a.cs = b.cs) && decide (a.rs = b.rs) && decide (a.ids = b.ids) && decide (a.gs = b.gs))) := rfl
  obtain ⟨sz, hsz⟩ : ∃ sz, bitsB a b = sz := ⟨_, rfl⟩
  rw [hsz] at HE ⊢
  obtain ⟨c0, hc0⟩ : ∃ c0, decide (a.cs = b.cs) = c0 := ⟨_, rfl⟩
  obtain ⟨r0, hr0⟩ : ∃ r0, decide (a.rs = b.rs) = r0 := ⟨_, rfl⟩
  rw [hc0] at HC HE
  rw [hr0] at HR HE
  clear hsz hc0 hr0 ha hb
  obtain ⟨N1, co1, cn1, cc1, io1, dn1, dc1, go1, gn1, gc1, ro1, rn1, rc1, bad1, cs1, ids1, gv1, gs1, rs1⟩ := a
  obtain ⟨N2, co2, cn2, cc2, io2, dn2, dc2, go2, gn2, gc2, ro2, rn2, rc2, bad2, cs2, ids2, gv2, gs2, rs2⟩ := b
  dsimp only at HC HR HIa HIb HGa HGb HLN hmi hmg HE ⊢
  have bW : Below w.heap.size w ((w.alloc (.cells #[.int .i64 N1, .slice co1 cn1 cc1, .slice io1 dn1 dc1, .slice go1 gn1 gc1, .slice ro1 rn1 rc1, .bool bad1] 26)).alloc (.cells #[.int .i64 N2, .slice co2 cn2 cc2, .slice io2 dn2 dc2, .slice go2 gn2 gc2, .slice ro2 rn2 rc2, .bool bad2] 33)) := ((Below.refl _ w).alloc (Nat.le_refl _) _).alloc (by simp only [alloc_size]; omega) _
  have eAW : ((w.alloc (.cells #[.int .i64 N1, .slice co1 cn1 cc1, .slice io1 dn1 dc1, .slice go1 gn1 gc1, .slice ro1 rn1 rc1, .bool bad1] 26)).alloc (.cells #[.int .i64 N2, .slice co2 cn2 cc2, .slice io2 dn2 dc2, .slice go2 gn2 gc2, .slice ro2 rn2 rc2, .bool bad2] 33)).heap[w.heap.size]? = some (.cells #[.int .i64 N1, .slice co1 cn1 cc1, .slice io1 dn1 dc1, .slice go1 gn1 gc1, .slice ro1 rn1 rc1, .bool bad1] 26) := alloc_kept (heap_alloc_new w _) _
  have eBW : ((w.alloc (.cells #[.int .i64 N1, .slice co1 cn1 cc1, .slice io1 dn1 dc1, .slice go1 gn1 gc1, .slice ro1 rn1 rc1, .bool bad1] 26)).alloc (.cells #[.int .i64 N2, .slice co2 cn2 cc2, .slice io2 dn2 dc2, .slice go2 gn2 gc2, .slice ro2 rn2 rc2, .bool bad2] 33)).heap[w.heap.size + 1]? = some (.cells #[.int .i64 N2, .slice co2 cn2 cc2, .slice io2 dn2 dc2, .slice go2 gn2 gc2, .slice ro2 rn2 rc2, .bool bad2] 33) := heap_at _ _ (w.heap.size + 1) (by simp only [alloc_size])
  have HK0 : Hid _ := And.intro bW (And.intro eAW eBW)
  clear bW eAW eBW
  by_cases q0 : N1 = N2
  case neg =>
    have d0 : (N1 != N2) = true := by simpa using q0
    have HS : Hid (sz = false) := by unfold Hid; rw [HE.out]; simp [q0]
    go_enter Try.func30, Try.ntmps30
    go_wp2_with fail
    go_ret
    exact ⟨by rw [HS.out]; rfl, HK0.out.1⟩
  subst q0
  by_cases q1 : bad1 = bad2
  case neg =>
    have d1 : (bad1 != bad2) = true := by simpa using q1
    have HS : Hid (sz = false) := by unfold Hid; rw [HE.out]; simp [q1]
    go_enter Try.func30, Try.ntmps30
    go_wp2_with fail
    go_ret
    exact ⟨by rw [HS.out]; rfl, HK0.out.1⟩
  subst q1
  by_cases q2 : dn1 = dn2
  case neg =>
    have d2 : ((dn1 : Int) != (dn2 : Int)) = true := by simpa using (show ¬ (dn1 : Int) = (dn2 : Int) by omega)
    have HS : Hid (sz = false) := by unfold Hid; rw [HE.out]; have hq : ¬ ids1 = ids2 := fun c => q2 (by rw [← HLN.out.1, ← HLN.out.2.1, c]); simp [hq]
    go_enter Try.func30, Try.ntmps30
    go_wp2_with fail
    go_ret
    exact ⟨by rw [HS.out]; rfl, HK0.out.1⟩
  subst q2
  by_cases q3 : gn1 = gn2
  case neg =>
    have d3 : ((gn1 : Int) != (gn2 : Int)) = true := by simpa using (show ¬ (gn1 : Int) = (gn2 : Int) by omega)
    have HS : Hid (sz = false) := by unfold Hid; rw [HE.out]; have hq : ¬ gs1 = gs2 := fun c => q3 (by rw [← HLN.out.2.2.1, ← HLN.out.2.2.2, c]); simp [hq]
    go_enter Try.func30, Try.ntmps30
    go_wp2_with fail
    go_ret
    exact ⟨by rw [HS.out]; rfl, HK0.out.1⟩
  subst q3
  have HS0 : Hid (sz = (c0 && r0 && decide (ids1 = ids2) && decide (gs1 = gs2))) := by unfold Hid; rw [HE.out]; simp
  cases c0
  case false =>
    have HS : Hid (sz = false) := by unfold Hid; rw [HS0.out]; simp
    go_enter Try.func30, Try.ntmps30
    go_wp2_with (go_at_call_of 43 (Value.slice co1 cn1 cc1); refine Calls.mono (HC.out _ HK0.out.1) ?_; rintro e W1 ⟨rfl, hb1⟩; have HK1 : Hid _ := And.intro (to_call HK0.out.1 hb1) (And.intro (kept hb1 HK0.out.2.1) (kept hb1 HK0.out.2.2)); obtain ⟨a01, a11, a21, a31, a41, a51⟩ := cells6 HK1.out.2.1; obtain ⟨b01, b11, b21, b31, b41, b51⟩ := cells6 HK1.out.2.2)
    go_ret
    exact ⟨by rw [HS.out]; rfl, HK1.out.1⟩
  cases r0
  case false =>
    have HS : Hid (sz = false) := by unfold Hid; rw [HS0.out]; simp
    go_enter Try.func30, Try.ntmps30
    go_wp2_with (first | (go_at_call_of 43 (Value.slice co1 cn1 cc1); refine Calls.mono (HC.out _ HK0.out.1) ?_; rintro e W1 ⟨rfl, hb1⟩; have HK1 : Hid _ := And.intro (to_call HK0.out.1 hb1) (And.intro (kept hb1 HK0.out.2.1) (kept hb1 HK0.out.2.2)); obtain ⟨a01, a11, a21, a31, a41, a51⟩ := cells6 HK1.out.2.1; obtain ⟨b01, b11, b21, b31, b41, b51⟩ := cells6 HK1.out.2.2) | (go_at_call_of 43 (Value.slice ro1 rn1 rc1); refine Calls.mono (HR.out _ HK1.out.1) ?_; rintro e W2 ⟨rfl, hb2⟩; have HK2 : Hid _ := And.intro (to_call HK1.out.1 hb2) (And.intro (kept hb2 HK1.out.2.1) (kept hb2 HK1.out.2.2)); obtain ⟨a02, a12, a22, a32, a42, a52⟩ := cells6 HK2.out.2.1; obtain ⟨b02, b12, b22, b32, b42, b52⟩ := cells6 HK2.out.2.2))
    go_ret
    exact ⟨by rw [HS.out]; rfl, HK2.out.1⟩
  have HS1 : Hid (sz = (decide (ids1 = ids2) && decide (gs1 = gs2))) := by unfold Hid; rw [HS0.out]; simp
  clear HE HS0
  go_enter Try.func30, Try.ntmps30
  go_wp2_with (first | (go_at_call_of 43 (Value.slice co1 cn1 cc1); refine Calls.mono (HC.out _ HK0.out.1) ?_; rintro e W1 ⟨rfl, hb1⟩; have HK1 : Hid _ := And.intro (to_call HK0.out.1 hb1) (And.intro (kept hb1 HK0.out.2.1) (kept hb1 HK0.out.2.2)); obtain ⟨a01, a11, a21, a31, a41, a51⟩ := cells6 HK1.out.2.1; obtain ⟨b01, b11, b21, b31, b41, b51⟩ := cells6 HK1.out.2.2) | (go_at_call_of 43 (Value.slice ro1 rn1 rc1); refine Calls.mono (HR.out _ HK1.out.1) ?_; rintro e W2 ⟨rfl, hb2⟩; have HK2 : Hid _ := And.intro (to_call HK1.out.1 hb2) (And.intro (kept hb2 HK1.out.2.1) (kept hb2 HK1.out.2.2)); obtain ⟨a02, a12, a22, a32, a42, a52⟩ := cells6 HK2.out.2.1; obtain ⟨b02, b12, b22, b32, b42, b52⟩ := cells6 HK2.out.2.2))
  go_loopg [5] dn1 (fun g iv wx => ∃ k : Nat, iv = .int .i64 k ∧ k + g = dn1 ∧ Hid (Below w.heap.size w wx ∧ wx.heap[w.heap.size]? = some (.cells #[.int .i64 N1, .slice co1 cn1 cc1, .slice io1 dn1 dc1, .slice go1 gn1 gc1, .slice ro1 rn1 rc1, .bool bad1] 26) ∧ wx.heap[w.heap.size + 1]? = some (.cells #[.int .i64 N1, .slice co2 cn2 cc2, .slice io2 dn1 dc2, .slice go2 gn1 gc2, .slice ro2 rn2 rc2, .bool bad1] 33)) ∧ Hid (decide (ids1.drop k = ids2.drop k) = decide (ids1 = ids2)))
  case atStart => exact ⟨0, rfl, by omega, HK2.out, rfl⟩
  case round =>
    obtain ⟨k, rfl, hk, HK, HD⟩ := hrel
    obtain ⟨a0, a1, a2, a3, a4, a5⟩ := cells6 HK.out.2.1
    obtain ⟨b0, b1, b2, b3, b4, b5⟩ := cells6 HK.out.2.2
    by_cases hlt : k < dn1
    · have hd : decide ((k : Int) < (dn1 : Int)) = true := decide_eq_true (by omega)
      obtain ⟨g, rfl⟩ : ∃ g, gk = g + 1 := ⟨gk - 1, by omega⟩
      rcases (HIa.out _ HK.out.1).cells with h0 | ⟨p1, f1, rfl, hca⟩
      · omega
      rcases (HIb.out _ HK.out.1).cells with h0 | ⟨p2, f2, rfl, hcb⟩
      · omega
      have ga := hca k hlt
      have gb := hcb k hlt
      have HDs : Hid (_ = _) := drop_eqI (is := ids1) (js := ids2) (k := k) (by rw [HLN.out.1]; exact hlt) (by rw [HLN.out.2.1]; exact hlt)
      obtain ⟨x, hx⟩ : ∃ x, ids1[k]?.getD 0 = x := ⟨_, rfl⟩
      obtain ⟨y, hy⟩ : ∃ y, ids2[k]?.getD 0 = y := ⟨_, rfl⟩
      rw [hx, hy] at HDs
      rw [hx] at ga
      rw [hy] at gb
      have HIG : Hid (k + (g + 1) = dn1) := hk
      clear hca hcb hx hy hk
      have HKd : Hid _ := And.intro (HK.out.1.drew) (And.intro HK.out.2.1 HK.out.2.2)
      go_upto_region 6 with fail
      have hS : (fun w' => w'.cell? ⟨w.heap.size, 2, none⟩ = some (.slice (some ⟨p1, f1, none⟩) dn1 dc1) ∧ w'.cell? ⟨w.heap.size + 1, 2, none⟩ = some (.slice (some ⟨p2, f2, none⟩) dn1 dc2) ∧ w'.cell? ⟨p1, f1 + k, none⟩ = some (.int .i64 x) ∧ w'.cell? ⟨p2, f2 + k, none⟩ = some (.int .i64 y)) wr.drew := ⟨a2, b2, ga, gb⟩
      refine wp_region_noPanic ?_
      refine wp_region_held_drew (S := (fun w' => w'.cell? ⟨w.heap.size, 2, none⟩ = some (.slice (some ⟨p1, f1, none⟩) dn1 dc1) ∧ w'.cell? ⟨w.heap.size + 1, 2, none⟩ = some (.slice (some ⟨p2, f2, none⟩) dn1 dc2) ∧ w'.cell? ⟨p1, f1 + k, none⟩ = some (.int .i64 x) ∧ w'.cell? ⟨p2, f2 + k, none⟩ = some (.int .i64 y))) (by kernel_rfl) hS (fun _ => ?_)
      refine takeH 60 (i := 0) (v := ?_) rfl rfl (by kernel_rfl) (by kernel_rfl) (by kernel_rfl) (fun _ _ _ h => h) (Or.inl ⟨by kernel_rfl, ?_⟩) (by assumption) ?_
      rotate_left
      · intro w' hSw; (try dsimp only at hSw); go_simp; try with_reducible rfl
      try simp only [Act.put, List.setIfInBounds_toArray, List.set_cons_zero, List.set_cons_succ]
      refine takeH 61 (i := 1) (v := ?_) rfl rfl (by kernel_rfl) (by kernel_rfl) (by kernel_rfl) (fun _ _ _ h => h) (Or.inl ⟨by kernel_rfl, ?_⟩) (by assumption) ?_
      rotate_left
      · intro w' hSw; (try dsimp only at hSw); go_simp; try with_reducible rfl
      try simp only [Act.put, List.setIfInBounds_toArray, List.set_cons_zero, List.set_cons_succ]
      refine takeH 62 (i := 2) (v := ?_) rfl rfl (by kernel_rfl) (by kernel_rfl) (by kernel_rfl) (fun _ _ _ h => h) (Or.inl ⟨by kernel_rfl, ?_⟩) (by assumption) ?_
      rotate_left
      · intro w' hSw; (try dsimp only at hSw); go_simp; try with_reducible rfl
      try simp only [Act.put, List.setIfInBounds_toArray, List.set_cons_zero, List.set_cons_succ]
      refine takeH 63 (i := 3) (v := ?_) rfl rfl (by kernel_rfl) (by kernel_rfl) (by kernel_rfl) (fun _ _ _ h => h) (Or.inl ⟨by kernel_rfl, ?_⟩) (by assumption) ?_
      rotate_left
      · intro w' hSw; (try dsimp only at hSw); go_simp; try with_reducible rfl
      try simp only [Act.put, List.setIfInBounds_toArray, List.set_cons_zero, List.set_cons_succ]
      refine takeH 64 (i := 4) (v := ?_) rfl rfl (by kernel_rfl) (by kernel_rfl) (by kernel_rfl) (fun _ _ _ h => h) (Or.inl ⟨by kernel_rfl, ?_⟩) (by assumption) ?_
      rotate_left
      · intro w' hSw; (try dsimp only at hSw); go_simp; try with_reducible rfl
      try simp only [Act.put, List.setIfInBounds_toArray, List.set_cons_zero, List.set_cons_succ]
      refine takeH 65 (i := 5) (v := ?_) rfl rfl (by kernel_rfl) (by kernel_rfl) (by kernel_rfl) (fun _ _ _ h => h) (Or.inl ⟨by kernel_rfl, ?_⟩) (by assumption) ?_
      rotate_left
      · intro w' hSw; (try dsimp only at hSw); go_simp; try with_reducible rfl
      try simp only [Act.put, List.setIfInBounds_toArray, List.set_cons_zero, List.set_cons_succ]
      refine takeH 66 (i := 6) (v := ?_) rfl rfl (by kernel_rfl) (by kernel_rfl) (by kernel_rfl) (fun _ _ _ h => h) (Or.inl ⟨by kernel_rfl, ?_⟩) (by assumption) ?_
      rotate_left
      · intro w' hSw; (try dsimp only at hSw); go_simp; try with_reducible rfl
      try simp only [Act.put, List.setIfInBounds_toArray, List.set_cons_zero, List.set_cons_succ]
      refine takeH 67 (i := 7) (v := ?_) rfl rfl (by kernel_rfl) (by kernel_rfl) (by kernel_rfl) (fun _ _ _ h => h) (Or.inl ⟨by kernel_rfl, ?_⟩) (by assumption) ?_
      rotate_left
      · intro w' hSw; (try dsimp only at hSw); go_simp; try with_reducible rfl
      try simp only [Act.put, List.setIfInBounds_toArray, List.set_cons_zero, List.set_cons_succ]
      refine takeH 68 (i := 8) (v := ?_) rfl rfl (by kernel_rfl) (by kernel_rfl) (by kernel_rfl) (fun _ _ _ h => h) (Or.inl ⟨by kernel_rfl, ?_⟩) (by assumption) ?_
      rotate_left
      · intro w' hSw; (try dsimp only at hSw); go_simp; try with_reducible rfl
      try simp only [Act.put, List.setIfInBounds_toArray, List.set_cons_zero, List.set_cons_succ]
      refine takeH 69 (i := 9) (v := ?_) rfl rfl (by kernel_rfl) (by kernel_rfl) (by kernel_rfl) (fun _ _ _ h => h) (Or.inl ⟨by kernel_rfl, ?_⟩) (by assumption) ?_
      rotate_left
      · intro w' hSw; (try dsimp only at hSw); go_simp; try with_reducible rfl
      try simp only [Act.put, List.setIfInBounds_toArray, List.set_cons_zero, List.set_cons_succ]
      refine takeH 70 (i := 10) (v := ?_) rfl rfl (by kernel_rfl) (by kernel_rfl) (by kernel_rfl) (fun _ _ _ h => h) (Or.inl ⟨by kernel_rfl, ?_⟩) (by assumption) ?_
      rotate_left
      · intro w' hSw; (try dsimp only at hSw); go_simp; try with_reducible rfl
      try simp only [Act.put, List.setIfInBounds_toArray, List.set_cons_zero, List.set_cons_succ]
      refine wpAnyH_done (by kernel_rfl) ?_ _
      refine NoPanic.normal ?_
      try simp only [Act.put, List.setIfInBounds_toArray, List.set_cons_zero, List.set_cons_succ]
      clear hS
      by_cases hxy : x = y
      · have HDt : Hid (decide (ids1.drop (k + 1) = ids2.drop (k + 1)) = decide (ids1 = ids2)) := by
          have h1 := HDs.out
          rw [decide_eq_true hxy, Bool.true_and] at h1
          unfold Hid; rw [← h1]; exact HD.out
        have hne : (x != y) = false := by simp [hxy]
        clear hxy HDs
        go_wp2_with fail
        go_roundg g
        case measure => omega
        case rel => exact ⟨k + 1, by go_num, by have := HIG.out; omega, HKd, HDt⟩
      · have hne : (x != y) = true := by simpa using hxy
        have HS : Hid (sz = false) := by
          have h1 := HDs.out
          rw [decide_eq_false hxy, Bool.false_and] at h1
          unfold Hid; rw [HS1.out, ← HD.out, h1]; rfl
        go_wp2_with fail
        go_ret
        exact ⟨by rw [HS.out]; rfl, HKd.out.1⟩
    · have hd : decide ((k : Int) < (dn1 : Int)) = false := decide_eq_false (by omega)
      have hd' : decide (k < dn1) = false := decide_eq_false (by omega)
      have HS2 : Hid (sz = decide (gs1 = gs2)) := by
        have h1 := HD.out
        rw [List.drop_eq_nil_of_le (by rw [HLN.out.1]; omega), List.drop_eq_nil_of_le (by rw [HLN.out.2.1]; omega), decide_eq_true rfl] at h1
        unfold Hid; rw [HS1.out, ← h1, Bool.true_and]
      clear HS1 HD
      go_wp2_with fail
      go_loopg [6] gn1 (fun g iv wx => ∃ k : Nat, iv = .int .i64 k ∧ k + g = gn1 ∧ Hid (Below w.heap.size w wx ∧ wx.heap[w.heap.size]? = some (.cells #[.int .i64 N1, .slice co1 cn1 cc1, .slice io1 dn1 dc1, .slice go1 gn1 gc1, .slice ro1 rn1 rc1, .bool bad1] 26) ∧ wx.heap[w.heap.size + 1]? = some (.cells #[.int .i64 N1, .slice co2 cn2 cc2, .slice io2 dn1 dc2, .slice go2 gn1 gc2, .slice ro2 rn2 rc2, .bool bad1] 33)) ∧ Hid (decide (gs1.drop k = gs2.drop k) = decide (gs1 = gs2)))
      case atStart => exact ⟨0, rfl, by omega, HK.out, rfl⟩
      case round =>
        clear hlt hd hd' a0 a1 a2 a3 a4 a5 b0 b1 b2 b3 b4 b5 HK
        obtain ⟨k, rfl, hk, HK, HD⟩ := hrel
        obtain ⟨a0, a1, a2, a3, a4, a5⟩ := cells6 HK.out.2.1
        obtain ⟨b0, b1, b2, b3, b4, b5⟩ := cells6 HK.out.2.2
        by_cases hlt : k < gn1
        · have hd : decide ((k : Int) < (gn1 : Int)) = true := decide_eq_true (by omega)
          obtain ⟨g, rfl⟩ : ∃ g, gk = g + 1 := ⟨gk - 1, by omega⟩
          rcases (HGa.out _ HK.out.1).cells with h0 | ⟨p1, f1, rfl, hca⟩
          · omega
          rcases (HGb.out _ HK.out.1).cells with h0 | ⟨p2, f2, rfl, hcb⟩
          · omega
          have ga := hca k hlt
          have gb := hcb k hlt
          have HDs : Hid (_ = _) := drop_eqGG (us := gs1) (vs := gs2) (k := k) (by rw [HLN.out.2.2.1]; exact hlt) (by rw [HLN.out.2.2.2]; exact hlt)
          have HKd : Hid _ := And.intro (HK.out.1.drew) (And.intro HK.out.2.1 HK.out.2.2)
          have HCk : Hid (Calls Try.prog 43 #[.slice (gv1 k).1 (gv1 k).2.1 (gv1 k).2.2, .slice (gv2 k).1 (gv2 k).2.1 (gv2 k).2.2] wr.drew fun e w' => e = .returned (.bool (decide (gs1[k]?.getD [] = gs2[k]?.getD []))) ∧ Below wr.drew.heap.size wr.drew w') := refSame_any _ _ _ _ _ _ _ _ _ ((HGa.out _ HKd.out.1).each k hlt) ((HGb.out _ HKd.out.1).each k hlt)
          obtain ⟨x, hx⟩ : ∃ x, decide (gs1[k]?.getD [] = gs2[k]?.getD []) = x := ⟨_, rfl⟩
          rw [hx] at HDs HCk
          have HIG : Hid (k + (g + 1) = gn1) := hk
          clear hca hcb hx hk
          go_upto_region 11 with fail
          have hS : (fun w' => w'.cell? ⟨w.heap.size, 3, none⟩ = some (.slice (some ⟨p1, f1, none⟩) gn1 gc1) ∧ w'.cell? ⟨w.heap.size + 1, 3, none⟩ = some (.slice (some ⟨p2, f2, none⟩) gn1 gc2) ∧ w'.cell? ⟨p1, f1 + k, none⟩ = some (.slice (gv1 k).1 (gv1 k).2.1 (gv1 k).2.2) ∧ w'.cell? ⟨p2, f2 + k, none⟩ = some (.slice (gv2 k).1 (gv2 k).2.1 (gv2 k).2.2)) wr.drew := ⟨a3, b3, ga, gb⟩
          refine wp_region_noPanic ?_
          refine wp_region_held_drew (S := (fun w' => w'.cell? ⟨w.heap.size, 3, none⟩ = some (.slice (some ⟨p1, f1, none⟩) gn1 gc1) ∧ w'.cell? ⟨w.heap.size + 1, 3, none⟩ = some (.slice (some ⟨p2, f2, none⟩) gn1 gc2) ∧ w'.cell? ⟨p1, f1 + k, none⟩ = some (.slice (gv1 k).1 (gv1 k).2.1 (gv1 k).2.2) ∧ w'.cell? ⟨p2, f2 + k, none⟩ = some (.slice (gv2 k).1 (gv2 k).2.1 (gv2 k).2.2))) (by kernel_rfl) hS (fun _ => ?_)
          refine takeH 78 (i := 0) (v := ?_) rfl rfl (by kernel_rfl) (by kernel_rfl) (by kernel_rfl) (fun _ _ _ h => h) (Or.inl ⟨by kernel_rfl, ?_⟩) (by assumption) ?_
          rotate_left
          · intro w' hSw; (try dsimp only at hSw); go_simp; try with_reducible rfl
          try simp only [Act.put, List.setIfInBounds_toArray, List.set_cons_zero, List.set_cons_succ]
          refine takeH 79 (i := 1) (v := ?_) rfl rfl (by kernel_rfl) (by kernel_rfl) (by kernel_rfl) (fun _ _ _ h => h) (Or.inl ⟨by kernel_rfl, ?_⟩) (by assumption) ?_
          rotate_left
          · intro w' hSw; (try dsimp only at hSw); go_simp; try with_reducible rfl
          try simp only [Act.put, List.setIfInBounds_toArray, List.set_cons_zero, List.set_cons_succ]
          refine takeH 80 (i := 2) (v := ?_) rfl rfl (by kernel_rfl) (by kernel_rfl) (by kernel_rfl) (fun _ _ _ h => h) (Or.inl ⟨by kernel_rfl, ?_⟩) (by assumption) ?_
          rotate_left
          · intro w' hSw; (try dsimp only at hSw); go_simp; try with_reducible rfl
          try simp only [Act.put, List.setIfInBounds_toArray, List.set_cons_zero, List.set_cons_succ]
          refine takeH 81 (i := 3) (v := ?_) rfl rfl (by kernel_rfl) (by kernel_rfl) (by kernel_rfl) (fun _ _ _ h => h) (Or.inl ⟨by kernel_rfl, ?_⟩) (by assumption) ?_
          rotate_left
          · intro w' hSw; (try dsimp only at hSw); go_simp; try with_reducible rfl
          try simp only [Act.put, List.setIfInBounds_toArray, List.set_cons_zero, List.set_cons_succ]
          refine takeH 82 (i := 4) (v := ?_) rfl rfl (by kernel_rfl) (by kernel_rfl) (by kernel_rfl) (fun _ _ _ h => h) (Or.inl ⟨by kernel_rfl, ?_⟩) (by assumption) ?_
          rotate_left
          · intro w' hSw; (try dsimp only at hSw); go_simp; try with_reducible rfl
          try simp only [Act.put, List.setIfInBounds_toArray, List.set_cons_zero, List.set_cons_succ]
          refine takeH 83 (i := 5) (v := ?_) rfl rfl (by kernel_rfl) (by kernel_rfl) (by kernel_rfl) (fun _ _ _ h => h) (Or.inl ⟨by kernel_rfl, ?_⟩) (by assumption) ?_
          rotate_left
          · intro w' hSw; (try dsimp only at hSw); go_simp; try with_reducible rfl
          try simp only [Act.put, List.setIfInBounds_toArray, List.set_cons_zero, List.set_cons_succ]
          refine takeH 84 (i := 6) (v := ?_) rfl rfl (by kernel_rfl) (by kernel_rfl) (by kernel_rfl) (fun _ _ _ h => h) (Or.inl ⟨by kernel_rfl, ?_⟩) (by assumption) ?_
          rotate_left
          · intro w' hSw; (try dsimp only at hSw); go_simp; try with_reducible rfl
          try simp only [Act.put, List.setIfInBounds_toArray, List.set_cons_zero, List.set_cons_succ]
          refine takeH 85 (i := 7) (v := ?_) rfl rfl (by kernel_rfl) (by kernel_rfl) (by kernel_rfl) (fun _ _ _ h => h) (Or.inl ⟨by kernel_rfl, ?_⟩) (by assumption) ?_
          rotate_left
          · intro w' hSw; (try dsimp only at hSw); go_simp; try with_reducible rfl
          try simp only [Act.put, List.setIfInBounds_toArray, List.set_cons_zero, List.set_cons_succ]
          refine takeH 86 (i := 8) (v := ?_) rfl rfl (by kernel_rfl) (by kernel_rfl) (by kernel_rfl) (fun _ _ _ h => h) (Or.inl ⟨by kernel_rfl, ?_⟩) (by assumption) ?_
          rotate_left
          · intro w' hSw; (try dsimp only at hSw); go_simp; try with_reducible rfl
          try simp only [Act.put, List.setIfInBounds_toArray, List.set_cons_zero, List.set_cons_succ]
          refine takeH 87 (i := 9) (v := ?_) rfl rfl (by kernel_rfl) (by kernel_rfl) (by kernel_rfl) (fun _ _ _ h => h) (Or.inl ⟨by kernel_rfl, ?_⟩) (by assumption) ?_
          rotate_left
          · intro w' hSw; (try dsimp only at hSw); go_simp; try with_reducible rfl
          try simp only [Act.put, List.setIfInBounds_toArray, List.set_cons_zero, List.set_cons_succ]
          refine wpAnyH_ready (rs := [10]) (by kernel_rfl) (by simp) ?_
          refine consH _ rfl (hopCd 88 rfl (by kernel_rfl) rfl (by kernel_rfl) (Calls.mono HCk.out ?_)) AllReadyH.nil
          rintro e w5 ⟨rfl, hb5⟩
          have HK5 : Hid _ := And.intro (to_call HKd.out.1 hb5) (And.intro (kept hb5 HKd.out.2.1) (kept hb5 HKd.out.2.2))
          have hS5 : (fun w' => w'.cell? ⟨w.heap.size, 3, none⟩ = some (.slice (some ⟨p1, f1, none⟩) gn1 gc1) ∧ w'.cell? ⟨w.heap.size + 1, 3, none⟩ = some (.slice (some ⟨p2, f2, none⟩) gn1 gc2) ∧ w'.cell? ⟨p1, f1 + k, none⟩ = some (.slice (gv1 k).1 (gv1 k).2.1 (gv1 k).2.2) ∧ w'.cell? ⟨p2, f2 + k, none⟩ = some (.slice (gv2 k).1 (gv2 k).2.1 (gv2 k).2.2)) w5 := ⟨(hb5.cell (World.block_lt_of_cell? _ _ hS.1)).trans hS.1, (hb5.cell (World.block_lt_of_cell? _ _ hS.2.1)).trans hS.2.1, (hb5.cell (World.block_lt_of_cell? _ _ hS.2.2.1)).trans hS.2.2.1, (hb5.cell (World.block_lt_of_cell? _ _ hS.2.2.2)).trans hS.2.2.2⟩
          refine ⟨_, rfl, hS5, ?_⟩
          try simp only [Act.put, List.setIfInBounds_toArray, List.set_cons_zero, List.set_cons_succ]
          refine takeH 89 (i := 11) (v := ?_) rfl rfl (by kernel_rfl) (by kernel_rfl) (by kernel_rfl) (fun _ _ _ h => h) (Or.inl ⟨by kernel_rfl, ?_⟩) (by assumption) ?_
          rotate_left
          · intro w' hSw; (try dsimp only at hSw); go_simp; try with_reducible rfl
          try simp only [Act.put, List.setIfInBounds_toArray, List.set_cons_zero, List.set_cons_succ]
          refine wpAnyH_done (by kernel_rfl) ?_ _
          refine NoPanic.normal ?_
          try simp only [Act.put, List.setIfInBounds_toArray, List.set_cons_zero, List.set_cons_succ]
          clear hS hS5
          cases x
          case true =>
            have HDt : Hid (decide (gs1.drop (k + 1) = gs2.drop (k + 1)) = decide (gs1 = gs2)) := by
              have h1 := HDs.out
              rw [Bool.true_and] at h1
              unfold Hid; rw [← h1]; exact HD.out
            go_wp2_with fail
            go_roundg g
            case measure => omega
            case rel => exact ⟨k + 1, by go_num, by have := HIG.out; omega, HK5, HDt⟩
          case false =>
            have HS : Hid (sz = false) := by
              have h1 := HDs.out
              rw [Bool.false_and] at h1
              unfold Hid; rw [HS2.out, ← HD.out]; exact h1
            go_wp2_with fail
            go_ret
            exact ⟨by rw [HS.out]; rfl, HK5.out.1⟩
        · have hd : decide ((k : Int) < (gn1 : Int)) = false := decide_eq_false (by omega)
          have hd' : decide (k < gn1) = false := decide_eq_false (by omega)
          have HS : Hid (sz = true) := by
            have h1 := HD.out
            rw [List.drop_eq_nil_of_le (by rw [HLN.out.2.2.1]; omega), List.drop_eq_nil_of_le (by rw [HLN.out.2.2.2]; omega), decide_eq_true rfl] at h1
            unfold Hid; rw [HS2.out]; exact h1.symm
          go_wp2_with fail
          go_ret
          exact ⟨by rw [HS.out]; rfl, HK.out.1⟩
end Go.Proofs.Ytaloaholmhcflaa

namespace Go.Proofs.Ytaloaholmhcflaa
open Go.RowKit
set_option linter.unusedVariables false
theorem owns_keep {w w' : World} {E : TypeId} {base size : Nat} {v : Value} {n : Nat} {xs : List Value} (h : w.ownsRow base E size v n xs) (hb : ∀ k, v.ownBlock = some k → w'.heap[k]? = w.heap[k]?) : w'.ownsRow base E size v n xs := by
  refine ⟨h.1, ?_⟩
  rcases h.2 with h2 | ⟨g, cap, cur, hv, hg, hh, r⟩
  · exact .inl h2
  · exact .inr ⟨g, cap, cur, hv, hg, by rw [hb g (by rw [hv]; rfl)]; exact hh, r⟩
/-- A block's number tells its type. -/
theorem owns_type {w : World} {E : TypeId} {base size : Nat} {v : Value} {n : Nat} {xs : List Value} (h : w.ownsRow base E size v n xs) {k : Nat} (hk : v.ownBlock = some k) : ∃ cur, w.heap[k]? = some (.cells cur E) := by
  rcases h.2 with ⟨rfl, _⟩ | ⟨g, cap, cur, rfl, hg, hh, r⟩
  · simp [Value.ownBlock] at hk
  · simp only [Value.ownBlock, Option.some.injEq] at hk
    subst hk
    exact ⟨cur, hh⟩
/-- Of old memory nothing changed but, perhaps, the block r; v' lies there, or is new. -/
structure Grw (w w' : World) (r r' : Option Nat) : Prop where
  by' : w.grownBy w' r
  new : r' = r ∨ ∀ k, r' = some k → w.heap.size ≤ k
theorem info3' {P : Program} {t : TypeId} {z : Value} {s b : Nat} (h : (P.info? t).map (fun i => (i.zero, i.size, i.bytes)) = some (some z, s, b)) : ∃ i, P.info? t = some i ∧ i.zero = some z ∧ i.size = s ∧ i.bytes = b := by
  cases hi : P.info? t with
  | none => simp [hi] at h
  | some i =>
    simp [hi] at h
    exact ⟨i, rfl, h.1, h.2.1, h.2.2⟩
theorem Grw.refl (w : World) (r : Option Nat) : Grw w w r r := ⟨⟨rfl, rfl, rfl, Nat.le_refl _, fun _ _ _ => rfl⟩, .inl rfl⟩
theorem Grw.trans {w w1 w2 : World} {r r1 r2 : Option Nat} (h : Grw w w1 r r1) (k : Grw w1 w2 r1 r2) : Grw w w2 r r2 := by
  have hs := h.by'.size
  refine ⟨⟨k.by'.os.trans h.by'.os, k.by'.tape.trans h.by'.tape, k.by'.output.trans h.by'.output, Nat.le_trans hs k.by'.size, fun j hj hne => ?_⟩, ?_⟩
  · rw [k.by'.block j (by omega) ?_, h.by'.block j hj hne]
    intro c
    rcases h.new with h1 | h1
    · exact hne (by rw [c, h1])
    · have := h1 j c.symm
      omega
  · rcases k.new with k1 | k1
    · rw [k1]; exact h.new
    · exact .inr fun j hj => Nat.le_trans hs (k1 j hj)
theorem Grw.below {w w' : World} {r r' : Option Nat} {base : Nat} (h : Grw w w' r r') (hb : ∀ k, r = some k → base ≤ k) (hw : base ≤ w.heap.size) : Below base w w' :=
  ⟨h.by'.os, h.by'.tape, h.by'.output, h.by'.size, fun k hk => h.by'.block k (by omega) (fun c => by have := hb k c.symm; omega)⟩
end Go.Proofs.Ytaloaholmhcflaa

namespace Go.Proofs.Ytaloaholmhcflaa
open Go.RowKit Go.Shelf
set_option linter.unusedVariables false
set_option linter.unusedSimpArgs false
/-- append(s, x...) onto a row in a block of its own: where the answer lies. -/
theorem append_grM {SE E : TypeId} {z : Value} {bytes : Nat} (hu : Try.prog.underlying SE = some (.slice E)) (hinfo : (Try.prog.info? E).map (fun i => (i.zero, i.size, i.bytes)) = some (some z, 1, bytes)) (hzc : z.cells.size = 1) (hby : bytes ≤ 24)
    {ops : Array Oper} {rest : List Oper} {o : Oper} {a : Act} {Q : Exit → Act → World → Prop} (W : World) (hgd : o.guard = none) (s x : Operand) (ho : o.op = .call { callee := .builtin .append, args := #[s, x], argTypes := #[SE, SE] })
    (base : Nat) (v : Value) (xs : List Value) (hs : a.eval s = v) (hown : W.ownsRow base E 1 v xs.length xs)
    (ad : Addr) (m c : Nat) (news : List Value) (hx : a.eval x = .slice (some ad) m c) (hl : news.length = m) (hm : 0 < m) (hnews : ∀ j u, news[j]? = some u → W.cell? (ad.add j) = some u) (h1 : ∀ u ∈ news, u.oneCell' = true)
    (hlen : xs.length + m ≤ 4000000) (hbase : base ≤ W.heap.size)
    (h : ∀ v' w', w'.ownsRow base E 1 v' (xs ++ news).length (xs ++ news) → Grw W w' v.ownBlock v'.ownBlock → wpList Try.prog ops Q rest (a.put o.dst v') w') : wpList Try.prog ops Q (o :: rest) a W := by
  obtain ⟨i0, hi, hz0, hz1, hz2⟩ := info3' hinfo
  have hb2 : (xs.length + m) * bytes ≤ 140737488355328 := Nat.le_trans (Nat.mul_le_mul hlen hby) (by decide)
  have grow : ∀ (w' : World) (v' : Value), w'.ownsRow W.heap.size E 1 v' (xs.length + m) (xs ++ news) → W.grownBy w' none → wpList Try.prog ops Q rest (a.put o.dst v') w' := by
    intro w' v' g1 g2
    refine h v' w' ?_ ⟨⟨g2.os, g2.tape, g2.output, g2.size, fun k hk _ => g2.block k hk (by simp)⟩, .inr fun k hk => (World.ownsRow.lt g1 k hk).1⟩
    rw [List.length_append, hl]
    refine ⟨g1.1, ?_⟩
    rcases g1.2 with g3 | ⟨g, cap, cur, hv, hg, r⟩
    · exact .inl g3
    · exact .inr ⟨g, cap, cur, hv, Nat.le_trans hbase hg, r⟩
  rcases hown.2 with ⟨rfl, h0⟩ | ⟨g, cap, cur, hv, hg, hh, k1, k2, k3, k4⟩
  · have hx0 : xs = [] := List.eq_nil_of_length_eq_zero h0
    subst hx0
    refine wpList_append_grows W hgd s x SE ho E i0 z 1 bytes hu hi hz0 hz1 hz2 hzc (by decide) none 0 0 [] hs (fun _ => ⟨rfl, rfl⟩) rfl (fun b hb => by cases hb) ad m c news hx (by omega) hnews h1 (by omega) (by simp only [maxLen]; simp at hlen; omega) (by simpa using hb2) ?_
    intro v' w' r1 r2
    exact grow w' v' (by simpa using r1) r2
  · by_cases hr : xs.length + m ≤ cap
    · subst hv
      refine wpList_append_fits W hgd s x SE ho base E i0 1 hu hi hz1 g xs.length cap xs hs hown ad m c news hx (by omega) hnews h1 hr ?_
      intro w' r1 r2
      exact h _ w' (by rw [List.length_append, hl]; exact r1) ⟨r2, .inl rfl⟩
    · refine wpList_append_grows W hgd s x SE ho E i0 z 1 bytes hu hi hz0 hz1 hz2 hzc (by decide) (some ⟨g, 0, none⟩) xs.length cap xs (by rw [hs, hv]) (fun c => by cases c) (by omega) ?_ ad m c news hx (by omega) hnews h1 (by omega) (by simp only [maxLen]; omega) hb2 ?_
      · intro b hb j u hj
        cases hb
        exact World.ownsRow.cells hown (by rw [hv]; rfl) j u hj
      · intro v' w' r1 r2
        exact grow w' v' r1 r2
theorem append_gr1M {SE E : TypeId} {z : Value} {bytes : Nat} (hu : Try.prog.underlying SE = some (.slice E)) (hinfo : (Try.prog.info? E).map (fun i => (i.zero, i.size, i.bytes)) = some (some z, 1, bytes)) (hzc : z.cells.size = 1) (hby : bytes ≤ 24)
    {ops : Array Oper} {rest : List Oper} {o : Oper} {a : Act} {Q : Exit → Act → World → Prop} (W : World) (hgd : o.guard = none) (s x : Operand) (ho : o.op = .call { callee := .builtin .append, args := #[s, x], argTypes := #[SE, SE] })
    (base : Nat) (v : Value) (xs : List Value) (hs : a.eval s = v) (hown : W.ownsRow base E 1 v xs.length xs)
    (y : Value) (hx : a.eval x = .slice (some ⟨W.heap.size, 0, none⟩) 1 1) (h1 : y.oneCell' = true)
    (hlen : xs.length + 1 ≤ 4000000) (hbase : base ≤ W.heap.size)
    (h : ∀ v' w', w'.ownsRow base E 1 v' (xs ++ [y]).length (xs ++ [y]) → Grw W w' v.ownBlock v'.ownBlock → wpList Try.prog ops Q rest (a.put o.dst v') w') : wpList Try.prog ops Q (o :: rest) a (W.alloc (.cells #[y] E)) := by
  have hsz : (W.alloc (.cells #[y] E)).heap.size = W.heap.size + 1 := Array.size_push ..
  refine append_grM hu hinfo hzc hby (W.alloc (.cells #[y] E)) hgd s x ho base v xs hs (World.ownsRow.alloc hown _) ⟨W.heap.size, 0, none⟩ 1 1 [y] hx rfl (by decide) ?_ (by intro u hu; simp at hu; subst hu; exact h1) hlen (by omega) ?_
  · intro j u hj
    match j, hj with
    | 0, hj =>
      simp only [List.getElem?_cons_zero, Option.some.injEq] at hj
      subst hj
      rw [Addr.add_lit, cell_of_row _ W.heap.size _ _ _ _ (heap_alloc_new W _)]
      rfl
  · intro v' w' o2 g2
    refine h v' w' o2 ⟨⟨g2.by'.os, g2.by'.tape, g2.by'.output, by have := g2.by'.size; omega, fun j hj hne => ?_⟩, ?_⟩
    · rw [g2.by'.block j (by omega) hne, Below.heap_alloc W _ j hj]
    · rcases g2.new with e | e
      · exact .inl e
      · exact .inr fun k hk => by have := e k hk; omega
theorem own_valJ {w : World} {E : TypeId} {base size n : Nat} {v : Value} {xs : List Value} (h : w.ownsRow base E size v n xs) : v.oneCell' = true ∧ v.cells = #[v] := by
  rcases h.2 with ⟨rfl, _⟩ | ⟨g, cap, cur, rfl, _⟩ <;> exact ⟨rfl, rfl⟩
theorem Try.infoIJ : (Try.prog.info? 3).map (fun i => (i.zero, i.size, i.bytes)) = some (some (.int .i64 0), 1, 8) := by kernel_rfl
theorem Try.szIs : (Try.prog.info? 23).map (·.size) = some 1 := by kernel_rfl
theorem owns_keepT {w w' : World} {E : TypeId} {base size : Nat} {v : Value} {n : Nat} {xs : List Value} (h : w.ownsRow base E size v n xs) (hb : ∀ (k : Nat) (cur : Array Value), w.heap[k]? = some (.cells cur E) → w'.heap[k]? = w.heap[k]?) : w'.ownsRow base E size v n xs :=
  owns_keep h fun k hk => by obtain ⟨cur, hc⟩ := owns_type h hk; exact hb k cur hc
/-- What an append onto a row changes: blocks of other types stay. -/
theorem grw_types {w w' : World} {E : TypeId} {base size n : Nat} {v v' : Value} {xs : List Value} (h : w.ownsRow base E size v n xs) (hg : Grw w w' v.ownBlock v'.ownBlock) : ∀ (k : Nat) (cur : Array Value) (t : TypeId), t ≠ E → w.heap[k]? = some (.cells cur t) → w'.heap[k]? = w.heap[k]? := by
  intro k cur t ht hc
  refine hg.by'.block k (blk_lt hc) fun e => ?_
  obtain ⟨cur', hc'⟩ := owns_type h e.symm
  rw [hc] at hc'
  cases hc'
  exact ht rfl
theorem owns_slice {w : World} {E : TypeId} {base : Nat} {v : Value} {n : Nat} {xs : List Value} (h : w.ownsRow base E 1 v n xs) : ∃ ao cap, v = .slice ao n cap ∧ n ≤ maxLen ∧ (n = 0 ∨ ∃ g, ao = some ⟨g, 0, none⟩ ∧ ∀ j, j < n → w.cell? ⟨g, j, none⟩ = xs[j]?) := by
  have hs := h
  rcases h.2 with ⟨rfl, rfl⟩ | ⟨g, cap, cur, rfl, hg, hh, h1, h2, h3, h4⟩
  · exact ⟨none, 0, rfl, Nat.zero_le _, .inl rfl⟩
  · exact ⟨_, cap, rfl, Nat.le_trans h1 h2, .inr ⟨g, rfl, fun j hj => World.ownsRow.cellAt hs j (by omega)⟩⟩
end Go.Proofs.Ytaloaholmhcflaa

namespace Go.Proofs.Ytaloaholmhcflaa
open Go.RowKit
set_option linter.unusedVariables false
set_option linter.unusedSimpArgs false
/-- Whatever order is picked, and S holds behind every operation until the operation s has come up. -/
def wpAnyP (P : Program) (md : Region.Mode) (ops : Array Oper) (Q : Exit → Act → World → Prop) (S : World → Prop) (s : Nat) : Nat → Array Bool → Act → World → Prop
  | 0, listed, a, w => Region.ready md ops listed = [] ∧ Q .normal a w
  | fuel + 1, listed, a, w =>
    (Region.ready md ops listed = [] → Q .normal a w) ∧
    ∀ i ∈ Region.ready md ops listed, wpOp P ops Q i (fun a' w' => ((listed.setIfInBounds i true).getD s true = false → S w') ∧ wpAnyP P md ops Q S s fuel (listed.setIfInBounds i true) a' w') a w
theorem wpAny_of_P {P : Program} {md : Region.Mode} {ops : Array Oper} {Q : Exit → Act → World → Prop} {S : World → Prop} {s : Nat} : ∀ (fuel : Nat) (listed : Array Bool) (a : Act) (w : World), wpAnyP P md ops Q S s fuel listed a w → wpAny P md ops Q fuel listed a w
  | 0, _, _, _, h => h
  | fuel + 1, _, _, _, h => ⟨h.1, fun i hi => wpOp_mono (fun a' w' h' => wpAny_of_P fuel _ a' w' h'.2) (h.2 i hi)⟩
/-- Does s wait for i? -/
def waitsB (md : Region.Mode) (ops : Array Oper) (s i : Nat) : Bool := match ops[s]? with
  | some o => o.after.any (fun e => Region.binds md e && e.on == i)
  | none => false
theorem waitsB_spec {md : Region.Mode} {ops : Array Oper} {s i : Nat} (h : waitsB md ops s i = true) : ∃ os, ops[s]? = some os ∧ ∃ e ∈ os.after, Region.binds md e = true ∧ e.on = i := by
  unfold waitsB at h
  cases ho : ops[s]? with
  | none => rw [ho] at h; cases h
  | some o =>
    rw [ho] at h
    refine ⟨o, rfl, ?_⟩
    simp only [Array.any_eq_true'] at h
    obtain ⟨e, he, h2⟩ := h
    simp only [Bool.and_eq_true, beq_iff_eq] at h2
    exact ⟨e, he, h2.1, h2.2⟩
theorem wpAnyP_first {P : Program} {md : Region.Mode} {ops : Array Oper} {Q : Exit → Act → World → Prop} {S : World → Prop} {s : Nat} {i : Nat} {oi : Oper} {v : Value} (hi : ops[i]? = some oi) (hsel : ∀ (j : Nat) (o : Oper) cs b, ops[j]? = some o → o.op ≠ .select cs b)
    (hQ : ∀ c a w, Q (.panic c) (a.put oi.dst v) w → Q (.panic c) a w) (hne : i ≠ s) (hwt : ∃ os, ops[s]? = some os ∧ ∃ e ∈ os.after, Region.binds md e = true ∧ e.on = i) :
    ∀ (fuel : Nat) (listed : Array Bool) (a : Act) (w : World),
      (∀ j oj, ops[j]? = some oj → j ≠ i → listed.getD j true = false → (∀ e ∈ oj.after, Region.binds md e = true → e.on ≠ i) → oi.apart ops oj = true) →
      i ∈ Region.ready md ops listed → listed.getD s true = false → YieldsIf P ops S oi v a → S w →
      wpAnyP P md ops Q S s fuel (listed.setIfInBounds i true) (a.put oi.dst v) w → wpAnyP P md ops Q S s (fuel + 1) listed a w := by
  intro fuel
  induction fuel with
  | zero =>
    intro listed a w _ hr hu hy hS H
    refine ⟨fun h => (by rw [h] at hr; cases hr), fun j hj => ?_⟩
    by_cases hji : j = i
    · subst hji; exact hy.wpOp hi hS ⟨fun _ => hS, H⟩
    · have := ready_mono hj hji
      rw [H.1] at this
      cases this
  | succ fuel ih =>
    intro listed a w hfree hr hu hy hS H
    refine ⟨fun h => (by rw [h] at hr; cases hr), fun j hj => ?_⟩
    by_cases hji : j = i
    · subst hji; exact hy.wpOp hi hS ⟨fun _ => hS, H⟩
    · have h1 := H.2 j (ready_mono hj hji)
      obtain ⟨hjun, oj, hoj, hall⟩ := mem_ready.1 hj
      have hnot : ∀ e ∈ oj.after, Region.binds md e = true → e.on ≠ i := fun e he hb heq => by
        have h1 := hall e he hb
        have h0 := (mem_ready.1 hr).1
        rw [heq] at h1
        rcases Nat.lt_or_ge i listed.size with h' | h'
        · simp [h'] at h0 h1; rw [h0] at h1; cases h1
        · simp [Array.getElem?_eq_none h'] at h1
      have hjs : j ≠ s := by
        rintro rfl
        obtain ⟨os, ho, e, he, hb, heq⟩ := hwt
        rw [hoj] at ho
        cases ho
        exact hnot e he hb heq
      have hu1 : (listed.setIfInBounds j true).getD s true = false := by rw [getD_set_ne true hjs]; exact hu
      have hu2 : ((listed.setIfInBounds i true).setIfInBounds j true).getD s true = false := by rw [getD_set_ne true hjs, getD_set_ne true hne]; exact hu
      have h2 := wpOp_putIf hoj (hfree j oj hoj hji hjun hnot) (fun cs b => hsel i oi cs b hi) (fun cs b => hsel j oj cs b hoj) hQ hy h1
      have hfree' : ∀ k ok, ops[k]? = some ok → k ≠ i → (listed.setIfInBounds j true).getD k true = false →
          (∀ e ∈ ok.after, Region.binds md e = true → e.on ≠ i) → oi.apart ops ok = true := fun k ok hk hki hun hno => by
        refine hfree k ok hk hki ?_ hno
        by_cases hjk : j = k
        · subst hjk; exact hjun
        · rw [getD_set_ne true hjk] at hun; exact hun
      refine wpOp_mono (fun a' w' h3 => ⟨fun _ => h3.2.1 hu2, ih (listed.setIfInBounds j true) a' w' hfree' (ready_mono hr (Ne.symm hji)) hu1 h3.1 (h3.2.1 hu2) ?_⟩) h2
      rw [Array.setIfInBounds_comm _ _ hji]
      exact h3.2.2
theorem wpAnyP_first0 {P : Program} {md : Region.Mode} {ops : Array Oper} {Q : Exit → Act → World → Prop} {S : World → Prop} {s : Nat} {i : Nat} {oi : Oper} {v : Value} (hi : ops[i]? = some oi) (hsel : ∀ (j : Nat) (o : Oper) cs b, ops[j]? = some o → o.op ≠ .select cs b)
    (hQ : ∀ c a w, Q (.panic c) (a.put oi.dst v) w → Q (.panic c) a w) (hne : i ≠ s) :
    ∀ (fuel : Nat) (listed : Array Bool) (a : Act) (w : World),
      (∀ j oj, ops[j]? = some oj → j ≠ i → listed.getD j true = false → (∀ e ∈ oj.after, Region.binds md e = true → e.on ≠ i) → oi.apart ops oj = true) →
      i ∈ Region.ready md ops listed → YieldsIf P ops (fun _ => True) oi v a → (listed.getD s true = false → S w) →
      wpAnyP P md ops Q S s fuel (listed.setIfInBounds i true) (a.put oi.dst v) w → wpAnyP P md ops Q S s (fuel + 1) listed a w := by
  intro fuel
  induction fuel with
  | zero =>
    intro listed a w _ hr hy hS H
    refine ⟨fun h => (by rw [h] at hr; cases hr), fun j hj => ?_⟩
    by_cases hji : j = i
    · subst hji; exact hy.wpOp hi trivial ⟨fun e => hS (by rw [getD_set_ne true hne] at e; exact e), H⟩
    · have := ready_mono hj hji
      rw [H.1] at this
      cases this
  | succ fuel ih =>
    intro listed a w hfree hr hy hS H
    refine ⟨fun h => (by rw [h] at hr; cases hr), fun j hj => ?_⟩
    by_cases hji : j = i
    · subst hji; exact hy.wpOp hi trivial ⟨fun e => hS (by rw [getD_set_ne true hne] at e; exact e), H⟩
    · have h1 := H.2 j (ready_mono hj hji)
      obtain ⟨hjun, oj, hoj, hall⟩ := mem_ready.1 hj
      have hnot : ∀ e ∈ oj.after, Region.binds md e = true → e.on ≠ i := fun e he hb heq => by
        have h1 := hall e he hb
        have h0 := (mem_ready.1 hr).1
        rw [heq] at h1
        rcases Nat.lt_or_ge i listed.size with h' | h'
        · simp [h'] at h0 h1; rw [h0] at h1; cases h1
        · simp [Array.getElem?_eq_none h'] at h1
      have hu2 : (listed.setIfInBounds j true).getD s true = false → ((listed.setIfInBounds i true).setIfInBounds j true).getD s true = false := by
        rw [Array.setIfInBounds_comm _ _ (Ne.symm hji), getD_set_ne true hne]
        exact fun h => h
      have h2 := wpOp_putIf hoj (hfree j oj hoj hji hjun hnot) (fun cs b => hsel i oi cs b hi) (fun cs b => hsel j oj cs b hoj) hQ hy h1
      have hfree' : ∀ k ok, ops[k]? = some ok → k ≠ i → (listed.setIfInBounds j true).getD k true = false →
          (∀ e ∈ ok.after, Region.binds md e = true → e.on ≠ i) → oi.apart ops ok = true := fun k ok hk hki hun hno => by
        refine hfree k ok hk hki ?_ hno
        by_cases hjk : j = k
        · subst hjk; exact hjun
        · rw [getD_set_ne true hjk] at hun; exact hun
      refine wpOp_mono (fun a' w' h3 => ⟨fun e => h3.2.1 (hu2 e), ih (listed.setIfInBounds j true) a' w' hfree' (ready_mono hr (Ne.symm hji)) h3.1 (fun e => h3.2.1 (hu2 e)) ?_⟩) h2
      rw [Array.setIfInBounds_comm _ _ hji]
      exact h3.2.2
/-- Take number i first: it yields v in whatever world. -/
theorem takeP0 {P : Program} {md : Region.Mode} {ops : Array Oper} {Q : Exit → Act → World → Prop} {S : World → Prop} {s : Nat} (d : Nat) {i : Nat} {oi : Oper} {v : Value} {fuel : Nat} {listed : Array Bool} {a : Act} {w : World} (hi : ops[i]? = some oi) (hd : oi.dst = some d)
    (hs : Region.noSelect ops = true) (hf : Region.free md ops listed i = true) (hr : (Region.ready md ops listed).contains i = true) (hne : (i == s) = false)
    (hQ : ∀ c a w, Q (.panic c) (a.put (some d) v) w → Q (.panic c) a w) (hy : YieldsIf P ops (fun _ => True) oi v a) (hS : listed.getD s true = false → S w)
    (h : wpAnyP P md ops Q S s fuel (listed.setIfInBounds i true) (a.put (some d) v) w) : wpAnyP P md ops Q S s (fuel + 1) listed a w :=
  wpAnyP_first0 hi (Region.noSelect_spec hs) (by rw [hd]; exact hQ) (by simpa using hne) fuel listed a w (Region.free_spec hi hf) (by simpa using hr) hy hS (by rw [hd]; exact h)
/-- Take number i first: it yields v in every world that meets S, and s waits for it. -/
theorem takeP {P : Program} {md : Region.Mode} {ops : Array Oper} {Q : Exit → Act → World → Prop} {S : World → Prop} {s : Nat} (d : Nat) {i : Nat} {oi : Oper} {v : Value} {fuel : Nat} {listed : Array Bool} {a : Act} {w : World} (hi : ops[i]? = some oi) (hd : oi.dst = some d)
    (hs : Region.noSelect ops = true) (hf : Region.free md ops listed i = true) (hr : (Region.ready md ops listed).contains i = true) (hw : waitsB md ops s i = true) (hne : (i == s) = false) (hu : listed.getD s true = false)
    (hQ : ∀ c a w, Q (.panic c) (a.put (some d) v) w → Q (.panic c) a w) (hy : YieldsIf P ops S oi v a) (hS : S w)
    (h : wpAnyP P md ops Q S s fuel (listed.setIfInBounds i true) (a.put (some d) v) w) : wpAnyP P md ops Q S s (fuel + 1) listed a w :=
  wpAnyP_first hi (Region.noSelect_spec hs) (by rw [hd]; exact hQ) (by simpa using hne) (waitsB_spec hw) fuel listed a w (Region.free_spec hi hf) (by simpa using hr) hu hy hS (by rw [hd]; exact h)
def AllReadyP (P : Program) (md : Region.Mode) (ops : Array Oper) (Q : Exit → Act → World → Prop) (S : World → Prop) (s : Nat) (fuel : Nat) (listed : Array Bool) (a : Act) (w : World) (rs : List Nat) : Prop :=
  ∀ i ∈ rs, wpOp P ops Q i (fun a' w' => ((listed.setIfInBounds i true).getD s true = false → S w') ∧ wpAnyP P md ops Q S s fuel (listed.setIfInBounds i true) a' w') a w
theorem AllReadyP.nil {P : Program} {md : Region.Mode} {ops : Array Oper} {Q : Exit → Act → World → Prop} {S : World → Prop} {s : Nat} {fuel : Nat} {listed : Array Bool} {a : Act} {w : World} : AllReadyP P md ops Q S s fuel listed a w [] := fun _ h => by cases h
/-- A step ahead of s: S is shown behind it. -/
theorem consP {P : Program} {md : Region.Mode} {ops : Array Oper} {Q : Exit → Act → World → Prop} {S : World → Prop} {s : Nat} {fuel : Nat} {listed : Array Bool} {a : Act} {w : World} {i : Nat} {rs : List Nat} (l' : Array Bool) (hl : listed.setIfInBounds i true = l')
    (h : wpOp P ops Q i (fun a' w' => S w' ∧ wpAnyP P md ops Q S s fuel l' a' w') a w) (hs : AllReadyP P md ops Q S s fuel listed a w rs) : AllReadyP P md ops Q S s fuel listed a w (i :: rs) := by
  subst hl
  intro j hj
  rcases List.mem_cons.1 hj with rfl | hj
  · exact wpOp_mono (fun a' w' h' => ⟨fun _ => h'.1, h'.2⟩) h
  · exact hs j hj
/-- The step s itself, or one behind it. -/
theorem consPs {P : Program} {md : Region.Mode} {ops : Array Oper} {Q : Exit → Act → World → Prop} {S : World → Prop} {s : Nat} {fuel : Nat} {listed : Array Bool} {a : Act} {w : World} {i : Nat} {rs : List Nat} (l' : Array Bool) (hl : listed.setIfInBounds i true = l') (ht : l'.getD s true = true)
    (h : wpOp P ops Q i (fun a' w' => True ∧ wpAnyP P md ops Q S s fuel l' a' w') a w) (hs : AllReadyP P md ops Q S s fuel listed a w rs) : AllReadyP P md ops Q S s fuel listed a w (i :: rs) := by
  subst hl
  intro j hj
  rcases List.mem_cons.1 hj with rfl | hj
  · exact wpOp_mono (fun a' w' h' => ⟨fun e => (by rw [ht] at e; cases e), h'.2⟩) h
  · exact hs j hj
theorem wpAnyP_ready {P : Program} {md : Region.Mode} {ops : Array Oper} {Q : Exit → Act → World → Prop} {S : World → Prop} {s : Nat} {rs : List Nat} {fuel : Nat} {listed : Array Bool} {a : Act} {w : World} (hr : Region.ready md ops listed = rs) (hne : rs ≠ [])
    (h : AllReadyP P md ops Q S s fuel listed a w rs) : wpAnyP P md ops Q S s (fuel + 1) listed a w := ⟨fun h0 => absurd (hr ▸ h0) hne, hr ▸ h⟩
theorem wpAnyP_done {P : Program} {md : Region.Mode} {ops : Array Oper} {Q : Exit → Act → World → Prop} {S : World → Prop} {s : Nat} {listed : Array Bool} {a : Act} {w : World} (hr : Region.ready md ops listed = []) (h : Q .normal a w) : ∀ fuel, wpAnyP P md ops Q S s fuel listed a w
  | 0 => ⟨hr, h⟩
  | _ + 1 => ⟨fun _ => h, by rw [hr]; simp⟩
theorem wp_region_P {id : Nat} {P : Program} {ops : Array Oper} {Q : Exit → Act → World → Prop} {a : Act} {w : World} (S : World → Prop) (s : Nat) (hm : P.follows .mixedOrders = true)
    (h : wpAnyP P .any ops Q S s ops.size (Array.replicate ops.size false) a w.drew) : (Code.region id ops true).wp P Q a w := wp_region_any hm (wpAny_of_P _ _ _ _ h)
end Go.Proofs.Ytaloaholmhcflaa

namespace Go.Proofs.Ytaloaholmhcflaa
open Go.RowKit Go.Shelf
set_option linter.unusedVariables false
set_option linter.unusedSimpArgs false
attribute [local go_sem] Oper.semAt_some
theorem hopAJ {P : Program} {ops : Array Oper} {Q : Exit → Act → World → Prop} {i : Nat} {o : Oper} {K : Act → World → Prop} {a : Act} {w : World} (d : Nat) (ho : ops[i]? = some o) (hg : o.guard = none) (hd : o.dst = some d) (t : TypeId) (hop : o.op = .alloc t) (z : Array Value)
    (hz : ∀ w, (Instr.alloc t true (.tuple #[])).run P w = .ok (.pointer (some ⟨w.heap.size, 0, none⟩)) (w.alloc (.cells z t)))
    (h : ∀ D W', W'.heap[D]? = some (.cells z t) → w.heap.size ≤ D → Below w.heap.size w W' → K (a.put (some d) (.pointer (some ⟨D, 0, none⟩))) W') : wpOp P ops Q i K a w :=
  hopV d ho hg hd (ex_alloc _ t hop _ _ _ (hz w)) (h _ _ (heap_alloc_new w _) (Nat.le_refl _) ((Below.refl _ w).alloc (Nat.le_refl _) _))
end Go.Proofs.Ytaloaholmhcflaa

namespace Go.Proofs.Ytaloaholmhcflaa
open Go.RowKit Go.Shelf
set_option linter.unusedVariables false
set_option linter.unusedSimpArgs false
/-- One element built. -/
theorem hopBJ {P : Program} {ops : Array Oper} {Q : Exit → Act → World → Prop} {i : Nat} {o : Oper} {K : Act → World → Prop} {a : Act} {w : World} (d : Nat) (y : Value) (E : TypeId) (ho : ops[i]? = some o) (hg : o.guard = none) (hd : o.dst = some d)
    (hr : (execOp a.eval o).run P w = .ok (.value (.slice (some ⟨w.heap.size, 0, none⟩) 1 1)) (w.alloc (.cells #[y] E)))
    (h : ∀ I W', W'.heap[I]? = some (.cells #[y] E) → Below w.heap.size w W' → K (a.put (some d) (.slice (some ⟨I, 0, none⟩) 1 1)) W') : wpOp P ops Q i K a w :=
  hopV d ho hg hd hr (h _ _ (heap_alloc_new w _) ((Below.refl _ w).alloc (Nat.le_refl _) _))
theorem news_oneJ {W : World} {I : Nat} {y : Value} {E : TypeId} (h : W.heap[I]? = some (.cells #[y] E)) : ∀ j u, [y][j]? = some u → W.cell? ((⟨I, 0, none⟩ : Addr).add j) = some u := by
  intro j u hj
  match j, hj with
  | 0, hj =>
    simp only [List.getElem?_cons_zero, Option.some.injEq] at hj
    subst hj
    rw [Addr.add_lit, cell_of_row _ I _ _ _ _ h]
    rfl
end Go.Proofs.Ytaloaholmhcflaa

namespace Go.Proofs.Ytaloaholmhcflaa
open Go.RowKit Go.Shelf
set_option linter.unusedVariables false
set_option linter.unusedSimpArgs false
theorem RndO.finJ {d : Int} {o : Option Int} {u : Nat} {b : Bool} (h : RndO d o u b) : Fin u := by
  cases o with
  | none => rw [h.1]; decide
  | some z =>
    obtain ⟨a, ha⟩ : ∃ a : Nat, a = 1166 := ⟨_, rfl⟩
    exact (tell_fin (h a ha)).1
end Go.Proofs.Ytaloaholmhcflaa

namespace Go.Proofs.Ytaloaholmhcflaa
open Go.RowKit Go.Shelf
set_option linter.unusedVariables false
set_option linter.unusedSimpArgs false
theorem nn_one (u : Nat) (hu : u < 18446744073709551616) (w : World) : Calls Try.prog 54 #[.float .f64 u] w fun e w' => e = .returned (.bool (!decide (Fin u))) ∧ w' = w := by
  go_enter Try.func54, Try.ntmps54
  go_wp2_with (go_at_call 55; refine (number_any u hu _).mono ?_; rintro e w' ⟨rfl, rfl⟩)
  go_ret
  exact ⟨rfl, rfl⟩
set_option maxRecDepth 100000 in
set_option maxHeartbeats 2000000 in
theorem indexN_any (ao : Option Addr) (len cap : Nat) (us : List Nat) (w : World) (h : RdF w ao len cap us) :
    Calls Try.prog 71 #[.slice ao len cap, .func (.func 54) #[] #[]] w fun e w' => (∃ i : Int, e = .returned (.int .i64 i) ∧ Hid (i ≥ 0 ↔ ∃ j, j < len ∧ ¬ Fin (us[j]?.getD 0)) ∧ -1 ≤ i) ∧ w' = w := by
  have HR : Hid _ := h
  have hmx : len ≤ 9223372036854775807 := Nat.le_trans h.max maxLen_le
  have HLN : Hid (us.length = len) := h.length
  clear h
  go_enter Try.func71, Try.ntmps71
  go_wp2_with fail
  go_loopg [8] len (fun g iv wx => ∃ k : Nat, iv = .int .i64 k ∧ k + g = len ∧ Hid (wx = w) ∧ Hid (∀ j, j < k → Fin (us[j]?.getD 0)))
  case atStart => exact ⟨0, rfl, by omega, rfl, fun j hj => absurd hj (Nat.not_lt_zero _)⟩
  case round =>
    obtain ⟨k, rfl, hk, HW, HF⟩ := hrel
    have e0 : wr = w := HW.out
    subst e0
    by_cases hlt : k < len
    · have hd : decide ((k : Int) < (len : Int)) = true := decide_eq_true (by omega)
      obtain ⟨g, rfl⟩ : ∃ g, gk = g + 1 := ⟨gk - 1, by omega⟩
      rcases HR.out.cells with h0 | ⟨ab, aoff, rfl, hca⟩
      · omega
      have ga := hca k hlt
      have hax := HR.out.lt _ (getD_mem (us := us) (j := k) (by rw [HLN.out]; exact hlt))
      obtain ⟨x, hx⟩ : ∃ x, us[k]?.getD 0 = x := ⟨_, rfl⟩
      rw [hx] at ga hax
      have HX : Hid (us[k]?.getD 0 = x) := hx
      have HIG : Hid (k + (g + 1) = len) := hk
      clear hca hx hk
      by_cases hf : Fin x
      · have hfd : decide (Fin x) = true := decide_eq_true hf
        have HN := nn_one x hax
        rw [hfd] at HN
        go_wp2_with (go_at_call 54; refine (HN _).mono ?_; rintro e w' ⟨rfl, rfl⟩)
        go_roundg g
        case measure => omega
        case rel =>
          refine ⟨k + 1, by go_num, by have := HIG.out; omega, rfl, fun j hj => ?_⟩
          rcases Nat.lt_or_eq_of_le (Nat.le_of_lt_succ hj) with e | e
          · exact HF.out j e
          · rw [e, HX.out]; exact hf
      · have hfd : decide (Fin x) = false := decide_eq_false hf
        have HN := nn_one x hax
        rw [hfd] at HN
        go_wp2_with (go_at_call 54; refine (HN _).mono ?_; rintro e w' ⟨rfl, rfl⟩)
        go_ret
        refine ⟨⟨_, rfl, ⟨fun _ => ⟨k, by have := HIG.out; omega, by rw [HX.out]; exact hf⟩, fun _ => by omega⟩, by omega⟩, rfl⟩
    · have hd : decide ((k : Int) < (len : Int)) = false := decide_eq_false (by omega)
      have hd' : decide (k < len) = false := decide_eq_false (by omega)
      go_wp2_with fail
      go_ret
      refine ⟨⟨_, rfl, ⟨fun c => absurd c (by decide), ?_⟩, by decide⟩, rfl⟩
      rintro ⟨j, hj, hn⟩
      exact absurd (HF.out j (by omega)) hn
set_option maxRecDepth 100000 in
set_option maxHeartbeats 2000000 in
theorem hasNo_any (ao : Option Addr) (len cap : Nat) (us : List Nat) (w : World) (h : RdF w ao len cap us) :
    Calls Try.prog 36 #[.slice ao len cap] w fun e w' => e = .returned (.bool (!numsB us)) ∧ w' = w := by
  have HR : Hid _ := h
  have HLN : Hid (us.length = len) := h.length
  clear h
  have HC : Hid (Calls Try.prog 53 #[.slice ao len cap, .func (.func 54) #[] #[]] w fun e w' => e = .returned (.bool (!numsB us)) ∧ w' = w) := by
    unfold Hid
    go_enter Try.func53, Try.ntmps53
    go_wp2_with (go_at_call 71; refine (indexN_any ao len cap us _ HR.out).mono ?_; rintro e w' ⟨⟨i, rfl, hi, hi2⟩, rfl⟩)
    go_ret
    refine ⟨?_, rfl⟩
    have e : decide (i ≥ 0) = !numsB us := by
      by_cases c : i ≥ 0
      · obtain ⟨j, hj, hn⟩ := hi.out.1 c
        rw [decide_eq_true c]
        have : numsB us = false := by
          rw [Bool.eq_false_iff]
          intro h
          unfold numsB at h
          rw [List.all_eq_true] at h
          exact hn (of_decide_eq_true (h _ (getD_mem (by rw [HLN.out]; exact hj))))
        rw [this]; rfl
      · rw [decide_eq_false c]
        have : numsB us = true := by
          unfold numsB
          rw [List.all_eq_true]
          intro u hu
          obtain ⟨j, hj, e⟩ := List.getElem_of_mem hu
          refine decide_eq_true ?_
          have h1 : us[j]?.getD 0 = u := by rw [List.getElem?_eq_getElem hj]; exact e
          exact Decidable.by_contra fun hn => c (hi.out.2 ⟨j, by rw [← HLN.out]; exact hj, by rw [h1]; exact hn⟩)
        rw [this]; rfl
    rw [← e]
    rfl
  go_enter Try.func36, Try.ntmps36
  go_wp2_with (go_at_call 53; refine HC.out.mono ?_; rintro e w' ⟨rfl, rfl⟩)
  go_ret
  exact ⟨rfl, rfl⟩
/-- weighed's sum: what is weighed by a nought is left out. -/
def wgK (us vs : List Nat) : Nat → Option Int
  | 0 => some 0
  | k + 1 => if srung (us[k]?.getD 0) = 0 then wgK us vs k else prodO (wgK us vs k) (us[k]?.getD 0) (vs[k]?.getD 0) 0
set_option maxRecDepth 100000 in
set_option maxHeartbeats 2000000 in
theorem weighed_any (ao bo : Option Addr) (len cap blen bcap : Nat) (us vs : List Nat) (hle : blen ≤ len) (hf : ∀ u ∈ us, Fin u) (w : World) (h : RdF w ao len cap us) (h' : RdF w bo blen bcap vs) :
    Calls Try.prog 25 #[.slice ao len cap, .slice bo blen bcap] w fun e w' => e = .returned (.pointer (some ⟨w.heap.size, 0, none⟩)) ∧ AccO w' w.heap.size (wgK us vs blen) ∧ Below w.heap.size w w' ∧ w.heap.size < w'.heap.size := by
  have HR : Hid _ := And.intro h h'
  have hmx : blen ≤ 9223372036854775807 := Nat.le_trans h'.max maxLen_le
  have hmx2 : len ≤ 9223372036854775807 := Nat.le_trans h.max maxLen_le
  have HLN : Hid (us.length = len ∧ vs.length = blen) := ⟨h.length, h'.length⟩
  have HF : Hid (∀ u ∈ us, Fin u) := hf
  clear h h' hf
  go_enter Try.func25, Try.ntmps25
  go_wp2_with fail
  refine (new_any _).mono ?_
  rintro e w1 ⟨rfl, a1, b1, s1⟩
  have HA1 : Hid _ := a1
  have HB1 : Hid _ := b1
  have HS1 : Hid (w.heap.size < w1.heap.size) := by unfold Hid; omega
  clear a1 b1 s1
  go_wp2_with fail
  go_loopg [11] blen (fun g iv wx => ∃ k : Nat, iv = .int .i64 k ∧ k + g = blen ∧ Hid (AccO wx w.heap.size (wgK us vs k)) ∧ Hid (Below w.heap.size w wx) ∧ Hid (w.heap.size < wx.heap.size))
  case atStart => exact ⟨0, rfl, by omega, HA1, HB1, HS1⟩
  case round =>
    clear HA1 HB1 HS1
    obtain ⟨k, rfl, hk, HA, HB, HS⟩ := hrel
    by_cases hlt : k < blen
    · have hd : decide ((k : Int) < (blen : Int)) = true := decide_eq_true (by omega)
      obtain ⟨g, rfl⟩ : ∃ g, gk = g + 1 := ⟨gk - 1, by omega⟩
      rcases (HR.out.1.later HB.out).cells with h0 | ⟨ab, aoff, rfl, hca⟩
      · omega
      rcases (HR.out.2.later HB.out).cells with h0 | ⟨bb, boff, rfl, hcb⟩
      · omega
      have ga := hca k (by omega)
      have gb := hcb k hlt
      have hmem := getD_mem (us := us) (j := k) (by rw [HLN.out.1]; omega)
      have hax := HR.out.1.lt _ hmem
      have hbx := HR.out.2.lt _ (getD_mem (us := vs) (j := k) (by rw [HLN.out.2]; exact hlt))
      have hfx := HF.out _ hmem
      have HD : Hid (wgK us vs (k + 1) = if srung (us[k]?.getD 0) = 0 then wgK us vs k else prodO (wgK us vs k) (us[k]?.getD 0) (vs[k]?.getD 0) 0) := rfl
      obtain ⟨x, hx⟩ : ∃ x, us[k]?.getD 0 = x := ⟨_, rfl⟩
      obtain ⟨y, hy⟩ : ∃ y, vs[k]?.getD 0 = y := ⟨_, rfl⟩
      rw [hx, hy] at HD
      rw [hx] at ga hax hfx
      rw [hy] at gb hbx
      have hne := neq_ordN hfx (v := 0) (by decide)
      have HIG : Hid (k + (g + 1) = blen) := hk
      have hlt2 : k < len := by omega
      clear hca hcb hx hy hk hfx hmem
      rw [show srung 0 = 0 by decide] at hne
      by_cases h0 : srung x = 0
      · rw [decide_eq_true h0] at hne
        rw [if_pos h0] at HD
        clear h0
        go_wp2_with fail
        go_roundg g
        case measure => omega
        case rel => exact ⟨k + 1, by go_num, by have := HIG.out; omega, by unfold Hid; rw [HD.out]; exact HA.out, HB, HS⟩
      · rw [decide_eq_false h0] at hne
        rw [if_neg h0] at HD
        clear h0
        go_wp2_with (go_at_call 39; refine Calls.mono (accProd_any w.heap.size _ x y 0 hax hbx _ HA.out) ?_; rintro e w5 ⟨rfl, a5, c5⟩)
        have HA5 : Hid (AccO w5 w.heap.size (wgK us vs (k + 1))) := by unfold Hid; rw [HD.out]; exact a5
        have HB5 : Hid (Below w.heap.size w w5) := HB.out.trans c5.below
        have HS5 : Hid (w.heap.size < w5.heap.size) := Nat.lt_of_lt_of_le HS.out c5.below.size
        go_roundg g
        case measure => omega
        case rel => exact ⟨k + 1, by go_num, by have := HIG.out; omega, HA5, HB5, HS5⟩
    · have hd : decide ((k : Int) < (blen : Int)) = false := decide_eq_false (by omega)
      have hd' : decide (k < blen) = false := decide_eq_false (by omega)
      have HA2 : Hid (AccO wr w.heap.size (wgK us vs blen)) := by have e : k = blen := by omega
                                                                  exact e ▸ HA.out
      go_wp2_with fail
      go_ret
      exact ⟨rfl, HA2.out, HB.out, HS.out⟩
end Go.Proofs.Ytaloaholmhcflaa

namespace Go.Proofs.Ytaloaholmhcflaa
open Go.RowKit Go.Shelf
set_option linter.unusedVariables false
set_option linter.unusedSimpArgs false
/-- What all columns take, one behind the other. -/
def coK (us : List Nat) (gs : List (List Nat)) (n : Nat) (o : Option Int) : Nat → Option Int
  | 0 => o
  | k + 1 => joinO (coK us gs n o k) (absO (wgK us (gs[k]?.getD []) n)) true
/-- What the box takes. -/
def bxK (us rs : List Nat) (o : Option Int) : Nat → Option Int
  | 0 => o
  | k + 1 => prodO (bxK us rs o k) (fopp (frung (us[k]?.getD 0))) (rs[k]?.getD 0) 0
/-- The least sum, as the program reckons it. -/
def leO (z : ZD) (us : List Nat) : Option Int := bxK us z.rs (coK us z.gs z.rn (prodO (wgK us z.cs z.rn) (us[z.rn]?.getD 0) 4607182418800017408 0) z.gn) z.rn
theorem run_negM (x : Nat) : ∀ w, (Op.unary .neg (.float .f64 x)).run Try.prog w = .ok (.float .f64 (fopp x)) w := fun w => rfl
set_option maxRecDepth 100000 in
set_option maxHeartbeats 4000000 in
theorem leastSum_any (z : ZD) (ao : Option Addr) (l c : Nat) (us : List Nat) (w : World) (hz : ZR w z) (ha : RdF w ao l c us) (hW : WhF z) (hl : l = z.rn + 1) (hf : ∀ u ∈ us, Fin u) :
    Calls Try.prog 31 #[.agg #[.int .i64 z.N, .slice z.co z.cn z.cc, .slice z.io z.dn z.dc, .slice z.go z.gn z.gc, .slice z.ro z.rn z.rc, .bool z.bad], .slice ao l c] w fun e w' => e = .returned (.pointer (some ⟨w.heap.size + 1, 0, none⟩)) ∧ AccO w' (w.heap.size + 1) (leO z us) ∧ Below w.heap.size w w' := by
  obtain ⟨N, co, cn, cc, io, dn, dc, go, gn, gc, ro, rn, rc, bad, cs, ids, gv, gs, rs⟩ := z
  have hN := hW.N
  have hcn := hW.cn
  dsimp only at hN hcn hl ⊢
  have HW : Hid _ := hW
  have HZ : Hid (∀ W', Below w.heap.size w W' → ZR W' ⟨N, co, cn, cc, io, dn, dc, go, gn, gc, ro, rn, rc, bad, cs, ids, gv, gs, rs⟩) := fun W' hb => hz.later hb
  have HA : Hid (∀ W', Below w.heap.size w W' → RdF W' ao l c us) := fun W' hb => ha.later hb
  have HF : Hid (∀ u ∈ us, Fin u) := hf
  have HLN : Hid (us.length = l ∧ gs.length = gn ∧ rs.length = rn) := ⟨ha.length, hz.g.length, hz.r.length⟩
  have HRN : Hid (rn ≤ 256 ∧ 1 ≤ rn) := ⟨hW.n2, hW.n1⟩
  have hrn2 : rn ≤ 256 := hW.n2
  have hgm : gn ≤ 9223372036854775807 := Nat.le_trans hz.g.max maxLen_le
  have HLO : Hid (leO ⟨N, co, cn, cc, io, dn, dc, go, gn, gc, ro, rn, rc, bad, cs, ids, gv, gs, rs⟩ us = bxK us rs (coK us gs rn (prodO (wgK us cs rn) (us[rn]?.getD 0) 4607182418800017408 0) gn) rn) := rfl
  obtain ⟨lo, hlo⟩ : ∃ lo, leO ⟨N, co, cn, cc, io, dn, dc, go, gn, gc, ro, rn, rc, bad, cs, ids, gv, gs, rs⟩ us = lo := ⟨_, rfl⟩
  rw [hlo] at HLO ⊢
  subst hN hcn
  have HL : Hid (l = cn + 1) := hl
  have hcl : cn < l := by omega
  have hcl' : (cn : Int) < (l : Int) := by omega
  have hlm : l ≤ 257 := by omega
  clear hl
  have X0 : Below w.heap.size w (w.alloc (.cells #[.int .i64 (cn : Int), .slice co cn cc, .slice io dn dc, .slice go gn gc, .slice ro cn rc, .bool bad] 26)) := (Below.refl _ w).alloc (Nat.le_refl _) _
  have Y0 : (w.alloc (.cells #[.int .i64 (cn : Int), .slice co cn cc, .slice io dn dc, .slice go gn gc, .slice ro cn rc, .bool bad] 26)).heap[w.heap.size]? = _ := heap_alloc_new w _
  have S0 : (w.alloc (.cells #[.int .i64 (cn : Int), .slice co cn cc, .slice io dn dc, .slice go gn gc, .slice ro cn rc, .bool bad] 26)).heap.size = w.heap.size + 1 := by simp only [alloc_size]
  clear hz ha hW hf hlo
  go_enter Try.func31, Try.ntmps31
  go_upto_region 1 with fail
  obtain ⟨X, hX⟩ : ∃ X, (w.alloc (.cells #[.int .i64 (cn : Int), .slice co cn cc, .slice io dn dc, .slice go gn gc, .slice ro cn rc, .bool bad] 26)) = X := ⟨_, rfl⟩
  rw [hX] at X0 Y0 S0 ⊢
  obtain ⟨c0, c1, c2, c3, c4, c5⟩ := cells6 Y0
  clear hX
  go_wp2_with fail
  refine (weighed_any ao co l c cn cc us cs (by omega) HF.out X (HA.out X X0) (HZ.out X X0).c).mono ?_
  rintro e w3 ⟨rfl, a3, b3, s3⟩
  rw [S0] at a3 b3 s3 ⊢
  have HK3 : Hid (Below w.heap.size w w3 ∧ w3.heap[w.heap.size]? = some (.cells #[.int .i64 (cn : Int), .slice co cn cc, .slice io dn dc, .slice go gn gc, .slice ro cn rc, .bool bad] 26)) := ⟨X0.trans (b3.mono (by omega)), (b3.block _ (by omega)).trans Y0⟩
  have HA3 : Hid (AccO w3 (w.heap.size + 1) (wgK us cs cn)) := a3
  clear a3 b3 s3 X0 Y0 c0 c1 c2 c3 c4 c5 S0
  obtain ⟨c0, c1, c2, c3, c4, c5⟩ := cells6 HK3.out.2
  rcases (HA.out _ HK3.out.1).cells with h0 | ⟨ab, aoff, eao, hca⟩
  · omega
  subst eao
  have ga := hca cn hcl
  have hax := (HA.out _ HK3.out.1).lt _ (getD_mem (us := us) (j := cn) (by rw [HLN.out.1]; omega))
  obtain ⟨x, hx⟩ : ∃ x, us[cn]?.getD 0 = x := ⟨_, rfl⟩
  rw [hx] at ga hax HLO
  clear hca hx
  go_wp2_with fail
  refine Calls.mono (accAdd_any (w.heap.size + 1) _ x hax _ HA3.out) ?_
  rintro e w4 ⟨rfl, a4, d4⟩
  have HK4 : Hid (Below w.heap.size w w4 ∧ w4.heap[w.heap.size]? = some (.cells #[.int .i64 (cn : Int), .slice co cn cc, .slice io dn dc, .slice go gn gc, .slice ro cn rc, .bool bad] 26)) := ⟨HK3.out.1.trans (d4.below.mono (by omega)), (d4.other _ (blk_lt HK3.out.2) (by omega)).trans HK3.out.2⟩
  clear c0 c1 c2 c3 c4 c5 ga
  obtain ⟨c0, c1, c2, c3, c4, c5⟩ := cells6 HK4.out.2
  have HA4 : Hid (AccO w4 (w.heap.size + 1) (prodO (wgK us cs cn) x 4607182418800017408 0)) := a4
  clear a4 d4 HK3 HA3
  go_wp2_with fail
  obtain ⟨o1, ho1⟩ : ∃ o1, prodO (wgK us cs cn) x 4607182418800017408 0 = o1 := ⟨_, rfl⟩
  rw [ho1] at HA4 HLO
  clear ho1 c0 c1 c2 c3 c4 c5
  go_loopg [25] gn (fun g iv wx => ∃ k : Nat, iv = .int .i64 k ∧ k + g = gn ∧ Hid (AccO wx (w.heap.size + 1) (coK us gs cn o1 k)) ∧ Hid (Below w.heap.size w wx ∧ wx.heap[w.heap.size]? = some (.cells #[.int .i64 (cn : Int), .slice co cn cc, .slice io dn dc, .slice go gn gc, .slice ro cn rc, .bool bad] 26)))
  case atStart => exact ⟨0, rfl, by omega, HA4, HK4⟩
  case round =>
    clear HA4 HK4
    obtain ⟨k, rfl, hk, HA4, HK4⟩ := hrel
    by_cases hlt : k < gn
    · have hd : decide ((k : Int) < (gn : Int)) = true := decide_eq_true (by omega)
      obtain ⟨g, rfl⟩ : ∃ g, gk = g + 1 := ⟨gk - 1, by omega⟩
      have zx := HZ.out _ HK4.out.1
      rcases zx.g.cells with h0 | ⟨gb, goff, ego, hcg⟩
      · dsimp only at h0; omega
      dsimp only at ego hcg
      subst ego
      have gg := hcg k hlt
      have rg := zx.g.each k hlt
      dsimp only at rg
      have hgl : (gv k).2.1 = cn := by rw [← rg.length]; exact HW.out.gl k (by rw [HW.out.dg]; exact hlt)
      obtain ⟨x1, ex1⟩ : ∃ t, (gv k).1 = t := ⟨_, rfl⟩
      obtain ⟨x3, ex3⟩ : ∃ t, (gv k).2.2 = t := ⟨_, rfl⟩
      rw [ex1, ex3, hgl] at rg gg
      have RG : Hid (RdF wr x1 cn x3 (gs[k]?.getD [])) := rg
      have HIG : Hid (k + (g + 1) = gn) := hk
      have hlt' : (k : Int) < (gn : Int) := by omega
      clear zx hcg rg hgl ex1 ex3 hk
      have hB := HA4.out.block
      go_wp2_with (first
        | (go_at_call 25; refine Calls.mono (weighed_any _ _ l c cn x3 us _ (by omega) HF.out _ (HA.out _ HK4.out.1) RG.out) ?_; rintro e w5 ⟨rfl, a5, b5, s5⟩)
        | (go_at_call 45; refine Calls.mono (accAbs_any wr.heap.size _ w5 a5) ?_; rintro e w6 ⟨rfl, a6, d6⟩)
        | (go_at_call 46; refine Calls.mono (accJoin_any (w.heap.size + 1) wr.heap.size _ _ true w6 ((HA4.out.below b5 hB).chg d6 (Nat.ne_of_lt hB)) a6) ?_; rintro e w7 ⟨rfl, a7, d7⟩))
      have hs5 := b5.size
      have hs6 := d6.below.size
      have HA7 : Hid (AccO w7 (w.heap.size + 1) (coK us gs cn o1 (k + 1))) := a7
      have HK7 : Hid (Below w.heap.size w w7 ∧ w7.heap[w.heap.size]? = some (.cells #[.int .i64 (cn : Int), .slice co cn cc, .slice io dn dc, .slice (some ⟨gb, goff, none⟩) gn gc, .slice ro cn rc, .bool bad] 26)) := by
        have hsz := HK4.out.1.size
        have h9 := blk_lt HK4.out.2
        refine ⟨((HK4.out.1.trans (b5.mono hsz)).trans (d6.below.mono hsz)).trans (d7.below.mono (by omega)), ?_⟩
        rw [d7.other _ (by omega) (by omega), d6.other _ (by omega) (by omega), b5.block _ h9]
        exact HK4.out.2
      clear a5 b5 s5 a6 d6 a7 d7 hs5 hs6 hB gg RG
      go_roundg g
      case measure => omega
      case rel => exact ⟨k + 1, by go_num, by have := HIG.out; omega, HA7, HK7⟩
    · have hd : decide ((k : Int) < (gn : Int)) = false := decide_eq_false (by omega)
      have hd' : decide (k < gn) = false := decide_eq_false (by omega)
      have HA2 : Hid (AccO wr (w.heap.size + 1) (coK us gs cn o1 gn)) := by have e : k = gn := by omega
                                                                            exact e ▸ HA4.out
      obtain ⟨o2, ho2⟩ : ∃ o2, coK us gs cn o1 gn = o2 := ⟨_, rfl⟩
      rw [ho2] at HA2 HLO
      clear HA4 ho2 hk
      obtain ⟨c0, c1, c2, c3, c4, c5⟩ := cells6 HK4.out.2
      go_wp2_with fail
      clear c0 c1 c2 c3 c4 c5 hd hd'
      go_loopg [41] cn (fun g iv wx => ∃ k : Nat, iv = .int .i64 k ∧ k + g = cn ∧ Hid (AccO wx (w.heap.size + 1) (bxK us rs o2 k)) ∧ Hid (Below w.heap.size w wx))
      case atStart => exact ⟨0, rfl, by omega, HA2, HK4.out.1⟩
      case round =>
        clear HA2 HK4
        obtain ⟨k, rfl, hk, HA4, HK4⟩ := hrel
        by_cases hlt : k < cn
        · have hd : decide ((k : Int) < (cn : Int)) = true := decide_eq_true (by omega)
          obtain ⟨g, rfl⟩ : ∃ g, gk = g + 1 := ⟨gk - 1, by omega⟩
          rcases (HZ.out _ HK4.out).r.cells with h0 | ⟨rb, roff, ero, hcr⟩
          · dsimp only at h0; omega
          dsimp only at ero hcr
          subst ero
          rcases (HA.out _ HK4.out).cells with h0 | ⟨ab', aoff', eao, hca⟩
          · omega
          injection eao with eao
          injection eao with e1 e2
          subst e1 e2
          have gr := hcr k hlt
          have ga := hca k (by omega)
          have hmem := getD_mem (us := us) (j := k) (by rw [HLN.out.1]; omega)
          have hax := (HA.out _ HK4.out).lt _ hmem
          have hrx := (HZ.out _ HK4.out).r.lt _ (getD_mem (us := rs) (j := k) (by rw [HLN.out.2.2]; exact hlt))
          have HD : Hid (bxK us rs o2 (k + 1) = prodO (bxK us rs o2 k) (fopp (frung (us[k]?.getD 0))) (rs[k]?.getD 0) 0) := rfl
          obtain ⟨x9, hx9⟩ : ∃ x, us[k]?.getD 0 = x := ⟨_, rfl⟩
          obtain ⟨y9, hy9⟩ : ∃ y, rs[k]?.getD 0 = y := ⟨_, rfl⟩
          rw [hx9, hy9] at HD
          rw [hx9] at ga hax
          rw [hy9] at gr hrx
          have hng := run_negM (frung x9)
          have hfo := (fopp_parts (frung_ltJ hax)).2.2
          have HIG : Hid (k + (g + 1) = cn) := hk
          have hlt2 : k < l := by omega
          clear hcr hca hx9 hy9 hk hmem
          go_wp2_with (first
            | (go_at_call 47; refine Calls.mono (abs_any x9 hax _) ?_; rintro e w' ⟨rfl, rfl⟩)
            | (go_at_call 39; refine Calls.mono (accProd_any (w.heap.size + 1) _ (fopp (frung x9)) y9 0 hfo hrx _ HA4.out) ?_; rintro e w5 ⟨rfl, a5, d5⟩))
          have HA5 : Hid (AccO w5 (w.heap.size + 1) (bxK us rs o2 (k + 1))) := by unfold Hid; rw [HD.out]; exact a5
          have HK5 : Hid (Below w.heap.size w w5) := HK4.out.trans (d5.below.mono (by omega))
          go_roundg g
          case measure => omega
          case rel => exact ⟨k + 1, by go_num, by have := HIG.out; omega, HA5, HK5⟩
        · have hd : decide ((k : Int) < (cn : Int)) = false := decide_eq_false (by omega)
          have hd' : decide (k < cn) = false := decide_eq_false (by omega)
          have HA2 : Hid (AccO wr (w.heap.size + 1) lo) := by
            have e : k = cn := by omega
            unfold Hid
            rw [HLO.out, ← e]
            exact HA4.out
          go_wp2_with fail
          go_ret
          exact ⟨rfl, HA2.out, HK4.out⟩
/-- May it be a claim of a zonotope? -/
def clB (z : ZD) (us : List Nat) : Bool := checkB z && !z.bad && decide ((us.length : Int) = z.N + 1) && numsB us
set_option maxRecDepth 100000 in
set_option maxHeartbeats 4000000 in
theorem isClaim_any (z : ZD) (ao : Option Addr) (l c : Nat) (us : List Nat) (w : World) (hz : ZR w z) (ha : RdF w ao l c us) :
    Calls Try.prog 24 #[.agg #[.int .i64 z.N, .slice z.co z.cn z.cc, .slice z.io z.dn z.dc, .slice z.go z.gn z.gc, .slice z.ro z.rn z.rc, .bool z.bad], .slice ao l c] w fun e w' => e = .returned (.bool (clB z us)) ∧ Below w.heap.size w w' := by
  have HZ : Hid (∀ W', Below w.heap.size w W' → ZR W' z) := fun W' hb => hz.later hb
  have HA : Hid (∀ W', Below w.heap.size w W' → RdF W' ao l c us) := fun W' hb => ha.later hb
  have HLN : Hid (us.length = l) := ha.length
  have hlm : l ≤ 9223372036854775807 := Nat.le_trans ha.max maxLen_le
  obtain ⟨cb, hcb⟩ : ∃ cb, checkB z = cb := ⟨_, rfl⟩
  obtain ⟨nb, hnb⟩ : ∃ nb, numsB us = nb := ⟨_, rfl⟩
  have HC : Hid (∀ W, Below w.heap.size w W → Calls Try.prog 37 #[.agg #[.int .i64 z.N, .slice z.co z.cn z.cc, .slice z.io z.dn z.dc, .slice z.go z.gn z.gc, .slice z.ro z.rn z.rc, .bool z.bad]] W fun e w' => e = .returned (.int .i64 (if cb then 0 else 100)) ∧ Below W.heap.size W w') := fun W hb => hcb ▸ check_any z W (HZ.out W hb)
  have HN : Hid (∀ W, Below w.heap.size w W → Calls Try.prog 36 #[.slice ao l c] W fun e w' => e = .returned (.bool (!nb)) ∧ w' = W) := fun W hb => hnb ▸ hasNo_any ao l c us W (HA.out W hb)
  have HR : Hid (clB z us = (cb && !z.bad && decide ((l : Int) = z.N + 1) && nb)) := by unfold Hid clB; rw [hcb, hnb, HLN.out]
  have HB : Hid (cb = true → z.bad = false → 1 ≤ z.N ∧ z.N ≤ 256) := by
    intro h1 h2
    rw [← hcb] at h1
    unfold checkB at h1
    rw [h2] at h1
    simp only [Bool.false_eq_true, if_false] at h1
    unfold wholeB at h1
    simp only [Bool.and_eq_true, decide_eq_true_eq] at h1
    exact ⟨h1.1.1.1.1.1.1, h1.1.1.1.1.1.2⟩
  clear hz ha hcb hnb HZ HA
  obtain ⟨N, co, cn, cc, io, dn, dc, go, gn, gc, ro, rn, rc, bad, cs, ids, gv, gs, rs⟩ := z
  dsimp only at HC HR HB ⊢
  have X0 : Below w.heap.size w (w.alloc (.cells #[.int .i64 N, .slice co cn cc, .slice io dn dc, .slice go gn gc, .slice ro rn rc, .bool bad] 26)) := (Below.refl _ w).alloc (Nat.le_refl _) _
  have Y0 : (w.alloc (.cells #[.int .i64 N, .slice co cn cc, .slice io dn dc, .slice go gn gc, .slice ro rn rc, .bool bad] 26)).heap[w.heap.size]? = _ := heap_alloc_new w _
  go_enter Try.func24, Try.ntmps24
  go_upto_region 1 with fail
  obtain ⟨X, hX⟩ : ∃ X, (w.alloc (.cells #[.int .i64 N, .slice co cn cc, .slice io dn dc, .slice go gn gc, .slice ro rn rc, .bool bad] 26)) = X := ⟨_, rfl⟩
  rw [hX] at X0 Y0 ⊢
  clear hX
  go_wp2_with (first | (refine wpList_load_row (by rfl) 26 _ (by rfl) w.heap.size _ (by rfl) Y0 _ Try.underlying26 rfl 6 Try.infoZ (by rfl) ?_))
  refine Calls.mono (HC.out _ X0) ?_
  rintro e w1 ⟨rfl, b1⟩
  have Y1 := kept b1 Y0
  have HX1 : Hid (Below w.heap.size w w1) := to_call X0 b1
  obtain ⟨c0, c1, c2, c3, c4, c5⟩ := cells6 Y1
  clear b1 Y0 Y1 X0
  cases cb with
  | false =>
    simp only [Bool.false_eq_true, if_false]
    go_wp2_with fail
    go_ret
    exact ⟨by rw [HR.out]; rfl, HX1.out⟩
  | true =>
    simp only [if_true]
    cases bad with
    | true =>
      go_wp2_with fail
      go_ret
      exact ⟨by rw [HR.out]; rfl, HX1.out⟩
    | false =>
      obtain ⟨hN1, hN2⟩ := HB.out rfl rfl
      by_cases hl : (l : Int) = N + 1
      · have he : ((l : Int) == N + 1) = true := by rw [beq_iff_eq]; exact hl
        have HRL : Hid (decide ((l : Int) = N + 1) = true) := decide_eq_true hl
        clear hl
        go_wp2_with (go_at_call 36; refine Calls.mono (HN.out _ HX1.out) ?_; rintro e w2 ⟨rfl, rfl⟩)
        go_ret
        refine ⟨?_, HX1.out⟩
        rw [HR.out, HRL.out]
        cases nb <;> rfl
      · have he : ((l : Int) == N + 1) = false := by rw [beq_eq_false_iff_ne]; exact hl
        have HRL : Hid (decide ((l : Int) = N + 1) = false) := decide_eq_false hl
        clear hl
        go_wp2_with fail
        go_ret
        refine ⟨?_, HX1.out⟩
        rw [HR.out, HRL.out]
        rfl
end Go.Proofs.Ytaloaholmhcflaa

namespace Go.Proofs.Ytaloaholmhcflaa
open Go.RowKit Go.Shelf
set_option linter.unusedVariables false
set_option linter.unusedSimpArgs false
theorem clB_is {z : ZD} {us : List Nat} (h : clB z us = true) : z.bad = false ∧ wholeB z = true ∧ (us.length : Int) = z.N + 1 ∧ ∀ u ∈ us, Fin u := by
  unfold clB checkB at h
  simp only [Bool.and_eq_true, decide_eq_true_eq, Bool.not_eq_true'] at h
  obtain ⟨⟨⟨h1, h2⟩, h3⟩, h4⟩ := h
  rw [h2] at h1
  refine ⟨h2, by simpa using h1, h3, fun u hu => ?_⟩
  unfold numsB at h4
  exact of_decide_eq_true (List.all_eq_true.1 h4 u hu)
/-- What Margin tells. -/
def MgR (z : ZD) (us : List Nat) (u : Nat) (b : Bool) : Prop := (clB z us = true → RndO 2 (leO z us) u b) ∧ (clB z us = false → u = 0 ∧ b = false)
theorem MgR.uniq {z : ZD} {us : List Nat} {u v : Nat} {b d : Bool} (h : MgR z us u b) (k : MgR z us v d) : u = v ∧ b = d := by
  cases hc : clB z us with
  | true => exact (h.1 hc).uniq (k.1 hc)
  | false =>
    obtain ⟨rfl, rfl⟩ := h.2 hc
    obtain ⟨rfl, rfl⟩ := k.2 hc
    exact ⟨rfl, rfl⟩
set_option maxRecDepth 100000 in
set_option maxHeartbeats 4000000 in
theorem margin_any (z : ZD) (ao : Option Addr) (l c : Nat) (us : List Nat) (w : World) (hz : ZR w z) (hdn : z.dn ≤ 1050000) (ha : RdF w ao l c us) :
    Calls Try.prog 15 #[.agg #[.int .i64 z.N, .slice z.co z.cn z.cc, .slice z.io z.dn z.dc, .slice z.go z.gn z.gc, .slice z.ro z.rn z.rc, .bool z.bad], .slice ao l c] w fun e w' => ∃ u b, e = .returned (.tuple #[.float .f64 u, .bool b]) ∧ MgR z us u b ∧ Below w.heap.size w w' := by
  have HZ : Hid (∀ W', Below w.heap.size w W' → ZR W' z) := fun W' hb => hz.later hb
  have HA : Hid (∀ W', Below w.heap.size w W' → RdF W' ao l c us) := fun W' hb => ha.later hb
  have HD : Hid (z.dn ≤ 1050000) := hdn
  have HLN : Hid (us.length = l) := ha.length
  have X0 : Below w.heap.size w (w.alloc (.cells #[.int .i64 z.N, .slice z.co z.cn z.cc, .slice z.io z.dn z.dc, .slice z.go z.gn z.gc, .slice z.ro z.rn z.rc, .bool z.bad] 26)) := (Below.refl _ w).alloc (Nat.le_refl _) _
  have Y0 : (w.alloc (.cells #[.int .i64 z.N, .slice z.co z.cn z.cc, .slice z.io z.dn z.dc, .slice z.go z.gn z.gc, .slice z.ro z.rn z.rc, .bool z.bad] 26)).heap[w.heap.size]? = _ := heap_alloc_new w _
  clear hz ha hdn
  go_enter Try.func15, Try.ntmps15
  go_upto_region 1 with fail
  obtain ⟨X, hX⟩ : ∃ X, (w.alloc (.cells #[.int .i64 z.N, .slice z.co z.cn z.cc, .slice z.io z.dn z.dc, .slice z.go z.gn z.gc, .slice z.ro z.rn z.rc, .bool z.bad] 26)) = X := ⟨_, rfl⟩
  rw [hX] at X0 Y0 ⊢
  clear hX
  obtain ⟨cb, hcb⟩ : ∃ cb, clB z us = cb := ⟨_, rfl⟩
  have HC : Hid (∀ W, Below w.heap.size w W → Calls Try.prog 24 #[.agg #[.int .i64 z.N, .slice z.co z.cn z.cc, .slice z.io z.dn z.dc, .slice z.go z.gn z.gc, .slice z.ro z.rn z.rc, .bool z.bad], .slice ao l c] W fun e w' => e = .returned (.bool cb) ∧ Below W.heap.size W w') := fun W hb => hcb ▸ isClaim_any z ao l c us W (HZ.out W hb) (HA.out W hb)
  go_wp2_with (first | (refine wpList_load_row (by rfl) 26 _ (by rfl) w.heap.size _ (by rfl) Y0 _ Try.underlying26 rfl 6 Try.infoZ (by rfl) ?_))
  refine Calls.mono (HC.out _ X0) ?_
  rintro e w1 ⟨rfl, b1⟩
  have Y1 := kept b1 Y0
  have HX1 : Hid (Below w.heap.size w w1) := to_call X0 b1
  clear b1 Y0 X0
  cases cb with
  | false =>
    go_wp2_with fail
    refine bodyPost_ret (v := .tuple #[.float .f64 0, .bool false]) (res_tmp2J _ 4 5 (by kernel_rfl) _ _ _ _ (by rfl) (by rfl)) rfl ?_
    exact ⟨0, false, rfl, ⟨fun h => absurd (hcb.symm.trans h) (by decide), fun _ => ⟨rfl, rfl⟩⟩, HX1.out⟩
  | true =>
    obtain ⟨h1, h2, h3, h4⟩ := clB_is hcb
    have hW : WhF z := WhF.of (HZ.out w (Below.refl _ _)) HD.out h2
    have HW : Hid (WhF z ∧ l = z.rn + 1 ∧ ∀ u ∈ us, Fin u) := ⟨hW, by have := HLN.out; have := hW.N; omega, h4⟩
    have HCB : Hid (clB z us = true) := hcb
    clear h1 h2 h3 h4 hW hcb
    go_wp2_with (first | (refine wpList_load_row (by rfl) 26 _ (by rfl) w.heap.size _ (by rfl) Y1 _ Try.underlying26 rfl 6 Try.infoZ (by rfl) ?_))
    refine Calls.mono (leastSum_any z ao l c us _ (HZ.out _ HX1.out) (HA.out _ HX1.out) HW.out.1 HW.out.2.1 HW.out.2.2) ?_
    rintro e w2 ⟨rfl, a2, b2⟩
    have HX2 : Hid (Below w.heap.size w w2) := to_call HX1.out b2
    have HA2 : Hid _ := a2
    clear a2 b2 Y1
    go_wp2_with fail
    refine Calls.mono (accRound_any 2 _ _ _ HA2.out) ?_
    rintro e w3 ⟨u, b, rfl, hr, b3⟩
    have HR : Hid (RndO 2 (leO z us) u b) := hr
    clear hr
    go_wp2_with fail
    refine bodyPost_ret (v := .tuple #[.float .f64 u, .bool b]) (res_tmp2J _ 4 5 (by kernel_rfl) _ _ _ _ (by rfl) (by rfl)) rfl ?_
    exact ⟨u, b, rfl, ⟨fun _ => HR.out, fun h => absurd (HCB.out.symm.trans h) (by decide)⟩, to_call HX2.out b3⟩
end Go.Proofs.Ytaloaholmhcflaa

