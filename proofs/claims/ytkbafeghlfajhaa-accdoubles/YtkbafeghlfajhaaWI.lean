import Derived.Test.YtkbafeghlfajhaaWH
namespace Go.Proofs.Ytkbafeghlfajhaa
open Go.RowKit
set_option linter.unusedVariables false

def joinO (o p : Option Int) (neg : Bool) : Option Int := o.bind fun x => p.bind fun y => holdZ (x + (if neg then -y else y))
theorem Mut.top {B : Nat} {w w' : World} (h : Mut B w w') : w'.cell? ⟨B, 76, none⟩ = w.cell? ⟨B, 76, none⟩ ∧ w'.frozen? ⟨B, 76, none⟩ = w.frozen? ⟨B, 76, none⟩ := ⟨h.high 76 (by omega), h.froz 76⟩
theorem pow_4800_4863 : ((2 ^ 4800 : Nat) : Int) * 4 ≤ ((2 ^ 4863 : Nat) : Int) := by
  have := pow_top
  have h2 := Nat.two_pow_pos 4800
  rw [this]
  generalize 2 ^ 4800 = L at *
  omega
set_option maxRecDepth 100000 in
set_option maxHeartbeats 1000000 in
theorem accJoin_any (B C : Nat) (o p : Option Int) (neg : Bool) (w : World) (hB : AccO w B o) (hC : AccO w C p) :
    Calls Try.prog 14 #[.pointer (some ⟨B, 0, none⟩), .pointer (some ⟨C, 0, none⟩), .bool neg] w fun e w' => e = .returned (.tuple #[]) ∧ AccO w' B (joinO o p neg) ∧ Chg B w w' := by
  have HB : Hid _ := hB
  have HC : Hid _ := hC
  clear hB hC
  obtain ⟨f0, b0, hw0⟩ := HB.out.words
  have HW0 : Hid _ := hw0
  clear hw0
  cases o with
  | none =>
    go_enter Try.func14, Try.ntmps14
    go_wp2_with fail
    refine (bad_any B none _ HB.out).mono ?_
    rintro e w1 ⟨rfl, rfl⟩
    go_wp2_with fail
    refine (spoil_any B f0 b0 _ HW0.out.1 HW0.out.2.1 HW0.out.2.2.1 HW0.out.2.2.2).mono ?_
    rintro e w1 ⟨rfl, hs⟩
    have HS : Hid _ := hs
    clear hs
    go_wp2_with fail
    (try simp only [Exit.inBlock, Exit.then]); refine bodyPost_ret (results_none rfl _ _ _) rfl ?_
    exact ⟨rfl, HS.out.1, HS.out.2⟩
  | some x =>
    cases p with
    | none =>
      go_enter Try.func14, Try.ntmps14
      go_wp2_with fail
      refine (bad_any B (some x) _ HB.out).mono ?_
      rintro e w1 ⟨rfl, rfl⟩
      go_wp2_with fail
      refine (bad_any C none _ HC.out).mono ?_
      rintro e w1 ⟨rfl, rfl⟩
      go_wp2_with fail
      refine (spoil_any B f0 b0 _ HW0.out.1 HW0.out.2.1 HW0.out.2.2.1 HW0.out.2.2.2).mono ?_
      rintro e w1 ⟨rfl, hs⟩
      have HS : Hid _ := hs
      clear hs
      go_wp2_with fail
      (try simp only [Exit.inBlock, Exit.then]); refine bodyPost_ret (results_none rfl _ _ _) rfl ?_
      exact ⟨rfl, HS.out.1, HS.out.2⟩
    | some y =>
      obtain ⟨f, k1, k2⟩ := HB.out.ex
      obtain ⟨g, k3, k4⟩ := HC.out.ex
      obtain ⟨t1, t2, t3⟩ := k2 x rfl
      obtain ⟨t4, t5, t6⟩ := k4 y rfl
      obtain ⟨r, hr⟩ : ∃ r, r = x + (if neg then -y else y) := ⟨_, rfl⟩
      have hb : -((2 ^ 4863 : Nat) : Int) ≤ r ∧ r < ((2 ^ 4863 : Nat) : Int) := by
        have := pow_4800_4863
        rw [hr]
        generalize ((2 ^ 4800 : Nat) : Int) = L at *
        generalize ((2 ^ 4863 : Nat) : Int) = M at *
        cases neg <;> simp <;> omega
      have HX : Hid (joinO (some x) (some y) neg = holdZ r) := by unfold Hid joinO; rw [hr]; rfl
      have HF : Hid _ := And.intro k1 (And.intro k3 (And.intro t1 t4))
      have HR : Hid _ := And.intro hr hb
      have HC0 : Hid _ := And.intro HB.out.cell HB.out.froz
      clear k1 k2 k3 k4 t1 t2 t3 t4 t5 t6 hr hb HW0
      go_enter Try.func14, Try.ntmps14
      go_wp2_with fail
      refine (bad_any B (some x) _ HB.out).mono ?_
      rintro e w1 ⟨rfl, rfl⟩
      go_wp2_with fail
      refine (bad_any C (some y) _ HC.out).mono ?_
      rintro e w1 ⟨rfl, rfl⟩
      go_wp2_with fail
      go_region_with (go_at_call 41; refine (join_tc B C f g x y neg _ HF.out.1.drew HF.out.2.1.drew HF.out.2.2.1 HF.out.2.2.2 r HR.out.1 HR.out.2.1 HR.out.2.2).mono ?_; rintro e w2 ⟨rfl, h, j1, j2, j3⟩)
      have HJ : Hid _ := And.intro j1 j3
      have hct := (HC0.out.1)
      have hcf := (HC0.out.2)
      have HT : Hid (w2.cell? ⟨B, 76, none⟩ = some (.bool false) ∧ w2.frozen? ⟨B, 76, none⟩ = false) := ⟨j2.top.1.trans hct, j2.top.2.trans hcf⟩
      have HM : Hid (Chg B w1 w2) := (Chg.refl B w1).drew.trans j2.chg
      have HTP : Hid (∀ j, 77 ≤ j → w2.cell? ⟨B, j, none⟩ = none) := fun j hj => (j2.high j (by omega)).trans (HB.out.top j hj)
      clear j1 j2 j3 hct hcf
      go_wp2_with fail
      refine (settle_any B h r _ HJ.out.1 HJ.out.2 HT.out.1 HT.out.2 HTP.out).mono ?_
      rintro e w3 ⟨rfl, s1, s2⟩
      have HS : Hid _ := And.intro s1 s2
      clear s1 s2
      go_wp2_with fail
      go_end0
      exact ⟨rfl, by rw [HX.out]; exact HS.out.1, HM.out.trans HS.out.2⟩
set_option maxRecDepth 100000 in
theorem accJoin_nil (B : Nat) (o : Option Int) (neg : Bool) (w : World) (hB : AccO w B o) :
    Calls Try.prog 14 #[.pointer (some ⟨B, 0, none⟩), .pointer none, .bool neg] w fun e w' => e = .returned (.tuple #[]) ∧ AccO w' B none ∧ Chg B w w' := by
  have HB : Hid _ := hB
  clear hB
  obtain ⟨f0, b0, hw0⟩ := HB.out.words
  have HW0 : Hid _ := hw0
  clear hw0
  cases o with
  | none =>
    go_enter Try.func14, Try.ntmps14
    go_wp2_with fail
    refine (bad_any B none _ HB.out).mono ?_
    rintro e w1 ⟨rfl, rfl⟩
    go_wp2_with fail
    refine (spoil_any B f0 b0 _ HW0.out.1 HW0.out.2.1 HW0.out.2.2.1 HW0.out.2.2.2).mono ?_
    rintro e w1 ⟨rfl, hs⟩
    have HS : Hid _ := hs
    clear hs
    go_wp2_with fail
    (try simp only [Exit.inBlock, Exit.then]); refine bodyPost_ret (results_none rfl _ _ _) rfl ?_
    exact ⟨rfl, HS.out.1, HS.out.2⟩
  | some x =>
    go_enter Try.func14, Try.ntmps14
    go_wp2_with fail
    refine (bad_any B (some x) _ HB.out).mono ?_
    rintro e w1 ⟨rfl, rfl⟩
    go_wp2_with fail
    refine (bad_nil _).mono ?_
    rintro e w1 ⟨rfl, rfl⟩
    go_wp2_with fail
    refine (spoil_any B f0 b0 _ HW0.out.1 HW0.out.2.1 HW0.out.2.2.1 HW0.out.2.2.2).mono ?_
    rintro e w1 ⟨rfl, hs⟩
    have HS : Hid _ := hs
    clear hs
    go_wp2_with fail
    (try simp only [Exit.inBlock, Exit.then]); refine bodyPost_ret (results_none rfl _ _ _) rfl ?_
    exact ⟨rfl, HS.out.1, HS.out.2⟩
def signO (o : Option Int) : Int := match o with | none => 0 | some z => sgi z
set_option maxRecDepth 100000 in
theorem accSign_any (B : Nat) (o : Option Int) (w : World) (hB : AccO w B o) :
    Calls Try.prog 17 #[.pointer (some ⟨B, 0, none⟩)] w fun e w' => e = .returned (.int .i64 (signO o)) ∧ w' = w := by
  have HB : Hid _ := hB
  clear hB
  cases o with
  | none =>
    go_enter Try.func17, Try.ntmps17
    go_wp2_with fail
    refine (bad_any B none _ HB.out).mono ?_
    rintro e w1 ⟨rfl, rfl⟩
    go_wp2_with fail
    go_ret
    exact ⟨rfl, rfl⟩
  | some x =>
    obtain ⟨f, k1, k2⟩ := HB.out.ex
    obtain ⟨t1, t2, t3⟩ := k2 x rfl
    have HK : Hid _ := And.intro k1 t1
    clear k1 k2 t1 t2 t3
    go_enter Try.func17, Try.ntmps17
    go_wp2_with fail
    refine (bad_any B (some x) _ HB.out).mono ?_
    rintro e w1 ⟨rfl, rfl⟩
    go_wp2_with fail
    refine (signW_any B f x _ HK.out.1 HK.out.2).mono ?_
    rintro e w1 ⟨rfl, rfl⟩
    go_wp2_with fail
    go_ret
    exact ⟨rfl, rfl⟩
set_option maxRecDepth 100000 in
theorem accSign_nil (w : World) : Calls Try.prog 17 #[.pointer none] w fun e w' => e = .returned (.int .i64 0) ∧ w' = w := by
  go_enter Try.func17, Try.ntmps17
  go_wp2_with fail
  refine (bad_nil _).mono ?_
  rintro e w1 ⟨rfl, rfl⟩
  go_wp2_with fail
  go_ret
  exact ⟨rfl, rfl⟩
/-- A store of words over an Acc's leaves its last cell. -/
theorem AccO.words_stored {w : World} {B : Nat} {f g : Nat → Nat} {z : Int} (h : Wds w B f) (hc : w.cell? ⟨B, 76, none⟩ = some (.bool false)) (hf : w.frozen? ⟨B, 76, none⟩ = false) (hg : Tc g z) (h1 : -((2 ^ 4800 : Nat) : Int) < z) (h2 : z < ((2 ^ 4800 : Nat) : Int)) (ht : ∀ j, 77 ≤ j → w.cell? ⟨B, j, none⟩ = none) : AccO (w.setCells B 0 (wda g)) B (some z) :=
  ⟨⟨g, h.stored hg.lt, fun y hy => by cases hy; exact ⟨hg, h1, h2⟩⟩, by rw [World.cell?_setCells_out _ _ _ _ _ (fun _ _ => .inr (by rw [wda_len]; show 0 + 76 ≤ 76; omega))]; exact hc, by rw [World.frozen?_setCells]; exact hf, fun j hj => by rw [World.cell?_setCells_out _ _ _ _ _ (fun _ _ => .inr (by rw [wda_len]; show 0 + 76 ≤ j; omega))]; exact ht j hj⟩
def absO (o : Option Int) : Option Int := o.map fun z => (z.natAbs : Int)
set_option maxRecDepth 100000 in
set_option maxHeartbeats 1000000 in
theorem accAbs_any (B : Nat) (o : Option Int) (w : World) (hB : AccO w B o) :
    Calls Try.prog 29 #[.pointer (some ⟨B, 0, none⟩)] w fun e w' => e = .returned (.tuple #[]) ∧ AccO w' B (absO o) ∧ Chg B w w' := by
  have HB : Hid _ := hB
  clear hB
  by_cases hs : signO o < 0
  · cases o with
    | none => simp [signO] at hs
    | some z =>
      have hz : z < 0 := by unfold signO sgi at hs; simp only at hs; split at hs <;> (try split at hs) <;> omega
      have hs1 : signO (some z) = -1 := by show sgi z = -1; unfold sgi; rw [if_pos hz]
      obtain ⟨f, k1, k2⟩ := HB.out.ex
      obtain ⟨t1, t2, t3⟩ := k2 z rfl
      have HK : Hid _ := And.intro k1 (And.intro t1 (And.intro t2 t3))
      have HLO : Hid (-((2 ^ 4863 : Nat) : Int) < z) := by unfold Hid; have := pow_4800_4863; have := pow4800; generalize ((2 ^ 4800 : Nat) : Int) = L at *; generalize ((2 ^ 4863 : Nat) : Int) = M at *; omega
      have HA : Hid (absO (some z) = some (-z)) := by unfold Hid absO; simp; omega
      have HC0 : Hid _ := And.intro HB.out.cell HB.out.froz
      clear k1 k2 t1 t2 t3 hs hz
      go_enter Try.func29, Try.ntmps29
      go_wp2_with fail
      refine (accSign_any B (some z) _ HB.out).mono ?_
      rintro e w1 ⟨rfl, rfl⟩
      go_wp2_with fail
      refine (turnedW_any B f z _ HK.out.1 HK.out.2.1 HLO.out).mono ?_
      rintro e w2 ⟨h, rfl, ht, hb⟩
      have hlt := HK.out.1.block
      have HW2 : Hid (Wds w2 B f) := HK.out.1.below hb hlt
      have HC2 : Hid (w2.cell? ⟨B, 76, none⟩ = some (.bool false) ∧ w2.frozen? ⟨B, 76, none⟩ = false) := ⟨(cell_of_heap (hb.block B hlt) 76).1.trans HC0.out.1, (cell_of_heap (hb.block B hlt) 76).2.trans HC0.out.2⟩
      have HR : Hid (AccO (w2.setCells B 0 (wda h)) B (some (-z)) ∧ Chg B w1 (w2.setCells B 0 (wda h))) := ⟨AccO.words_stored HW2.out HC2.out.1 HC2.out.2 ht (by have := HK.out.2.2.2; omega) (by have := HK.out.2.2.1; omega) (fun j hj => (cell_of_heap (hb.block B hlt) j).1.trans (HB.out.top j hj)), (Chg.of_below hb (by omega)).setCells _ 0⟩
      have hst := store_words HW2.out h
      generalize w2.setCells B 0 (wda h) = w3 at hst HR
      clear ht hb hlt
      go_wp2_with fail
      go_end0
      exact ⟨rfl, by rw [HA.out]; exact HR.out.1, HR.out.2⟩
  · have hd : decide (signO o < 0) = false := decide_eq_false hs
    have HA : Hid (absO o = o) := by
      unfold Hid absO
      cases o with
      | none => rfl
      | some z =>
        have : 0 ≤ z := by unfold signO sgi at hs; simp only at hs; split at hs <;> (try split at hs) <;> omega
        simp; omega
    clear hs
    go_enter Try.func29, Try.ntmps29
    go_wp2_with fail
    refine (accSign_any B o _ HB.out).mono ?_
    rintro e w1 ⟨rfl, rfl⟩
    go_wp2_with fail
    go_end0
    exact ⟨rfl, by rw [HA.out]; exact HB.out, Chg.refl _ _⟩
end Go.Proofs.Ytkbafeghlfajhaa
