import Derived.Test.YtbjnkefjlaplkaaGMb
import Derived.Test.YtbjnkefjlaplkaaGXc
import Derived.Test.YtbjnkefjlaplkaaJZx
import Derived.ChangeSame
import Derived.JoinedOf
import Derived.JoinedAt
import Derived.JoinedStill
import Derived.RowKit
import Derived.ProofKit
import Derived.Seven
import Derived.Laws.Cover2
import Derived.WalkKit
import Derived.OpenShut
import Derived.ChangeOld
import Derived.Below
import Derived.Deep.DeepHandedRow
import Derived.Lib.LaidTab
namespace Go.Proofs.Ytbjnkefjlaplkaa
open Go.RowKit Go.Shelf
set_option linter.unusedVariables false
set_option linter.unusedSimpArgs false

set_option maxRecDepth 100000 in
set_option maxHeartbeats 16000000 in
theorem marginHolds_walk (z : ZD) (ao : Option Addr) (l c : Nat) (us : List Nat) (eo : Option Addr) (el ec : Nat) (es0 : List Int) (so : Option Addr) (sl sc : Nat) (ss0 : List Int) (dep : Int) (w : World) (hz : ZR w z) (hw : ZW z) (hdn : z.dn ≤ 1048576) (ha : RdF w ao l c us) (hl : l ≤ 1050000) (hes : RdIs w eo el ec es0) (hel : el ≤ 1050000) (hss : RdIs w so sl sc ss0) (hsl : sl ≤ 1050000) :
    Calls Try.prog 4 #[.agg (zRow z), .slice ao l c, .slice eo el ec, .slice so sl sc, .int .i64 dep] w fun e w' => e = .returned (.bool true) ∧ Below w.heap.size w w' := by
  obtain ⟨E, hE⟩ : ∃ E : Nat, E = 1074 := ⟨_, rfl⟩
  have HE : Hid (E = 1074) := hE
  have HZ : Hid (∀ W', Below w.heap.size w W' → ZR W' z) := fun W' hb => hz.later hb
  have HA : Hid (∀ W', Below w.heap.size w W' → RdF W' ao l c us) := fun W' hb => ha.later hb
  have HLN : Hid (us.length = l) := ha.length
  have HES : Hid (∀ W', Below w.heap.size w W' → RdIs W' eo el ec es0) := fun W' hb => hes.later hb
  have HSS : Hid (∀ W', Below w.heap.size w W' → RdIs W' so sl sc ss0) := fun W' hb => hss.later hb
  have HLT : Hid (∀ u ∈ us, u < 18446744073709551616) := ha.lt
  have HZW : Hid (ZW z) := hw
  have HD : Hid (z.dn ≤ 1050000) := by unfold Hid; omega
  have hlm : l ≤ 1050000 := hl
  have HZ0 : Hid (ZR w z) := hz
  have X0 : Below w.heap.size w (w.alloc (.cells #[.int .i64 z.N, .slice z.co z.cn z.cc, .slice z.io z.dn z.dc, .slice z.go z.gn z.gc, .slice z.ro z.rn z.rc, .bool z.bad] 26)) := (Below.refl _ w).alloc (Nat.le_refl _) _
  have Y0 : (w.alloc (.cells #[.int .i64 z.N, .slice z.co z.cn z.cc, .slice z.io z.dn z.dc, .slice z.go z.gn z.gc, .slice z.ro z.rn z.rc, .bool z.bad] 26)).heap[w.heap.size]? = some (.cells #[.int .i64 z.N, .slice z.co z.cn z.cc, .slice z.io z.dn z.dc, .slice z.go z.gn z.gc, .slice z.ro z.rn z.rc, .bool z.bad] 26) := heap_alloc_new w _
  clear hz ha hw hdn hl hE hes hss
  unfold zRow
  go_enter Try.func4, Try.ntmps4
  go_upto_region 1 with fail
  obtain ⟨X, hX⟩ : ∃ X, (w.alloc (.cells #[.int .i64 z.N, .slice z.co z.cn z.cc, .slice z.io z.dn z.dc, .slice z.go z.gn z.gc, .slice z.ro z.rn z.rc, .bool z.bad] 26)) = X := ⟨_, rfl⟩
  rw [hX] at X0 Y0 ⊢
  have P0 : Hid (Below w.heap.size w X ∧ X.heap[w.heap.size]? = some (.cells #[.int .i64 z.N, .slice z.co z.cn z.cc, .slice z.io z.dn z.dc, .slice z.go z.gn z.gc, .slice z.ro z.rn z.rc, .bool z.bad] 26)) := ⟨X0, Y0⟩
  clear hX X0 Y0
  go_wp2_with (first | (refine wpList_load_row (by rfl) 26 _ (by rfl) w.heap.size _ (by rfl) P0.out.2 _ Try.underlying26 rfl 6 Try.infoZ (by rfl) ?_))
  refine Calls.mono (ofU z _ (HZ.out _ P0.out.1) HZW.out) ?_
  rintro e w1 ⟨u, rfl, hu, hk, b1⟩
  have HU : Hid (ZU w1 u ∧ SmZ u z) := ⟨hu, hk⟩
  have P1 : Hid (Below w.heap.size w w1 ∧ w1.heap[w.heap.size]? = some (.cells #[.int .i64 z.N, .slice z.co z.cn z.cc, .slice z.io z.dn z.dc, .slice z.go z.gn z.gc, .slice z.ro z.rn z.rc, .bool z.bad] 26)) := ⟨to_call P0.out.1 b1, kept b1 P0.out.2⟩
  clear hu hk b1 P0
  go_wp2_with fail
  refine Calls.mono (realsU z u E HE.out _ HZ0.out HZW.out HU.out.1 HU.out.2) ?_
  rintro e w2 ⟨N', a1, l1, c1, a2, l2, c2, a3, l3, c3, a4, l4, c4, rfl, hR, b2⟩
  obtain ⟨g, hg⟩ : ∃ g, (!z.bad && wholeB z) = g := ⟨_, rfl⟩
  have HG : Hid ((!z.bad && wholeB z) = g) := hg
  rw [hg] at hR
  rw [hg]
  have P2 : Hid (Below w.heap.size w w2 ∧ w2.heap[w.heap.size]? = some (.cells #[.int .i64 z.N, .slice z.co z.cn z.cc, .slice z.io z.dn z.dc, .slice z.go z.gn z.gc, .slice z.ro z.rn z.rc, .bool z.bad] 26)) := ⟨to_call P1.out.1 b2, kept b2 P1.out.2⟩
  have HR : Hid (g = true → N' = z.N ∧ ∃ gl, RlS w2 w1.heap.size E z.cs z.rs z.ids z.gs (.slice a1 l1 c1) (.slice a4 l4 c4) (.slice a2 l2 c2) (.slice a3 l3 c3) gl) := hR
  clear hR b2 hg HU P1
  have A3 : Below w2.heap.size w2 (w2.alloc (.cells #[.int .i64 N', .slice a1 l1 c1, .slice a2 l2 c2, .slice a3 l3 c3, .slice a4 l4 c4] 53)) := (Below.refl _ w2).alloc (Nat.le_refl _) _
  have Y3 : (w2.alloc (.cells #[.int .i64 N', .slice a1 l1 c1, .slice a2 l2 c2, .slice a3 l3 c3, .slice a4 l4 c4] 53)).heap[w2.heap.size]? = some (.cells #[.int .i64 N', .slice a1 l1 c1, .slice a2 l2 c2, .slice a3 l3 c3, .slice a4 l4 c4] 53) := heap_alloc_new w2 _
  go_upto_region 2 with fail
  obtain ⟨X3, hX3⟩ : ∃ X3, (w2.alloc (.cells #[.int .i64 N', .slice a1 l1 c1, .slice a2 l2 c2, .slice a3 l3 c3, .slice a4 l4 c4] 53)) = X3 := ⟨_, rfl⟩
  obtain ⟨B3, hB3⟩ : ∃ B3, w2.heap.size = B3 := ⟨_, rfl⟩
  rw [hX3] at A3 Y3 ⊢
  rw [hB3] at Y3 ⊢
  have P3 : Hid (Below w.heap.size w X3 ∧ X3.heap[w.heap.size]? = some (.cells #[.int .i64 z.N, .slice z.co z.cn z.cc, .slice z.io z.dn z.dc, .slice z.go z.gn z.gc, .slice z.ro z.rn z.rc, .bool z.bad] 26) ∧ X3.heap[B3]? = some (.cells #[.int .i64 N', .slice a1 l1 c1, .slice a2 l2 c2, .slice a3 l3 c3, .slice a4 l4 c4] 53)) := ⟨to_call P2.out.1 A3, kept A3 P2.out.2, Y3⟩
  have HR3 : Hid (g = true → N' = z.N ∧ ∃ gl, RlS X3 w1.heap.size E z.cs z.rs z.ids z.gs (.slice a1 l1 c1) (.slice a4 l4 c4) (.slice a2 l2 c2) (.slice a3 l3 c3) gl) := fun h => ⟨(HR.out h).1, by obtain ⟨gl, hgl⟩ := (HR.out h).2; exact ⟨gl, hgl.later A3⟩⟩
  clear A3 Y3 hX3 hB3 HR P2
  go_wp2_with fail
  refine Calls.mono (bits10_any ao l c us _ (HA.out _ P3.out.1) hlm) ?_
  rintro e w4 ⟨v4, rfl, ho4, b4⟩
  obtain ⟨bo, bc, rfl, hrd⟩ := rdU_own ho4
  rw [HLN.out] at hrd ⊢
  have HRD : Hid (RdUs w4 bo l bc us) := hrd
  have hb34 : Below X3.heap.size X3 w4 := b4
  go_wp2_with fail
  refine Calls.mono (exact_any bo l bc us E HE.out _ HRD.out HLT.out hlm) ?_
  rintro e w5 ⟨⟨v5, rfl, hx5⟩, b5⟩
  have P5 : Hid (Below w.heap.size w w5 ∧ w5.heap[w.heap.size]? = some (.cells #[.int .i64 z.N, .slice z.co z.cn z.cc, .slice z.io z.dn z.dc, .slice z.go z.gn z.gc, .slice z.ro z.rn z.rc, .bool z.bad] 26) ∧ w5.heap[B3]? = some (.cells #[.int .i64 N', .slice a1 l1 c1, .slice a2 l2 c2, .slice a3 l3 c3, .slice a4 l4 c4] 53) ∧ Below X3.heap.size X3 w5) := ⟨to_call (to_call P3.out.1 hb34) b5, kept b5 (kept hb34 P3.out.2.1), kept b5 (kept hb34 P3.out.2.2), to_call hb34 b5⟩
  obtain ⟨nb, hnb⟩ : ∃ nb, numsB us = nb := ⟨_, rfl⟩
  have HNB : Hid (numsB us = nb) := hnb
  rw [hnb] at hx5 ⊢
  have HX5 : Hid (nb = true → RowN w5 w4.heap.size v5 E us) := hx5
  clear ho4 b4 hrd hb34 b5 hx5 hnb HRD
  go_wp2_with (first | (refine wpList_load_row (by rfl) 26 _ (by rfl) w.heap.size _ (by rfl) P5.out.2.1 _ Try.underlying26 rfl 6 Try.infoZ (by rfl) ?_))
  refine Calls.mono (margin_any z ao l c us _ (HZ.out _ P5.out.1) HD.out (HA.out _ P5.out.1)) ?_
  rintro e w6 ⟨mu, mb, rfl, hmg, b6⟩
  have HMG : Hid (MgR z us mu mb) := hmg
  have P4 : Hid (Below w.heap.size w w6 ∧ w6.heap[w.heap.size]? = some (.cells #[.int .i64 z.N, .slice z.co z.cn z.cc, .slice z.io z.dn z.dc, .slice z.go z.gn z.gc, .slice z.ro z.rn z.rc, .bool z.bad] 26) ∧ w6.heap[B3]? = some (.cells #[.int .i64 N', .slice a1 l1 c1, .slice a2 l2 c2, .slice a3 l3 c3, .slice a4 l4 c4] 53) ∧ Below X3.heap.size X3 w6 ∧ Below w5.heap.size w5 w6) := ⟨to_call P5.out.1 b6, kept b6 P5.out.2.1, kept b6 P5.out.2.2.1, to_call P5.out.2.2.2 b6, b6⟩
  have HCL : Hid (clB z us = (g && decide ((l : Int) = z.N + 1) && nb)) := by unfold Hid; rw [clB_eq, HG.out, HNB.out, HLN.out]
  have HNR : Hid (g = true → 1 ≤ z.N ∧ z.N ≤ 256) := by
    intro h
    have h1 := HG.out
    rw [h] at h1
    simp only [Bool.and_eq_true] at h1
    have h2 := h1.2
    unfold wholeB at h2
    simp only [Bool.and_eq_true, decide_eq_true_eq] at h2
    exact ⟨h2.1.1.1.1.1.1, h2.1.1.1.1.1.2⟩
  clear hmg b6 P3 P5
  cases g with
  | false =>
    have hcf : clB z us = false := by rw [HCL.out]; rfl
    obtain ⟨eu, eb⟩ := HMG.out.2 hcf
    subst eu eb
    clear hcf
    have k0 := cellAtJ P4.out.2.1 0 _ rfl
    go_wp2_with (go_at_call 17; refine (awake_any _).mono ?_; rintro e w9 ⟨rfl, b9⟩)
    go_ret
    exact ⟨rfl, to_call P4.out.1 b9⟩
  | true =>
    cases nb with
    | false =>
      have hcf : clB z us = false := by rw [HCL.out, Bool.and_false]
      obtain ⟨eu, eb⟩ := HMG.out.2 hcf
      subst eu eb
      clear hcf
      have k0 := cellAtJ P4.out.2.1 0 _ rfl
      go_wp2_with (go_at_call 17; refine (awake_any _).mono ?_; rintro e w9 ⟨rfl, b9⟩)
      go_ret
      exact ⟨rfl, to_call P4.out.1 b9⟩
    | true =>
      obtain ⟨hN1, hN2⟩ := HNR.out rfl
      by_cases hlN : (l : Int) = z.N + 1
      · have hct : clB z us = true := by rw [HCL.out, decide_eq_true hlN]; rfl
        have hne : ((l : Int) != z.N + 1) = false := by rw [hlN]; simp
        by_cases hgo : mb = true ∧ 0 ≤ dep ∧ dep ≤ 30
        · obtain ⟨rfl, hd0, hd30⟩ := hgo
          obtain ⟨D, rfl⟩ : ∃ D : Nat, dep = D := ⟨dep.toNat, by omega⟩
          have hD30 : D ≤ 30 := by omega
          have hdd1 : decide ((D : Int) < 0) = false := decide_eq_false (by omega)
          have hdd2 : decide ((D : Int) > 30) = false := decide_eq_false (by omega)
          have HDE : Hid (D ≤ E) := by unfold Hid; rw [HE.out]; omega
          clear hd0 hd30
          obtain ⟨h1, h2, h3, h4⟩ := clB_is hct
          have hW : WhF z := WhF.of HZ0.out HD.out h2
          obtain ⟨hN', gl, hgl⟩ := HR3.out rfl
          have eN : N' = (z.rn : Int) := hN'.trans hW.N
          have e1 : l1 = z.rn := (RowN.lenV hgl.c).trans hW.cl
          have e4 : l4 = z.rn := (RowN.lenV hgl.r).trans hW.rl
          have e3 : l3 = z.gn := hgl.lenG.trans HZ0.out.g.length
          clear HR3 hN'
          subst eN e1 e4 e3
          have hlr : l = z.rn + 1 := by have := hW.N; omega
          have HLR : Hid (l = z.rn + 1) := hlr
          have HRN : Hid (z.rn ≤ 256 ∧ 1 ≤ z.rn) := ⟨hW.n2, hW.n1⟩
          have HWF : Hid (WhF z ∧ ∀ u ∈ us, Fin u) := ⟨hW, h4⟩
          have HLU : Hid (z.rn ≤ us.length ∧ us.length ≤ 1000) := by have := HLN.out; have := hW.n2; exact ⟨by omega, by omega⟩
          obtain ⟨wb, wc0, an0, ao0, al0, ac0, ae0, hv5, -, -⟩ := RowN.range (HX5.out rfl) (k := 0) (by rw [HLN.out]; omega)
          rw [HLN.out] at hv5
          subst hv5
          have RW6 : Hid (∀ W', Below w6.heap.size w6 W' → RlS W' w1.heap.size E z.cs z.rs z.ids z.gs (.slice a1 z.rn c1) (.slice a4 z.rn c4) (.slice a2 l2 c2) (.slice a3 z.gn c3) gl ∧ RowN W' w4.heap.size (.slice (some ⟨wb, 0, none⟩) l wc0) E us) := fun W' hb => ⟨hgl.later (to_call P4.out.2.2.2.1 hb), (HX5.out rfl).later (to_call P4.out.2.2.2.2 hb)⟩
          have HPS : Hid (∀ (W : World) (i : Nat), i ≤ 4000000 → Below w.heap.size w W → Calls Try.prog 22 #[.slice so sl sc, .int .i64 (i : Int), .int .i64 (D : Int)] W fun e w' => ∃ v, e = .returned v ∧ NumC w' v E 1024 (pV ss0 D E i) ∧ Below W.heap.size W w') := fun W i hi hb => partM_any so sl sc ss0 i D E HE.out W (HSS.out W hb) hsl hi hD30
          have HPE : Hid (∀ (W : World) (i : Nat), i ≤ 4000000 → Below w.heap.size w W → Calls Try.prog 22 #[.slice eo el ec, .int .i64 (i : Int), .int .i64 (D : Int)] W fun e w' => ∃ v, e = .returned v ∧ NumC w' v E 1024 (pV es0 D E i) ∧ Below W.heap.size W w') := fun W i hi hb => partM_any eo el ec es0 i D E HE.out W (HES.out W hb) hel hi hD30
          have few9 : z.gs.length ≤ 1050000 := by have := HZ0.out.g.length; have := hW.dg; have := HD.out; omega
          have HTP : Hid (∀ (W : World) (v : Value) (T : Int) (i k : Nat), k ≤ z.gs.length → NumC W v (E + E) T (ptK (2 ^ E) z.cs z.rs z.gs (pL es0 D E z.gn) (pL ss0 D E z.rn) i k) → NumC W v (E + E) 1060 (ptK (2 ^ E) z.cs z.rs z.gs (pL es0 D E z.gn) (pL ss0 D E z.rn) i k)) := fun W v T i k hk hz => by
            obtain ⟨X9, hX9⟩ : ∃ X9 : Nat, X9 = 3208 := ⟨_, rfl⟩
            exact NumC.tight hz (by omega) (by rw [hX9, HE.out]; rfl) (pt_bound rfl HE.out hX9 (hW.fin.c i) (hW.fin.r i) (fun k => hW.fin.g k i) few9 (pL_abs HDE.out) (pL_abs HDE.out i) k hk)
          have HTU : Hid (∀ (W : World) (v : Value) (T : Int) (i : Nat), i ≤ 256 → NumC W v (E + (E + E)) T (puV (2 ^ E) us z.cs z.rs z.gs (pL es0 D E z.gn) (pL ss0 D E z.rn) z.rn i) → NumC W v (E + (E + E)) 2100 (puV (2 ^ E) us z.cs z.rs z.gs (pL es0 D E z.gn) (pL ss0 D E z.rn) z.rn i)) := fun W v T i hi hz => by
            obtain ⟨X9, hX9⟩ : ∃ X9 : Nat, X9 = 5322 := ⟨_, rfl⟩
            exact NumC.tight hz (by omega) (by rw [hX9, HE.out]; rfl) (puV_bound HE.out rfl hX9 (finsB h4) hW.fin.c hW.fin.r hW.fin.g few9 (pL_abs HDE.out) (pL_abs HDE.out) hi)
          have HGL9 : Hid (z.gs.length = z.gn) := HZ0.out.g.length
          clear few9
          have hrl : z.rn < l := by omega
          have hrl' : (z.rn : Int) < (l : Int) := by omega
          obtain ⟨wb', wc', an, ao1, al, ac, ae, hv6, hr6, hz6⟩ := RowN.range (RW6.out w6 (Below.refl _ _)).2 (k := z.rn) (by rw [HLN.out]; exact hrl)
          injection hv6 with hq1 hq2 hq3
          injection hq1 with hq1
          injection hq1 with hq1
          subst hq1
          have HR6 : Hid (w6.rangeAt wb (z.rn * 3) [.bool an, .slice ao1 al ac, .int .i64 ae]) := hr6
          have HZ6 : Hid (NumC w6 (.agg #[.bool an, .slice ao1 al ac, .int .i64 ae]) E 1024 (fval (us[z.rn]?.getD 0))) := hz6
          have k0 := cellAtJ P4.out.2.1 0 _ rfl
          have j0 := cellAtJ P4.out.2.2.1 0 _ rfl
          have HCT : Hid (clB z us = true) := hct
          have hgm : z.gn ≤ 1050000 := by have := hW.dg; have := HD.out; omega
          have hrm : z.rn ≤ 256 := hW.n2
          clear h1 h2 h3 h4 hW hgl hr6 hz6 hct hq2 hq3 hlr HX5
          clear hsl hel hD30
          go_upto_region 9 with (first
            | (refine wpList_load_mid (by rfl) 60 _ (by rfl) wb (z.rn * 3) (by rfl) #[.bool an, .slice ao1 al ac, .int .i64 ae].toList _ HR6.out Try.underlying60 rfl (by kernel_rfl) ?_))
          clear hdd1 hdd2
          obtain ⟨B6, hB6⟩ : ∃ B6, w6.heap.size = B6 := ⟨_, rfl⟩
          obtain ⟨X6, hX6⟩ : ∃ X6, (w6.alloc (.cells #[.bool an, .slice ao1 al ac, .int .i64 ae] 60)) = X6 := ⟨_, rfl⟩
          have HB6 : Hid (w6.heap.size ≤ B6) := by unfold Hid; omega
          have Q0 : Hid (BxN X6 B6 (E + (E + E)) 2100 (puV (2 ^ E) us z.cs z.rs z.gs (pL es0 D E z.gn) (pL ss0 D E z.rn) z.rn 0) an ao1 al ac ae ∧ Below w6.heap.size w6 X6) := by
            have b9 : Below w6.heap.size w6 X6 := hX6 ▸ (Below.refl _ w6).alloc (Nat.le_refl _) _
            have e9 : X6.heap[B6]? = some (.cells #[.bool an, .slice ao1 al ac, .int .i64 ae] 60) := by rw [← hX6, ← hB6]; exact heap_alloc_new w6 _
            refine ⟨⟨e9, HTU.out _ _ 1024 0 (by omega) ?_⟩, b9⟩
            have h9 := (NumC.later HZ6.out b9).moreJ (E + E)
            have e8 : (puV (2 ^ E) us z.cs z.rs z.gs (pL es0 D E z.gn) (pL ss0 D E z.rn) z.rn 0) = fval (us[z.rn]?.getD 0) * ((2 ^ (E + E) : Nat) : Int) := by unfold puV; rw [sumP, Int.add_zero, Nat.pow_add, Int.natCast_mul, Int.mul_assoc]
            rw [e8]
            exact h9
          rw [hX6, hB6]
          clear hX6 hB6 k0 j0 HR6 HZ6 hne hlN
          go_wp2_with fail
          go_loopg [18] z.rn (fun g v18 wx => ∃ i : Nat, v18 = .int .i64 i ∧ i + g = z.rn ∧ ∃ (n : Bool) (o : Option Addr) (lv cv : Nat) (e : Int), Hid (BxN wx B6 (E + (E + E)) 2100 (puV (2 ^ E) us z.cs z.rs z.gs (pL es0 D E z.gn) (pL ss0 D E z.rn) z.rn i) n o lv cv e ∧ Below w6.heap.size w6 wx))
          case atStart => exact ⟨0, rfl, by omega, an, ao1, al, ac, ae, Q0⟩
          case round =>
            clear Q0
            obtain ⟨i, rfl, hi, qn, qo, ql, qc, qe, HQ0⟩ := hrel
            obtain ⟨Y, hY⟩ : ∃ Y, wr = Y := ⟨_, rfl⟩
            rw [hY] at HQ0 ⊢
            clear hY wr
            have j0 := cell_later (cellAtJ P4.out.2.2.1 0 _ rfl) HQ0.out.2
            by_cases h1 : i < z.rn
            · have hd1 : decide ((i : Int) < (z.rn : Int)) = true := decide_eq_true (by omega)
              obtain ⟨q, rfl⟩ : ∃ q, gk = q + 1 := ⟨gk - 1, by omega⟩
              have HIG : Hid (i + (q + 1) = z.rn) := hi
              have hi' : (i : Int) < (z.rn : Int) := by omega
              have hil' : (i : Int) < (l : Int) := by omega
              have hi9 : i ≤ 4000000 := by omega
              clear hi
              go_upto_region 12 with fail
              obtain ⟨hRl, hRb⟩ := RW6.out Y HQ0.out.2
              obtain ⟨g1, q1, cn, co, cl, cc, ce, v1, r1, z1⟩ := RowN.range hRl.c (k := i) (by rw [HWF.out.1.cl]; exact h1)
              obtain ⟨g4, q4, rn, ro, rl0, rc0, re, v4, r4, z4⟩ := RowN.range hRl.r (k := i) (by rw [HWF.out.1.rl]; exact h1)
              obtain ⟨gb, qb, bn, bo, bl0, bc, be, vb, rb, zb⟩ := RowN.range hRb (k := i) (by rw [HLN.out]; omega)
              rw [HWF.out.1.cl] at v1
              rw [HWF.out.1.rl] at v4
              injection vb with vb vb2 vb3
              clear vb2 vb3
              injection vb with vb
              injection vb with vb
              subst vb
              have C1 : Hid (Y.cell? ⟨B3, 1, none⟩ = some (.slice (some ⟨g1, 0, none⟩) z.rn q1)) := by rw [← v1]; exact cell_later (cellAtJ P4.out.2.2.1 1 _ rfl) HQ0.out.2
              have C4 : Hid (Y.cell? ⟨B3, 4, none⟩ = some (.slice (some ⟨g4, 0, none⟩) z.rn q4)) := by rw [← v4]; exact cell_later (cellAtJ P4.out.2.2.1 4 _ rfl) HQ0.out.2
              have R1 : Hid (Y.rangeAt g1 (i * 3) [.bool cn, .slice co cl cc, .int .i64 ce]) := r1
              have RB0 : Hid (Y.rangeAt wb (i * 3) [.bool bn, .slice bo bl0 bc, .int .i64 be]) := rb
              have R4 : Hid (Y.rangeAt g4 (i * 3) [.bool rn, .slice ro rl0 rc0, .int .i64 re]) := r4
              have Z1 : Hid (NumC Y (.agg #[.bool cn, .slice co cl cc, .int .i64 ce]) E 1024 (fval (z.cs[i]?.getD 0))) := z1
              have ZB0 : Hid (NumC Y (.agg #[.bool bn, .slice bo bl0 bc, .int .i64 be]) E 1024 (fval (us[i]?.getD 0))) := zb
              have Z4 : Hid (NumC Y (.agg #[.bool rn, .slice ro rl0 rc0, .int .i64 re]) E 1024 (fval (z.rs[i]?.getD 0))) := z4
              have HB9 : Hid (∀ W', Below Y.heap.size Y W' → Below w.heap.size w W') := fun W' hb => to_call (to_call P4.out.1 HQ0.out.2) hb
              clear r1 rb r4 z1 zb z4 v1 v4 hRl hRb j0 hd1
              go_cut [19] (fun v19 wx => ∃ (Dd : Nat) (n : Bool) (o : Option Addr) (lv cv : Nat) (e : Int), v19 = .pointer (some ⟨Dd, 0, none⟩) ∧ Hid (BxN wx Dd (E + E) 1060 (ptK (2 ^ E) z.cs z.rs z.gs (pL es0 D E z.gn) (pL ss0 D E z.rn) i 0) n o lv cv e) ∧ Y.heap.size ≤ Dd ∧ Hid (Below Y.heap.size Y wx))
              case first =>
                have bX : Below Y.heap.size Y Y.drew := (Below.refl _ _).drew
                refine wp_region_noPanic ?_
                refine wp_region_held_drew (S := (fun V => Below Y.heap.size Y V)) (by kernel_rfl) bX (fun _ => ?_)
                refine takeH 82 (i := 0) (v := ?_) rfl rfl (by kernel_rfl) (by kernel_rfl) (by kernel_rfl) (fun _ _ _ h => h) (Or.inl ⟨by kernel_rfl, ?_⟩) bX ?_
                rotate_left
                · intro w' hSw; have s1 := cell_later C1.out hSw; have s4 := cell_later C4.out hSw; go_simp; try with_reducible rfl
                try simp only [Act.put, List.setIfInBounds_toArray, List.set_cons_zero, List.set_cons_succ]
                refine takeH 83 (i := 1) (v := ?_) rfl rfl (by kernel_rfl) (by kernel_rfl) (by kernel_rfl) (fun _ _ _ h => h) (Or.inl ⟨by kernel_rfl, ?_⟩) bX ?_
                rotate_left
                · intro w' hSw; have s1 := cell_later C1.out hSw; have s4 := cell_later C4.out hSw; go_simp; try with_reducible rfl
                try simp only [Act.put, List.setIfInBounds_toArray, List.set_cons_zero, List.set_cons_succ]
                refine takeH 84 (i := 2) (v := ?_) rfl rfl (by kernel_rfl) (by kernel_rfl) (by kernel_rfl) (fun _ _ _ h => h) (Or.inl ⟨by kernel_rfl, ?_⟩) bX ?_
                rotate_left
                · intro w' hSw; have s1 := cell_later C1.out hSw; have s4 := cell_later C4.out hSw; go_simp; try with_reducible rfl
                try simp only [Act.put, List.setIfInBounds_toArray, List.set_cons_zero, List.set_cons_succ]
                refine takeH 85 (i := 3) (v := ?_) rfl rfl (by kernel_rfl) (by kernel_rfl) (by kernel_rfl) (fun _ _ _ h => h) (Or.inl ⟨by kernel_rfl, ?_⟩) bX ?_
                rotate_left
                · intro w' hSw; have s1 := cell_later C1.out hSw; have s4 := cell_later C4.out hSw; go_simp; try with_reducible rfl
                try simp only [Act.put, List.setIfInBounds_toArray, List.set_cons_zero, List.set_cons_succ]
                refine takeH 86 (i := 4) (v := .agg #[.bool cn, .slice co cl cc, .int .i64 ce]) rfl rfl (by kernel_rfl) (by kernel_rfl) (by kernel_rfl) (fun _ _ _ h => h) (yieldsIf_load_mid (by kernel_rfl) 60 _ rfl g1 (i * 3) (by kernel_rfl) #[.bool cn, .slice co cl cc, .int .i64 ce].toList _ (fun V' hS => (range_later R1.out hS : V'.rangeAt g1 (i * 3) [.bool cn, .slice co cl cc, .int .i64 ce])) Try.underlying60 rfl (by kernel_rfl)) bX ?_
                try simp only [Act.put, List.setIfInBounds_toArray, List.set_cons_zero, List.set_cons_succ]
                refine takeH 87 (i := 5) (v := ?_) rfl rfl (by kernel_rfl) (by kernel_rfl) (by kernel_rfl) (fun _ _ _ h => h) (Or.inl ⟨by kernel_rfl, ?_⟩) bX ?_
                rotate_left
                · intro w' hSw; have s1 := cell_later C1.out hSw; have s4 := cell_later C4.out hSw; go_simp; try with_reducible rfl
                try simp only [Act.put, List.setIfInBounds_toArray, List.set_cons_zero, List.set_cons_succ]
                refine takeH 88 (i := 6) (v := ?_) rfl rfl (by kernel_rfl) (by kernel_rfl) (by kernel_rfl) (fun _ _ _ h => h) (Or.inl ⟨by kernel_rfl, ?_⟩) bX ?_
                rotate_left
                · intro w' hSw; have s1 := cell_later C1.out hSw; have s4 := cell_later C4.out hSw; go_simp; try with_reducible rfl
                try simp only [Act.put, List.setIfInBounds_toArray, List.set_cons_zero, List.set_cons_succ]
                refine takeH 89 (i := 7) (v := ?_) rfl rfl (by kernel_rfl) (by kernel_rfl) (by kernel_rfl) (fun _ _ _ h => h) (Or.inl ⟨by kernel_rfl, ?_⟩) bX ?_
                rotate_left
                · intro w' hSw; have s1 := cell_later C1.out hSw; have s4 := cell_later C4.out hSw; go_simp; try with_reducible rfl
                try simp only [Act.put, List.setIfInBounds_toArray, List.set_cons_zero, List.set_cons_succ]
                refine takeH 91 (i := 9) (v := ?_) rfl rfl (by kernel_rfl) (by kernel_rfl) (by kernel_rfl) (fun _ _ _ h => h) (Or.inl ⟨by kernel_rfl, ?_⟩) bX ?_
                rotate_left
                · intro w' hSw; have s1 := cell_later C1.out hSw; have s4 := cell_later C4.out hSw; go_simp; try with_reducible rfl
                try simp only [Act.put, List.setIfInBounds_toArray, List.set_cons_zero, List.set_cons_succ]
                refine takeH 92 (i := 10) (v := ?_) rfl rfl (by kernel_rfl) (by kernel_rfl) (by kernel_rfl) (fun _ _ _ h => h) (Or.inl ⟨by kernel_rfl, ?_⟩) bX ?_
                rotate_left
                · intro w' hSw; have s1 := cell_later C1.out hSw; have s4 := cell_later C4.out hSw; go_simp; try with_reducible rfl
                try simp only [Act.put, List.setIfInBounds_toArray, List.set_cons_zero, List.set_cons_succ]
                refine takeH 93 (i := 11) (v := ?_) rfl rfl (by kernel_rfl) (by kernel_rfl) (by kernel_rfl) (fun _ _ _ h => h) (Or.inl ⟨by kernel_rfl, ?_⟩) bX ?_
                rotate_left
                · intro w' hSw; have s1 := cell_later C1.out hSw; have s4 := cell_later C4.out hSw; go_simp; try with_reducible rfl
                try simp only [Act.put, List.setIfInBounds_toArray, List.set_cons_zero, List.set_cons_succ]
                refine takeH 94 (i := 12) (v := ?_) rfl rfl (by kernel_rfl) (by kernel_rfl) (by kernel_rfl) (fun _ _ _ h => h) (Or.inl ⟨by kernel_rfl, ?_⟩) bX ?_
                rotate_left
                · intro w' hSw; have s1 := cell_later C1.out hSw; have s4 := cell_later C4.out hSw; go_simp; try with_reducible rfl
                try simp only [Act.put, List.setIfInBounds_toArray, List.set_cons_zero, List.set_cons_succ]
                refine takeH 95 (i := 13) (v := .agg #[.bool rn, .slice ro rl0 rc0, .int .i64 re]) rfl rfl (by kernel_rfl) (by kernel_rfl) (by kernel_rfl) (fun _ _ _ h => h) (yieldsIf_load_mid (by kernel_rfl) 60 _ rfl g4 (i * 3) (by kernel_rfl) #[.bool rn, .slice ro rl0 rc0, .int .i64 re].toList _ (fun V' hS => (range_later R4.out hS : V'.rangeAt g4 (i * 3) [.bool rn, .slice ro rl0 rc0, .int .i64 re])) Try.underlying60 rfl (by kernel_rfl)) bX ?_
                try simp only [Act.put, List.setIfInBounds_toArray, List.set_cons_zero, List.set_cons_succ]
                obtain ⟨V, hV⟩ : ∃ V, Y.drew = V := ⟨_, rfl⟩
                have bV : Below Y.heap.size Y V := hV ▸ bX
                rw [hV]
                clear hV bX
                refine wpAnyH_ready (rs := [8, 16]) (by kernel_rfl) (by simp) ?_
                refine consH _ rfl ?_ (consH _ rfl ?_ AllReadyH.nil)
                · refine hopCd 90 rfl (by kernel_rfl) rfl (by kernel_rfl) (Calls.mono (HPS.out _ i hi9 (HB9.out _ bV)) ?_)
                  rintro e Vi ⟨v0, rfl, hz0, hb⟩
                  obtain ⟨n0, o0, t0, p0, x0, hv0⟩ := hz0.form
                  subst hv0
                  have bVi : Below Y.heap.size Y Vi := bV.trans (hb.mono bV.size)
                  have zpVi : NumC Vi (.agg #[.bool n0, .slice o0 t0 p0, .int .i64 x0]) E 1024 (pV ss0 D E i) := hz0
                  clear hb hz0
                  refine ⟨_, rfl, bVi, ?_⟩
                  try simp only [Act.put, List.setIfInBounds_toArray, List.set_cons_zero, List.set_cons_succ]
                  refine wpAnyH_ready (rs := [14, 16]) (by kernel_rfl) (by simp) ?_
                  refine consH _ rfl ?_ (consH _ rfl ?_ AllReadyH.nil)
                  · refine hopCd 96 rfl (by kernel_rfl) rfl (by kernel_rfl) (Calls.mono (timesC_any _ _ E 1024 1024 _ _ _ zpVi.toZ (NumC.later Z4.out bVi).toZ (by rw [HE.out]; omega) (by omega) (by omega)) ?_)
                    rintro e Va ⟨v1, rfl, hz1, hb⟩
                    obtain ⟨n1, o1, t1, p1, x1, hv1⟩ := hz1.form
                    subst hv1
                    have bVa : Below Y.heap.size Y Va := bVi.trans (hb.mono bVi.size)
                    have zaVa : NumC Va (.agg #[.bool n1, .slice o1 t1 p1, .int .i64 x1]) (E + E) (1024 + 1024) (pV ss0 D E i * fval (z.rs[i]?.getD 0)) := hz1
                    clear hb hz1 zpVi
                    refine ⟨_, rfl, bVa, ?_⟩
                    try simp only [Act.put, List.setIfInBounds_toArray, List.set_cons_zero, List.set_cons_succ]
                    refine wpAnyH_ready (rs := [15, 16]) (by kernel_rfl) (by simp) ?_
                    refine consH _ rfl ?_ (consH _ rfl ?_ AllReadyH.nil)
                    · refine hopCd 97 rfl (by kernel_rfl) rfl (by kernel_rfl) (Calls.mono (plusC_any _ _ (E + E) (1024 + 1024) _ _ _ (((NumC.later Z1.out bVa).moreJ E).mono (by omega)) zaVa (by rw [HE.out]; omega) (by omega)) ?_)
                      rintro e Vb ⟨v2, rfl, hz2, hb⟩
                      obtain ⟨n2, o2, t2, p2, x2, hv2⟩ := hz2.form
                      subst hv2
                      have bVb : Below Y.heap.size Y Vb := bVa.trans (hb.mono bVa.size)
                      have zbVb : NumC Vb (.agg #[.bool n2, .slice o2 t2 p2, .int .i64 x2]) (E + E) (1024 + 1024 + 1) (fval (z.cs[i]?.getD 0) * ((2 ^ E : Nat) : Int) + pV ss0 D E i * fval (z.rs[i]?.getD 0)) := hz2
                      clear hb hz2 zaVa
                      refine ⟨_, rfl, bVb, ?_⟩
                      try simp only [Act.put, List.setIfInBounds_toArray, List.set_cons_zero, List.set_cons_succ]
                      refine wpAnyH_ready (rs := [16]) (by kernel_rfl) (by simp) ?_
                      refine consH _ rfl ?_ AllReadyH.nil
                      refine hopAJ 19 rfl rfl rfl 60 rfl #[.bool false, .slice none 0 0, .int .i64 0] allocNJ fun Dd Vc hDVc hDl hb => ?_
                      have bVc : Below Y.heap.size Y Vc := bVb.trans (hb.mono bVb.size)
                      have hDX : Y.heap.size ≤ Dd := Nat.le_trans bVb.size hDl
                      have zbVc := NumC.later zbVb hb
                      clear hb hDl
                      refine ⟨bVc, ?_⟩
                      try simp only [Act.put, List.setIfInBounds_toArray, List.set_cons_zero, List.set_cons_succ]
                      refine wpAnyH_ready (rs := [17]) (by kernel_rfl) (by simp) ?_
                      refine consH _ rfl (hopL rfl (wpList_store_row (by rfl) 60 _ _ (by rfl) Y Y.heap.size Dd #[.bool n2, .slice o2 t2 p2, .int .i64 x2] _ (by kernel_rfl) (by kernel_rfl) hDVc bVc hDX 3 Try.infoN3 (by rfl) (by rfl) (oneN _ _ _ _ _) fun W9 e9 b9 hs9 ho9 => ?_)) AllReadyH.nil
                      refine (And.intro b9 ?_ : _ ∧ _)
                      try simp only [Act.put, List.setIfInBounds_toArray, List.set_cons_zero, List.set_cons_succ]
                      refine wpAnyH_done (by kernel_rfl) ?_ _
                      refine NoPanic.normal ?_
                      try simp only [Act.put, List.setIfInBounds_toArray, List.set_cons_zero, List.set_cons_succ]
                      go_wp2_with fail
                      go_meet
                      exact ⟨Dd, n2, o2, t2, p2, x2, rfl, ⟨e9, HTP.out _ _ _ i 0 (Nat.zero_le _) (by have h9 := zbVc.cl (num_cl hDVc) (fun b hb _ => ho9 b hb); unfold ptK colV; rw [Int.add_zero, pL_at h1]; exact h9)⟩, hDX, b9⟩
                    · refine hopAJ 19 rfl rfl rfl 60 rfl #[.bool false, .slice none 0 0, .int .i64 0] allocNJ fun Dd Vd hDVd hDl hb => ?_
                      have bVd : Below Y.heap.size Y Vd := bVa.trans (hb.mono bVa.size)
                      have hDX : Y.heap.size ≤ Dd := Nat.le_trans bVa.size hDl
                      have zaVd := NumC.later zaVa hb
                      clear hb hDl
                      refine ⟨bVd, ?_⟩
                      try simp only [Act.put, List.setIfInBounds_toArray, List.set_cons_zero, List.set_cons_succ]
                      refine wpAnyH_ready (rs := [15]) (by kernel_rfl) (by simp) ?_
                      refine consH _ rfl ?_ AllReadyH.nil
                      refine hopCd 97 rfl (by kernel_rfl) rfl (by kernel_rfl) (Calls.mono (plusC_any _ _ (E + E) (1024 + 1024) _ _ _ (((NumC.later Z1.out bVd).moreJ E).mono (by omega)) zaVd (by rw [HE.out]; omega) (by omega)) ?_)
                      rintro e Ve ⟨v2, rfl, hz2, hb⟩
                      obtain ⟨n2, o2, t2, p2, x2, hv2⟩ := hz2.form
                      subst hv2
                      have bVe : Below Y.heap.size Y Ve := bVd.trans (hb.mono bVd.size)
                      have hDVe := kept hb hDVd
                      have zbVe : NumC Ve (.agg #[.bool n2, .slice o2 t2 p2, .int .i64 x2]) (E + E) (1024 + 1024 + 1) (fval (z.cs[i]?.getD 0) * ((2 ^ E : Nat) : Int) + pV ss0 D E i * fval (z.rs[i]?.getD 0)) := hz2
                      clear hb hz2 zaVd
                      refine ⟨_, rfl, bVe, ?_⟩
                      try simp only [Act.put, List.setIfInBounds_toArray, List.set_cons_zero, List.set_cons_succ]
                      refine wpAnyH_ready (rs := [17]) (by kernel_rfl) (by simp) ?_
                      refine consH _ rfl (hopL rfl (wpList_store_row (by rfl) 60 _ _ (by rfl) Y Y.heap.size Dd #[.bool n2, .slice o2 t2 p2, .int .i64 x2] _ (by kernel_rfl) (by kernel_rfl) hDVe bVe hDX 3 Try.infoN3 (by rfl) (by rfl) (oneN _ _ _ _ _) fun W9 e9 b9 hs9 ho9 => ?_)) AllReadyH.nil
                      refine (And.intro b9 ?_ : _ ∧ _)
                      try simp only [Act.put, List.setIfInBounds_toArray, List.set_cons_zero, List.set_cons_succ]
                      refine wpAnyH_done (by kernel_rfl) ?_ _
                      refine NoPanic.normal ?_
                      try simp only [Act.put, List.setIfInBounds_toArray, List.set_cons_zero, List.set_cons_succ]
                      go_wp2_with fail
                      go_meet
                      exact ⟨Dd, n2, o2, t2, p2, x2, rfl, ⟨e9, HTP.out _ _ _ i 0 (Nat.zero_le _) (by have h9 := zbVe.cl (num_cl hDVe) (fun b hb _ => ho9 b hb); unfold ptK colV; rw [Int.add_zero, pL_at h1]; exact h9)⟩, hDX, b9⟩
                  · refine hopAJ 19 rfl rfl rfl 60 rfl #[.bool false, .slice none 0 0, .int .i64 0] allocNJ fun Dd Vf hDVf hDl hb => ?_
                    have bVf : Below Y.heap.size Y Vf := bVi.trans (hb.mono bVi.size)
                    have hDX : Y.heap.size ≤ Dd := Nat.le_trans bVi.size hDl
                    have zpVf := NumC.later zpVi hb
                    clear hb hDl
                    refine ⟨bVf, ?_⟩
                    try simp only [Act.put, List.setIfInBounds_toArray, List.set_cons_zero, List.set_cons_succ]
                    refine wpAnyH_ready (rs := [14]) (by kernel_rfl) (by simp) ?_
                    refine consH _ rfl ?_ AllReadyH.nil
                    refine hopCd 96 rfl (by kernel_rfl) rfl (by kernel_rfl) (Calls.mono (timesC_any _ _ E 1024 1024 _ _ _ zpVf.toZ (NumC.later Z4.out bVf).toZ (by rw [HE.out]; omega) (by omega) (by omega)) ?_)
                    rintro e Vg ⟨v1, rfl, hz1, hb⟩
                    obtain ⟨n1, o1, t1, p1, x1, hv1⟩ := hz1.form
                    subst hv1
                    have bVg : Below Y.heap.size Y Vg := bVf.trans (hb.mono bVf.size)
                    have hDVg := kept hb hDVf
                    have zaVg : NumC Vg (.agg #[.bool n1, .slice o1 t1 p1, .int .i64 x1]) (E + E) (1024 + 1024) (pV ss0 D E i * fval (z.rs[i]?.getD 0)) := hz1
                    clear hb hz1 zpVf
                    refine ⟨_, rfl, bVg, ?_⟩
                    try simp only [Act.put, List.setIfInBounds_toArray, List.set_cons_zero, List.set_cons_succ]
                    refine wpAnyH_ready (rs := [15]) (by kernel_rfl) (by simp) ?_
                    refine consH _ rfl ?_ AllReadyH.nil
                    refine hopCd 97 rfl (by kernel_rfl) rfl (by kernel_rfl) (Calls.mono (plusC_any _ _ (E + E) (1024 + 1024) _ _ _ (((NumC.later Z1.out bVg).moreJ E).mono (by omega)) zaVg (by rw [HE.out]; omega) (by omega)) ?_)
                    rintro e Vh ⟨v2, rfl, hz2, hb⟩
                    obtain ⟨n2, o2, t2, p2, x2, hv2⟩ := hz2.form
                    subst hv2
                    have bVh : Below Y.heap.size Y Vh := bVg.trans (hb.mono bVg.size)
                    have hDVh := kept hb hDVg
                    have zbVh : NumC Vh (.agg #[.bool n2, .slice o2 t2 p2, .int .i64 x2]) (E + E) (1024 + 1024 + 1) (fval (z.cs[i]?.getD 0) * ((2 ^ E : Nat) : Int) + pV ss0 D E i * fval (z.rs[i]?.getD 0)) := hz2
                    clear hb hz2 zaVg
                    refine ⟨_, rfl, bVh, ?_⟩
                    try simp only [Act.put, List.setIfInBounds_toArray, List.set_cons_zero, List.set_cons_succ]
                    refine wpAnyH_ready (rs := [17]) (by kernel_rfl) (by simp) ?_
                    refine consH _ rfl (hopL rfl (wpList_store_row (by rfl) 60 _ _ (by rfl) Y Y.heap.size Dd #[.bool n2, .slice o2 t2 p2, .int .i64 x2] _ (by kernel_rfl) (by kernel_rfl) hDVh bVh hDX 3 Try.infoN3 (by rfl) (by rfl) (oneN _ _ _ _ _) fun W9 e9 b9 hs9 ho9 => ?_)) AllReadyH.nil
                    refine (And.intro b9 ?_ : _ ∧ _)
                    try simp only [Act.put, List.setIfInBounds_toArray, List.set_cons_zero, List.set_cons_succ]
                    refine wpAnyH_done (by kernel_rfl) ?_ _
                    refine NoPanic.normal ?_
                    try simp only [Act.put, List.setIfInBounds_toArray, List.set_cons_zero, List.set_cons_succ]
                    go_wp2_with fail
                    go_meet
                    exact ⟨Dd, n2, o2, t2, p2, x2, rfl, ⟨e9, HTP.out _ _ _ i 0 (Nat.zero_le _) (by have h9 := zbVh.cl (num_cl hDVh) (fun b hb _ => ho9 b hb); unfold ptK colV; rw [Int.add_zero, pL_at h1]; exact h9)⟩, hDX, b9⟩
                · refine hopAJ 19 rfl rfl rfl 60 rfl #[.bool false, .slice none 0 0, .int .i64 0] allocNJ fun Dd Vj hDVj hDl hb => ?_
                  have bVj : Below Y.heap.size Y Vj := bV.trans (hb.mono bV.size)
                  have hDX : Y.heap.size ≤ Dd := Nat.le_trans bV.size hDl
                  clear hb hDl
                  refine ⟨bVj, ?_⟩
                  try simp only [Act.put, List.setIfInBounds_toArray, List.set_cons_zero, List.set_cons_succ]
                  refine wpAnyH_ready (rs := [8]) (by kernel_rfl) (by simp) ?_
                  refine consH _ rfl ?_ AllReadyH.nil
                  refine hopCd 90 rfl (by kernel_rfl) rfl (by kernel_rfl) (Calls.mono (HPS.out _ i hi9 (HB9.out _ bVj)) ?_)
                  rintro e Vk ⟨v0, rfl, hz0, hb⟩
                  obtain ⟨n0, o0, t0, p0, x0, hv0⟩ := hz0.form
                  subst hv0
                  have bVk : Below Y.heap.size Y Vk := bVj.trans (hb.mono bVj.size)
                  have hDVk := kept hb hDVj
                  have zpVk : NumC Vk (.agg #[.bool n0, .slice o0 t0 p0, .int .i64 x0]) E 1024 (pV ss0 D E i) := hz0
                  clear hb hz0
                  refine ⟨_, rfl, bVk, ?_⟩
                  try simp only [Act.put, List.setIfInBounds_toArray, List.set_cons_zero, List.set_cons_succ]
                  refine wpAnyH_ready (rs := [14]) (by kernel_rfl) (by simp) ?_
                  refine consH _ rfl ?_ AllReadyH.nil
                  refine hopCd 96 rfl (by kernel_rfl) rfl (by kernel_rfl) (Calls.mono (timesC_any _ _ E 1024 1024 _ _ _ zpVk.toZ (NumC.later Z4.out bVk).toZ (by rw [HE.out]; omega) (by omega) (by omega)) ?_)
                  rintro e Vl ⟨v1, rfl, hz1, hb⟩
                  obtain ⟨n1, o1, t1, p1, x1, hv1⟩ := hz1.form
                  subst hv1
                  have bVl : Below Y.heap.size Y Vl := bVk.trans (hb.mono bVk.size)
                  have hDVl := kept hb hDVk
                  have zaVl : NumC Vl (.agg #[.bool n1, .slice o1 t1 p1, .int .i64 x1]) (E + E) (1024 + 1024) (pV ss0 D E i * fval (z.rs[i]?.getD 0)) := hz1
                  clear hb hz1 zpVk
                  refine ⟨_, rfl, bVl, ?_⟩
                  try simp only [Act.put, List.setIfInBounds_toArray, List.set_cons_zero, List.set_cons_succ]
                  refine wpAnyH_ready (rs := [15]) (by kernel_rfl) (by simp) ?_
                  refine consH _ rfl ?_ AllReadyH.nil
                  refine hopCd 97 rfl (by kernel_rfl) rfl (by kernel_rfl) (Calls.mono (plusC_any _ _ (E + E) (1024 + 1024) _ _ _ (((NumC.later Z1.out bVl).moreJ E).mono (by omega)) zaVl (by rw [HE.out]; omega) (by omega)) ?_)
                  rintro e Vm ⟨v2, rfl, hz2, hb⟩
                  obtain ⟨n2, o2, t2, p2, x2, hv2⟩ := hz2.form
                  subst hv2
                  have bVm : Below Y.heap.size Y Vm := bVl.trans (hb.mono bVl.size)
                  have hDVm := kept hb hDVl
                  have zbVm : NumC Vm (.agg #[.bool n2, .slice o2 t2 p2, .int .i64 x2]) (E + E) (1024 + 1024 + 1) (fval (z.cs[i]?.getD 0) * ((2 ^ E : Nat) : Int) + pV ss0 D E i * fval (z.rs[i]?.getD 0)) := hz2
                  clear hb hz2 zaVl
                  refine ⟨_, rfl, bVm, ?_⟩
                  try simp only [Act.put, List.setIfInBounds_toArray, List.set_cons_zero, List.set_cons_succ]
                  refine wpAnyH_ready (rs := [17]) (by kernel_rfl) (by simp) ?_
                  refine consH _ rfl (hopL rfl (wpList_store_row (by rfl) 60 _ _ (by rfl) Y Y.heap.size Dd #[.bool n2, .slice o2 t2 p2, .int .i64 x2] _ (by kernel_rfl) (by kernel_rfl) hDVm bVm hDX 3 Try.infoN3 (by rfl) (by rfl) (oneN _ _ _ _ _) fun W9 e9 b9 hs9 ho9 => ?_)) AllReadyH.nil
                  refine (And.intro b9 ?_ : _ ∧ _)
                  try simp only [Act.put, List.setIfInBounds_toArray, List.set_cons_zero, List.set_cons_succ]
                  refine wpAnyH_done (by kernel_rfl) ?_ _
                  refine NoPanic.normal ?_
                  try simp only [Act.put, List.setIfInBounds_toArray, List.set_cons_zero, List.set_cons_succ]
                  go_wp2_with fail
                  go_meet
                  exact ⟨Dd, n2, o2, t2, p2, x2, rfl, ⟨e9, HTP.out _ _ _ i 0 (Nat.zero_le _) (by have h9 := zbVm.cl (num_cl hDVm) (fun b hb _ => ho9 b hb); unfold ptK colV; rw [Int.add_zero, pL_at h1]; exact h9)⟩, hDX, b9⟩
              case rest =>
                obtain ⟨Dd, n, o, lv, cv, e, rfl, HN, hDX, HBD⟩ := hcut
                have HDX : Hid (Y.heap.size ≤ Dd) := hDX
                have I0 : Hid (BxN wc Dd (E + E) 1060 (ptK (2 ^ E) z.cs z.rs z.gs (pL es0 D E z.gn) (pL ss0 D E z.rn) i 0) n o lv cv e ∧ Below Y.heap.size Y wc) := ⟨HN.out, HBD.out⟩
                clear hDX HN HBD C1 C4 R1 R4 Z1 Z4
                go_wp2_with fail
                go_loopg [20] z.gn (fun g v20 wx => ∃ k : Nat, v20 = .int .i64 k ∧ k + g = z.gn ∧ ∃ (n : Bool) (o : Option Addr) (lv cv : Nat) (e : Int), Hid (BxN wx Dd (E + E) 1060 (ptK (2 ^ E) z.cs z.rs z.gs (pL es0 D E z.gn) (pL ss0 D E z.rn) i k) n o lv cv e ∧ Below Y.heap.size Y wx))
                case atStart => exact ⟨0, rfl, by omega, n, o, lv, cv, e, I0⟩
                case round =>
                  clear I0
                  obtain ⟨k, rfl, hk, n, o, lv, cv, e, HI⟩ := hrel
                  have j3 := cell_later (cell_later (cellAtJ P4.out.2.2.1 3 _ rfl) HQ0.out.2) HI.out.2
                  have HBW : Hid (Below w.heap.size w wr) := HB9.out _ HI.out.2
                  by_cases h2 : k < z.gn
                  · have hd1 : decide ((k : Int) < (z.gn : Int)) = true := decide_eq_true (by omega)
                    obtain ⟨q', rfl⟩ : ∃ q, gk = q + 1 := ⟨gk - 1, by omega⟩
                    have HIK : Hid (k + (q' + 1) = z.gn) := hk
                    have hk' : (k : Int) < (z.gn : Int) := by omega
                    have hk9 : k ≤ 4000000 := by omega
                    clear hk
                    go_upto_region 16 with fail
                    obtain ⟨hRl, hRb⟩ := RW6.out wr (to_call HQ0.out.2 HI.out.2)
                    obtain ⟨g, b, cap, gn0, go0, gl0, gc0, ge0, hg3, hc1, hc2, hc3⟩ := RlS.elem hRl (k := k) (by rw [HGL9.out]; exact h2) (HWF.out.1.gl k (by rw [HWF.out.1.dg]; exact h2)) h1
                    have C3 : Hid (wr.cell? ⟨B3, 3, none⟩ = some (.slice (some ⟨g, 0, none⟩) z.gn c3)) := by have h9 := j3; rw [hg3] at h9; exact h9
                    have C5 : Hid (wr.cell? ⟨g, k, none⟩ = some (.slice (some ⟨b, 0, none⟩) z.rn cap)) := hc1
                    have R6 : Hid (wr.rangeAt b (i * 3) [.bool gn0, .slice go0 gl0 gc0, .int .i64 ge0]) := hc2
                    have Z6 : Hid (NumC wr (.agg #[.bool gn0, .slice go0 gl0 gc0, .int .i64 ge0]) E 1024 (fval ((z.gs[k]?.getD [])[i]?.getD 0))) := hc3
                    clear hc1 hc2 hc3 hg3 hRl hRb j3 hd1
                    have SX : Below wr.heap.size wr wr.drew := (Below.refl _ _).drew
                    refine wp_region_noPanic ?_
                    refine wp_region_P (S := (fun V => Below wr.heap.size wr V)) (s := 15) (by kernel_rfl) ?_
                    refine takeP 105 (i := 0) (v := .agg #[.bool n, .slice o lv cv, .int .i64 e]) rfl rfl (by kernel_rfl) (by kernel_rfl) (by kernel_rfl) (by kernel_rfl) rfl (by kernel_rfl) (fun _ _ _ h => h) (Or.inl ⟨by kernel_rfl, fun w' hSw => ex_loadRN _ 60 _ rfl Dd (by kernel_rfl) w' _ (kept hSw HI.out.1.row) _ Try.underlying60 rfl 3 Try.infoN3 rfl⟩) SX ?_
                    try simp only [Act.put, List.setIfInBounds_toArray, List.set_cons_zero, List.set_cons_succ]
                    refine takeP 106 (i := 1) (v := ?_) rfl rfl (by kernel_rfl) (by kernel_rfl) (by kernel_rfl) (by kernel_rfl) rfl (by kernel_rfl) (fun _ _ _ h => h) (Or.inl ⟨by kernel_rfl, ?_⟩) SX ?_
                    rotate_left
                    · intro w' hSw; have s3 := cell_later C3.out hSw; have s5 := cell_later C5.out hSw; go_simp; try with_reducible rfl
                    try simp only [Act.put, List.setIfInBounds_toArray, List.set_cons_zero, List.set_cons_succ]
                    refine takeP 107 (i := 2) (v := ?_) rfl rfl (by kernel_rfl) (by kernel_rfl) (by kernel_rfl) (by kernel_rfl) rfl (by kernel_rfl) (fun _ _ _ h => h) (Or.inl ⟨by kernel_rfl, ?_⟩) SX ?_
                    rotate_left
                    · intro w' hSw; have s3 := cell_later C3.out hSw; have s5 := cell_later C5.out hSw; go_simp; try with_reducible rfl
                    try simp only [Act.put, List.setIfInBounds_toArray, List.set_cons_zero, List.set_cons_succ]
                    refine takeP 108 (i := 3) (v := ?_) rfl rfl (by kernel_rfl) (by kernel_rfl) (by kernel_rfl) (by kernel_rfl) rfl (by kernel_rfl) (fun _ _ _ h => h) (Or.inl ⟨by kernel_rfl, ?_⟩) SX ?_
                    rotate_left
                    · intro w' hSw; have s3 := cell_later C3.out hSw; have s5 := cell_later C5.out hSw; go_simp; try with_reducible rfl
                    try simp only [Act.put, List.setIfInBounds_toArray, List.set_cons_zero, List.set_cons_succ]
                    refine takeP 110 (i := 5) (v := ?_) rfl rfl (by kernel_rfl) (by kernel_rfl) (by kernel_rfl) (by kernel_rfl) rfl (by kernel_rfl) (fun _ _ _ h => h) (Or.inl ⟨by kernel_rfl, ?_⟩) SX ?_
                    rotate_left
                    · intro w' hSw; have s3 := cell_later C3.out hSw; have s5 := cell_later C5.out hSw; go_simp; try with_reducible rfl
                    try simp only [Act.put, List.setIfInBounds_toArray, List.set_cons_zero, List.set_cons_succ]
                    refine takeP 111 (i := 6) (v := ?_) rfl rfl (by kernel_rfl) (by kernel_rfl) (by kernel_rfl) (by kernel_rfl) rfl (by kernel_rfl) (fun _ _ _ h => h) (Or.inl ⟨by kernel_rfl, ?_⟩) SX ?_
                    rotate_left
                    · intro w' hSw; have s3 := cell_later C3.out hSw; have s5 := cell_later C5.out hSw; go_simp; try with_reducible rfl
                    try simp only [Act.put, List.setIfInBounds_toArray, List.set_cons_zero, List.set_cons_succ]
                    refine takeP 112 (i := 7) (v := ?_) rfl rfl (by kernel_rfl) (by kernel_rfl) (by kernel_rfl) (by kernel_rfl) rfl (by kernel_rfl) (fun _ _ _ h => h) (Or.inl ⟨by kernel_rfl, ?_⟩) SX ?_
                    rotate_left
                    · intro w' hSw; have s3 := cell_later C3.out hSw; have s5 := cell_later C5.out hSw; go_simp; try with_reducible rfl
                    try simp only [Act.put, List.setIfInBounds_toArray, List.set_cons_zero, List.set_cons_succ]
                    refine takeP 113 (i := 8) (v := ?_) rfl rfl (by kernel_rfl) (by kernel_rfl) (by kernel_rfl) (by kernel_rfl) rfl (by kernel_rfl) (fun _ _ _ h => h) (Or.inl ⟨by kernel_rfl, ?_⟩) SX ?_
                    rotate_left
                    · intro w' hSw; have s3 := cell_later C3.out hSw; have s5 := cell_later C5.out hSw; go_simp; try with_reducible rfl
                    try simp only [Act.put, List.setIfInBounds_toArray, List.set_cons_zero, List.set_cons_succ]
                    refine takeP 114 (i := 9) (v := ?_) rfl rfl (by kernel_rfl) (by kernel_rfl) (by kernel_rfl) (by kernel_rfl) rfl (by kernel_rfl) (fun _ _ _ h => h) (Or.inl ⟨by kernel_rfl, ?_⟩) SX ?_
                    rotate_left
                    · intro w' hSw; have s3 := cell_later C3.out hSw; have s5 := cell_later C5.out hSw; go_simp; try with_reducible rfl
                    try simp only [Act.put, List.setIfInBounds_toArray, List.set_cons_zero, List.set_cons_succ]
                    refine takeP 115 (i := 10) (v := ?_) rfl rfl (by kernel_rfl) (by kernel_rfl) (by kernel_rfl) (by kernel_rfl) rfl (by kernel_rfl) (fun _ _ _ h => h) (Or.inl ⟨by kernel_rfl, ?_⟩) SX ?_
                    rotate_left
                    · intro w' hSw; have s3 := cell_later C3.out hSw; have s5 := cell_later C5.out hSw; go_simp; try with_reducible rfl
                    try simp only [Act.put, List.setIfInBounds_toArray, List.set_cons_zero, List.set_cons_succ]
                    refine takeP 116 (i := 11) (v := ?_) rfl rfl (by kernel_rfl) (by kernel_rfl) (by kernel_rfl) (by kernel_rfl) rfl (by kernel_rfl) (fun _ _ _ h => h) (Or.inl ⟨by kernel_rfl, ?_⟩) SX ?_
                    rotate_left
                    · intro w' hSw; have s3 := cell_later C3.out hSw; have s5 := cell_later C5.out hSw; go_simp; try with_reducible rfl
                    try simp only [Act.put, List.setIfInBounds_toArray, List.set_cons_zero, List.set_cons_succ]
                    refine takeP 117 (i := 12) (v := .agg #[.bool gn0, .slice go0 gl0 gc0, .int .i64 ge0]) rfl rfl (by kernel_rfl) (by kernel_rfl) (by kernel_rfl) (by kernel_rfl) rfl (by kernel_rfl) (fun _ _ _ h => h) (yieldsIf_load_mid (by kernel_rfl) 60 _ rfl b (i * 3) (by kernel_rfl) #[.bool gn0, .slice go0 gl0 gc0, .int .i64 ge0].toList _ (fun V' hS => (range_later R6.out hS : V'.rangeAt b (i * 3) [.bool gn0, .slice go0 gl0 gc0, .int .i64 ge0])) Try.underlying60 rfl (by kernel_rfl)) SX ?_
                    try simp only [Act.put, List.setIfInBounds_toArray, List.set_cons_zero, List.set_cons_succ]
                    refine wpAnyP_ready (rs := [4]) (by kernel_rfl) (by simp) ?_
                    refine consP _ rfl (hopCd 109 rfl (by kernel_rfl) rfl (by kernel_rfl) (Calls.mono (HPE.out _ k hk9 (to_call HBW.out SX)) ?_)) AllReadyP.nil
                    rintro e V1 ⟨v1, rfl, hz1, b1⟩
                    obtain ⟨n1, o1, t1, p1, x1, hv1⟩ := hz1.form
                    subst hv1
                    have SX : Below wr.heap.size wr V1 := to_call SX b1
                    clear b1
                    refine ⟨_, rfl, SX, ?_⟩
                    try simp only [Act.put, List.setIfInBounds_toArray, List.set_cons_zero, List.set_cons_succ]
                    refine wpAnyP_ready (rs := [13]) (by kernel_rfl) (by simp) ?_
                    refine consP _ rfl (hopCd 118 rfl (by kernel_rfl) rfl (by kernel_rfl) (Calls.mono (timesC_any _ _ E 1024 1024 _ _ _ hz1.toZ (NumC.later Z6.out SX).toZ (by rw [HE.out]; omega) (by omega) (by omega)) ?_)) AllReadyP.nil
                    rintro e V2 ⟨v2, rfl, hz2, b2⟩
                    obtain ⟨n2, o2, t2, p2, x2, hv2⟩ := hz2.form
                    subst hv2
                    have SX : Below wr.heap.size wr V2 := to_call SX b2
                    clear b2
                    refine ⟨_, rfl, SX, ?_⟩
                    try simp only [Act.put, List.setIfInBounds_toArray, List.set_cons_zero, List.set_cons_succ]
                    refine wpAnyP_ready (rs := [14]) (by kernel_rfl) (by simp) ?_
                    refine consP _ rfl (hopCd 119 rfl (by kernel_rfl) rfl (by kernel_rfl) (Calls.mono (plusC_any _ _ (E + E) (1024 + 1024) _ _ _ ((NumC.later HI.out.1.num SX).mono (by omega)) hz2 (by rw [HE.out]; omega) (by omega)) ?_)) AllReadyP.nil
                    rintro e V4 ⟨v4, rfl, hz4, b4⟩
                    obtain ⟨n4, o4, t4, p4, x4, hv4⟩ := hz4.form
                    subst hv4
                    have SX : Below wr.heap.size wr V4 := to_call SX b4
                    clear b4
                    refine ⟨_, rfl, SX, ?_⟩
                    try simp only [Act.put, List.setIfInBounds_toArray, List.set_cons_zero, List.set_cons_succ]
                    refine wpAnyP_ready (rs := [15]) (by kernel_rfl) (by simp) ?_
                    refine consPs _ rfl (by kernel_rfl) (hopL rfl (wpList_store_row (by rfl) 60 _ _ (by rfl) Y Y.heap.size Dd #[.bool n4, .slice o4 t4 p4, .int .i64 x4] _ (by kernel_rfl) (by kernel_rfl) (kept SX HI.out.1.row) (to_call HI.out.2 SX) HDX.out 3 Try.infoN3 rfl rfl (oneN _ _ _ _ _) fun V5 e5 b5 s5 k5 => ?_)) AllReadyP.nil
                    refine ⟨trivial, ?_⟩
                    try simp only [Act.put, List.setIfInBounds_toArray, List.set_cons_zero, List.set_cons_succ]
                    refine wpAnyP_done (by kernel_rfl) ?_ _
                    refine NoPanic.normal ?_
                    try simp only [Act.put, List.setIfInBounds_toArray, List.set_cons_zero, List.set_cons_succ]
                    have HZ5 : Hid (BxN V5 Dd (E + E) 1060 (ptK (2 ^ E) z.cs z.rs z.gs (pL es0 D E z.gn) (pL ss0 D E z.rn) i (k + 1)) n4 o4 t4 p4 x4 ∧ Below Y.heap.size Y V5) := by
                      have hz5 := hz4.cl (num_cl (kept SX HI.out.1.row)) (fun b hb _ => k5 b hb)
                      have e9 : (ptK (2 ^ E) z.cs z.rs z.gs (pL es0 D E z.gn) (pL ss0 D E z.rn) i k) + pV es0 D E k * fval ((z.gs[k]?.getD [])[i]?.getD 0) = (ptK (2 ^ E) z.cs z.rs z.gs (pL es0 D E z.gn) (pL ss0 D E z.rn) i (k + 1)) := by
                        have e7 : colV z.gs (pL es0 D E z.gn) i (k + 1) = colV z.gs (pL es0 D E z.gn) i k + ((pL es0 D E z.gn)[k]?.getD 0) * fval ((z.gs[k]?.getD [])[i]?.getD 0) := rfl
                        unfold ptK
                        rw [e7, pL_at h2]
                        omega
                      rw [e9] at hz5
                      exact ⟨⟨e5, HTP.out _ _ _ i (k + 1) (by rw [HGL9.out]; omega) hz5⟩, b5⟩
                    clear hz1 hz2 hz4 SX k5 b5 e5 s5 HI C3 C5 R6 Z6 HBW
                    go_wp2_with fail
                    go_roundg q'
                    case measure => omega
                    case rel => exact ⟨k + 1, by go_num, by have := HIK.out; omega, n4, o4, t4, p4, x4, HZ5⟩
                  · have hd1 : decide ((k : Int) < (z.gn : Int)) = false := decide_eq_false (by omega)
                    have hd2 : decide (k < z.gn) = false := decide_eq_false h2
                    have ek : k = z.gs.length := by have := HGL9.out; omega
                    have HI9 : Hid (BxN wr Dd (E + E) 1060 (ptK (2 ^ E) z.cs z.rs z.gs (pL es0 D E z.gn) (pL ss0 D E z.rn) i z.gs.length) n o lv cv e ∧ Below Y.heap.size Y wr) := ek ▸ HI.out
                    clear hk ek HI
                    go_upto_region 17 with fail
                    clear hd1 hd2 j3
                    have HQ : Hid (BxN wr B6 (E + (E + E)) 2100 (puV (2 ^ E) us z.cs z.rs z.gs (pL es0 D E z.gn) (pL ss0 D E z.rn) z.rn i) qn qo ql qc qe ∧ Below w6.heap.size w6 wr) := ⟨⟨kept HI9.out.2 HQ0.out.1.row, HQ0.out.1.num.later HI9.out.2⟩, to_call HQ0.out.2 HI9.out.2⟩
                    have R2 : Hid (wr.rangeAt wb (i * 3) [.bool bn, .slice bo bl0 bc, .int .i64 be]) := range_later RB0.out HI9.out.2
                    have Z2 : Hid (NumC wr (.agg #[.bool bn, .slice bo bl0 bc, .int .i64 be]) E 1024 (fval (us[i]?.getD 0))) := ZB0.out.later HI9.out.2
                    have HI : Hid (BxN wr Dd (E + E) 1060 (ptK (2 ^ E) z.cs z.rs z.gs (pL es0 D E z.gn) (pL ss0 D E z.rn) i z.gs.length) n o lv cv e ∧ Below Y.heap.size Y wr) := HI9.out
                    clear HI9
                    have SX : Below wr.heap.size wr wr.drew := (Below.refl _ _).drew
                    refine wp_region_noPanic ?_
                    refine wp_region_P (S := (fun V => Below wr.heap.size wr V)) (s := 8) (by kernel_rfl) ?_
                    refine takeP 120 (i := 0) (v := .agg #[.bool qn, .slice qo ql qc, .int .i64 qe]) rfl rfl (by kernel_rfl) (by kernel_rfl) (by kernel_rfl) (by kernel_rfl) rfl (by kernel_rfl) (fun _ _ _ h => h) (Or.inl ⟨by kernel_rfl, fun w' hSw => ex_loadRN _ 60 _ rfl B6 (by kernel_rfl) w' _ (kept hSw HQ.out.1.row) _ Try.underlying60 rfl 3 Try.infoN3 rfl⟩) SX ?_
                    try simp only [Act.put, List.setIfInBounds_toArray, List.set_cons_zero, List.set_cons_succ]
                    refine takeP 121 (i := 1) (v := ?_) rfl rfl (by kernel_rfl) (by kernel_rfl) (by kernel_rfl) (by kernel_rfl) rfl (by kernel_rfl) (fun _ _ _ h => h) (Or.inl ⟨by kernel_rfl, ?_⟩) SX ?_
                    rotate_left
                    · intro w' hSw; go_simp; try with_reducible rfl
                    try simp only [Act.put, List.setIfInBounds_toArray, List.set_cons_zero, List.set_cons_succ]
                    refine takeP 122 (i := 2) (v := ?_) rfl rfl (by kernel_rfl) (by kernel_rfl) (by kernel_rfl) (by kernel_rfl) rfl (by kernel_rfl) (fun _ _ _ h => h) (Or.inl ⟨by kernel_rfl, ?_⟩) SX ?_
                    rotate_left
                    · intro w' hSw; go_simp; try with_reducible rfl
                    try simp only [Act.put, List.setIfInBounds_toArray, List.set_cons_zero, List.set_cons_succ]
                    refine takeP 123 (i := 3) (v := ?_) rfl rfl (by kernel_rfl) (by kernel_rfl) (by kernel_rfl) (by kernel_rfl) rfl (by kernel_rfl) (fun _ _ _ h => h) (Or.inl ⟨by kernel_rfl, ?_⟩) SX ?_
                    rotate_left
                    · intro w' hSw; go_simp; try with_reducible rfl
                    try simp only [Act.put, List.setIfInBounds_toArray, List.set_cons_zero, List.set_cons_succ]
                    refine takeP 124 (i := 4) (v := .agg #[.bool bn, .slice bo bl0 bc, .int .i64 be]) rfl rfl (by kernel_rfl) (by kernel_rfl) (by kernel_rfl) (by kernel_rfl) rfl (by kernel_rfl) (fun _ _ _ h => h) (yieldsIf_load_mid (by kernel_rfl) 60 _ rfl wb (i * 3) (by kernel_rfl) #[.bool bn, .slice bo bl0 bc, .int .i64 be].toList _ (fun V' hS => (range_later R2.out hS : V'.rangeAt wb (i * 3) [.bool bn, .slice bo bl0 bc, .int .i64 be])) Try.underlying60 rfl (by kernel_rfl)) SX ?_
                    try simp only [Act.put, List.setIfInBounds_toArray, List.set_cons_zero, List.set_cons_succ]
                    refine takeP 125 (i := 5) (v := .agg #[.bool n, .slice o lv cv, .int .i64 e]) rfl rfl (by kernel_rfl) (by kernel_rfl) (by kernel_rfl) (by kernel_rfl) rfl (by kernel_rfl) (fun _ _ _ h => h) (Or.inl ⟨by kernel_rfl, fun w' hSw => ex_loadRN _ 60 _ rfl Dd (by kernel_rfl) w' _ (kept hSw HI.out.1.row) _ Try.underlying60 rfl 3 Try.infoN3 rfl⟩) SX ?_
                    try simp only [Act.put, List.setIfInBounds_toArray, List.set_cons_zero, List.set_cons_succ]
                    refine wpAnyP_ready (rs := [6]) (by kernel_rfl) (by simp) ?_
                    refine consP _ rfl (hopCd 126 rfl (by kernel_rfl) rfl (by kernel_rfl) (Calls.mono (timesM_any _ _ E (E + E) 1024 1060 _ _ _ (NumC.later Z2.out SX).toZ (NumC.later HI.out.1.num SX).toZ (by rw [HE.out]; omega) (by rw [HE.out]; omega) (by omega) (by omega)) ?_)) AllReadyP.nil
                    rintro e V1 ⟨v1, rfl, hz1, b1⟩
                    obtain ⟨n1, o1, t1, p1, x1, hv1⟩ := hz1.form
                    subst hv1
                    have SX : Below wr.heap.size wr V1 := to_call SX b1
                    clear b1
                    refine ⟨_, rfl, SX, ?_⟩
                    try simp only [Act.put, List.setIfInBounds_toArray, List.set_cons_zero, List.set_cons_succ]
                    refine wpAnyP_ready (rs := [7]) (by kernel_rfl) (by simp) ?_
                    refine consP _ rfl (hopCd 127 rfl (by kernel_rfl) rfl (by kernel_rfl) (Calls.mono (plusC_any _ _ (E + (E + E)) 2400 _ _ _ ((NumC.later HQ.out.1.num SX).mono (by omega)) (hz1.mono (by omega)) (by rw [HE.out]; omega) (by omega)) ?_)) AllReadyP.nil
                    rintro e V4 ⟨v4, rfl, hz4, b4⟩
                    obtain ⟨n4, o4, t4, p4, x4, hv4⟩ := hz4.form
                    subst hv4
                    have SX : Below wr.heap.size wr V4 := to_call SX b4
                    clear b4
                    refine ⟨_, rfl, SX, ?_⟩
                    try simp only [Act.put, List.setIfInBounds_toArray, List.set_cons_zero, List.set_cons_succ]
                    refine wpAnyP_ready (rs := [8]) (by kernel_rfl) (by simp) ?_
                    refine consPs _ rfl (by kernel_rfl) (hopL rfl (wpList_store_row (by rfl) 60 _ _ (by rfl) w6 w6.heap.size B6 #[.bool n4, .slice o4 t4 p4, .int .i64 x4] _ (by kernel_rfl) (by kernel_rfl) (kept SX HQ.out.1.row) (to_call HQ.out.2 SX) HB6.out 3 Try.infoN3 rfl rfl (oneN _ _ _ _ _) fun V5 e5 b5 s5 k5 => ?_)) AllReadyP.nil
                    refine ⟨trivial, ?_⟩
                    try simp only [Act.put, List.setIfInBounds_toArray, List.set_cons_zero, List.set_cons_succ]
                    refine wpAnyP_done (by kernel_rfl) ?_ _
                    refine NoPanic.normal ?_
                    try simp only [Act.put, List.setIfInBounds_toArray, List.set_cons_zero, List.set_cons_succ]
                    have HZ5 : Hid (BxN V5 B6 (E + (E + E)) 2100 (puV (2 ^ E) us z.cs z.rs z.gs (pL es0 D E z.gn) (pL ss0 D E z.rn) z.rn (i + 1)) n4 o4 t4 p4 x4 ∧ Below w6.heap.size w6 V5) := by
                      have hz5 := hz4.cl (num_cl (kept SX HQ.out.1.row)) (fun b hb _ => k5 b hb)
                      rw [puV_step] at hz5
                      exact ⟨⟨e5, HTU.out _ _ _ (i + 1) (by omega) hz5⟩, b5⟩
                    clear hz1 hz4 SX k5 b5 e5 s5 HQ HI R2 Z2 HBW HQ0 RB0 ZB0 HB9
                    go_wp2_with fail
                    go_roundg q
                    case measure => omega
                    case rel => exact ⟨i + 1, by go_num, by have := HIG.out; omega, n4, o4, t4, p4, x4, HZ5⟩
            · have hd1 : decide ((i : Int) < (z.rn : Int)) = false := decide_eq_false (by omega)
              have hd2 : decide (i < z.rn) = false := decide_eq_false h1
              have ei : i = z.rn := by omega
              have Q0 : Hid (BxN Y B6 (E + (E + E)) 2100 (puV (2 ^ E) us z.cs z.rs z.gs (pL es0 D E z.gn) (pL ss0 D E z.rn) z.rn z.rn) qn qo ql qc qe ∧ Below w6.heap.size w6 Y) := ei ▸ HQ0.out
              clear hi ei HQ0
              have HMF : Hid (Fin mu ∧ mu < 18446744073709551616 ∧ fval mu * ((2 ^ E : Nat) : Int) ≤ leV z us) := by
                have h9 := HMG.out.1 HCT.out
                obtain ⟨a92, ha92⟩ : ∃ a : Nat, a = 92 := ⟨_, rfl⟩
                rw [leO_is ha92 HWF.out.1 hgm (ltsB HLT.out) (finsB HWF.out.2)] at h9
                have h8 := rz_canon (h9 1166 rfl)
                exact ⟨h8.1, h8.2.1, RndO.leM ha92 HE.out h9⟩
              have HOF : Hid (∀ W, _) := fun W => ofC_any mu HMF.out.2.1 W E HE.out
              go_wp2_with (first | (go_at_call 10; refine (apiBits_any _ _).mono ?_; rintro e8 w8 ⟨rfl, hw8⟩; rw [hw8]; clear hw8))
              refine Calls.mono (HOF.out _) ?_
              rintro e9 w9 ⟨v9, rfl, ⟨z9, hz9, hv9⟩, b9⟩
              obtain ⟨n9, o9, l9, c9, e9, hf9⟩ := hz9.form
              subst hf9
              have ez9 : z9 = fval mu := hv9 HMF.out.1
              subst ez9
              have A9 : Below w9.heap.size w9 (w9.alloc (.cells #[.bool n9, .slice o9 l9 c9, .int .i64 e9] 60)) := (Below.refl _ w9).alloc (Nat.le_refl _) _
              have Y9 : (w9.alloc (.cells #[.bool n9, .slice o9 l9 c9, .int .i64 e9] 60)).heap[w9.heap.size]? = some (.cells #[.bool n9, .slice o9 l9 c9, .int .i64 e9] 60) := heap_alloc_new w9 _
              have hfd : decide (Fin mu) = true := decide_eq_true HMF.out.1
              rw [hfd]
              go_upto_region 19 with fail
              obtain ⟨X9, hX9⟩ : ∃ X9, (w9.alloc (.cells #[.bool n9, .slice o9 l9 c9, .int .i64 e9] 60)) = X9 := ⟨_, rfl⟩
              obtain ⟨B9, hB9⟩ : ∃ B9, w9.heap.size = B9 := ⟨_, rfl⟩
              rw [hX9] at A9 Y9 ⊢
              rw [hB9] at Y9 ⊢
              have bY9 : Below Y.heap.size Y X9 := to_call b9 A9
              have hge : 0 ≤ (puV (2 ^ E) us z.cs z.rs z.gs (pL es0 D E z.gn) (pL ss0 D E z.rn) z.rn z.rn) - fval mu * ((2 ^ (E + E) : Nat) : Int) := by
                have h9 := puV_ge (us := us) (es := (pL es0 D E z.gn)) (bs := (pL ss0 D E z.rn)) HE.out rfl HGL9.out (pL_abs HDE.out) (pL_abs HDE.out) HWF.out.1.pos
                have h8 := HMF.out.2.2
                have h7 : (0 : Int) ≤ ((2 ^ E : Nat) : Int) := Int.natCast_nonneg _
                have h6 := Int.mul_le_mul_of_nonneg_left h8 h7
                rw [Nat.pow_add, Int.natCast_mul, ← Int.mul_assoc]
                rw [Int.mul_comm ((2 ^ E : Nat) : Int) (fval mu * ((2 ^ E : Nat) : Int))] at h6
                omega
              obtain ⟨pu, hpu⟩ : ∃ pu, (puV (2 ^ E) us z.cs z.rs z.gs (pL es0 D E z.gn) (pL ss0 D E z.rn) z.rn z.rn) = pu := ⟨_, rfl⟩
              obtain ⟨mv, hmv⟩ : ∃ mv, fval mu * ((2 ^ (E + E) : Nat) : Int) = mv := ⟨_, rfl⟩
              have HF : Hid (X9.heap[B6]? = some (.cells #[.bool qn, .slice qo ql qc, .int .i64 qe] 60) ∧ X9.heap[B9]? = some (.cells #[.bool n9, .slice o9 l9 c9, .int .i64 e9] 60) ∧ NumC X9 (.agg #[.bool qn, .slice qo ql qc, .int .i64 qe]) (E + (E + E)) 2100 pu ∧ NumC X9 (.agg #[.bool n9, .slice o9 l9 c9, .int .i64 e9]) (E + (E + E)) 2100 mv ∧ Below w.heap.size w X9) := by
                refine ⟨kept bY9 Q0.out.1.row, Y9, ?_, ?_, to_call (to_call P4.out.1 Q0.out.2) bY9⟩
                · rw [← hpu]; exact Q0.out.1.num.later bY9
                · rw [← hmv]; exact ((hz9.later A9).moreJ (E + E)).mono (by omega)
              rw [hpu, hmv] at hge
              have hsg : 0 ≤ sgi (pu - mv) := by
                unfold sgi; split
                · omega
                · split <;> omega
              obtain ⟨sg, hsg2⟩ : ∃ sg, sgi (pu - mv) = sg := ⟨_, rfl⟩
              have HC : Hid (Calls Try.prog 24 #[.agg #[.bool qn, .slice qo ql qc, .int .i64 qe], .agg #[.bool n9, .slice o9 l9 c9, .int .i64 e9]] X9 fun e' w' => e' = .returned (.int .i64 sg) ∧ Below X9.heap.size X9 w') := by
                have h9 := cmpZ_any _ _ (E + (E + E)) 2100 pu mv X9 HF.out.2.2.1.toZ HF.out.2.2.2.1.toZ (by rw [HE.out]; omega) (by omega)
                rw [hsg2] at h9
                exact h9
              rw [hsg2] at hsg
              have hdg : decide (sg ≥ 0) = true := decide_eq_true hsg
              clear hX9 hB9 A9 Y9 bY9 hz9 hv9 hfd hge hpu hmv hsg2 Q0 b9 hd1 hd2 j0 HOF
              go_wp2_with (first | (refine wpList_load_row (by rfl) 60 _ (by rfl) B6 _ (by rfl) HF.out.1 _ Try.underlying60 rfl 3 Try.infoN3 (by rfl) ?_) | (refine wpList_load_row (by rfl) 60 _ (by rfl) B9 _ (by rfl) HF.out.2.1 _ Try.underlying60 rfl 3 Try.infoN3 (by rfl) ?_))
              refine Calls.mono HC.out ?_
              rintro e8 w8 ⟨rfl, b8⟩
              have HB8 : Hid (Below w.heap.size w w8) := to_call HF.out.2.2.2.2 b8
              clear b8 HC
              go_wp2_with (go_at_call 17; refine (awake_any _).mono ?_; rintro e8 w8 ⟨rfl, b8⟩)
              go_ret
              exact ⟨rfl, to_call HB8.out b8⟩
        · have k0 := cellAtJ P4.out.2.1 0 _ rfl
          cases mb with
          | false =>
            clear hgo
            go_wp2_with (go_at_call 17; refine (awake_any _).mono ?_; rintro e8 w8 ⟨rfl, b8⟩)
            go_ret
            exact ⟨rfl, to_call P4.out.1 b8⟩
          | true =>
            by_cases hd0 : dep < 0
            · have hdd : decide (dep < 0) = true := decide_eq_true hd0
              clear hgo
              go_wp2_with (go_at_call 17; refine (awake_any _).mono ?_; rintro e8 w8 ⟨rfl, b8⟩)
              go_ret
              exact ⟨rfl, to_call P4.out.1 b8⟩
            · have hdd : decide (dep < 0) = false := decide_eq_false hd0
              have hd3 : dep > 30 := by
                rcases Int.lt_or_le 30 dep with h | h
                · exact h
                · exact absurd ⟨rfl, by omega, h⟩ hgo
              have hdd3 : decide (dep > 30) = true := decide_eq_true hd3
              clear hgo
              go_wp2_with (go_at_call 17; refine (awake_any _).mono ?_; rintro e8 w8 ⟨rfl, b8⟩)
              go_ret
              exact ⟨rfl, to_call P4.out.1 b8⟩
      · have hcf : clB z us = false := by rw [HCL.out, decide_eq_false hlN]; rfl
        have hne : ((l : Int) != z.N + 1) = true := by rw [bne_iff_ne]; exact hlN
        clear hlN
        obtain ⟨eu, eb⟩ := HMG.out.2 hcf
        subst eu eb
        clear hcf
        have k0 := cellAtJ P4.out.2.1 0 _ rfl
        go_wp2_with (go_at_call 17; refine (awake_any _).mono ?_; rintro e w9 ⟨rfl, b9⟩)
        go_ret
        exact ⟨rfl, to_call P4.out.1 b9⟩
end Go.Proofs.Ytbjnkefjlaplkaa

namespace Go.Proofs.Ytbjnkefjlaplkaa.marginHoldsDone
open Go.ChangeShapes Go.WideShapes Go.ChangeAt Go.RowKit
set_option linter.unusedVariables false
set_option maxRecDepth 100000
theorem i64_bounds {n : Int} (h : (Lit.int .i64 n).wf = true) : -9223372036854775808 ≤ n ∧ n ≤ 9223372036854775807 := by
  have h2 : (decide ((-9223372036854775808 : Int) ≤ n) && decide (n ≤ 9223372036854775807)) = true := h
  simpa using h2
theorem own : ownKnob Try.prog.godebug = none := by kernel_rfl
theorem laidOut : laidOutB Try.prog = true := by kernel_rfl
theorem reads (os : Os) {H : Type} (enc : TypeId × Value → H) : ∃ places, DataW.whole enc Try.prog ((World.holding Try.prog os ⟨#[], #[], []⟩).forCall (fun _ _ => 0) ⟨#[], #[.agg #[.int .i64 0, .slice none 0 0, .slice none 0 0, .slice none 0 0, .slice none 0 0, .bool false], .slice none 0 0, .slice none 0 0, .slice none 0 0, .int .i64 0], []⟩).memory Try.f4.params.toList Rows.marginHoldsSpec.vars false (#[.agg #[.int .i64 0, .slice none 0 0, .slice none 0 0, .slice none 0 0, .slice none 0 0, .bool false], .slice none 0 0, .slice none 0 0, .slice none 0 0, .int .i64 0] : Array Value).toList 8 = some ([.agg [.lit (.int .i64 0), .nil, .nil, .nil, .nil, .lit (.bool false)], .nil, .nil, .nil, .lit (.int .i64 0)], [], places) :=
  ⟨[], by kernel_rfl⟩
theorem bounds {H : Type} {a0  a1  a2  a3  a4 : DataW H} (h : Rows.uptoSmall H [a0, a1, a2, a3, a4] = true) : Rows.uptoBulk a0 ≤ 1048576 ∧ Rows.uptoBulk a1 ≤ 1048576 ∧ Rows.uptoBulk a2 ≤ 1048576 ∧ Rows.uptoBulk a3 ≤ 1048576 ∧ Rows.uptoBulk a4 ≤ 1048576 := by
  have h2 : Rows.uptoBulkAll [a0, a1, a2, a3, a4] ≤ 1048576 := of_decide_eq_true h
  simp only [Rows.uptoBulkAll] at h2
  omega
theorem contract (H : Type) (enc : TypeId × Value → H) (W : World) (base : Nat) (args : Array Value) (ds gs : List (DataW H)) (before : List MemPlace)
    (hval : ∀ (j : Nat) t v, Try.f4.params[j]? = some t → args[j]? = some v → Value.okWide Try.prog W .any base t v)
    (hW : DataW.Whole enc Try.prog Try.f4.params.toList Rows.marginHoldsSpec.vars false W args.toList ds gs before) (hk : Rows.uptoSmall H (ds ++ gs) = true) :
    Calls Try.prog 4 args W fun e W' => ∃ v, e = .returned v ∧ Rows.marginHoldsSpec.post enc Try.prog Try.f4 false true false false W args v W' := by
  have hW' := hW
  obtain ⟨p, q, hA0, hV, rfl, hfz, hnd⟩ := hW
  have hA : DataW.TrodAll enc Try.prog W 0 (fun _ => true) true Try.f4.params.toList args.toList ds p := hA0
  rw [Try.params4] at hA hval
  obtain ⟨v0, vs0, d0, ds0, p0, q0, hargs, rfl, rfl, h0, r0⟩ := trodAll_cons hA
  obtain ⟨v1, vs1, d1, ds1, p1, q1, rfl, rfl, rfl, h1, r1⟩ := trodAll_cons r0
  obtain ⟨v2, vs2, d2, ds2, p2, q2, rfl, rfl, rfl, h2, r2⟩ := trodAll_cons r1
  obtain ⟨v3, vs3, d3, ds3, p3, q3, rfl, rfl, rfl, h3, r3⟩ := trodAll_cons r2
  obtain ⟨v4, vs4, d4, ds4, p4, q4, rfl, rfl, rfl, h4, r4⟩ := trodAll_cons r3
  obtain ⟨rfl, rfl, rfl⟩ := trodAll_nil r4
  obtain rfl : args = #[v0, v1, v2, v3, v4] := by cases args; simp_all
  obtain ⟨rfl, rfl⟩ := trodVars_none hV
  simp only [List.append_nil] at hk
  have hbd := bounds hk
  have k0 := h0
  have lt0 : ∀ x ∈ p0, x.block < W.heap.size := by obtain ⟨m, hm⟩ := k0; exact DataW.trod_lt m _ _ _ hm
  obtain ⟨z0, hv0, zr0, zw0, zd0⟩ := zono_openD (hval 0 26 v0 rfl rfl) h0 hbd.1
  subst hv0
  have k1 := h1
  have lt1 : ∀ x ∈ p1, x.block < W.heap.size := by obtain ⟨m, hm⟩ := k1; exact DataW.trod_lt m _ _ _ hm
  obtain ⟨b1, len1, cap1, rfl⟩ := okWide_slice Try.underlying22 (hval 1 22 v1 rfl rfl)
  obtain ⟨m1, hm1⟩ := h1
  obtain ⟨ao1, l1, c1, us1, e1, rd1, rn1, rl1⟩ := floatsJ_open Try.underlying22 Try.underlying33 (by kernel_rfl) hm1
  simp [Value.cells] at e1
  obtain ⟨rfl, rfl, rfl⟩ := e1
  dsimp only at rl1 rn1
  have k2 := h2
  have lt2 : ∀ x ∈ p2, x.block < W.heap.size := by obtain ⟨m, hm⟩ := k2; exact DataW.trod_lt m _ _ _ hm
  obtain ⟨b2, len2, cap2, rfl⟩ := okWide_slice Try.underlying23 (hval 2 23 v2 rfl rfl)
  obtain ⟨m2, hm2⟩ := h2
  obtain ⟨ao2, l2, c2, us2, e2, rd2, rn2, rl2⟩ := intsJ_open Try.underlying23 Try.underlying3 (by kernel_rfl) hm2
  simp [Value.cells] at e2
  obtain ⟨rfl, rfl, rfl⟩ := e2
  dsimp only at rl2 rn2
  have k3 := h3
  have lt3 : ∀ x ∈ p3, x.block < W.heap.size := by obtain ⟨m, hm⟩ := k3; exact DataW.trod_lt m _ _ _ hm
  obtain ⟨b3, len3, cap3, rfl⟩ := okWide_slice Try.underlying23 (hval 3 23 v3 rfl rfl)
  obtain ⟨m3, hm3⟩ := h3
  obtain ⟨ao3, l3, c3, us3, e3, rd3, rn3, rl3⟩ := intsJ_open Try.underlying23 Try.underlying3 (by kernel_rfl) hm3
  simp [Value.cells] at e3
  obtain ⟨rfl, rfl, rfl⟩ := e3
  dsimp only at rl3 rn3
  obtain ⟨a4, rfl, rfl, rfl, w4⟩ := open_int Try.underlying3 (hval 4 3 v4 rfl rfl) h4
  have bd4 := i64_bounds w4
  clear hA0
  refine (marginHolds_walk z0 _ _ _ _ _ _ _ _ _ _ _ _ a4 W zr0 zw0 zd0 rd1 (by have := hbd.2.1; omega) rd2 (by have := hbd.2.2.1; omega) rd3 (by have := hbd.2.2.2.1; omega)).mono fun e W' ⟨he, bel⟩ => ?_
  subst he
  exact ⟨_, rfl, _, _, _, [], _, [], hW', trodAll_mk1 (shut_bool Try.underlying4 _), (trodAll_cons_mk (Below.trod laidOut (by kernel_rfl) (of_decide_eq_true (by kernel_rfl)) k0 bel lt0) (trodAll_cons_mk (Below.trod laidOut (by kernel_rfl) (of_decide_eq_true (by kernel_rfl)) k1 bel lt1) (trodAll_cons_mk (Below.trod laidOut (by kernel_rfl) (of_decide_eq_true (by kernel_rfl)) k2 bel lt2) (trodAll_cons_mk (Below.trod laidOut (by kernel_rfl) (of_decide_eq_true (by kernel_rfl)) k3 bel lt3) (trodAll_cons_mk (shut_int Try.underlying3 w4) trodAll_mk0))))), rfl, bel.frame _, fun h => by cases h⟩
theorem lifted (os : Os) (started : os.Started) (H : Type) (enc : TypeId × Value → H) (F : Stop.Interp) :
    ReturnsInHanded {} Try.checked os 4 .any ((Rows.OpenSpec.upto Rows.marginHoldsSpec).preRow enc Try.prog Try.f4 Rows.marginHoldsUptoRow.domain false Rows.marginHoldsUptoRow.laid) (((Rows.OpenSpec.upto Rows.marginHoldsSpec).at F).post enc Try.prog Try.f4 false true false false) := by
  obtain ⟨places, hx⟩ := reads os enc
  refine returnsInHanded_of_row (C := Try.checked) (s := Rows.OpenSpec.upto Rows.marginHoldsSpec) own started (by kernel_rfl) Try.func4
    (witness_row_at (enc := enc) (C := Try.checked) false (World.holding Try.prog os ⟨#[], #[], []⟩) #[.agg #[.int .i64 0, .slice none 0 0, .slice none 0 0, .slice none 0 0, .slice none 0 0, .bool false], .slice none 0 0, .slice none 0 0, .slice none 0 0, .int .i64 0] rfl (by kernel_rfl) (by kernel_rfl) (by kernel_rfl)
      (OpenSpec.preRow_of_cond 8 hx (by kernel_rfl) (fun k hk => by cases hk; kernel_rfl) (by kernel_rfl) (laidMet_of_run' 8 (by kernel_rfl) (by kernel_rfl)))) ?_
  intro W base args ds gs before hval hW x1 x2 x3 hL x5 x6
  exact contract H enc W base args ds gs before hval hW (by first | exact x1 _ rfl | exact x2 _ rfl | exact x3 _ rfl | exact x5 _ rfl | exact x6 _ rfl)
theorem said : Rows.MarginHoldsUptoSaid :=
  OpenClaim.holds_of_cond 4 Try.f4 rfl rfl rfl rfl rfl rfl rfl ⟨rfl, rfl, rfl, rfl, rfl⟩ rfl rfl rfl rfl rfl (by kernel_rfl) Try.func4 (by kernel_rfl)
    (of_decide_eq_true (by kernel_rfl)) (by unfold Func.isWrapper; first | (rw [if_pos (by decide +kernel)]; kernel_rfl) | (rw [if_neg (by decide +kernel)]; exact ⟨rfl, rfl⟩))
    (fun os started H enc _ F => by rw [OpenClaim.pre_eq_preRow]; exact lifted os started H enc F)
end Go.Proofs.Ytbjnkefjlaplkaa.marginHoldsDone
namespace Go.Proofs.Ytbjnkefjlaplkaa
theorem marginHolds_holds : Rows.MarginHoldsUptoSaid := marginHoldsDone.said
#print axioms marginHolds_holds
end Go.Proofs.Ytbjnkefjlaplkaa
