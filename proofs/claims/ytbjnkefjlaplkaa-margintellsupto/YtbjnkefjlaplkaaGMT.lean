import Derived.Test.YtbjnkefjlaplkaaGMc
import Derived.Test.YtbjnkefjlaplkaaGXc
import Derived.Test.YtbjnkefjlaplkaaGXa
import Derived.Test.YtbjnkefjlaplkaaJZx
import Derived.ChangeSame
import Derived.JoinedOf
import Derived.JoinedAt
import Derived.JoinedStill
import Derived.RowKit
import Derived.ProofKit
import Derived.Seven
import Derived.Laws.Cover2
import Derived.WalkKit
import Derived.OpenShut
import Derived.ChangeOld
import Derived.Below
import Derived.Deep.DeepHandedRow
import Derived.Lib.LaidTab
namespace Go.Proofs.Ytbjnkefjlaplkaa
open Go.RowKit Go.Shelf
set_option linter.unusedVariables false
set_option linter.unusedSimpArgs false

theorem wholeB_ids {z : ZD} (h : wholeB z = true) : ∀ j, j < z.dn → 0 ≤ z.ids[j]?.getD 0 := by
  unfold wholeB at h
  simp only [Bool.and_eq_true] at h
  have h1 := (colsB_drop z z.dn 0 (-1) (by omega)).1 (by rw [List.drop_zero]; exact h.2)
  intro j
  induction j with
  | zero =>
    intro hj
    have h2 := (h1 0 (Nat.le_refl _) hj).1
    rw [if_pos rfl] at h2
    omega
  | succ j ih =>
    intro hj
    have h2 := (h1 (j + 1) (Nat.zero_le _) hj).1
    rw [if_neg (Nat.succ_ne_zero j), Nat.add_sub_cancel] at h2
    have h3 := ih (by omega)
    omega
theorem sameSelf (ao bo : Option Addr) (n m c d : Nat) (is : List Int) (w : World) (h : RdIs w ao n c is) (k : RdIs w bo m d is) :
    Calls Try.prog 11 #[.slice ao n c, .slice bo m d] w fun e w' => e = .returned (.bool true) ∧ Below w.heap.size w w' := by
  have h9 := sameIntsM_any ao bo n m c d is is w h k
  rw [decide_eq_true rfl] at h9
  exact h9
set_option maxRecDepth 100000 in
set_option maxHeartbeats 16000000 in
theorem marginTells_walk (z : ZD) (ao : Option Addr) (l c : Nat) (gv : Nat → Option Addr × Nat × Nat) (css : List (List Nat)) (kk : Int) (w : World) (hz : ZR w z) (hw : ZW z) (hdn : z.dn ≤ 1048576) (ha : RdGs w ao l c gv css) (hl : l ≤ 1050000) (hll : ∀ j, j < l → (gv j).2.1 ≤ 1050000) :
    Calls Try.prog 3 #[.agg (zRow z), .slice ao l c, .int .i64 kk] w fun e w' => e = .returned (.bool true) ∧ Below w.heap.size w w' := by
  have HZ : Hid (∀ W', Below w.heap.size w W' → ZR W' z) := fun W' hb => hz.later hb
  have HA : Hid (∀ W', Below w.heap.size w W' → RdGs W' ao l c gv css) := fun W' hb => ha.later hb
  have HZW : Hid (ZW z) := hw
  have HD : Hid (z.dn ≤ 1050000) := by unfold Hid; omega
  have HLL : Hid (∀ j, j < l → (gv j).2.1 ≤ 1050000) := hll
  have HLE : Hid (∀ j, j < l → (css[j]?.getD []).length = (gv j).2.1 ∧ ∀ x ∈ (css[j]?.getD []), x < 18446744073709551616) := fun j hj => ⟨(ha.each j hj).length, (ha.each j hj).lt⟩
  have hlm : l ≤ 1050000 := hl
  have HID : Hid (wholeB z = true → ∀ j, j < z.dn → 0 ≤ z.ids[j]?.getD 0) := wholeB_ids
  have HZ0 : Hid (ZR w z) := hz
  have X0 : Below w.heap.size w (w.alloc (.cells #[.int .i64 z.N, .slice z.co z.cn z.cc, .slice z.io z.dn z.dc, .slice z.go z.gn z.gc, .slice z.ro z.rn z.rc, .bool z.bad] 26)) := (Below.refl _ w).alloc (Nat.le_refl _) _
  have Y0 : (w.alloc (.cells #[.int .i64 z.N, .slice z.co z.cn z.cc, .slice z.io z.dn z.dc, .slice z.go z.gn z.gc, .slice z.ro z.rn z.rc, .bool z.bad] 26)).heap[w.heap.size]? = some (.cells #[.int .i64 z.N, .slice z.co z.cn z.cc, .slice z.io z.dn z.dc, .slice z.go z.gn z.gc, .slice z.ro z.rn z.rc, .bool z.bad] 26) := heap_alloc_new w _
  clear hz ha hw hdn hl hll
  unfold zRow
  go_enter Try.func3, Try.ntmps3
  go_upto_region 1 with fail
  obtain ⟨X, hX⟩ : ∃ X, (w.alloc (.cells #[.int .i64 z.N, .slice z.co z.cn z.cc, .slice z.io z.dn z.dc, .slice z.go z.gn z.gc, .slice z.ro z.rn z.rc, .bool z.bad] 26)) = X := ⟨_, rfl⟩
  rw [hX] at X0 Y0 ⊢
  have P0 : Hid (Below w.heap.size w X ∧ X.heap[w.heap.size]? = some (.cells #[.int .i64 z.N, .slice z.co z.cn z.cc, .slice z.io z.dn z.dc, .slice z.go z.gn z.gc, .slice z.ro z.rn z.rc, .bool z.bad] 26)) := ⟨X0, Y0⟩
  clear hX X0 Y0
  go_wp2_with (first | (refine wpList_load_row (by rfl) 26 _ (by rfl) w.heap.size _ (by rfl) P0.out.2 _ Try.underlying26 rfl 6 Try.infoZ (by rfl) ?_))
  refine Calls.mono (ofU z _ (HZ.out _ P0.out.1) HZW.out) ?_
  rintro e w1 ⟨u, rfl, hu, hk, b1⟩
  unfold zRow
  have P1 : Hid (Below w.heap.size w w1 ∧ w1.heap[w.heap.size]? = some (.cells #[.int .i64 z.N, .slice z.co z.cn z.cc, .slice z.io z.dn z.dc, .slice z.go z.gn z.gc, .slice z.ro z.rn z.rc, .bool z.bad] 26)) := ⟨to_call P0.out.1 b1, kept b1 P0.out.2⟩
  clear b1 P0
  have A3 : Below w1.heap.size w1 (w1.alloc (.cells #[.int .i64 u.N, .slice u.co u.cn u.cc, .slice u.io u.dn u.dc, .slice u.go u.gn u.gc, .slice u.ro u.rn u.rc, .bool u.bad] 30)) := (Below.refl _ w1).alloc (Nat.le_refl _) _
  have Y3 : (w1.alloc (.cells #[.int .i64 u.N, .slice u.co u.cn u.cc, .slice u.io u.dn u.dc, .slice u.go u.gn u.gc, .slice u.ro u.rn u.rc, .bool u.bad] 30)).heap[w1.heap.size]? = some (.cells #[.int .i64 u.N, .slice u.co u.cn u.cc, .slice u.io u.dn u.dc, .slice u.go u.gn u.gc, .slice u.ro u.rn u.rc, .bool u.bad] 30) := heap_alloc_new w1 _
  go_upto_region 2 with fail
  obtain ⟨X3, hX3⟩ : ∃ X3, (w1.alloc (.cells #[.int .i64 u.N, .slice u.co u.cn u.cc, .slice u.io u.dn u.dc, .slice u.go u.gn u.gc, .slice u.ro u.rn u.rc, .bool u.bad] 30)) = X3 := ⟨_, rfl⟩
  obtain ⟨BU, hBU⟩ : ∃ BU, w1.heap.size = BU := ⟨_, rfl⟩
  rw [hX3] at A3 Y3 ⊢
  rw [hBU] at Y3 ⊢
  have HU : Hid (∀ W', Below X3.heap.size X3 W' → ZU W' u) := fun W' hb => hu.later (to_call A3 hb)
  have HK : Hid (SmZ u z) := hk
  have P3 : Hid (Below w.heap.size w X3 ∧ X3.heap[w.heap.size]? = some (.cells #[.int .i64 z.N, .slice z.co z.cn z.cc, .slice z.io z.dn z.dc, .slice z.go z.gn z.gc, .slice z.ro z.rn z.rc, .bool z.bad] 26) ∧ X3.heap[BU]? = some (.cells #[.int .i64 u.N, .slice u.co u.cn u.cc, .slice u.io u.dn u.dc, .slice u.go u.gn u.gc, .slice u.ro u.rn u.rc, .bool u.bad] 30)) := ⟨to_call P1.out.1 A3, kept A3 P1.out.2, Y3⟩
  clear A3 Y3 hX3 hBU P1 hu hk
  have P1 : Hid (Below w.heap.size w X3 ∧ X3.heap[w.heap.size]? = some (.cells #[.int .i64 z.N, .slice z.co z.cn z.cc, .slice z.io z.dn z.dc, .slice z.go z.gn z.gc, .slice z.ro z.rn z.rc, .bool z.bad] 26) ∧ X3.heap[BU]? = some (.cells #[.int .i64 u.N, .slice u.co u.cn u.cc, .slice u.io u.dn u.dc, .slice u.go u.gn u.gc, .slice u.ro u.rn u.rc, .bool u.bad] 30) ∧ Below X3.heap.size X3 X3) := ⟨P3.out.1, P3.out.2.1, P3.out.2.2, Below.refl _ _⟩
  clear P3
  go_wp2_with fail
  go_loopg [8] l (fun g v8 wx => ∃ i : Nat, v8 = .int .i64 i ∧ i + g = l ∧ Hid (Below w.heap.size w wx ∧ wx.heap[w.heap.size]? = some (.cells #[.int .i64 z.N, .slice z.co z.cn z.cc, .slice z.io z.dn z.dc, .slice z.go z.gn z.gc, .slice z.ro z.rn z.rc, .bool z.bad] 26) ∧ wx.heap[BU]? = some (.cells #[.int .i64 u.N, .slice u.co u.cn u.cc, .slice u.io u.dn u.dc, .slice u.go u.gn u.gc, .slice u.ro u.rn u.rc, .bool u.bad] 30) ∧ Below X3.heap.size X3 wx))
  case atStart => exact ⟨0, rfl, by omega, P1⟩
  case round =>
    clear P1
    obtain ⟨i, rfl, hi, P1⟩ := hrel
    by_cases h1 : i < l
    · have hd1 : decide ((i : Int) < (l : Int)) = true := decide_eq_true (by omega)
      by_cases h20 : i < 20
      · have hd2 : decide ((i : Int) < 20) = true := decide_eq_true (by omega)
        obtain ⟨g, rfl⟩ : ∃ g, gk = g + 1 := ⟨gk - 1, by omega⟩
        have HIG : Hid (i + (g + 1) = l) := hi
        have hi' : (i : Int) < (l : Int) := by omega
        have rx := HA.out _ P1.out.1
        rcases rx.cells with h0 | ⟨gb, goff, ego, hcg⟩
        · omega
        subst ego
        have gg := hcg i h1
        have rg := rx.each i h1
        have hx2 := HLL.out i h1
        obtain ⟨hxl, hxt⟩ := HLE.out i h1
        obtain ⟨x1, ex1⟩ : ∃ t, (gv i).1 = t := ⟨_, rfl⟩
        obtain ⟨x2, ex2⟩ : ∃ t, (gv i).2.1 = t := ⟨_, rfl⟩
        obtain ⟨x3, ex3⟩ : ∃ t, (gv i).2.2 = t := ⟨_, rfl⟩
        obtain ⟨us, hus⟩ : ∃ us, css[i]?.getD [] = us := ⟨_, rfl⟩
        rw [ex1, ex2, ex3] at rg gg
        rw [ex2] at hx2 hxl
        rw [hus] at rg hxl hxt
        have HLN : Hid (us.length = x2) := hxl
        have HLT : Hid (∀ x ∈ us, x < 18446744073709551616) := hxt
        have RG0 : Hid (RdF wr x1 x2 x3 us) := rg
        have CG0 : Hid (wr.cell? ⟨gb, goff + i, none⟩ = some (.slice x1 x2 x3)) := gg
        clear rx hcg rg ex1 ex2 ex3 hi hus hxl hxt
        go_wp2_with fail
        refine Calls.mono (bits10_any x1 x2 x3 us _ RG0.out hx2) ?_
        rintro e w4 ⟨v4, rfl, ho4, b4⟩
        obtain ⟨bo, bc, rfl, hrd⟩ := rdU_own ho4
        rw [HLN.out] at hrd ⊢
        have RB4 : Hid (RdUs w4 bo x2 bc us) := hrd
        have P4 : Hid (Below w.heap.size w w4 ∧ w4.heap[w.heap.size]? = some (.cells #[.int .i64 z.N, .slice z.co z.cn z.cc, .slice z.io z.dn z.dc, .slice z.go z.gn z.gc, .slice z.ro z.rn z.rc, .bool z.bad] 26) ∧ w4.heap[BU]? = some (.cells #[.int .i64 u.N, .slice u.co u.cn u.cc, .slice u.io u.dn u.dc, .slice u.go u.gn u.gc, .slice u.ro u.rn u.rc, .bool u.bad] 30) ∧ Below X3.heap.size X3 w4) := ⟨to_call P1.out.1 b4, kept b4 P1.out.2.1, kept b4 P1.out.2.2.1, to_call P1.out.2.2.2 b4⟩
        have RG : Hid (RdF w4 x1 x2 x3 us) := RG0.out.later b4
        have CG : Hid (w4.cell? ⟨gb, goff + i, none⟩ = some (.slice x1 x2 x3)) := cell_later CG0.out b4
        clear ho4 b4 hrd P1 RG0 CG0 gg
        go_upto_region 6 with fail
        have bX : Below w4.heap.size w4 w4.drew := (Below.refl _ _).drew
        refine wp_region_noPanic ?_
        refine wp_region_held_drew (S := (fun V => Below w4.heap.size w4 V)) (by kernel_rfl) bX (fun _ => ?_)
        refine takeH 38 (i := 0) (v := .agg #[.int .i64 z.N, .slice z.co z.cn z.cc, .slice z.io z.dn z.dc, .slice z.go z.gn z.gc, .slice z.ro z.rn z.rc, .bool z.bad]) rfl rfl (by kernel_rfl) (by kernel_rfl) (by kernel_rfl) (fun _ _ _ h => h) (Or.inl ⟨by kernel_rfl, fun w' hSw => ex_loadRN _ 26 _ rfl w.heap.size (by kernel_rfl) w' _ (kept hSw P4.out.2.1) _ Try.underlying26 rfl 6 Try.infoZ rfl⟩) bX ?_
        try simp only [Act.put, List.setIfInBounds_toArray, List.set_cons_zero, List.set_cons_succ]
        refine takeH 39 (i := 1) (v := ?_) rfl rfl (by kernel_rfl) (by kernel_rfl) (by kernel_rfl) (fun _ _ _ h => h) (Or.inl ⟨by kernel_rfl, ?_⟩) bX ?_
        rotate_left
        · intro w' hSw; have s0 := cell_later CG.out hSw; go_simp; try with_reducible rfl
        try simp only [Act.put, List.setIfInBounds_toArray, List.set_cons_zero, List.set_cons_succ]
        refine takeH 40 (i := 2) (v := ?_) rfl rfl (by kernel_rfl) (by kernel_rfl) (by kernel_rfl) (fun _ _ _ h => h) (Or.inl ⟨by kernel_rfl, ?_⟩) bX ?_
        rotate_left
        · intro w' hSw; have s0 := cell_later CG.out hSw; go_simp; try with_reducible rfl
        try simp only [Act.put, List.setIfInBounds_toArray, List.set_cons_zero, List.set_cons_succ]
        refine takeH 41 (i := 3) (v := ?_) rfl rfl (by kernel_rfl) (by kernel_rfl) (by kernel_rfl) (fun _ _ _ h => h) (Or.inl ⟨by kernel_rfl, ?_⟩) bX ?_
        rotate_left
        · intro w' hSw; have s0 := cell_later CG.out hSw; go_simp; try with_reducible rfl
        try simp only [Act.put, List.setIfInBounds_toArray, List.set_cons_zero, List.set_cons_succ]
        refine takeH 42 (i := 4) (v := ?_) rfl rfl (by kernel_rfl) (by kernel_rfl) (by kernel_rfl) (fun _ _ _ h => h) (Or.inl ⟨by kernel_rfl, ?_⟩) bX ?_
        rotate_left
        · intro w' hSw; have s0 := cell_later CG.out hSw; go_simp; try with_reducible rfl
        try simp only [Act.put, List.setIfInBounds_toArray, List.set_cons_zero, List.set_cons_succ]
        refine wpAnyH_ready (rs := [5]) (by kernel_rfl) (by simp) ?_
        refine consH _ rfl (hopCd 43 rfl (by kernel_rfl) rfl (by kernel_rfl) (Calls.mono (margin_any z x1 x2 x3 us _ (HZ.out _ (to_call P4.out.1 bX)) HD.out (RG.out.later bX)) ?_)) AllReadyH.nil
        rintro e V1 ⟨mu, mb, rfl, hm, b1⟩
        have bX : Below w4.heap.size w4 V1 := to_call bX b1
        clear b1
        refine ⟨_, rfl, bX, ?_⟩
        try simp only [Act.put, List.setIfInBounds_toArray, List.set_cons_zero, List.set_cons_succ]
        refine takeH 37 (i := 6) (v := ?_) rfl rfl (by kernel_rfl) (by kernel_rfl) (by kernel_rfl) (fun _ _ _ h => h) (Or.inl ⟨by kernel_rfl, ?_⟩) bX ?_
        rotate_left
        · intro w' hSw; skip; go_simp; try with_reducible rfl
        try simp only [Act.put, List.setIfInBounds_toArray, List.set_cons_zero, List.set_cons_succ]
        refine takeH 44 (i := 7) (v := ?_) rfl rfl (by kernel_rfl) (by kernel_rfl) (by kernel_rfl) (fun _ _ _ h => h) (Or.inl ⟨by kernel_rfl, ?_⟩) bX ?_
        rotate_left
        · intro w' hSw; skip; go_simp; try with_reducible rfl
        try simp only [Act.put, List.setIfInBounds_toArray, List.set_cons_zero, List.set_cons_succ]
        refine takeH 45 (i := 8) (v := ?_) rfl rfl (by kernel_rfl) (by kernel_rfl) (by kernel_rfl) (fun _ _ _ h => h) (Or.inl ⟨by kernel_rfl, ?_⟩) bX ?_
        rotate_left
        · intro w' hSw; skip; go_simp; try with_reducible rfl
        try simp only [Act.put, List.setIfInBounds_toArray, List.set_cons_zero, List.set_cons_succ]
        refine takeH 10 (i := 9) (v := ?_) rfl rfl (by kernel_rfl) (by kernel_rfl) (by kernel_rfl) (fun _ _ _ h => h) (Or.inl ⟨by kernel_rfl, ?_⟩) bX ?_
        rotate_left
        · intro w' hSw; skip; go_simp; try with_reducible rfl
        try simp only [Act.put, List.setIfInBounds_toArray, List.set_cons_zero, List.set_cons_succ]
        refine takeH 11 (i := 10) (v := ?_) rfl rfl (by kernel_rfl) (by kernel_rfl) (by kernel_rfl) (fun _ _ _ h => h) (Or.inl ⟨by kernel_rfl, ?_⟩) bX ?_
        rotate_left
        · intro w' hSw; skip; go_simp; try with_reducible rfl
        try simp only [Act.put, List.setIfInBounds_toArray, List.set_cons_zero, List.set_cons_succ]
        refine wpAnyH_done (by kernel_rfl) ?_ _
        refine NoPanic.normal ?_
        try simp only [Act.put, List.setIfInBounds_toArray, List.set_cons_zero, List.set_cons_succ]
        have P5 : Hid (Below w.heap.size w V1 ∧ V1.heap[w.heap.size]? = some (.cells #[.int .i64 z.N, .slice z.co z.cn z.cc, .slice z.io z.dn z.dc, .slice z.go z.gn z.gc, .slice z.ro z.rn z.rc, .bool z.bad] 26) ∧ V1.heap[BU]? = some (.cells #[.int .i64 u.N, .slice u.co u.cn u.cc, .slice u.io u.dn u.dc, .slice u.go u.gn u.gc, .slice u.ro u.rn u.rc, .bool u.bad] 30) ∧ Below X3.heap.size X3 V1) := ⟨to_call P4.out.1 bX, kept bX P4.out.2.1, kept bX P4.out.2.2.1, to_call P4.out.2.2.2 bX⟩
        have HM : Hid (MgR z us mu mb) := hm
        have RB5 : Hid (RdUs V1 bo x2 bc us) := RB4.out.later bX
        have RG5 : Hid (RdF V1 x1 x2 x3 us) := RG.out.later bX
        have CG5 : Hid (V1.cell? ⟨gb, goff + i, none⟩ = some (.slice x1 x2 x3)) := cell_later CG.out bX
        clear hm bX P4 RB4 RG CG
        go_wp2_with (first | (refine wpList_load_row (by rfl) 30 _ (by rfl) BU _ (by rfl) P5.out.2.2.1 _ Try.underlying30 rfl 6 Try.infoZu (by rfl) ?_))
        refine Calls.mono (refMargin_any z u bo x2 bc us _ HZ0.out HZW.out HD.out (HU.out _ P5.out.2.2.2) HK.out RB5.out HLT.out hx2) ?_
        rintro e w6 ⟨⟨r, b, rfl, hm2⟩, b6⟩
        obtain ⟨er, eb⟩ := HM.out.uniq hm2
        subst er eb
        have P6 : Hid (Below w.heap.size w w6 ∧ w6.heap[w.heap.size]? = some (.cells #[.int .i64 z.N, .slice z.co z.cn z.cc, .slice z.io z.dn z.dc, .slice z.go z.gn z.gc, .slice z.ro z.rn z.rc, .bool z.bad] 26) ∧ w6.heap[BU]? = some (.cells #[.int .i64 u.N, .slice u.co u.cn u.cc, .slice u.io u.dn u.dc, .slice u.go u.gn u.gc, .slice u.ro u.rn u.rc, .bool u.bad] 30) ∧ Below X3.heap.size X3 w6) := ⟨to_call P5.out.1 b6, kept b6 P5.out.2.1, kept b6 P5.out.2.2.1, to_call P5.out.2.2.2 b6⟩
        have RB : Hid (RdUs w6 bo x2 bc us) := RB5.out.later b6
        have RG : Hid (RdF w6 x1 x2 x3 us) := RG5.out.later b6
        have CG : Hid (w6.cell? ⟨gb, goff + i, none⟩ = some (.slice x1 x2 x3)) := cell_later CG5.out b6
        clear hm2 b6 P5 RB5 RG5 CG5 HM
        go_upto_region 8 with fail
        clear hd1 hd2
        have bX : Below w6.heap.size w6 w6.drew := (Below.refl _ _).drew
        refine wp_region_noPanic ?_
        refine wp_region_held_drew (S := (fun V => Below w6.heap.size w6 V)) (by kernel_rfl) bX (fun _ => ?_)
        refine takeH 52 (i := 0) (v := ?_) rfl rfl (by kernel_rfl) (by kernel_rfl) (by kernel_rfl) (fun _ _ _ h => h) (Or.inl ⟨by kernel_rfl, ?_⟩) bX ?_
        rotate_left
        · intro w' hSw; skip; go_simp; try with_reducible rfl
        try simp only [Act.put, List.setIfInBounds_toArray, List.set_cons_zero, List.set_cons_succ]
        refine takeH 53 (i := 1) (v := ?_) rfl rfl (by kernel_rfl) (by kernel_rfl) (by kernel_rfl) (fun _ _ _ h => h) (Or.inl ⟨by kernel_rfl, ?_⟩) bX ?_
        rotate_left
        · intro w' hSw; skip; go_simp; try with_reducible rfl
        try simp only [Act.put, List.setIfInBounds_toArray, List.set_cons_zero, List.set_cons_succ]
        refine takeH 54 (i := 2) (v := ?_) rfl rfl (by kernel_rfl) (by kernel_rfl) (by kernel_rfl) (fun _ _ _ h => h) (Or.inl ⟨by kernel_rfl, ?_⟩) bX ?_
        rotate_left
        · intro w' hSw; skip; go_simp; try with_reducible rfl
        try simp only [Act.put, List.setIfInBounds_toArray, List.set_cons_zero, List.set_cons_succ]
        refine takeH 55 (i := 3) (v := ?_) rfl rfl (by kernel_rfl) (by kernel_rfl) (by kernel_rfl) (fun _ _ _ h => h) (Or.inl ⟨by kernel_rfl, ?_⟩) bX ?_
        rotate_left
        · intro w' hSw; skip; go_simp; try with_reducible rfl
        try simp only [Act.put, List.setIfInBounds_toArray, List.set_cons_zero, List.set_cons_succ]
        refine takeH 56 (i := 4) (v := ?_) rfl rfl (by kernel_rfl) (by kernel_rfl) (by kernel_rfl) (fun _ _ _ h => h) (Or.inl ⟨by kernel_rfl, ?_⟩) bX ?_
        rotate_left
        · intro w' hSw; skip; go_simp; try with_reducible rfl
        try simp only [Act.put, List.setIfInBounds_toArray, List.set_cons_zero, List.set_cons_succ]
        refine takeH 58 (i := 6) (v := ?_) rfl rfl (by kernel_rfl) (by kernel_rfl) (by kernel_rfl) (fun _ _ _ h => h) (Or.inl ⟨by kernel_rfl, ?_⟩) bX ?_
        rotate_left
        · intro w' hSw; skip; go_simp; try with_reducible rfl
        try simp only [Act.put, List.setIfInBounds_toArray, List.set_cons_zero, List.set_cons_succ]
        refine wpAnyH_ready (rs := [5]) (by kernel_rfl) (by simp) ?_
        refine consH _ rfl (hopCd 57 rfl (by kernel_rfl) rfl (by kernel_rfl) (Calls.mono (apiBits_any mu _) ?_)) AllReadyH.nil
        rintro e V1 ⟨rfl, hq⟩
        have bX : Below w6.heap.size w6 V1 := hq ▸ bX
        clear hq
        refine ⟨_, rfl, bX, ?_⟩
        try simp only [Act.put, List.setIfInBounds_toArray, List.set_cons_zero, List.set_cons_succ]
        refine takeH 59 (i := 7) (v := ?_) rfl rfl (by kernel_rfl) (by kernel_rfl) (by kernel_rfl) (fun _ _ _ h => h) (Or.inl ⟨by kernel_rfl, ?_⟩) bX ?_
        rotate_left
        · intro w' hSw; skip; go_simp; try with_reducible rfl
        try simp only [Act.put, List.setIfInBounds_toArray, List.set_cons_zero, List.set_cons_succ]
        refine takeH 60 (i := 8) (v := ?_) rfl rfl (by kernel_rfl) (by kernel_rfl) (by kernel_rfl) (fun _ _ _ h => h) (Or.inl ⟨by kernel_rfl, ?_⟩) bX ?_
        rotate_left
        · intro w' hSw; skip; go_simp; try with_reducible rfl
        try simp only [Act.put, List.setIfInBounds_toArray, List.set_cons_zero, List.set_cons_succ]
        refine takeH 61 (i := 9) (v := ?_) rfl rfl (by kernel_rfl) (by kernel_rfl) (by kernel_rfl) (fun _ _ _ h => h) (Or.inl ⟨by kernel_rfl, ?_⟩) bX ?_
        rotate_left
        · intro w' hSw; skip; go_simp; try with_reducible rfl
        try simp only [Act.put, List.setIfInBounds_toArray, List.set_cons_zero, List.set_cons_succ]
        refine takeH 62 (i := 10) (v := .agg #[.int .i64 z.N, .slice z.co z.cn z.cc, .slice z.io z.dn z.dc, .slice z.go z.gn z.gc, .slice z.ro z.rn z.rc, .bool z.bad]) rfl rfl (by kernel_rfl) (by kernel_rfl) (by kernel_rfl) (fun _ _ _ h => h) (Or.inl ⟨by kernel_rfl, fun w' hSw => ex_loadRN _ 26 _ rfl w.heap.size (by kernel_rfl) w' _ (kept hSw P6.out.2.1) _ Try.underlying26 rfl 6 Try.infoZ rfl⟩) bX ?_
        try simp only [Act.put, List.setIfInBounds_toArray, List.set_cons_zero, List.set_cons_succ]
        refine takeH 63 (i := 11) (v := ?_) rfl rfl (by kernel_rfl) (by kernel_rfl) (by kernel_rfl) (fun _ _ _ h => h) (Or.inl ⟨by kernel_rfl, ?_⟩) bX ?_
        rotate_left
        · intro w' hSw; have s0 := cell_later CG.out hSw; go_simp; try with_reducible rfl
        try simp only [Act.put, List.setIfInBounds_toArray, List.set_cons_zero, List.set_cons_succ]
        refine takeH 64 (i := 12) (v := ?_) rfl rfl (by kernel_rfl) (by kernel_rfl) (by kernel_rfl) (fun _ _ _ h => h) (Or.inl ⟨by kernel_rfl, ?_⟩) bX ?_
        rotate_left
        · intro w' hSw; have s0 := cell_later CG.out hSw; go_simp; try with_reducible rfl
        try simp only [Act.put, List.setIfInBounds_toArray, List.set_cons_zero, List.set_cons_succ]
        refine takeH 65 (i := 13) (v := ?_) rfl rfl (by kernel_rfl) (by kernel_rfl) (by kernel_rfl) (fun _ _ _ h => h) (Or.inl ⟨by kernel_rfl, ?_⟩) bX ?_
        rotate_left
        · intro w' hSw; have s0 := cell_later CG.out hSw; go_simp; try with_reducible rfl
        try simp only [Act.put, List.setIfInBounds_toArray, List.set_cons_zero, List.set_cons_succ]
        refine takeH 66 (i := 14) (v := ?_) rfl rfl (by kernel_rfl) (by kernel_rfl) (by kernel_rfl) (fun _ _ _ h => h) (Or.inl ⟨by kernel_rfl, ?_⟩) bX ?_
        rotate_left
        · intro w' hSw; have s0 := cell_later CG.out hSw; go_simp; try with_reducible rfl
        try simp only [Act.put, List.setIfInBounds_toArray, List.set_cons_zero, List.set_cons_succ]
        refine takeH 67 (i := 15) (v := ?_) rfl rfl (by kernel_rfl) (by kernel_rfl) (by kernel_rfl) (fun _ _ _ h => h) (Or.inl ⟨by kernel_rfl, ?_⟩) bX ?_
        rotate_left
        · intro w' hSw; have s0 := cell_later CG.out hSw; go_simp; try with_reducible rfl
        try simp only [Act.put, List.setIfInBounds_toArray, List.set_cons_zero, List.set_cons_succ]
        refine takeH 69 (i := 17) (v := .agg #[.int .i64 u.N, .slice u.co u.cn u.cc, .slice u.io u.dn u.dc, .slice u.go u.gn u.gc, .slice u.ro u.rn u.rc, .bool u.bad]) rfl rfl (by kernel_rfl) (by kernel_rfl) (by kernel_rfl) (fun _ _ _ h => h) (Or.inl ⟨by kernel_rfl, fun w' hSw => ex_loadRN _ 30 _ rfl BU (by kernel_rfl) w' _ (kept hSw P6.out.2.2.1) _ Try.underlying30 rfl 6 Try.infoZu rfl⟩) bX ?_
        try simp only [Act.put, List.setIfInBounds_toArray, List.set_cons_zero, List.set_cons_succ]
        refine takeH 70 (i := 18) (v := ?_) rfl rfl (by kernel_rfl) (by kernel_rfl) (by kernel_rfl) (fun _ _ _ h => h) (Or.inl ⟨by kernel_rfl, ?_⟩) bX ?_
        rotate_left
        · intro w' hSw; skip; go_simp; try with_reducible rfl
        try simp only [Act.put, List.setIfInBounds_toArray, List.set_cons_zero, List.set_cons_succ]
        refine takeH 71 (i := 19) (v := ?_) rfl rfl (by kernel_rfl) (by kernel_rfl) (by kernel_rfl) (fun _ _ _ h => h) (Or.inl ⟨by kernel_rfl, ?_⟩) bX ?_
        rotate_left
        · intro w' hSw; skip; go_simp; try with_reducible rfl
        try simp only [Act.put, List.setIfInBounds_toArray, List.set_cons_zero, List.set_cons_succ]
        refine wpAnyH_ready (rs := [16]) (by kernel_rfl) (by simp) ?_
        refine consH _ rfl (hopCd 68 rfl (by kernel_rfl) rfl (by kernel_rfl) (Calls.mono (signs_any z x1 x2 x3 us kk _ (HZ.out _ (to_call P6.out.1 bX)) HD.out (RG.out.later bX) HID.out) ?_)) AllReadyH.nil
        rintro e V2 ⟨⟨o1, n1, rfl, hs1⟩, b2⟩
        have bX : Below w6.heap.size w6 V2 := to_call bX b2
        clear b2
        have rd1 := hs1.rd
        clear hs1
        refine ⟨_, rfl, bX, ?_⟩
        try simp only [Act.put, List.setIfInBounds_toArray, List.set_cons_zero, List.set_cons_succ]
        refine wpAnyH_ready (rs := [20]) (by kernel_rfl) (by simp) ?_
        refine consH _ rfl (hopCd 72 rfl (by kernel_rfl) rfl (by kernel_rfl) (Calls.mono (refSigns_any z u bo x2 bc us kk _ HZ0.out HZW.out HD.out (HU.out _ (to_call P6.out.2.2.2 bX)) HK.out (RB.out.later bX) HLT.out hx2 HID.out) ?_)) AllReadyH.nil
        rintro e V3 ⟨⟨o2, n2, rfl, hs2⟩, b3⟩
        have rd1 := rd1.later b3
        have bX : Below w6.heap.size w6 V3 := to_call bX b3
        clear b3
        have rd2 := hs2.rd
        clear hs2
        refine ⟨_, rfl, bX, ?_⟩
        try simp only [Act.put, List.setIfInBounds_toArray, List.set_cons_zero, List.set_cons_succ]
        refine wpAnyH_ready (rs := [21]) (by kernel_rfl) (by simp) ?_
        refine consH _ rfl (hopCd 73 rfl (by kernel_rfl) rfl (by kernel_rfl) (Calls.mono (sameSelf o1 o2 n1 n2 n1 n2 _ _ rd1 rd2) ?_)) AllReadyH.nil
        rintro e V4 ⟨rfl, b4⟩
        have bX : Below w6.heap.size w6 V4 := to_call bX b4
        clear b4
        clear rd1 rd2
        refine ⟨_, rfl, bX, ?_⟩
        try simp only [Act.put, List.setIfInBounds_toArray, List.set_cons_zero, List.set_cons_succ]
        refine takeH 74 (i := 22) (v := ?_) rfl rfl (by kernel_rfl) (by kernel_rfl) (by kernel_rfl) (fun _ _ _ h => h) (Or.inl ⟨by kernel_rfl, ?_⟩) bX ?_
        rotate_left
        · intro w' hSw; skip; go_simp; try with_reducible rfl
        try simp only [Act.put, List.setIfInBounds_toArray, List.set_cons_zero, List.set_cons_succ]
        refine takeH 75 (i := 23) (v := ?_) rfl rfl (by kernel_rfl) (by kernel_rfl) (by kernel_rfl) (fun _ _ _ h => h) (Or.inl ⟨by kernel_rfl, ?_⟩) bX ?_
        rotate_left
        · intro w' hSw; skip; go_simp; try with_reducible rfl
        try simp only [Act.put, List.setIfInBounds_toArray, List.set_cons_zero, List.set_cons_succ]
        refine wpAnyH_done (by kernel_rfl) ?_ _
        refine NoPanic.normal ?_
        try simp only [Act.put, List.setIfInBounds_toArray, List.set_cons_zero, List.set_cons_succ]
        have P7 : Hid (Below w.heap.size w V4 ∧ V4.heap[w.heap.size]? = some (.cells #[.int .i64 z.N, .slice z.co z.cn z.cc, .slice z.io z.dn z.dc, .slice z.go z.gn z.gc, .slice z.ro z.rn z.rc, .bool z.bad] 26) ∧ V4.heap[BU]? = some (.cells #[.int .i64 u.N, .slice u.co u.cn u.cc, .slice u.io u.dn u.dc, .slice u.go u.gn u.gc, .slice u.ro u.rn u.rc, .bool u.bad] 30) ∧ Below X3.heap.size X3 V4) := ⟨to_call P6.out.1 bX, kept bX P6.out.2.1, kept bX P6.out.2.2.1, to_call P6.out.2.2.2 bX⟩
        clear bX P6 RB RG CG
        go_wp2_with fail
        go_roundg g
        case measure => omega
        case rel => exact ⟨i + 1, by go_num, by have := HIG.out; omega, P7⟩
      · have hd2 : decide ((i : Int) < 20) = false := decide_eq_false (by omega)
        have hd3 : decide (i < 20) = false := decide_eq_false h20
        clear hi
        go_wp2_with (first | (refine wpList_load_row (by rfl) 26 _ (by rfl) w.heap.size _ (by rfl) P1.out.2.1 _ Try.underlying26 rfl 6 Try.infoZ (by rfl) ?_))
        refine Calls.mono (worst_any z ao l c gv css _ (HZ.out _ P1.out.1) HD.out (HA.out _ P1.out.1)) ?_
        rintro e w3 ⟨⟨a1, r1, b1', rfl, hW1⟩, b3⟩
        have P5 : Hid (Below w.heap.size w w3 ∧ w3.heap[w.heap.size]? = some (.cells #[.int .i64 z.N, .slice z.co z.cn z.cc, .slice z.io z.dn z.dc, .slice z.go z.gn z.gc, .slice z.ro z.rn z.rc, .bool z.bad] 26) ∧ w3.heap[BU]? = some (.cells #[.int .i64 u.N, .slice u.co u.cn u.cc, .slice u.io u.dn u.dc, .slice u.go u.gn u.gc, .slice u.ro u.rn u.rc, .bool u.bad] 30) ∧ Below X3.heap.size X3 w3) := ⟨to_call P1.out.1 b3, kept b3 P1.out.2.1, kept b3 P1.out.2.2.1, to_call P1.out.2.2.2 b3⟩
        have HW1 : Hid (WoR z css l a1 r1 b1') := hW1
        clear b3 hW1 P1
        go_upto_region 11 with fail
        have bX : Below w3.heap.size w3 w3.drew := (Below.refl _ _).drew
        refine wp_region_noPanic ?_
        refine wp_region_held_drew (S := (fun V => Below w3.heap.size w3 V)) (by kernel_rfl) bX (fun _ => ?_)
        refine takeH 84 (i := 0) (v := .agg #[.int .i64 u.N, .slice u.co u.cn u.cc, .slice u.io u.dn u.dc, .slice u.go u.gn u.gc, .slice u.ro u.rn u.rc, .bool u.bad]) rfl rfl (by kernel_rfl) (by kernel_rfl) (by kernel_rfl) (fun _ _ _ h => h) (Or.inl ⟨by kernel_rfl, fun w' hSw => ex_loadRN _ 30 _ rfl BU (by kernel_rfl) w' _ (kept hSw P5.out.2.2.1) _ Try.underlying30 rfl 6 Try.infoZu rfl⟩) bX ?_
        try simp only [Act.put, List.setIfInBounds_toArray, List.set_cons_zero, List.set_cons_succ]
        refine takeH 85 (i := 1) (v := ?_) rfl rfl (by kernel_rfl) (by kernel_rfl) (by kernel_rfl) (fun _ _ _ h => h) (Or.inl ⟨by kernel_rfl, ?_⟩) bX ?_
        rotate_left
        · intro w' hSw; skip; go_simp; try with_reducible rfl
        try simp only [Act.put, List.setIfInBounds_toArray, List.set_cons_zero, List.set_cons_succ]
        refine wpAnyH_ready (rs := [2]) (by kernel_rfl) (by simp) ?_
        refine consH _ rfl (hopCd 86 rfl (by kernel_rfl) rfl (by kernel_rfl) (Calls.mono (lists_any ao l c gv css _ (HA.out _ (to_call P5.out.1 bX)) hlm HLL.out) ?_)) AllReadyH.nil
        rintro e V1 ⟨⟨go, gc, gv', rfl, hg⟩, b1⟩
        have bX : Below w3.heap.size w3 V1 := to_call bX b1
        clear b1
        refine ⟨_, rfl, bX, ?_⟩
        try simp only [Act.put, List.setIfInBounds_toArray, List.set_cons_zero, List.set_cons_succ]
        refine wpAnyH_ready (rs := [3]) (by kernel_rfl) (by simp) ?_
        refine consH _ rfl (hopCd 87 rfl (by kernel_rfl) rfl (by kernel_rfl) (Calls.mono (refWorst_any z u go l gc gv' css _ HZ0.out HZW.out HD.out (HU.out _ (to_call P5.out.2.2.2 bX)) HK.out hg.out (fun j hj => (HLE.out j hj).2) (fun j hj => by rw [(HLE.out j hj).1]; exact HLL.out j hj)) ?_)) AllReadyH.nil
        rintro e V2 ⟨⟨a2, r2, b2', rfl, hW2⟩, b2⟩
        have bX : Below w3.heap.size w3 V2 := to_call bX b2
        clear b2
        refine ⟨_, rfl, bX, ?_⟩
        try simp only [Act.put, List.setIfInBounds_toArray, List.set_cons_zero, List.set_cons_succ]
        refine takeH 83 (i := 4) (v := ?_) rfl rfl (by kernel_rfl) (by kernel_rfl) (by kernel_rfl) (fun _ _ _ h => h) (Or.inl ⟨by kernel_rfl, ?_⟩) bX ?_
        rotate_left
        · intro w' hSw; skip; go_simp; try with_reducible rfl
        try simp only [Act.put, List.setIfInBounds_toArray, List.set_cons_zero, List.set_cons_succ]
        refine takeH 88 (i := 5) (v := ?_) rfl rfl (by kernel_rfl) (by kernel_rfl) (by kernel_rfl) (fun _ _ _ h => h) (Or.inl ⟨by kernel_rfl, ?_⟩) bX ?_
        rotate_left
        · intro w' hSw; skip; go_simp; try with_reducible rfl
        try simp only [Act.put, List.setIfInBounds_toArray, List.set_cons_zero, List.set_cons_succ]
        refine takeH 89 (i := 6) (v := ?_) rfl rfl (by kernel_rfl) (by kernel_rfl) (by kernel_rfl) (fun _ _ _ h => h) (Or.inl ⟨by kernel_rfl, ?_⟩) bX ?_
        rotate_left
        · intro w' hSw; skip; go_simp; try with_reducible rfl
        try simp only [Act.put, List.setIfInBounds_toArray, List.set_cons_zero, List.set_cons_succ]
        refine takeH 90 (i := 7) (v := ?_) rfl rfl (by kernel_rfl) (by kernel_rfl) (by kernel_rfl) (fun _ _ _ h => h) (Or.inl ⟨by kernel_rfl, ?_⟩) bX ?_
        rotate_left
        · intro w' hSw; skip; go_simp; try with_reducible rfl
        try simp only [Act.put, List.setIfInBounds_toArray, List.set_cons_zero, List.set_cons_succ]
        refine takeH 17 (i := 8) (v := ?_) rfl rfl (by kernel_rfl) (by kernel_rfl) (by kernel_rfl) (fun _ _ _ h => h) (Or.inl ⟨by kernel_rfl, ?_⟩) bX ?_
        rotate_left
        · intro w' hSw; skip; go_simp; try with_reducible rfl
        try simp only [Act.put, List.setIfInBounds_toArray, List.set_cons_zero, List.set_cons_succ]
        refine takeH 18 (i := 9) (v := ?_) rfl rfl (by kernel_rfl) (by kernel_rfl) (by kernel_rfl) (fun _ _ _ h => h) (Or.inl ⟨by kernel_rfl, ?_⟩) bX ?_
        rotate_left
        · intro w' hSw; skip; go_simp; try with_reducible rfl
        try simp only [Act.put, List.setIfInBounds_toArray, List.set_cons_zero, List.set_cons_succ]
        refine takeH 19 (i := 10) (v := ?_) rfl rfl (by kernel_rfl) (by kernel_rfl) (by kernel_rfl) (fun _ _ _ h => h) (Or.inl ⟨by kernel_rfl, ?_⟩) bX ?_
        rotate_left
        · intro w' hSw; skip; go_simp; try with_reducible rfl
        try simp only [Act.put, List.setIfInBounds_toArray, List.set_cons_zero, List.set_cons_succ]
        refine wpAnyH_done (by kernel_rfl) ?_ _
        refine NoPanic.normal ?_
        try simp only [Act.put, List.setIfInBounds_toArray, List.set_cons_zero, List.set_cons_succ]
        obtain ⟨ea, er, eb⟩ := HW1.out.uniq hW2
        subst ea er eb
        have HB2 : Hid (Below w.heap.size w V2) := to_call P5.out.1 bX
        clear bX hW2 HW1 hg P5
        go_wp2_with (first | (go_at_call 10; refine (apiBits_any _ _).mono ?_; rintro e8 w8 ⟨rfl, hw8⟩; rw [hw8]; clear hw8) | (go_at_call 17; refine (awake_any _).mono ?_; rintro e8 w9 ⟨rfl, b9⟩))
        go_ret
        exact ⟨rfl, to_call HB2.out b9⟩
    · have hd1 : decide ((i : Int) < (l : Int)) = false := decide_eq_false (by omega)
      have hd3 : decide (i < l) = false := decide_eq_false h1
      clear hi
      go_wp2_with (first | (refine wpList_load_row (by rfl) 26 _ (by rfl) w.heap.size _ (by rfl) P1.out.2.1 _ Try.underlying26 rfl 6 Try.infoZ (by rfl) ?_))
      refine Calls.mono (worst_any z ao l c gv css _ (HZ.out _ P1.out.1) HD.out (HA.out _ P1.out.1)) ?_
      rintro e w3 ⟨⟨a1, r1, b1', rfl, hW1⟩, b3⟩
      have P5 : Hid (Below w.heap.size w w3 ∧ w3.heap[w.heap.size]? = some (.cells #[.int .i64 z.N, .slice z.co z.cn z.cc, .slice z.io z.dn z.dc, .slice z.go z.gn z.gc, .slice z.ro z.rn z.rc, .bool z.bad] 26) ∧ w3.heap[BU]? = some (.cells #[.int .i64 u.N, .slice u.co u.cn u.cc, .slice u.io u.dn u.dc, .slice u.go u.gn u.gc, .slice u.ro u.rn u.rc, .bool u.bad] 30) ∧ Below X3.heap.size X3 w3) := ⟨to_call P1.out.1 b3, kept b3 P1.out.2.1, kept b3 P1.out.2.2.1, to_call P1.out.2.2.2 b3⟩
      have HW1 : Hid (WoR z css l a1 r1 b1') := hW1
      clear b3 hW1 P1
      go_upto_region 11 with fail
      have bX : Below w3.heap.size w3 w3.drew := (Below.refl _ _).drew
      refine wp_region_noPanic ?_
      refine wp_region_held_drew (S := (fun V => Below w3.heap.size w3 V)) (by kernel_rfl) bX (fun _ => ?_)
      refine takeH 84 (i := 0) (v := .agg #[.int .i64 u.N, .slice u.co u.cn u.cc, .slice u.io u.dn u.dc, .slice u.go u.gn u.gc, .slice u.ro u.rn u.rc, .bool u.bad]) rfl rfl (by kernel_rfl) (by kernel_rfl) (by kernel_rfl) (fun _ _ _ h => h) (Or.inl ⟨by kernel_rfl, fun w' hSw => ex_loadRN _ 30 _ rfl BU (by kernel_rfl) w' _ (kept hSw P5.out.2.2.1) _ Try.underlying30 rfl 6 Try.infoZu rfl⟩) bX ?_
      try simp only [Act.put, List.setIfInBounds_toArray, List.set_cons_zero, List.set_cons_succ]
      refine takeH 85 (i := 1) (v := ?_) rfl rfl (by kernel_rfl) (by kernel_rfl) (by kernel_rfl) (fun _ _ _ h => h) (Or.inl ⟨by kernel_rfl, ?_⟩) bX ?_
      rotate_left
      · intro w' hSw; skip; go_simp; try with_reducible rfl
      try simp only [Act.put, List.setIfInBounds_toArray, List.set_cons_zero, List.set_cons_succ]
      refine wpAnyH_ready (rs := [2]) (by kernel_rfl) (by simp) ?_
      refine consH _ rfl (hopCd 86 rfl (by kernel_rfl) rfl (by kernel_rfl) (Calls.mono (lists_any ao l c gv css _ (HA.out _ (to_call P5.out.1 bX)) hlm HLL.out) ?_)) AllReadyH.nil
      rintro e V1 ⟨⟨go, gc, gv', rfl, hg⟩, b1⟩
      have bX : Below w3.heap.size w3 V1 := to_call bX b1
      clear b1
      refine ⟨_, rfl, bX, ?_⟩
      try simp only [Act.put, List.setIfInBounds_toArray, List.set_cons_zero, List.set_cons_succ]
      refine wpAnyH_ready (rs := [3]) (by kernel_rfl) (by simp) ?_
      refine consH _ rfl (hopCd 87 rfl (by kernel_rfl) rfl (by kernel_rfl) (Calls.mono (refWorst_any z u go l gc gv' css _ HZ0.out HZW.out HD.out (HU.out _ (to_call P5.out.2.2.2 bX)) HK.out hg.out (fun j hj => (HLE.out j hj).2) (fun j hj => by rw [(HLE.out j hj).1]; exact HLL.out j hj)) ?_)) AllReadyH.nil
      rintro e V2 ⟨⟨a2, r2, b2', rfl, hW2⟩, b2⟩
      have bX : Below w3.heap.size w3 V2 := to_call bX b2
      clear b2
      refine ⟨_, rfl, bX, ?_⟩
      try simp only [Act.put, List.setIfInBounds_toArray, List.set_cons_zero, List.set_cons_succ]
      refine takeH 83 (i := 4) (v := ?_) rfl rfl (by kernel_rfl) (by kernel_rfl) (by kernel_rfl) (fun _ _ _ h => h) (Or.inl ⟨by kernel_rfl, ?_⟩) bX ?_
      rotate_left
      · intro w' hSw; skip; go_simp; try with_reducible rfl
      try simp only [Act.put, List.setIfInBounds_toArray, List.set_cons_zero, List.set_cons_succ]
      refine takeH 88 (i := 5) (v := ?_) rfl rfl (by kernel_rfl) (by kernel_rfl) (by kernel_rfl) (fun _ _ _ h => h) (Or.inl ⟨by kernel_rfl, ?_⟩) bX ?_
      rotate_left
      · intro w' hSw; skip; go_simp; try with_reducible rfl
      try simp only [Act.put, List.setIfInBounds_toArray, List.set_cons_zero, List.set_cons_succ]
      refine takeH 89 (i := 6) (v := ?_) rfl rfl (by kernel_rfl) (by kernel_rfl) (by kernel_rfl) (fun _ _ _ h => h) (Or.inl ⟨by kernel_rfl, ?_⟩) bX ?_
      rotate_left
      · intro w' hSw; skip; go_simp; try with_reducible rfl
      try simp only [Act.put, List.setIfInBounds_toArray, List.set_cons_zero, List.set_cons_succ]
      refine takeH 90 (i := 7) (v := ?_) rfl rfl (by kernel_rfl) (by kernel_rfl) (by kernel_rfl) (fun _ _ _ h => h) (Or.inl ⟨by kernel_rfl, ?_⟩) bX ?_
      rotate_left
      · intro w' hSw; skip; go_simp; try with_reducible rfl
      try simp only [Act.put, List.setIfInBounds_toArray, List.set_cons_zero, List.set_cons_succ]
      refine takeH 17 (i := 8) (v := ?_) rfl rfl (by kernel_rfl) (by kernel_rfl) (by kernel_rfl) (fun _ _ _ h => h) (Or.inl ⟨by kernel_rfl, ?_⟩) bX ?_
      rotate_left
      · intro w' hSw; skip; go_simp; try with_reducible rfl
      try simp only [Act.put, List.setIfInBounds_toArray, List.set_cons_zero, List.set_cons_succ]
      refine takeH 18 (i := 9) (v := ?_) rfl rfl (by kernel_rfl) (by kernel_rfl) (by kernel_rfl) (fun _ _ _ h => h) (Or.inl ⟨by kernel_rfl, ?_⟩) bX ?_
      rotate_left
      · intro w' hSw; skip; go_simp; try with_reducible rfl
      try simp only [Act.put, List.setIfInBounds_toArray, List.set_cons_zero, List.set_cons_succ]
      refine takeH 19 (i := 10) (v := ?_) rfl rfl (by kernel_rfl) (by kernel_rfl) (by kernel_rfl) (fun _ _ _ h => h) (Or.inl ⟨by kernel_rfl, ?_⟩) bX ?_
      rotate_left
      · intro w' hSw; skip; go_simp; try with_reducible rfl
      try simp only [Act.put, List.setIfInBounds_toArray, List.set_cons_zero, List.set_cons_succ]
      refine wpAnyH_done (by kernel_rfl) ?_ _
      refine NoPanic.normal ?_
      try simp only [Act.put, List.setIfInBounds_toArray, List.set_cons_zero, List.set_cons_succ]
      obtain ⟨ea, er, eb⟩ := HW1.out.uniq hW2
      subst ea er eb
      have HB2 : Hid (Below w.heap.size w V2) := to_call P5.out.1 bX
      clear bX hW2 HW1 hg P5
      go_wp2_with (first | (go_at_call 10; refine (apiBits_any _ _).mono ?_; rintro e8 w8 ⟨rfl, hw8⟩; rw [hw8]; clear hw8) | (go_at_call 17; refine (awake_any _).mono ?_; rintro e8 w9 ⟨rfl, b9⟩))
      go_ret
      exact ⟨rfl, to_call HB2.out b9⟩
end Go.Proofs.Ytbjnkefjlaplkaa

namespace Go.Proofs.Ytbjnkefjlaplkaa.marginTellsDone
open Go.ChangeShapes Go.WideShapes Go.ChangeAt Go.RowKit
set_option linter.unusedVariables false
set_option maxRecDepth 100000
theorem i64_bounds {n : Int} (h : (Lit.int .i64 n).wf = true) : -9223372036854775808 ≤ n ∧ n ≤ 9223372036854775807 := by
  have h2 : (decide ((-9223372036854775808 : Int) ≤ n) && decide (n ≤ 9223372036854775807)) = true := h
  simpa using h2
theorem own : ownKnob Try.prog.godebug = none := by kernel_rfl
theorem laidOut : laidOutB Try.prog = true := by kernel_rfl
theorem reads (os : Os) {H : Type} (enc : TypeId × Value → H) : ∃ places, DataW.whole enc Try.prog ((World.holding Try.prog os ⟨#[], #[], []⟩).forCall (fun _ _ => 0) ⟨#[], #[.agg #[.int .i64 0, .slice none 0 0, .slice none 0 0, .slice none 0 0, .slice none 0 0, .bool false], .slice none 0 0, .int .i64 0], []⟩).memory Try.f3.params.toList Rows.marginTellsSpec.vars false (#[.agg #[.int .i64 0, .slice none 0 0, .slice none 0 0, .slice none 0 0, .slice none 0 0, .bool false], .slice none 0 0, .int .i64 0] : Array Value).toList 8 = some ([.agg [.lit (.int .i64 0), .nil, .nil, .nil, .nil, .lit (.bool false)], .nil, .lit (.int .i64 0)], [], places) :=
  ⟨[], by kernel_rfl⟩
theorem bounds {H : Type} {a0  a1  a2 : DataW H} (h : Rows.uptoSmall H [a0, a1, a2] = true) : Rows.uptoBulk a0 ≤ 1048576 ∧ Rows.uptoBulk a1 ≤ 1048576 ∧ Rows.uptoBulk a2 ≤ 1048576 := by
  have h2 : Rows.uptoBulkAll [a0, a1, a2] ≤ 1048576 := of_decide_eq_true h
  simp only [Rows.uptoBulkAll] at h2
  omega
theorem contract (H : Type) (enc : TypeId × Value → H) (W : World) (base : Nat) (args : Array Value) (ds gs : List (DataW H)) (before : List MemPlace)
    (hval : ∀ (j : Nat) t v, Try.f3.params[j]? = some t → args[j]? = some v → Value.okWide Try.prog W .any base t v)
    (hW : DataW.Whole enc Try.prog Try.f3.params.toList Rows.marginTellsSpec.vars false W args.toList ds gs before) (hk : Rows.uptoSmall H (ds ++ gs) = true) :
    Calls Try.prog 3 args W fun e W' => ∃ v, e = .returned v ∧ Rows.marginTellsSpec.post enc Try.prog Try.f3 false true false false W args v W' := by
  have hW' := hW
  obtain ⟨p, q, hA0, hV, rfl, hfz, hnd⟩ := hW
  have hA : DataW.TrodAll enc Try.prog W 0 (fun _ => true) true Try.f3.params.toList args.toList ds p := hA0
  rw [Try.params3] at hA hval
  obtain ⟨v0, vs0, d0, ds0, p0, q0, hargs, rfl, rfl, h0, r0⟩ := trodAll_cons hA
  obtain ⟨v1, vs1, d1, ds1, p1, q1, rfl, rfl, rfl, h1, r1⟩ := trodAll_cons r0
  obtain ⟨v2, vs2, d2, ds2, p2, q2, rfl, rfl, rfl, h2, r2⟩ := trodAll_cons r1
  obtain ⟨rfl, rfl, rfl⟩ := trodAll_nil r2
  obtain rfl : args = #[v0, v1, v2] := by cases args; simp_all
  obtain ⟨rfl, rfl⟩ := trodVars_none hV
  simp only [List.append_nil] at hk
  have hbd := bounds hk
  have k0 := h0
  have lt0 : ∀ x ∈ p0, x.block < W.heap.size := by obtain ⟨m, hm⟩ := k0; exact DataW.trod_lt m _ _ _ hm
  obtain ⟨z0, hv0, zr0, zw0, zd0⟩ := zono_openD (hval 0 26 v0 rfl rfl) h0 hbd.1
  subst hv0
  have k1 := h1
  have lt1 : ∀ x ∈ p1, x.block < W.heap.size := by obtain ⟨m, hm⟩ := k1; exact DataW.trod_lt m _ _ _ hm
  obtain ⟨b1, len1, cap1, rfl⟩ := okWide_slice Try.underlying24 (hval 1 24 v1 rfl rfl)
  obtain ⟨m1, hm1⟩ := h1
  obtain ⟨ao1, l1, c1, gv1, us1, e1, rd1, rl1, rn1⟩ := rowsJ_open Try.underlying24 Try.underlying22 Try.underlying33 (by kernel_rfl) (by kernel_rfl) hm1
  simp [Value.cells] at e1
  obtain ⟨rfl, rfl, rfl⟩ := e1
  dsimp only at rl1 rn1
  obtain ⟨a2, rfl, rfl, rfl, w2⟩ := open_int Try.underlying3 (hval 2 3 v2 rfl rfl) h2
  have bd2 := i64_bounds w2
  clear hA0
  refine (marginTells_walk z0 _ _ _ _ _ a2 W zr0 zw0 zd0 rd1 (by have := hbd.2.1; omega) (fun j hj => by have h9 := (rn1 j hj).2; have := hbd.2.1; omega)).mono fun e W' ⟨he, bel⟩ => ?_
  subst he
  exact ⟨_, rfl, _, _, _, [], _, [], hW', trodAll_mk1 (shut_bool Try.underlying4 _), (trodAll_cons_mk (Below.trod laidOut (by kernel_rfl) (of_decide_eq_true (by kernel_rfl)) k0 bel lt0) (trodAll_cons_mk (Below.trod laidOut (by kernel_rfl) (of_decide_eq_true (by kernel_rfl)) k1 bel lt1) (trodAll_cons_mk (shut_int Try.underlying3 w2) trodAll_mk0))), rfl, bel.frame _, fun h => by cases h⟩
theorem lifted (os : Os) (started : os.Started) (H : Type) (enc : TypeId × Value → H) (F : Stop.Interp) :
    ReturnsInHanded {} Try.checked os 3 .any ((Rows.OpenSpec.upto Rows.marginTellsSpec).preRow enc Try.prog Try.f3 Rows.marginTellsUptoRow.domain false Rows.marginTellsUptoRow.laid) (((Rows.OpenSpec.upto Rows.marginTellsSpec).at F).post enc Try.prog Try.f3 false true false false) := by
  obtain ⟨places, hx⟩ := reads os enc
  refine returnsInHanded_of_row (C := Try.checked) (s := Rows.OpenSpec.upto Rows.marginTellsSpec) own started (by kernel_rfl) Try.func3
    (witness_row_at (enc := enc) (C := Try.checked) false (World.holding Try.prog os ⟨#[], #[], []⟩) #[.agg #[.int .i64 0, .slice none 0 0, .slice none 0 0, .slice none 0 0, .slice none 0 0, .bool false], .slice none 0 0, .int .i64 0] rfl (by kernel_rfl) (by kernel_rfl) (by kernel_rfl)
      (OpenSpec.preRow_of_cond 8 hx (by kernel_rfl) (fun k hk => by cases hk; kernel_rfl) (by kernel_rfl) (laidMet_of_run' 8 (by kernel_rfl) (by kernel_rfl)))) ?_
  intro W base args ds gs before hval hW x1 x2 x3 hL x5 x6
  exact contract H enc W base args ds gs before hval hW (by first | exact x1 _ rfl | exact x2 _ rfl | exact x3 _ rfl | exact x5 _ rfl | exact x6 _ rfl)
theorem said : Rows.MarginTellsUptoSaid :=
  OpenClaim.holds_of_cond 3 Try.f3 rfl rfl rfl rfl rfl rfl rfl ⟨rfl, rfl, rfl, rfl, rfl⟩ rfl rfl rfl rfl rfl (by kernel_rfl) Try.func3 (by kernel_rfl)
    (of_decide_eq_true (by kernel_rfl)) (by unfold Func.isWrapper; first | (rw [if_pos (by decide +kernel)]; kernel_rfl) | (rw [if_neg (by decide +kernel)]; exact ⟨rfl, rfl⟩))
    (fun os started H enc _ F => by rw [OpenClaim.pre_eq_preRow]; exact lifted os started H enc F)
end Go.Proofs.Ytbjnkefjlaplkaa.marginTellsDone
namespace Go.Proofs.Ytbjnkefjlaplkaa
theorem marginTells_holds : Rows.MarginTellsUptoSaid := marginTellsDone.said
#print axioms marginTells_holds
end Go.Proofs.Ytbjnkefjlaplkaa
