import Derived.Test.YtoehhnildocihaaSCj
import Derived.Test.YtoehhnildocihaaSCw
import Derived.Test.YtoehhnildocihaaSPl
namespace Go.Proofs.Ytoehhnildocihaa
open Go.RowKit Go.Shelf
set_option linter.unusedVariables false
set_option linter.unusedSimpArgs false
theorem ids_riseC {z : ZD} (h : wholeB z = true) : ∀ b, b < z.dn → ∀ a, a < b → z.ids[a]?.getD 0 < z.ids[b]?.getD 0
  | 0, hb => fun a ha => absurd ha (Nat.not_lt_zero _)
  | b + 1, hb => by
    have h0 := ((wholeB_iff z).1 h).2.2.2.2.2.2 (b + 1) hb
    rw [if_neg (by omega), Nat.add_sub_cancel] at h0
    have h2 := ids_riseC h b (by omega)
    intro a ha
    by_cases e : a = b
    · subst e; exact h0.1
    · have := h2 a (by omega); omega
/-- The names below k stand ahead. -/
theorem pref_of (f : Nat → Int) (k : Int) : ∀ n, (∀ b, b < n → ∀ a, a < b → f a < f b) → ∃ m, m ≤ n ∧ ∀ j, j < n → (f j < k ↔ j < m)
  | 0, _ => ⟨0, Nat.le_refl _, fun j hj => absurd hj (by omega)⟩
  | n + 1, h => by
    obtain ⟨m, hm, hj⟩ := pref_of f k n fun b hb a ha => h b (by omega) a ha
    by_cases c : m = n
    · by_cases d : f n < k
      · refine ⟨n + 1, Nat.le_refl _, fun j hj' => ⟨fun _ => hj', fun _ => ?_⟩⟩
        by_cases e : j = n
        · subst e; exact d
        · have := h n (by omega) j (by omega); omega
      · refine ⟨n, by omega, fun j hj' => ?_⟩
        by_cases e : j = n
        · subst e; exact ⟨fun x => absurd x d, fun x => absurd x (by omega)⟩
        · rw [← c]; exact hj j (by omega)
    · refine ⟨m, by omega, fun j hj' => ?_⟩
      by_cases e : j = n
      · subst e
        refine ⟨fun x => ?_, fun x => absurd x (by omega)⟩
        have h1 := (hj m (by omega)).1
        have h2 := h j (by omega) m (by omega)
        have : ¬ f m < k := fun y => absurd (h1 y) (by omega)
        omega
      · exact hj j (by omega)
theorem chV_eq {u z : ZD} (k : SmZ u z) (us : List Nat) (gs : List (List Nat)) (ls bs : List Int) (gn m : Nat) : chV u us gs ls bs gn m = chV z us gs ls bs gn m := by
  have h1 : clB u us = clB z us := by unfold clB; rw [checkB_eq u z k.N k.bad k.cs k.rs k.ids k.gs k.cn k.dn k.gn k.rn, k.bad, k.N]
  unfold chV
  rw [h1, k.gs, k.rn, k.ids]
set_option maxRecDepth 100000 in
set_option maxHeartbeats 8000000 in
theorem splitChooses_walk (z : ZD) (ao : Option Addr) (l c : Nat) (us : List Nat) (pco pgo plo : Option Addr) (pcn pcc gn pgc pln plc : Nat) (pt pK pD pL : Int) (gvg gvl : Nat → Option Addr × Nat × Nat) (pcs : List Nat) (pgs pls : List (List Nat)) (la ba : Option Addr) (n c' m' d : Nat) (ls bs : List Int) (w : World)
    (hz : ZR w z) (hzw : ZW z) (hdn : z.dn ≤ 1048576) (ha : RdF w ao l c us) (hla : l ≤ 1050000) (hpc : RdF w pco pcn pcc pcs) (hg : RdGs w pgo gn pgc gvg pgs) (hpl : RdGs w plo pln plc gvl pls) (hcn : pcn ≤ 1050000) (hgn : gn ≤ 1050000) (hln : pln ≤ 1050000) (hgl : ∀ k, k < gn → (gvg k).2.1 ≤ 1050000) (hll : ∀ k, k < pln → (gvl k).2.1 ≤ 1050000) (hl : RdIs w la n c' ls) (hb9 : RdIs w ba m' d bs) :
    Calls Try.prog 3 #[.agg (zRow z), .slice ao l c, .agg #[.slice pco pcn pcc, .slice pgo gn pgc, .int .i64 pt, .slice plo pln plc, .int .i64 pK, .int .i64 pD, .int .i64 pL], .agg #[.slice la n c', .slice ba m' d]] w fun e w' => e = .returned (.bool true) ∧ Below w.heap.size w w' := by
  obtain ⟨m, hm⟩ : ∃ m, clB z us = true → m ≤ z.dn ∧ ∀ j, j < z.dn → (z.ids[j]?.getD 0 < (gn : Int) ↔ j < m) := by
    by_cases h : clB z us = true
    · obtain ⟨m, h1, h2⟩ := pref_of (fun j => z.ids[j]?.getD 0) (gn : Int) z.dn (ids_riseC (clB_is h).2.1)
      exact ⟨m, fun _ => ⟨h1, h2⟩⟩
    · exact ⟨0, fun c => absurd c h⟩
  obtain ⟨E, hE⟩ : ∃ E : Nat, E = 1074 := ⟨_, rfl⟩
  have hdn2 : z.dn ≤ 1050000 := by omega
  have h64 := zr_fin64 hz
  have HCH : Hid (∀ W, Below w.heap.size w W → Calls Try.prog 5 #[.agg #[.int .i64 z.N, .slice z.co z.cn z.cc, .slice z.io z.dn z.dc, .slice z.go z.gn z.gc, .slice z.ro z.rn z.rc, .bool z.bad], .slice ao l c, .agg #[.slice pco pcn pcc, .slice pgo gn pgc, .int .i64 pt, .slice plo pln plc, .int .i64 pK, .int .i64 pD, .int .i64 pL], .agg #[.slice la n c', .slice ba m' d]] W fun e w' => e = .returned (.int .i64 (chV z us pgs ls bs gn m)) ∧ Below W.heap.size W w') := fun W hb => choose_any z ao l c us pco pgo plo pcn pcc gn pgc pln plc pt pK pD pL gvg pgs la ba n c' m' d ls bs m W (hz.later hb) hdn2 (ha.later hb) (hg.later hb) hgl (hl.later hb) (hb9.later hb) hm
  have HOF : Hid (∀ W, Below w.heap.size w W → Calls Try.prog 7 #[.agg (zRow z)] W fun e w' => ∃ u : ZD, e = .returned (.agg (zRow u)) ∧ ZU w' u ∧ SmZ u z ∧ Below W.heap.size W w') := fun W hb => ofU z W (hz.later hb) hzw
  have HBI : Hid (∀ W, Below w.heap.size w W → Calls Try.prog 8 #[.slice ao l c] W fun e w' => ∃ v, e = .returned v ∧ w'.ownsRow W.heap.size 53 1 v us.length (uJ us) ∧ Below W.heap.size W w') := fun W hb => bits10_any ao l c us W (ha.later hb) hla
  have HOP : Hid (∀ W, Below w.heap.size w W → Calls Try.prog 4 #[.agg #[.slice pco pcn pcc, .slice pgo gn pgc, .int .i64 pt, .slice plo pln plc, .int .i64 pK, .int .i64 pD, .int .i64 pL]] W fun e w' => (∃ (o1 o2 o3 : Option Addr) (l1 c1 c2 c3 : Nat) (gv3 : Nat → Option Addr × Nat × Nat), e = .returned (.agg #[.slice o1 l1 c1, .slice o2 gn c2, .int .i64 pt, .slice o3 pln c3, .int .i64 pK, .int .i64 pD, .int .i64 pL]) ∧ Hid (RdGu w' o2 gn c2 gv3 pgs)) ∧ Below W.heap.size W w') := fun W hb => ofPropG_any pco pgo plo pcn pcc gn pgc pln plc gvg gvl pcs pgs pls pt pK pD pL W (hpc.later hb) (hg.later hb) (hpl.later hb) hcn hgn hln hgl hll
  have HRF : Hid (∀ W, Below w.heap.size w W → ∀ (u : ZD) (bo : Option Addr) (bc : Nat) (o2 : Option Addr) (c2 : Nat) (gv3 : Nat → Option Addr × Nat × Nat), ZU W u → SmZ u z → RdUs W bo l bc us → RdGu W o2 gn c2 gv3 pgs → Calls Try.prog 6 #[.agg (zRow u), .slice bo l bc, .slice o2 gn c2, .agg #[.slice la n c', .slice ba m' d]] W fun e w' => e = .returned (.int .i64 (chV z us pgs ls bs gn m)) ∧ Below W.heap.size W w') := fun W hb u bo bc o2 c2 gv3 hu k hrb hg3 => by
    have huw : UW u := ⟨by rw [k.cn]; exact hzw.cl, by rw [k.rn]; exact hzw.rl, by rw [k.dn]; exact hzw.il, by rw [k.gn]; exact hzw.gl, fun j hj => by rw [← (hu.g.each j hj).length, k.gs, (hz.g.each j (by rw [← k.gn]; exact hj)).length]; exact hzw.coll j (by rw [← k.gn]; exact hj), by rw [k.cs]; exact h64.1, by rw [k.rs]; exact h64.2.1, by rw [k.gs]; exact h64.2.2⟩
    have hcl : clB u us = clB z us := by unfold clB; rw [checkB_eq u z k.N k.bad k.cs k.rs k.ids k.gs k.cn k.dn k.gn k.rn, k.bad, k.N]
    rw [← chV_eq k]
    exact refChoose_any u bo l bc us o2 gn c2 gv3 pgs la ba n c' m' d ls bs m E hE W hu huw (fun h => WhF.ofU hu huw.il h) hrb ha.lt hla hg3 (fun j hj => ⟨by rw [(hg.each j hj).length]; exact hgl j hj, fun x hx => (hg.each j hj).lt x hx⟩) (hl.later hb) (hb9.later hb) (by rw [hcl, k.dn, k.ids]; exact hm)
  have HLA : Hid (us.length = l) := ha.length
  obtain ⟨R, hR⟩ : ∃ R : Int, chV z us pgs ls bs gn m = R := ⟨_, rfl⟩
  rw [hR] at HCH HRF
  clear hz hzw hdn ha hla hpc hg hpl hcn hgn hln hgl hll hl hb9 hm hE hdn2 h64 hR
  obtain ⟨N, co, cn, cc, io, dn, dc, go, zgn, gc, ro, rn, rc, bad, cs, ids, gv, gs, rs⟩ := z
  unfold zRow at HOF ⊢
  dsimp only at HCH HOF ⊢
  have X0 : Below w.heap.size w (((w.alloc (.cells #[.int .i64 N, .slice co cn cc, .slice io dn dc, .slice go zgn gc, .slice ro rn rc, .bool bad] 26)).alloc (.cells #[.slice pco pcn pcc, .slice pgo gn pgc, .int .i64 pt, .slice plo pln plc, .int .i64 pK, .int .i64 pD, .int .i64 pL] 28)).alloc (.cells #[.slice la n c', .slice ba m' d] 30)) := below_al (below_al (below_al (Below.refl _ w) _) _) _
  have Y0 : (((w.alloc (.cells #[.int .i64 N, .slice co cn cc, .slice io dn dc, .slice go zgn gc, .slice ro rn rc, .bool bad] 26)).alloc (.cells #[.slice pco pcn pcc, .slice pgo gn pgc, .int .i64 pt, .slice plo pln plc, .int .i64 pK, .int .i64 pD, .int .i64 pL] 28)).alloc (.cells #[.slice la n c', .slice ba m' d] 30)).heap[w.heap.size]? = some (.cells #[.int .i64 N, .slice co cn cc, .slice io dn dc, .slice go zgn gc, .slice ro rn rc, .bool bad] 26) := alloc_kept (alloc_kept (heap_alloc_new w _) _) _
  have Y1 : (((w.alloc (.cells #[.int .i64 N, .slice co cn cc, .slice io dn dc, .slice go zgn gc, .slice ro rn rc, .bool bad] 26)).alloc (.cells #[.slice pco pcn pcc, .slice pgo gn pgc, .int .i64 pt, .slice plo pln plc, .int .i64 pK, .int .i64 pD, .int .i64 pL] 28)).alloc (.cells #[.slice la n c', .slice ba m' d] 30)).heap[w.heap.size + 1]? = some (.cells #[.slice pco pcn pcc, .slice pgo gn pgc, .int .i64 pt, .slice plo pln plc, .int .i64 pK, .int .i64 pD, .int .i64 pL] 28) := alloc_kept (alloc_at _ _ _ (by simp)) _
  have Y2 : (((w.alloc (.cells #[.int .i64 N, .slice co cn cc, .slice io dn dc, .slice go zgn gc, .slice ro rn rc, .bool bad] 26)).alloc (.cells #[.slice pco pcn pcc, .slice pgo gn pgc, .int .i64 pt, .slice plo pln plc, .int .i64 pK, .int .i64 pD, .int .i64 pL] 28)).alloc (.cells #[.slice la n c', .slice ba m' d] 30)).heap[w.heap.size + 1 + 1]? = some (.cells #[.slice la n c', .slice ba m' d] 30) := alloc_at _ _ _ (by simp)
  go_enter Try.func3, Try.ntmps3
  go_upto_region 1 with fail
  obtain ⟨X, hX⟩ : ∃ X, (((w.alloc (.cells #[.int .i64 N, .slice co cn cc, .slice io dn dc, .slice go zgn gc, .slice ro rn rc, .bool bad] 26)).alloc (.cells #[.slice pco pcn pcc, .slice pgo gn pgc, .int .i64 pt, .slice plo pln plc, .int .i64 pK, .int .i64 pD, .int .i64 pL] 28)).alloc (.cells #[.slice la n c', .slice ba m' d] 30)) = X := ⟨_, rfl⟩
  rw [hX] at X0 Y0 Y1 Y2 ⊢
  have P1 : Hid (Below w.heap.size w X ∧ X.heap[w.heap.size]? = some (.cells #[.int .i64 N, .slice co cn cc, .slice io dn dc, .slice go zgn gc, .slice ro rn rc, .bool bad] 26) ∧ X.heap[w.heap.size + 1]? = some (.cells #[.slice pco pcn pcc, .slice pgo gn pgc, .int .i64 pt, .slice plo pln plc, .int .i64 pK, .int .i64 pD, .int .i64 pL] 28) ∧ X.heap[w.heap.size + 1 + 1]? = some (.cells #[.slice la n c', .slice ba m' d] 30)) := ⟨X0, Y0, Y1, Y2⟩
  clear hX X0 Y0 Y1 Y2
  go_wp2_with (first | (refine wpList_load_row (by rfl) 28 _ (by rfl) (w.heap.size + 1) #[.slice pco pcn pcc, .slice pgo gn pgc, .int .i64 pt, .slice plo pln plc, .int .i64 pK, .int .i64 pD, .int .i64 pL] (by rfl) P1.out.2.2.1 _ Try.underlying28 rfl 7 Try.infoPr (by rfl) ?_))
  refine Calls.mono (HOP.out _ P1.out.1) ?_
  rintro e w1 ⟨⟨o1, o2, o3, l1, c1, c2, c3, gv3, rfl, hg3⟩, b1⟩
  go_upto_region 2 with fail
  obtain ⟨W, hW⟩ : ∃ W, (w1.alloc (.cells #[.slice o1 l1 c1, .slice o2 gn c2, .int .i64 pt, .slice o3 pln c3, .int .i64 pK, .int .i64 pD, .int .i64 pL] 34)) = W := ⟨_, rfl⟩
  obtain ⟨B9, hB9⟩ : ∃ b, w1.heap.size = b := ⟨_, rfl⟩
  have A1 : Below w1.heap.size w1 W := by rw [← hW]; exact (Below.refl _ w1).alloc (Nat.le_refl _) _
  have Y9 : W.heap[B9]? = some (.cells #[.slice o1 l1 c1, .slice o2 gn c2, .int .i64 pt, .slice o3 pln c3, .int .i64 pK, .int .i64 pD, .int .i64 pL] 34) := by rw [← hW, ← hB9]; exact heap_alloc_new w1 _
  rw [hW, hB9]
  have P3 : Hid (Below w.heap.size w W ∧ W.heap[w.heap.size]? = some (.cells #[.int .i64 N, .slice co cn cc, .slice io dn dc, .slice go zgn gc, .slice ro rn rc, .bool bad] 26) ∧ W.heap[w.heap.size + 1]? = some (.cells #[.slice pco pcn pcc, .slice pgo gn pgc, .int .i64 pt, .slice plo pln plc, .int .i64 pK, .int .i64 pD, .int .i64 pL] 28) ∧ W.heap[w.heap.size + 1 + 1]? = some (.cells #[.slice la n c', .slice ba m' d] 30) ∧ W.heap[B9]? = some (.cells #[.slice o1 l1 c1, .slice o2 gn c2, .int .i64 pt, .slice o3 pln c3, .int .i64 pK, .int .i64 pD, .int .i64 pL] 34)) := ⟨to_call (to_call P1.out.1 b1) A1, kept A1 (kept b1 P1.out.2.1), kept A1 (kept b1 P1.out.2.2.1), kept A1 (kept b1 P1.out.2.2.2), Y9⟩
  have HG3 : Hid (RdGu W o2 gn c2 gv3 pgs) := hg3.out.later A1
  have KQ : Hid (W.cell? ⟨B9, 1, none⟩ = some (.slice o2 gn c2)) := cellAtJ P3.out.2.2.2.2 1 _ rfl
  have HCH2 : Hid (∀ V, Below W.heap.size W V → _) := fun V hb => HCH.out V (to_call P3.out.1 hb)
  have HCH := HCH2
  have HOF2 : Hid (∀ V, Below W.heap.size W V → _) := fun V hb => HOF.out V (to_call P3.out.1 hb)
  have HOF := HOF2
  have HBI2 : Hid (∀ V, Below W.heap.size W V → _) := fun V hb => HBI.out V (to_call P3.out.1 hb)
  have HBI := HBI2
  have HRC : Hid (∀ V, Below W.heap.size W V → ∀ (u : ZD) (bo : Option Addr) (bc : Nat), ZU V u → SmZ u ⟨N, co, cn, cc, io, dn, dc, go, zgn, gc, ro, rn, rc, bad, cs, ids, gv, gs, rs⟩ → RdUs V bo l bc us → Calls Try.prog 6 #[.agg (zRow u), .slice bo l bc, .slice o2 gn c2, .agg #[.slice la n c', .slice ba m' d]] V fun e w' => e = .returned (.int .i64 R) ∧ Below V.heap.size V w') := fun V hb u bo bc hu k hrb => HRF.out V (to_call P3.out.1 hb) u bo bc o2 c2 gv3 hu k hrb (HG3.out.later hb)
  have g1 : (R == R) = true := by simp
  clear hg3 A1 Y9 hW hB9 b1 P1 HCH2 HOF2 HBI2 HOP HRF
  refine wp_region_noPanic ?_
  have SX : Below W.heap.size W W.drew := (Below.refl _ _).drew
  refine wp_region_held_drew (S := (fun V => Below W.heap.size W V)) (by kernel_rfl) SX (fun _ => ?_)
  refine takeH 12 (i := 0) (v := .agg #[.int .i64 N, .slice co cn cc, .slice io dn dc, .slice go zgn gc, .slice ro rn rc, .bool bad]) rfl rfl (by kernel_rfl) (by kernel_rfl) (by kernel_rfl) (fun _ _ _ h => h) (Or.inl ⟨by kernel_rfl, fun w' hSw => ex_loadRN _ 26 _ rfl w.heap.size (by kernel_rfl) w' _ (kept hSw P3.out.2.1) _ Try.underlying26 rfl 6 Try.infoZ rfl⟩) SX ?_
  try simp only [Act.put, List.setIfInBounds_toArray, List.set_cons_zero, List.set_cons_succ]
  refine takeH 13 (i := 1) (v := ?_) rfl rfl (by kernel_rfl) (by kernel_rfl) (by kernel_rfl) (fun _ _ _ h => h) (Or.inl ⟨by kernel_rfl, ?_⟩) SX ?_
  rotate_left
  · intro w' hSw; skip; go_simp; try with_reducible rfl
  try simp only [Act.put, List.setIfInBounds_toArray, List.set_cons_zero, List.set_cons_succ]
  refine takeH 14 (i := 2) (v := .agg #[.slice pco pcn pcc, .slice pgo gn pgc, .int .i64 pt, .slice plo pln plc, .int .i64 pK, .int .i64 pD, .int .i64 pL]) rfl rfl (by kernel_rfl) (by kernel_rfl) (by kernel_rfl) (fun _ _ _ h => h) (Or.inl ⟨by kernel_rfl, fun w' hSw => ex_loadRN _ 28 _ rfl (w.heap.size + 1) (by kernel_rfl) w' _ (kept hSw P3.out.2.2.1) _ Try.underlying28 rfl 7 Try.infoPr rfl⟩) SX ?_
  try simp only [Act.put, List.setIfInBounds_toArray, List.set_cons_zero, List.set_cons_succ]
  refine takeH 15 (i := 3) (v := .agg #[.slice la n c', .slice ba m' d]) rfl rfl (by kernel_rfl) (by kernel_rfl) (by kernel_rfl) (fun _ _ _ h => h) (Or.inl ⟨by kernel_rfl, fun w' hSw => ex_loadRN _ 30 _ rfl (w.heap.size + 1 + 1) (by kernel_rfl) w' _ (kept hSw P3.out.2.2.2.1) _ Try.underlying30 rfl 2 Try.szRT rfl⟩) SX ?_
  try simp only [Act.put, List.setIfInBounds_toArray, List.set_cons_zero, List.set_cons_succ]
  refine takeH 17 (i := 5) (v := .agg #[.int .i64 N, .slice co cn cc, .slice io dn dc, .slice go zgn gc, .slice ro rn rc, .bool bad]) rfl rfl (by kernel_rfl) (by kernel_rfl) (by kernel_rfl) (fun _ _ _ h => h) (Or.inl ⟨by kernel_rfl, fun w' hSw => ex_loadRN _ 26 _ rfl w.heap.size (by kernel_rfl) w' _ (kept hSw P3.out.2.1) _ Try.underlying26 rfl 6 Try.infoZ rfl⟩) SX ?_
  try simp only [Act.put, List.setIfInBounds_toArray, List.set_cons_zero, List.set_cons_succ]
  refine takeH 19 (i := 7) (v := ?_) rfl rfl (by kernel_rfl) (by kernel_rfl) (by kernel_rfl) (fun _ _ _ h => h) (Or.inl ⟨by kernel_rfl, ?_⟩) SX ?_
  rotate_left
  · intro w' hSw; skip; go_simp; try with_reducible rfl
  try simp only [Act.put, List.setIfInBounds_toArray, List.set_cons_zero, List.set_cons_succ]
  refine takeH 21 (i := 9) (v := ?_) rfl rfl (by kernel_rfl) (by kernel_rfl) (by kernel_rfl) (fun _ _ _ h => h) (Or.inl ⟨by kernel_rfl, ?_⟩) SX ?_
  rotate_left
  · intro w' hSw; skip; go_simp; try with_reducible rfl
  try simp only [Act.put, List.setIfInBounds_toArray, List.set_cons_zero, List.set_cons_succ]
  refine takeH 22 (i := 10) (v := ?_) rfl rfl (by kernel_rfl) (by kernel_rfl) (by kernel_rfl) (fun _ _ _ h => h) (Or.inl ⟨by kernel_rfl, ?_⟩) SX ?_
  rotate_left
  · intro w' hSw; have t0 := cell_later KQ.out hSw; go_simp; try with_reducible rfl
  try simp only [Act.put, List.setIfInBounds_toArray, List.set_cons_zero, List.set_cons_succ]
  refine takeH 23 (i := 11) (v := .agg #[.slice la n c', .slice ba m' d]) rfl rfl (by kernel_rfl) (by kernel_rfl) (by kernel_rfl) (fun _ _ _ h => h) (Or.inl ⟨by kernel_rfl, fun w' hSw => ex_loadRN _ 30 _ rfl (w.heap.size + 1 + 1) (by kernel_rfl) w' _ (kept hSw P3.out.2.2.2.1) _ Try.underlying30 rfl 2 Try.szRT rfl⟩) SX ?_
  try simp only [Act.put, List.setIfInBounds_toArray, List.set_cons_zero, List.set_cons_succ]
  refine wpAnyH_ready (rs := [4]) (by kernel_rfl) (by simp) ?_
  refine consH _ rfl (hopCd 16 rfl (by kernel_rfl) rfl (by kernel_rfl) (Calls.mono (HCH.out _ SX) ?_)) AllReadyH.nil
  rintro e V1 ⟨rfl, q1⟩
  have SX : Below W.heap.size W V1 := to_call SX q1
  refine ⟨_, rfl, SX, ?_⟩
  try simp only [Act.put, List.setIfInBounds_toArray, List.set_cons_zero, List.set_cons_succ]
  refine wpAnyH_ready (rs := [6]) (by kernel_rfl) (by simp) ?_
  refine consH _ rfl (hopCd 18 rfl (by kernel_rfl) rfl (by kernel_rfl) (Calls.mono (HOF.out _ SX) ?_)) AllReadyH.nil
  rintro e V2 ⟨u, rfl, hu, hsm, q2⟩
  have SX : Below W.heap.size W V2 := to_call SX q2
  refine ⟨_, rfl, SX, ?_⟩
  try simp only [Act.put, List.setIfInBounds_toArray, List.set_cons_zero, List.set_cons_succ]
  refine wpAnyH_ready (rs := [8]) (by kernel_rfl) (by simp) ?_
  refine consH _ rfl (hopCd 20 rfl (by kernel_rfl) rfl (by kernel_rfl) (Calls.mono (HBI.out _ SX) ?_)) AllReadyH.nil
  rintro e V3 ⟨vb, rfl, hvb, q3⟩
  have SX : Below W.heap.size W V3 := to_call SX q3
  obtain ⟨bo, bc, rfl, hrb⟩ := rdU_own hvb
  rw [HLA.out] at hrb ⊢
  refine ⟨_, rfl, SX, ?_⟩
  try simp only [Act.put, List.setIfInBounds_toArray, List.set_cons_zero, List.set_cons_succ]
  refine wpAnyH_ready (rs := [12]) (by kernel_rfl) (by simp) ?_
  refine consH _ rfl (hopCd 24 rfl (by kernel_rfl) rfl (by kernel_rfl) (Calls.mono (HRC.out _ SX u bo bc (hu.later q3) hsm hrb) ?_)) AllReadyH.nil
  rintro e V4 ⟨rfl, q4⟩
  have SX : Below W.heap.size W V4 := to_call SX q4
  refine ⟨_, rfl, SX, ?_⟩
  try simp only [Act.put, List.setIfInBounds_toArray, List.set_cons_zero, List.set_cons_succ]
  refine takeH 25 (i := 13) (v := ?_) rfl rfl (by kernel_rfl) (by kernel_rfl) (by kernel_rfl) (fun _ _ _ h => h) (Or.inl ⟨by kernel_rfl, ?_⟩) SX ?_
  rotate_left
  · intro w' hSw; skip; go_simp; try with_reducible rfl
  try simp only [Act.put, List.setIfInBounds_toArray, List.set_cons_zero, List.set_cons_succ]
  refine takeH 26 (i := 14) (v := ?_) rfl rfl (by kernel_rfl) (by kernel_rfl) (by kernel_rfl) (fun _ _ _ h => h) (Or.inl ⟨by kernel_rfl, ?_⟩) SX ?_
  rotate_left
  · intro w' hSw; skip; go_simp; try with_reducible rfl
  try simp only [Act.put, List.setIfInBounds_toArray, List.set_cons_zero, List.set_cons_succ]
  refine wpAnyH_ready (rs := [15]) (by kernel_rfl) (by simp) ?_
  refine consH _ rfl (hopCd 27 rfl (by kernel_rfl) rfl (by kernel_rfl) (Calls.mono (awake_any _) ?_)) AllReadyH.nil
  rintro e V5 ⟨rfl, q5⟩
  have SX : Below W.heap.size W V5 := to_call SX q5
  refine ⟨_, rfl, SX, ?_⟩
  try simp only [Act.put, List.setIfInBounds_toArray, List.set_cons_zero, List.set_cons_succ]
  refine takeH 28 (i := 16) (v := ?_) rfl rfl (by kernel_rfl) (by kernel_rfl) (by kernel_rfl) (fun _ _ _ h => h) (Or.inl ⟨by kernel_rfl, ?_⟩) SX ?_
  rotate_left
  · intro w' hSw; skip; go_simp; try with_reducible rfl
  try simp only [Act.put, List.setIfInBounds_toArray, List.set_cons_zero, List.set_cons_succ]
  refine takeH 8 (i := 17) (v := ?_) rfl rfl (by kernel_rfl) (by kernel_rfl) (by kernel_rfl) (fun _ _ _ h => h) (Or.inl ⟨by kernel_rfl, ?_⟩) SX ?_
  rotate_left
  · intro w' hSw; skip; go_simp; try with_reducible rfl
  try simp only [Act.put, List.setIfInBounds_toArray, List.set_cons_zero, List.set_cons_succ]
  refine wpAnyH_done (by kernel_rfl) ?_ _
  refine NoPanic.normal ?_
  try simp only [Act.put, List.setIfInBounds_toArray, List.set_cons_zero, List.set_cons_succ]
  go_wp2_with fail
  go_ret
  exact ⟨rfl, to_call P3.out.1 SX⟩
end Go.Proofs.Ytoehhnildocihaa
