import Derived.Test.YtbjnkefjlaplkaaGMb
import Derived.Test.YtbjnkefjlaplkaaGXc
namespace Go.Proofs.Ytbjnkefjlaplkaa
open Go.RowKit Go.Shelf
set_option linter.unusedVariables false
set_option linter.unusedSimpArgs false

theorem RlS.colAtM {w : World} {base E : Nat} {cs rs : List Nat} {ids : List Int} {gs : List (List Nat)} {vc vr vi : Value} {a3 : Option Addr} {l3 c3 : Nat} {gl : List Value} (h : RlS w base E cs rs ids gs vc vr vi (.slice a3 l3 c3) gl) {k : Nat} (hk : k < gs.length) : ∃ g u, a3 = some ⟨g, 0, none⟩ ∧ w.cell? ⟨g, k, none⟩ = some u ∧ RowN w base u E (gs[k]?.getD []) := by
  obtain ⟨ao, cap, h1, h2, h3⟩ := owns_slice h.g
  have hl := h.len
  rcases h3 with h0 | ⟨g, rfl, hc⟩
  · omega
  have hkl : k < gl.length := by omega
  injection h1 with q1 q2 q3
  refine ⟨g, gl[k], q1, ?_, h.col k _ (List.getElem?_eq_getElem hkl)⟩
  rw [hc k hkl, List.getElem?_eq_getElem hkl]
/-- The document's least sum behind i of the box and k columns. -/
def leJ (us cs rs : List Nat) (gs : List (List Nat)) (n E i k : Nat) : Int := dotV us cs n + fval (us[n]?.getD 0) * ((2 ^ E : Nat) : Int) - boxV us rs i - (sgK us gs n k : Nat)
theorem leJ_col {us cs rs : List Nat} {gs : List (List Nat)} {n E i k : Nat} : leJ us cs rs gs n E i k - ((dotV us (gs[k]?.getD []) n).natAbs : Int) = leJ us cs rs gs n E i (k + 1) := by
  unfold leJ
  rw [show sgK us gs n (k + 1) = sgK us gs n k + (dotV us (gs[k]?.getD []) n).natAbs from rfl, Int.natCast_add]
  omega
theorem leJ_box {us cs rs : List Nat} {gs : List (List Nat)} {n E i k : Nat} : leJ us cs rs gs n E i k - ((fval (us[i]?.getD 0)).natAbs : Int) * fval (rs[i]?.getD 0) = leJ us cs rs gs n E (i + 1) k := by
  have e : ((fval (us[i]?.getD 0)).natAbs : Int) = fval (frung (us[i]?.getD 0)) := by rw [fval_frung, fval_absJ]
  unfold leJ
  rw [e, show boxV us rs (i + 1) = boxV us rs i + fval (frung (us[i]?.getD 0)) * fval (rs[i]?.getD 0) from rfl]
  omega
theorem leJ_bound {us cs rs : List Nat} {gs : List (List Nat)} {n E X i k : Nat} (hE : E = 1074) (hX : X = 4248) (hd : ∀ j : Nat, Fin (us[j]?.getD 0)) (hc : ∀ j : Nat, Fin (cs[j]?.getD 0)) (hr : ∀ j : Nat, Fin (rs[j]?.getD 0)) (hg : ∀ k j : Nat, Fin ((gs[k]?.getD [])[j]?.getD 0)) (hk : k ≤ 1050000) (hn : n ≤ 256) (hi : i ≤ 256) : (leJ us cs rs gs n E i k).natAbs < 2 ^ X := by
  obtain ⟨F, hF⟩ : ∃ F : Nat, F = 4196 := ⟨_, rfl⟩
  have h1 := dotV_bound hF hd hc n
  have h2 := boxV_bound hF hd hr i
  have h3 := sgK_le hF hd hg hn k
  have h4 := mul_bound hF (hd n) (show Fin 4607182418800017408 by decide)
  rw [fval_oneM hE] at h4
  have h5 : i * 2 ^ F ≤ 256 * 2 ^ F := Nat.mul_le_mul_right _ hi
  have h8 : n * 2 ^ F ≤ 256 * 2 ^ F := Nat.mul_le_mul_right _ hn
  have h6 : k * (256 * 2 ^ F) ≤ 268800000 * 2 ^ F := by rw [← Nat.mul_assoc]; exact Nat.mul_le_mul_right _ (by omega)
  have h7 : 1073741824 * 2 ^ F < 2 ^ X := by
    rw [show (1073741824 : Nat) = 2 ^ 30 by decide, ← Nat.pow_add]
    exact Nat.pow_lt_pow_right (by omega) (by omega)
  unfold leJ
  generalize fval (us[n]?.getD 0) * ((2 ^ E : Nat) : Int) = A at *
  generalize 2 ^ F = P at *
  generalize 2 ^ X = Q at *
  omega
theorem leJ_is {z : ZD} {us : List Nat} {E : Nat} (hE : E = 1074) : leJ us z.cs z.rs z.gs z.rn E z.rn z.gn = leV z us := by
  unfold leJ leV
  rw [fval_oneM hE]
  omega
theorem leJ_zero (us cs rs : List Nat) (gs : List (List Nat)) (n E : Nat) : leJ us cs rs gs n E 0 0 = dotV us cs n + fval (us[n]?.getD 0) * ((2 ^ E : Nat) : Int) := by unfold leJ; simp [boxV, sgK]
set_option maxRecDepth 100000 in
set_option maxHeartbeats 8000000 in
/-- The document's Least. -/
theorem refLeast_any (n0 : Nat) (a1 : Option Addr) (c1 : Nat) (a2 : Option Addr) (l2 c2 : Nat) (a3 : Option Addr) (gn c3 : Nat) (a4 : Option Addr) (c4 : Nat) (cs rs : List Nat) (ids : List Int) (gs : List (List Nat)) (gl : List Value) (wb l wc0 : Nat) (us : List Nat) (base B1 E : Nat) (hE : E = 1074) (w : World) (h : RlS w base E cs rs ids gs (.slice a1 n0 c1) (.slice a4 n0 c4) (.slice a2 l2 c2) (.slice a3 gn c3) gl) (hu : RowN w B1 (.slice (some ⟨wb, 0, none⟩) l wc0) E us) (hul : us.length = l) (hln : n0 < l) (hl1 : l ≤ 1000) (hc : cs.length = n0) (hr : rs.length = n0) (hg : gs.length = gn) (hgl : ∀ k, k < gn → (gs[k]?.getD []).length = n0) (hfu : ∀ j : Nat, Fin (us[j]?.getD 0)) (hfc : ∀ i : Nat, Fin (cs[i]?.getD 0)) (hfr : ∀ i : Nat, Fin (rs[i]?.getD 0)) (hfg : ∀ k i : Nat, Fin ((gs[k]?.getD [])[i]?.getD 0)) (few : gn ≤ 1050000) (hn : n0 ≤ 256) :
    Calls Try.prog 33 #[.agg #[.int .i64 (n0 : Int), .slice a1 n0 c1, .slice a2 l2 c2, .slice a3 gn c3, .slice a4 n0 c4], (.slice (some ⟨wb, 0, none⟩) l wc0)] w fun e w' => ∃ v, e = .returned v ∧ NumC w' v (E + E) 2100 (leJ us cs rs gs n0 E n0 gn) ∧ Below w.heap.size w w' := by
  have HE : Hid (E = 1074) := hE
  have HRW0 : Hid (∀ W', Below w.heap.size w W' → RlS W' base E cs rs ids gs (.slice a1 n0 c1) (.slice a4 n0 c4) (.slice a2 l2 c2) (.slice a3 gn c3) gl ∧ RowN W' B1 (.slice (some ⟨wb, 0, none⟩) l wc0) E us) := fun W' hb => ⟨h.later hb, hu.later hb⟩
  have HLU : Hid (n0 ≤ us.length ∧ us.length ≤ 1000) := ⟨by omega, by omega⟩
  have HLN : Hid (us.length = l) := hul
  have HLC : Hid (cs.length = n0) := hc
  have HLR : Hid (rs.length = n0) := hr
  have HGG : Hid (gs.length = gn) := hg
  have HGC : Hid (∀ k, k < gn → (gs[k]?.getD []).length = n0) := hgl
  have HTI : Hid (∀ (W : World) (v : Value) (T : Int) (i k : Nat), i ≤ 256 → k ≤ 1050000 → NumC W v (E + E) T (leJ us cs rs gs n0 E i k) → NumC W v (E + E) 2100 (leJ us cs rs gs n0 E i k)) := fun W v T i k hi hk hz => by
    obtain ⟨X9, hX9⟩ : ∃ X9 : Nat, X9 = 4248 := ⟨_, rfl⟩
    exact NumC.tight hz (by omega) (by rw [hX9, hE]; rfl) (leJ_bound hE hX9 hfu hfc hfr hfg hk hn hi)
  have hln' : (n0 : Int) < (l : Int) := by omega
  clear h hu hul hc hr hg hgl hfu hfc hfr hfg hE
  have X0 : Below w.heap.size w ((w.alloc (.cells #[.int .i64 (n0 : Int), .slice a1 n0 c1, .slice a2 l2 c2, .slice a3 gn c3, .slice a4 n0 c4] 53)).alloc (.cells #[.bool false, .slice none 0 0, .int .i64 0] 60)) := ((Below.refl _ w).alloc (Nat.le_refl _) _).alloc (by simp only [alloc_size]; omega) _
  have Y0 : ((w.alloc (.cells #[.int .i64 (n0 : Int), .slice a1 n0 c1, .slice a2 l2 c2, .slice a3 gn c3, .slice a4 n0 c4] 53)).alloc (.cells #[.bool false, .slice none 0 0, .int .i64 0] 60)).heap[w.heap.size]? = some (.cells #[.int .i64 (n0 : Int), .slice a1 n0 c1, .slice a2 l2 c2, .slice a3 gn c3, .slice a4 n0 c4] 53) := alloc_kept (heap_alloc_new w _) _
  have Y1 : ((w.alloc (.cells #[.int .i64 (n0 : Int), .slice a1 n0 c1, .slice a2 l2 c2, .slice a3 gn c3, .slice a4 n0 c4] 53)).alloc (.cells #[.bool false, .slice none 0 0, .int .i64 0] 60)).heap[w.heap.size + 1]? = some (.cells #[.bool false, .slice none 0 0, .int .i64 0] 60) := heap_at _ _ (w.heap.size + 1) (by simp only [alloc_size])
  go_enter Try.func33, Try.ntmps33
  go_upto_region 1 with fail
  obtain ⟨X, hX⟩ : ∃ X, ((w.alloc (.cells #[.int .i64 (n0 : Int), .slice a1 n0 c1, .slice a2 l2 c2, .slice a3 gn c3, .slice a4 n0 c4] 53)).alloc (.cells #[.bool false, .slice none 0 0, .int .i64 0] 60)) = X := ⟨_, rfl⟩
  rw [hX] at X0 Y0 Y1 ⊢
  have P0 : Hid (Below w.heap.size w X ∧ X.heap[w.heap.size]? = some (.cells #[.int .i64 (n0 : Int), .slice a1 n0 c1, .slice a2 l2 c2, .slice a3 gn c3, .slice a4 n0 c4] 53) ∧ X.heap[w.heap.size + 1]? = some (.cells #[.bool false, .slice none 0 0, .int .i64 0] 60)) := ⟨X0, Y0, Y1⟩
  clear hX X0 Y0 Y1
  have HRW : Hid (∀ W', Below X.heap.size X W' → RlS W' base E cs rs ids gs (.slice a1 n0 c1) (.slice a4 n0 c4) (.slice a2 l2 c2) (.slice a3 gn c3) gl ∧ RowN W' B1 (.slice (some ⟨wb, 0, none⟩) l wc0) E us) := fun W' hb => HRW0.out W' (to_call P0.out.1 hb)
  have k0 := cellAtJ P0.out.2.1 0 _ rfl
  go_upto_region 2 with fail
  clear k0
  obtain ⟨gb, qb, an, ao1, al, ac, ae, vb, rb, zb⟩ := RowN.range (HRW.out X (Below.refl _ _)).2 (k := n0) (by rw [HLN.out]; exact hln)
  injection vb with vb vb2 vb3
  injection vb with vb
  injection vb with vb
  subst vb
  clear vb2 vb3
  have C1 : Hid (X.cell? ⟨w.heap.size, 1, none⟩ = some (.slice a1 n0 c1)) := cellAtJ P0.out.2.1 1 _ rfl
  have R2 : Hid (X.rangeAt wb (n0 * 3) [.bool an, .slice ao1 al ac, .int .i64 ae]) := rb
  have Z2 : Hid (NumC X (.agg #[.bool an, .slice ao1 al ac, .int .i64 ae]) E 1024 (fval (us[n0]?.getD 0))) := zb
  clear rb zb
  go_cut [6] (fun v6 wx => ∃ (D : Nat) (n : Bool) (o : Option Addr) (lv cv : Nat) (e : Int), v6 = .pointer (some ⟨D, 0, none⟩) ∧ Hid (BxN wx D (E + E) 2100 (leJ us cs rs gs n0 E 0 0) n o lv cv e) ∧ X.heap.size ≤ D ∧ Hid (Below X.heap.size X wx))
  case first =>
    have bX : Below X.heap.size X X.drew := (Below.refl _ _).drew
    refine wp_region_noPanic ?_
    refine wp_region_held_drew (S := (fun V => Below X.heap.size X V)) (by kernel_rfl) bX (fun _ => ?_)
    refine takeH 11 (i := 0) (v := ?_) rfl rfl (by kernel_rfl) (by kernel_rfl) (by kernel_rfl) (fun _ _ _ h => h) (Or.inl ⟨by kernel_rfl, ?_⟩) bX ?_
    rotate_left
    · intro w' hSw; have s1 := cell_later C1.out hSw; go_simp; try with_reducible rfl
    try simp only [Act.put, List.setIfInBounds_toArray, List.set_cons_zero, List.set_cons_succ]
    refine takeH 12 (i := 1) (v := ?_) rfl rfl (by kernel_rfl) (by kernel_rfl) (by kernel_rfl) (fun _ _ _ h => h) (Or.inl ⟨by kernel_rfl, ?_⟩) bX ?_
    rotate_left
    · intro w' hSw; have s1 := cell_later C1.out hSw; go_simp; try with_reducible rfl
    try simp only [Act.put, List.setIfInBounds_toArray, List.set_cons_zero, List.set_cons_succ]
    refine takeH 13 (i := 2) (v := ?_) rfl rfl (by kernel_rfl) (by kernel_rfl) (by kernel_rfl) (fun _ _ _ h => h) (Or.inl ⟨by kernel_rfl, ?_⟩) bX ?_
    rotate_left
    · intro w' hSw; have s1 := cell_later C1.out hSw; go_simp; try with_reducible rfl
    try simp only [Act.put, List.setIfInBounds_toArray, List.set_cons_zero, List.set_cons_succ]
    refine takeH 15 (i := 4) (v := ?_) rfl rfl (by kernel_rfl) (by kernel_rfl) (by kernel_rfl) (fun _ _ _ h => h) (Or.inl ⟨by kernel_rfl, ?_⟩) bX ?_
    rotate_left
    · intro w' hSw; have s1 := cell_later C1.out hSw; go_simp; try with_reducible rfl
    try simp only [Act.put, List.setIfInBounds_toArray, List.set_cons_zero, List.set_cons_succ]
    refine takeH 16 (i := 5) (v := ?_) rfl rfl (by kernel_rfl) (by kernel_rfl) (by kernel_rfl) (fun _ _ _ h => h) (Or.inl ⟨by kernel_rfl, ?_⟩) bX ?_
    rotate_left
    · intro w' hSw; have s1 := cell_later C1.out hSw; go_simp; try with_reducible rfl
    try simp only [Act.put, List.setIfInBounds_toArray, List.set_cons_zero, List.set_cons_succ]
    refine takeH 17 (i := 6) (v := ?_) rfl rfl (by kernel_rfl) (by kernel_rfl) (by kernel_rfl) (fun _ _ _ h => h) (Or.inl ⟨by kernel_rfl, ?_⟩) bX ?_
    rotate_left
    · intro w' hSw; have s1 := cell_later C1.out hSw; go_simp; try with_reducible rfl
    try simp only [Act.put, List.setIfInBounds_toArray, List.set_cons_zero, List.set_cons_succ]
    refine takeH 18 (i := 7) (v := .agg #[.bool an, .slice ao1 al ac, .int .i64 ae]) rfl rfl (by kernel_rfl) (by kernel_rfl) (by kernel_rfl) (fun _ _ _ h => h) (yieldsIf_load_mid (by kernel_rfl) 60 _ rfl wb (n0 * 3) (by kernel_rfl) #[.bool an, .slice ao1 al ac, .int .i64 ae].toList _ (fun V' hS => (range_later R2.out hS : V'.rangeAt wb (n0 * 3) [.bool an, .slice ao1 al ac, .int .i64 ae])) Try.underlying60 rfl (by kernel_rfl)) bX ?_
    try simp only [Act.put, List.setIfInBounds_toArray, List.set_cons_zero, List.set_cons_succ]
    obtain ⟨V, hV⟩ : ∃ V, X.drew = V := ⟨_, rfl⟩
    have bV : Below X.heap.size X V := hV ▸ bX
    rw [hV]
    clear hV bX
    refine wpAnyH_ready (rs := [3, 9]) (by kernel_rfl) (by simp) ?_
    refine consH _ rfl ?_ (consH _ rfl ?_ AllReadyH.nil)
    · refine hopCd 14 rfl (by kernel_rfl) rfl (by kernel_rfl) (Calls.mono (weighs_any _ _ us cs n0 _ _ E HE.out _ ((HRW.out _ bV).2) ((HRW.out _ bV).1.c) HLU.out.1 HLU.out.2 HLC.out (by omega)) ?_)
      rintro e Va ⟨v1, rfl, hz1, hb⟩
      obtain ⟨n1, o1, t1, p1, x1, hv1⟩ := hz1.form
      subst hv1
      have bVa : Below X.heap.size X Va := bV.trans (hb.mono bV.size)
      have zaVa : NumC Va (.agg #[.bool n1, .slice o1 t1 p1, .int .i64 x1]) (E + E) (2048 + n0) (dotV us cs n0) := hz1
      clear hb hz1
      refine ⟨_, rfl, bVa, ?_⟩
      try simp only [Act.put, List.setIfInBounds_toArray, List.set_cons_zero, List.set_cons_succ]
      refine wpAnyH_ready (rs := [8, 9]) (by kernel_rfl) (by simp) ?_
      refine consH _ rfl ?_ (consH _ rfl ?_ AllReadyH.nil)
      · refine hopCd 19 rfl (by kernel_rfl) rfl (by kernel_rfl) (Calls.mono (plusC_any _ _ (E + E) 2400 _ _ _ (zaVa.mono (by omega)) (((NumC.later Z2.out bVa).moreJ E).mono (by omega)) (by rw [HE.out]; omega) (by omega)) ?_)
        rintro e Vb ⟨v2, rfl, hz2, hb⟩
        obtain ⟨n2, o2, t2, p2, x2, hv2⟩ := hz2.form
        subst hv2
        have bVb : Below X.heap.size X Vb := bVa.trans (hb.mono bVa.size)
        have zbVb : NumC Vb (.agg #[.bool n2, .slice o2 t2 p2, .int .i64 x2]) (E + E) (2400 + 1) (dotV us cs n0 + fval (us[n0]?.getD 0) * ((2 ^ E : Nat) : Int)) := hz2
        clear hb hz2 zaVa
        refine ⟨_, rfl, bVb, ?_⟩
        try simp only [Act.put, List.setIfInBounds_toArray, List.set_cons_zero, List.set_cons_succ]
        refine wpAnyH_ready (rs := [9]) (by kernel_rfl) (by simp) ?_
        refine consH _ rfl ?_ AllReadyH.nil
        refine hopAJ 6 rfl rfl rfl 60 rfl #[.bool false, .slice none 0 0, .int .i64 0] allocNJ fun D Vc hDVc hDl hb => ?_
        have bVc : Below X.heap.size X Vc := bVb.trans (hb.mono bVb.size)
        have hDX : X.heap.size ≤ D := Nat.le_trans bVb.size hDl
        have zbVc := NumC.later zbVb hb
        clear hb hDl
        refine ⟨bVc, ?_⟩
        try simp only [Act.put, List.setIfInBounds_toArray, List.set_cons_zero, List.set_cons_succ]
        refine wpAnyH_ready (rs := [10]) (by kernel_rfl) (by simp) ?_
        refine consH _ rfl (hopL rfl (wpList_store_row (by rfl) 60 _ _ (by rfl) X X.heap.size D #[.bool n2, .slice o2 t2 p2, .int .i64 x2] _ (by kernel_rfl) (by kernel_rfl) hDVc bVc hDX 3 Try.infoN3 (by rfl) (by rfl) (oneN _ _ _ _ _) fun W9 e9 b9 hs9 ho9 => ?_)) AllReadyH.nil
        refine (And.intro b9 ?_ : _ ∧ _)
        try simp only [Act.put, List.setIfInBounds_toArray, List.set_cons_zero, List.set_cons_succ]
        refine wpAnyH_done (by kernel_rfl) ?_ _
        refine NoPanic.normal ?_
        try simp only [Act.put, List.setIfInBounds_toArray, List.set_cons_zero, List.set_cons_succ]
        go_wp2_with fail
        go_meet
        exact ⟨D, n2, o2, t2, p2, x2, rfl, ⟨e9, HTI.out _ _ _ 0 0 (by omega) (by omega) (by have h9 := zbVc.cl (num_cl hDVc) (fun b hb _ => ho9 b hb); rw [leJ_zero]; exact h9)⟩, hDX, b9⟩
      · refine hopAJ 6 rfl rfl rfl 60 rfl #[.bool false, .slice none 0 0, .int .i64 0] allocNJ fun D Vd hDVd hDl hb => ?_
        have bVd : Below X.heap.size X Vd := bVa.trans (hb.mono bVa.size)
        have hDX : X.heap.size ≤ D := Nat.le_trans bVa.size hDl
        have zaVd := NumC.later zaVa hb
        clear hb hDl
        refine ⟨bVd, ?_⟩
        try simp only [Act.put, List.setIfInBounds_toArray, List.set_cons_zero, List.set_cons_succ]
        refine wpAnyH_ready (rs := [8]) (by kernel_rfl) (by simp) ?_
        refine consH _ rfl ?_ AllReadyH.nil
        refine hopCd 19 rfl (by kernel_rfl) rfl (by kernel_rfl) (Calls.mono (plusC_any _ _ (E + E) 2400 _ _ _ (zaVd.mono (by omega)) (((NumC.later Z2.out bVd).moreJ E).mono (by omega)) (by rw [HE.out]; omega) (by omega)) ?_)
        rintro e Ve ⟨v2, rfl, hz2, hb⟩
        obtain ⟨n2, o2, t2, p2, x2, hv2⟩ := hz2.form
        subst hv2
        have bVe : Below X.heap.size X Ve := bVd.trans (hb.mono bVd.size)
        have hDVe := kept hb hDVd
        have zbVe : NumC Ve (.agg #[.bool n2, .slice o2 t2 p2, .int .i64 x2]) (E + E) (2400 + 1) (dotV us cs n0 + fval (us[n0]?.getD 0) * ((2 ^ E : Nat) : Int)) := hz2
        clear hb hz2 zaVd
        refine ⟨_, rfl, bVe, ?_⟩
        try simp only [Act.put, List.setIfInBounds_toArray, List.set_cons_zero, List.set_cons_succ]
        refine wpAnyH_ready (rs := [10]) (by kernel_rfl) (by simp) ?_
        refine consH _ rfl (hopL rfl (wpList_store_row (by rfl) 60 _ _ (by rfl) X X.heap.size D #[.bool n2, .slice o2 t2 p2, .int .i64 x2] _ (by kernel_rfl) (by kernel_rfl) hDVe bVe hDX 3 Try.infoN3 (by rfl) (by rfl) (oneN _ _ _ _ _) fun W9 e9 b9 hs9 ho9 => ?_)) AllReadyH.nil
        refine (And.intro b9 ?_ : _ ∧ _)
        try simp only [Act.put, List.setIfInBounds_toArray, List.set_cons_zero, List.set_cons_succ]
        refine wpAnyH_done (by kernel_rfl) ?_ _
        refine NoPanic.normal ?_
        try simp only [Act.put, List.setIfInBounds_toArray, List.set_cons_zero, List.set_cons_succ]
        go_wp2_with fail
        go_meet
        exact ⟨D, n2, o2, t2, p2, x2, rfl, ⟨e9, HTI.out _ _ _ 0 0 (by omega) (by omega) (by have h9 := zbVe.cl (num_cl hDVe) (fun b hb _ => ho9 b hb); rw [leJ_zero]; exact h9)⟩, hDX, b9⟩
    · refine hopAJ 6 rfl rfl rfl 60 rfl #[.bool false, .slice none 0 0, .int .i64 0] allocNJ fun D Vf hDVf hDl hb => ?_
      have bVf : Below X.heap.size X Vf := bV.trans (hb.mono bV.size)
      have hDX : X.heap.size ≤ D := Nat.le_trans bV.size hDl
      clear hb hDl
      refine ⟨bVf, ?_⟩
      try simp only [Act.put, List.setIfInBounds_toArray, List.set_cons_zero, List.set_cons_succ]
      refine wpAnyH_ready (rs := [3]) (by kernel_rfl) (by simp) ?_
      refine consH _ rfl ?_ AllReadyH.nil
      refine hopCd 14 rfl (by kernel_rfl) rfl (by kernel_rfl) (Calls.mono (weighs_any _ _ us cs n0 _ _ E HE.out _ ((HRW.out _ bVf).2) ((HRW.out _ bVf).1.c) HLU.out.1 HLU.out.2 HLC.out (by omega)) ?_)
      rintro e Vg ⟨v1, rfl, hz1, hb⟩
      obtain ⟨n1, o1, t1, p1, x1, hv1⟩ := hz1.form
      subst hv1
      have bVg : Below X.heap.size X Vg := bVf.trans (hb.mono bVf.size)
      have hDVg := kept hb hDVf
      have zaVg : NumC Vg (.agg #[.bool n1, .slice o1 t1 p1, .int .i64 x1]) (E + E) (2048 + n0) (dotV us cs n0) := hz1
      clear hb hz1
      refine ⟨_, rfl, bVg, ?_⟩
      try simp only [Act.put, List.setIfInBounds_toArray, List.set_cons_zero, List.set_cons_succ]
      refine wpAnyH_ready (rs := [8]) (by kernel_rfl) (by simp) ?_
      refine consH _ rfl ?_ AllReadyH.nil
      refine hopCd 19 rfl (by kernel_rfl) rfl (by kernel_rfl) (Calls.mono (plusC_any _ _ (E + E) 2400 _ _ _ (zaVg.mono (by omega)) (((NumC.later Z2.out bVg).moreJ E).mono (by omega)) (by rw [HE.out]; omega) (by omega)) ?_)
      rintro e Vh ⟨v2, rfl, hz2, hb⟩
      obtain ⟨n2, o2, t2, p2, x2, hv2⟩ := hz2.form
      subst hv2
      have bVh : Below X.heap.size X Vh := bVg.trans (hb.mono bVg.size)
      have hDVh := kept hb hDVg
      have zbVh : NumC Vh (.agg #[.bool n2, .slice o2 t2 p2, .int .i64 x2]) (E + E) (2400 + 1) (dotV us cs n0 + fval (us[n0]?.getD 0) * ((2 ^ E : Nat) : Int)) := hz2
      clear hb hz2 zaVg
      refine ⟨_, rfl, bVh, ?_⟩
      try simp only [Act.put, List.setIfInBounds_toArray, List.set_cons_zero, List.set_cons_succ]
      refine wpAnyH_ready (rs := [10]) (by kernel_rfl) (by simp) ?_
      refine consH _ rfl (hopL rfl (wpList_store_row (by rfl) 60 _ _ (by rfl) X X.heap.size D #[.bool n2, .slice o2 t2 p2, .int .i64 x2] _ (by kernel_rfl) (by kernel_rfl) hDVh bVh hDX 3 Try.infoN3 (by rfl) (by rfl) (oneN _ _ _ _ _) fun W9 e9 b9 hs9 ho9 => ?_)) AllReadyH.nil
      refine (And.intro b9 ?_ : _ ∧ _)
      try simp only [Act.put, List.setIfInBounds_toArray, List.set_cons_zero, List.set_cons_succ]
      refine wpAnyH_done (by kernel_rfl) ?_ _
      refine NoPanic.normal ?_
      try simp only [Act.put, List.setIfInBounds_toArray, List.set_cons_zero, List.set_cons_succ]
      go_wp2_with fail
      go_meet
      exact ⟨D, n2, o2, t2, p2, x2, rfl, ⟨e9, HTI.out _ _ _ 0 0 (by omega) (by omega) (by have h9 := zbVh.cl (num_cl hDVh) (fun b hb _ => ho9 b hb); rw [leJ_zero]; exact h9)⟩, hDX, b9⟩
  case rest =>
    obtain ⟨D, n, o, lv, cv, e, rfl, HN, hDX, HBD⟩ := hcut
    have HDX : Hid (X.heap.size ≤ D) := hDX
    have Q0 : Hid (BxN wc D (E + E) 2100 (leJ us cs rs gs n0 E 0 0) n o lv cv e ∧ Below X.heap.size X wc) := ⟨HN.out, HBD.out⟩
    clear hDX HN HBD C1 R2 Z2
    go_wp2_with fail
    go_loopg [7] gn (fun g v7 wx => ∃ k : Nat, v7 = .int .i64 k ∧ k + g = gn ∧ ∃ (n : Bool) (o : Option Addr) (lv cv : Nat) (e : Int), Hid (BxN wx D (E + E) 2100 (leJ us cs rs gs n0 E 0 k) n o lv cv e ∧ Below X.heap.size X wx))
    case atStart => exact ⟨0, rfl, by omega, n, o, lv, cv, e, Q0⟩
    case round =>
      clear Q0
      obtain ⟨k, rfl, hk, n, o, lv, cv, e, HQ⟩ := hrel
      have j3 := cell_later (cellAtJ P0.out.2.1 3 _ rfl) HQ.out.2
      by_cases h2 : k < gn
      · have hd1 : decide ((k : Int) < (gn : Int)) = true := decide_eq_true (by omega)
        obtain ⟨q, rfl⟩ : ∃ q, gk = q + 1 := ⟨gk - 1, by omega⟩
        have HIG : Hid (k + (q + 1) = gn) := hk
        have hk' : (k : Int) < (gn : Int) := by omega
        clear hk
        go_upto_region 6 with fail
        obtain ⟨hRl, hRb⟩ := HRW.out wr HQ.out.2
        obtain ⟨g3, uc, ea3, hc3, hrk⟩ := RlS.colAtM hRl (k := k) (by rw [HGG.out]; exact h2)
        obtain ⟨ka, kc, hka⟩ := hrk.form
        have HGL : Hid ((gs[k]?.getD []).length = n0) := HGC.out k h2
        rw [HGL.out] at hka
        subst hka
        have C3 : Hid (wr.cell? ⟨w.heap.size, 3, none⟩ = some (.slice (some ⟨g3, 0, none⟩) gn c3)) := by have h9 := j3; rw [ea3] at h9; exact h9
        have CK : Hid (wr.cell? ⟨g3, k, none⟩ = some (.slice ka n0 kc)) := hc3
        have RK : Hid (RowN wr base (.slice ka n0 kc) E (gs[k]?.getD [])) := hrk
        have RW9 : Hid (RowN wr B1 (.slice (some ⟨wb, 0, none⟩) l wc0) E us) := hRb
        clear hRl hRb hc3 hrk j3 hd1 ea3
        have SX : Below wr.heap.size wr wr.drew := (Below.refl _ _).drew
        refine wp_region_noPanic ?_
        refine wp_region_P (S := (fun V => Below wr.heap.size wr V)) (s := 10) (by kernel_rfl) ?_
        refine takeP 27 (i := 0) (v := .agg #[.bool n, .slice o lv cv, .int .i64 e]) rfl rfl (by kernel_rfl) (by kernel_rfl) (by kernel_rfl) (by kernel_rfl) rfl (by kernel_rfl) (fun _ _ _ h => h) (Or.inl ⟨by kernel_rfl, fun w' hSw => ex_loadRN _ 60 _ rfl D (by kernel_rfl) w' _ (kept hSw HQ.out.1.row) _ Try.underlying60 rfl 3 Try.infoN3 rfl⟩) SX ?_
        try simp only [Act.put, List.setIfInBounds_toArray, List.set_cons_zero, List.set_cons_succ]
        refine takeP 28 (i := 1) (v := ?_) rfl rfl (by kernel_rfl) (by kernel_rfl) (by kernel_rfl) (by kernel_rfl) rfl (by kernel_rfl) (fun _ _ _ h => h) (Or.inl ⟨by kernel_rfl, ?_⟩) SX ?_
        rotate_left
        · intro w' hSw; go_simp; try with_reducible rfl
        try simp only [Act.put, List.setIfInBounds_toArray, List.set_cons_zero, List.set_cons_succ]
        refine takeP 29 (i := 2) (v := ?_) rfl rfl (by kernel_rfl) (by kernel_rfl) (by kernel_rfl) (by kernel_rfl) rfl (by kernel_rfl) (fun _ _ _ h => h) (Or.inl ⟨by kernel_rfl, ?_⟩) SX ?_
        rotate_left
        · intro w' hSw; go_simp; try with_reducible rfl
        try simp only [Act.put, List.setIfInBounds_toArray, List.set_cons_zero, List.set_cons_succ]
        refine takeP 30 (i := 3) (v := ?_) rfl rfl (by kernel_rfl) (by kernel_rfl) (by kernel_rfl) (by kernel_rfl) rfl (by kernel_rfl) (fun _ _ _ h => h) (Or.inl ⟨by kernel_rfl, ?_⟩) SX ?_
        rotate_left
        · intro w' hSw; have s0 := cell_later C3.out hSw; go_simp; try with_reducible rfl
        try simp only [Act.put, List.setIfInBounds_toArray, List.set_cons_zero, List.set_cons_succ]
        refine takeP 31 (i := 4) (v := ?_) rfl rfl (by kernel_rfl) (by kernel_rfl) (by kernel_rfl) (by kernel_rfl) rfl (by kernel_rfl) (fun _ _ _ h => h) (Or.inl ⟨by kernel_rfl, ?_⟩) SX ?_
        rotate_left
        · intro w' hSw; go_simp; try with_reducible rfl
        try simp only [Act.put, List.setIfInBounds_toArray, List.set_cons_zero, List.set_cons_succ]
        refine takeP 32 (i := 5) (v := ?_) rfl rfl (by kernel_rfl) (by kernel_rfl) (by kernel_rfl) (by kernel_rfl) rfl (by kernel_rfl) (fun _ _ _ h => h) (Or.inl ⟨by kernel_rfl, ?_⟩) SX ?_
        rotate_left
        · intro w' hSw; go_simp; try with_reducible rfl
        try simp only [Act.put, List.setIfInBounds_toArray, List.set_cons_zero, List.set_cons_succ]
        refine takeP 33 (i := 6) (v := ?_) rfl rfl (by kernel_rfl) (by kernel_rfl) (by kernel_rfl) (by kernel_rfl) rfl (by kernel_rfl) (fun _ _ _ h => h) (Or.inl ⟨by kernel_rfl, ?_⟩) SX ?_
        rotate_left
        · intro w' hSw; have s0 := cell_later CK.out hSw; go_simp; try with_reducible rfl
        try simp only [Act.put, List.setIfInBounds_toArray, List.set_cons_zero, List.set_cons_succ]
        refine wpAnyP_ready (rs := [7]) (by kernel_rfl) (by simp) ?_
        refine consP _ rfl (hopCd 34 rfl (by kernel_rfl) rfl (by kernel_rfl) (Calls.mono (weighs_any _ _ us _ n0 _ _ E HE.out _ (RW9.out.later SX) (RK.out.later SX) HLU.out.1 HLU.out.2 HGL.out (by omega)) ?_)) AllReadyP.nil
        rintro e V1 ⟨v1, rfl, hz1, b1⟩
        obtain ⟨n1, o1, t1, p1, x1, hv1⟩ := hz1.form
        subst hv1
        have SX : Below wr.heap.size wr V1 := to_call SX b1
        clear b1
        refine ⟨_, rfl, SX, ?_⟩
        try simp only [Act.put, List.setIfInBounds_toArray, List.set_cons_zero, List.set_cons_succ]
        refine wpAnyP_ready (rs := [8]) (by kernel_rfl) (by simp) ?_
        refine consP _ rfl (hopCd 35 rfl (by kernel_rfl) rfl (by kernel_rfl) (Calls.mono (sizeC_any _ (E + E) (2048 + n0) _ _ hz1) ?_)) AllReadyP.nil
        rintro e V3 ⟨v3, rfl, hz3, b3⟩
        obtain ⟨n3, o3, t3, p3, x3, hv3⟩ := hz3.form
        subst hv3
        have SX : Below wr.heap.size wr V3 := to_call SX b3
        clear b3
        refine ⟨_, rfl, SX, ?_⟩
        try simp only [Act.put, List.setIfInBounds_toArray, List.set_cons_zero, List.set_cons_succ]
        refine wpAnyP_ready (rs := [9]) (by kernel_rfl) (by simp) ?_
        refine consP _ rfl (hopCd 36 rfl (by kernel_rfl) rfl (by kernel_rfl) (Calls.mono (minusC_any _ _ (E + E) 2400 _ _ _ ((NumC.later HQ.out.1.num SX).mono (by omega)) (hz3.mono (by omega)) (by rw [HE.out]; omega) (by omega)) ?_)) AllReadyP.nil
        rintro e V4 ⟨v4, rfl, hz4, b4⟩
        obtain ⟨n4, o4, t4, p4, x4, hv4⟩ := hz4.form
        subst hv4
        have SX : Below wr.heap.size wr V4 := to_call SX b4
        clear b4
        refine ⟨_, rfl, SX, ?_⟩
        try simp only [Act.put, List.setIfInBounds_toArray, List.set_cons_zero, List.set_cons_succ]
        refine wpAnyP_ready (rs := [10]) (by kernel_rfl) (by simp) ?_
        refine consPs _ rfl (by kernel_rfl) (hopL rfl (wpList_store_row (by rfl) 60 _ _ (by rfl) X X.heap.size D #[.bool n4, .slice o4 t4 p4, .int .i64 x4] _ (by kernel_rfl) (by kernel_rfl) (kept SX HQ.out.1.row) (to_call HQ.out.2 SX) HDX.out 3 Try.infoN3 rfl rfl (oneN _ _ _ _ _) fun V5 e5 b5 s5 k5 => ?_)) AllReadyP.nil
        refine ⟨trivial, ?_⟩
        try simp only [Act.put, List.setIfInBounds_toArray, List.set_cons_zero, List.set_cons_succ]
        refine wpAnyP_done (by kernel_rfl) ?_ _
        refine NoPanic.normal ?_
        try simp only [Act.put, List.setIfInBounds_toArray, List.set_cons_zero, List.set_cons_succ]
        have HZ5 : Hid (BxN V5 D (E + E) 2100 (leJ us cs rs gs n0 E 0 (k + 1)) n4 o4 t4 p4 x4 ∧ Below X.heap.size X V5) := by
          have hz5 := hz4.cl (num_cl (kept SX HQ.out.1.row)) (fun b hb _ => k5 b hb)
          rw [leJ_col] at hz5
          exact ⟨⟨e5, HTI.out _ _ _ 0 (k + 1) (by omega) (by omega) hz5⟩, b5⟩
        clear hz1 hz3 hz4 SX k5 b5 e5 s5 HQ RK RW9 C3 CK HGL
        go_wp2_with fail
        go_roundg q
        case measure => omega
        case rel => exact ⟨k + 1, by go_num, by have := HIG.out; omega, n4, o4, t4, p4, x4, HZ5⟩
      · have hd1 : decide ((k : Int) < (gn : Int)) = false := decide_eq_false (by omega)
        have hd2 : decide (k < gn) = false := decide_eq_false h2
        have ek : k = gn := by omega
        have Q0 : Hid (BxN wr D (E + E) 2100 (leJ us cs rs gs n0 E 0 gn) n o lv cv e ∧ Below X.heap.size X wr) := ek ▸ HQ.out
        clear hk ek HQ
        go_wp2_with fail
        clear hd1 hd2 j3
        go_loopg [8] n0 (fun g v8 wx => ∃ i : Nat, v8 = .int .i64 i ∧ i + g = n0 ∧ ∃ (n : Bool) (o : Option Addr) (lv cv : Nat) (e : Int), Hid (BxN wx D (E + E) 2100 (leJ us cs rs gs n0 E i gn) n o lv cv e ∧ Below X.heap.size X wx))
        case atStart => exact ⟨0, rfl, by omega, n, o, lv, cv, e, Q0⟩
        case round =>
          clear Q0
          obtain ⟨i, rfl, hi, n, o, lv, cv, e, HQ⟩ := hrel
          by_cases h1 : i < n0
          · have hd1 : decide ((i : Int) < (n0 : Int)) = true := decide_eq_true (by omega)
            obtain ⟨q, rfl⟩ : ∃ q, gk = q + 1 := ⟨gk - 1, by omega⟩
            have HIG : Hid (i + (q + 1) = n0) := hi
            have hi' : (i : Int) < (n0 : Int) := by omega
            have hil' : (i : Int) < (l : Int) := by omega
            clear hi
            go_upto_region 10 with fail
            obtain ⟨hRl, hRb⟩ := HRW.out wr HQ.out.2
            obtain ⟨g4, q4, rn, ro, rl0, rc0, re, v4, r4, z4⟩ := RowN.range hRl.r (k := i) (by rw [HLR.out]; exact h1)
            obtain ⟨gb, qb, bn, bo, bl0, bc, be, vb, rb, zb⟩ := RowN.range hRb (k := i) (by rw [HLN.out]; omega)
            rw [HLR.out] at v4
            injection vb with vb vb2 vb3
            clear vb2 vb3
            injection vb with vb
            injection vb with vb
            subst vb
            have C4 : Hid (wr.cell? ⟨w.heap.size, 4, none⟩ = some (.slice (some ⟨g4, 0, none⟩) n0 q4)) := by rw [← v4]; exact cell_later (cellAtJ P0.out.2.1 4 _ rfl) HQ.out.2
            have R2 : Hid (wr.rangeAt wb (i * 3) [.bool bn, .slice bo bl0 bc, .int .i64 be]) := rb
            have R4 : Hid (wr.rangeAt g4 (i * 3) [.bool rn, .slice ro rl0 rc0, .int .i64 re]) := r4
            have Z2 : Hid (NumC wr (.agg #[.bool bn, .slice bo bl0 bc, .int .i64 be]) E 1024 (fval (us[i]?.getD 0))) := zb
            have Z4 : Hid (NumC wr (.agg #[.bool rn, .slice ro rl0 rc0, .int .i64 re]) E 1024 (fval (rs[i]?.getD 0))) := z4
            clear rb r4 zb z4 v4 hRl hRb hd1
            have SX : Below wr.heap.size wr wr.drew := (Below.refl _ _).drew
            refine wp_region_noPanic ?_
            refine wp_region_P (S := (fun V => Below wr.heap.size wr V)) (s := 13) (by kernel_rfl) ?_
            refine takeP 42 (i := 0) (v := .agg #[.bool n, .slice o lv cv, .int .i64 e]) rfl rfl (by kernel_rfl) (by kernel_rfl) (by kernel_rfl) (by kernel_rfl) rfl (by kernel_rfl) (fun _ _ _ h => h) (Or.inl ⟨by kernel_rfl, fun w' hSw => ex_loadRN _ 60 _ rfl D (by kernel_rfl) w' _ (kept hSw HQ.out.1.row) _ Try.underlying60 rfl 3 Try.infoN3 rfl⟩) SX ?_
            try simp only [Act.put, List.setIfInBounds_toArray, List.set_cons_zero, List.set_cons_succ]
            refine takeP 43 (i := 1) (v := ?_) rfl rfl (by kernel_rfl) (by kernel_rfl) (by kernel_rfl) (by kernel_rfl) rfl (by kernel_rfl) (fun _ _ _ h => h) (Or.inl ⟨by kernel_rfl, ?_⟩) SX ?_
            rotate_left
            · intro w' hSw; go_simp; try with_reducible rfl
            try simp only [Act.put, List.setIfInBounds_toArray, List.set_cons_zero, List.set_cons_succ]
            refine takeP 44 (i := 2) (v := ?_) rfl rfl (by kernel_rfl) (by kernel_rfl) (by kernel_rfl) (by kernel_rfl) rfl (by kernel_rfl) (fun _ _ _ h => h) (Or.inl ⟨by kernel_rfl, ?_⟩) SX ?_
            rotate_left
            · intro w' hSw; go_simp; try with_reducible rfl
            try simp only [Act.put, List.setIfInBounds_toArray, List.set_cons_zero, List.set_cons_succ]
            refine takeP 45 (i := 3) (v := ?_) rfl rfl (by kernel_rfl) (by kernel_rfl) (by kernel_rfl) (by kernel_rfl) rfl (by kernel_rfl) (fun _ _ _ h => h) (Or.inl ⟨by kernel_rfl, ?_⟩) SX ?_
            rotate_left
            · intro w' hSw; go_simp; try with_reducible rfl
            try simp only [Act.put, List.setIfInBounds_toArray, List.set_cons_zero, List.set_cons_succ]
            refine takeP 46 (i := 4) (v := .agg #[.bool bn, .slice bo bl0 bc, .int .i64 be]) rfl rfl (by kernel_rfl) (by kernel_rfl) (by kernel_rfl) (by kernel_rfl) rfl (by kernel_rfl) (fun _ _ _ h => h) (yieldsIf_load_mid (by kernel_rfl) 60 _ rfl wb (i * 3) (by kernel_rfl) #[.bool bn, .slice bo bl0 bc, .int .i64 be].toList _ (fun V' hS => (range_later R2.out hS : V'.rangeAt wb (i * 3) [.bool bn, .slice bo bl0 bc, .int .i64 be])) Try.underlying60 rfl (by kernel_rfl)) SX ?_
            try simp only [Act.put, List.setIfInBounds_toArray, List.set_cons_zero, List.set_cons_succ]
            refine takeP 48 (i := 6) (v := ?_) rfl rfl (by kernel_rfl) (by kernel_rfl) (by kernel_rfl) (by kernel_rfl) rfl (by kernel_rfl) (fun _ _ _ h => h) (Or.inl ⟨by kernel_rfl, ?_⟩) SX ?_
            rotate_left
            · intro w' hSw; go_simp; try with_reducible rfl
            try simp only [Act.put, List.setIfInBounds_toArray, List.set_cons_zero, List.set_cons_succ]
            refine takeP 49 (i := 7) (v := ?_) rfl rfl (by kernel_rfl) (by kernel_rfl) (by kernel_rfl) (by kernel_rfl) rfl (by kernel_rfl) (fun _ _ _ h => h) (Or.inl ⟨by kernel_rfl, ?_⟩) SX ?_
            rotate_left
            · intro w' hSw; have s0 := cell_later C4.out hSw; go_simp; try with_reducible rfl
            try simp only [Act.put, List.setIfInBounds_toArray, List.set_cons_zero, List.set_cons_succ]
            refine takeP 50 (i := 8) (v := ?_) rfl rfl (by kernel_rfl) (by kernel_rfl) (by kernel_rfl) (by kernel_rfl) rfl (by kernel_rfl) (fun _ _ _ h => h) (Or.inl ⟨by kernel_rfl, ?_⟩) SX ?_
            rotate_left
            · intro w' hSw; go_simp; try with_reducible rfl
            try simp only [Act.put, List.setIfInBounds_toArray, List.set_cons_zero, List.set_cons_succ]
            refine takeP 51 (i := 9) (v := ?_) rfl rfl (by kernel_rfl) (by kernel_rfl) (by kernel_rfl) (by kernel_rfl) rfl (by kernel_rfl) (fun _ _ _ h => h) (Or.inl ⟨by kernel_rfl, ?_⟩) SX ?_
            rotate_left
            · intro w' hSw; go_simp; try with_reducible rfl
            try simp only [Act.put, List.setIfInBounds_toArray, List.set_cons_zero, List.set_cons_succ]
            refine takeP 52 (i := 10) (v := .agg #[.bool rn, .slice ro rl0 rc0, .int .i64 re]) rfl rfl (by kernel_rfl) (by kernel_rfl) (by kernel_rfl) (by kernel_rfl) rfl (by kernel_rfl) (fun _ _ _ h => h) (yieldsIf_load_mid (by kernel_rfl) 60 _ rfl g4 (i * 3) (by kernel_rfl) #[.bool rn, .slice ro rl0 rc0, .int .i64 re].toList _ (fun V' hS => (range_later R4.out hS : V'.rangeAt g4 (i * 3) [.bool rn, .slice ro rl0 rc0, .int .i64 re])) Try.underlying60 rfl (by kernel_rfl)) SX ?_
            try simp only [Act.put, List.setIfInBounds_toArray, List.set_cons_zero, List.set_cons_succ]
            refine wpAnyP_ready (rs := [5]) (by kernel_rfl) (by simp) ?_
            refine consP _ rfl (hopCd 47 rfl (by kernel_rfl) rfl (by kernel_rfl) (Calls.mono (sizeC_any _ E 1024 _ _ (NumC.later Z2.out SX)) ?_)) AllReadyP.nil
            rintro e V1 ⟨v1, rfl, hz1, b1⟩
            obtain ⟨n1, o1, t1, p1, x1, hv1⟩ := hz1.form
            subst hv1
            have SX : Below wr.heap.size wr V1 := to_call SX b1
            clear b1
            refine ⟨_, rfl, SX, ?_⟩
            try simp only [Act.put, List.setIfInBounds_toArray, List.set_cons_zero, List.set_cons_succ]
            refine wpAnyP_ready (rs := [11]) (by kernel_rfl) (by simp) ?_
            refine consP _ rfl (hopCd 53 rfl (by kernel_rfl) rfl (by kernel_rfl) (Calls.mono (timesC_any _ _ E 1024 1024 _ _ _ hz1.toZ (NumC.later Z4.out SX).toZ (by rw [HE.out]; omega) (by omega) (by omega)) ?_)) AllReadyP.nil
            rintro e V3 ⟨v3, rfl, hz3, b3⟩
            obtain ⟨n3, o3, t3, p3, x3, hv3⟩ := hz3.form
            subst hv3
            have SX : Below wr.heap.size wr V3 := to_call SX b3
            clear b3
            refine ⟨_, rfl, SX, ?_⟩
            try simp only [Act.put, List.setIfInBounds_toArray, List.set_cons_zero, List.set_cons_succ]
            refine wpAnyP_ready (rs := [12]) (by kernel_rfl) (by simp) ?_
            refine consP _ rfl (hopCd 54 rfl (by kernel_rfl) rfl (by kernel_rfl) (Calls.mono (minusC_any _ _ (E + E) 2400 _ _ _ ((NumC.later HQ.out.1.num SX).mono (by omega)) (hz3.mono (by omega)) (by rw [HE.out]; omega) (by omega)) ?_)) AllReadyP.nil
            rintro e V4 ⟨v4, rfl, hz4, b4⟩
            obtain ⟨n4, o4, t4, p4, x4, hv4⟩ := hz4.form
            subst hv4
            have SX : Below wr.heap.size wr V4 := to_call SX b4
            clear b4
            refine ⟨_, rfl, SX, ?_⟩
            try simp only [Act.put, List.setIfInBounds_toArray, List.set_cons_zero, List.set_cons_succ]
            refine wpAnyP_ready (rs := [13]) (by kernel_rfl) (by simp) ?_
            refine consPs _ rfl (by kernel_rfl) (hopL rfl (wpList_store_row (by rfl) 60 _ _ (by rfl) X X.heap.size D #[.bool n4, .slice o4 t4 p4, .int .i64 x4] _ (by kernel_rfl) (by kernel_rfl) (kept SX HQ.out.1.row) (to_call HQ.out.2 SX) HDX.out 3 Try.infoN3 rfl rfl (oneN _ _ _ _ _) fun V5 e5 b5 s5 k5 => ?_)) AllReadyP.nil
            refine ⟨trivial, ?_⟩
            try simp only [Act.put, List.setIfInBounds_toArray, List.set_cons_zero, List.set_cons_succ]
            refine wpAnyP_done (by kernel_rfl) ?_ _
            refine NoPanic.normal ?_
            try simp only [Act.put, List.setIfInBounds_toArray, List.set_cons_zero, List.set_cons_succ]
            have HZ5 : Hid (BxN V5 D (E + E) 2100 (leJ us cs rs gs n0 E (i + 1) gn) n4 o4 t4 p4 x4 ∧ Below X.heap.size X V5) := by
              have hz5 := hz4.cl (num_cl (kept SX HQ.out.1.row)) (fun b hb _ => k5 b hb)
              rw [leJ_box] at hz5
              exact ⟨⟨e5, HTI.out _ _ _ (i + 1) gn (by omega) few hz5⟩, b5⟩
            clear hz1 hz3 hz4 SX k5 b5 e5 s5 HQ R2 R4 Z2 Z4 C4
            go_wp2_with fail
            go_roundg q
            case measure => omega
            case rel => exact ⟨i + 1, by go_num, by have := HIG.out; omega, n4, o4, t4, p4, x4, HZ5⟩
          · have hd1 : decide ((i : Int) < (n0 : Int)) = false := decide_eq_false (by omega)
            have hd2 : decide (i < n0) = false := decide_eq_false h1
            have ei : i = n0 := by omega
            have Q0 : Hid (BxN wr D (E + E) 2100 (leJ us cs rs gs n0 E n0 gn) n o lv cv e ∧ Below X.heap.size X wr) := ei ▸ HQ.out
            clear hi ei HQ
            have PR : Hid (wr.heap[w.heap.size + 1]? = some (.cells #[.bool false, .slice none 0 0, .int .i64 0] 60) ∧ Below w.heap.size w wr) := ⟨kept Q0.out.2 P0.out.2.2, to_call P0.out.1 Q0.out.2⟩
            go_wp2_with (first
              | (refine wpList_load_row (by rfl) 60 _ (by rfl) D _ (by rfl) Q0.out.1.row _ Try.underlying60 rfl 3 Try.infoN3 (by rfl) ?_)
              | (refine wpList_store_row (by rfl) 60 _ _ (by rfl) w w.heap.size (w.heap.size + 1) #[.bool n, .slice o lv cv, .int .i64 e] _ (by rfl) (by rfl) PR.out.1 PR.out.2 (by omega) 3 Try.infoN3 (by rfl) (by rfl) (oneN _ _ _ _ _) ?_; intro W9 e9 b9 s9 o9))
            refine bodyPost_ret (v := .agg #[.bool n, .slice o lv cv, .int .i64 e]) (res_num _ 4 (by kernel_rfl) _ _ (w.heap.size + 1) _ _ _ (by rfl) e9) rfl ⟨_, rfl, ?_, b9⟩
            exact (show NumC _ _ _ _ _ from Q0.out.1.num).cl (num_cl PR.out.1) (fun b hb _ => o9 b hb)
end Go.Proofs.Ytbjnkefjlaplkaa

namespace Go.Proofs.Ytbjnkefjlaplkaa
open Go.RowKit Go.Shelf
set_option linter.unusedVariables false
set_option linter.unusedSimpArgs false

theorem OfL.nilM (w : World) (base : Nat) : OfL w base [] [] [] [] (.slice none 0 0) (.slice none 0 0) (.slice none 0 0) (.slice none 0 0) [] := ⟨World.ownsRow_nil _ _ _ _, World.ownsRow_nil _ _ _ _, World.ownsRow_nil _ _ _ _, World.ownsRow_nil _ _ _ _, rfl, fun j u hj => by simp at hj⟩
theorem OfL.guM {w : World} {base : Nat} {gs : List (List Nat)} {vg : Value} {gl : List Value} (h : OfL w base [] [] [] gs (.slice none 0 0) (.slice none 0 0) (.slice none 0 0) vg gl) : ∃ (go : Option Addr) (gc : Nat) (gv : Nat → Option Addr × Nat × Nat), vg = .slice go gs.length gc ∧ RdGu w go gs.length gc gv gs := by
  obtain ⟨u, hu, z, -, -, -, -, -, h6, -, h8, -, -⟩ := h.zu 0 false
  unfold zRow at hu
  injection hu with hu
  have h7 := congrArg (fun (a : Array Value) => a[3]?) hu
  have h7 : vg = .slice u.go u.gn u.gc := by injection h7
  have z3 := z.g
  rw [h6, h8] at z3
  rw [h8] at h7
  exact ⟨u.go, u.gc, u.gv, h7, z3⟩
theorem Try.infoR5M : (Try.prog.info? 53).map (·.size) = some 5 := by kernel_rfl
/-- The document's rounding is the program's. -/
theorem RndO.ofM {x : Int} {a E v : Nat} {d : Bool} (ha : a = 92) (hE : E = 1074) (k : RndZ 2 x (2 ^ E) (v, d)) : RndO 2 (some (x * ((2 ^ a : Nat) : Int))) v d := by
  intro q hq
  have h2 := k.rescale (2 ^ a) (Nat.two_pow_pos a)
  rw [← Nat.pow_add, show E + a = q by omega] at h2
  exact h2
set_option maxRecDepth 100000 in
set_option maxHeartbeats 4000000 in
/-- The document's Margin. -/
theorem refMargin_any {w0 : World} (z u : ZD) (bo : Option Addr) (l bc : Nat) (us : List Nat) (w : World) (hz : ZR w0 z) (hw : ZW z) (hdn : z.dn ≤ 1050000) (hu : ZU w u) (hk : SmZ u z) (ha : RdUs w bo l bc us) (hlt : ∀ u ∈ us, u < 18446744073709551616) (hl : l ≤ 1050000) :
    Calls Try.prog 9 #[.agg #[.int .i64 u.N, .slice u.co u.cn u.cc, .slice u.io u.dn u.dc, .slice u.go u.gn u.gc, .slice u.ro u.rn u.rc, .bool u.bad], .slice bo l bc] w fun e w' => (∃ (r : Nat) (b : Bool), e = .returned (.tuple #[.int .u64 (r : Int), .bool b]) ∧ MgR z us r b) ∧ Below w.heap.size w w' := by
  obtain ⟨E, hE⟩ : ∃ E : Nat, E = 1074 := ⟨_, rfl⟩
  have HE : Hid (E = 1074) := hE
  have HZ0 : Hid (ZR w0 z) := hz
  have HZW : Hid (ZW z) := hw
  have HD : Hid (z.dn ≤ 1050000) := hdn
  have HU : Hid (∀ W', Below w.heap.size w W' → ZU W' u) := fun W' hb => hu.later hb
  have HK : Hid (SmZ u z) := hk
  have HA : Hid (∀ W', Below w.heap.size w W' → RdUs W' bo l bc us) := fun W' hb => ha.later hb
  have HLN : Hid (us.length = l) := ha.length
  have HLT : Hid (∀ u ∈ us, u < 18446744073709551616) := hlt
  have hlm : l ≤ 1050000 := hl
  have X0 : Below w.heap.size w (w.alloc (.cells #[.int .i64 u.N, .slice u.co u.cn u.cc, .slice u.io u.dn u.dc, .slice u.go u.gn u.gc, .slice u.ro u.rn u.rc, .bool u.bad] 30)) := (Below.refl _ w).alloc (Nat.le_refl _) _
  have Y0 : (w.alloc (.cells #[.int .i64 u.N, .slice u.co u.cn u.cc, .slice u.io u.dn u.dc, .slice u.go u.gn u.gc, .slice u.ro u.rn u.rc, .bool u.bad] 30)).heap[w.heap.size]? = some (.cells #[.int .i64 u.N, .slice u.co u.cn u.cc, .slice u.io u.dn u.dc, .slice u.go u.gn u.gc, .slice u.ro u.rn u.rc, .bool u.bad] 30) := heap_alloc_new w _
  clear hz hw hdn hu hk ha hlt hl hE
  go_enter Try.func9, Try.ntmps9
  go_upto_region 1 with fail
  obtain ⟨X, hX⟩ : ∃ X, (w.alloc (.cells #[.int .i64 u.N, .slice u.co u.cn u.cc, .slice u.io u.dn u.dc, .slice u.go u.gn u.gc, .slice u.ro u.rn u.rc, .bool u.bad] 30)) = X := ⟨_, rfl⟩
  rw [hX] at X0 Y0 ⊢
  have P1 : Hid (Below w.heap.size w X ∧ X.heap[w.heap.size]? = some (.cells #[.int .i64 u.N, .slice u.co u.cn u.cc, .slice u.io u.dn u.dc, .slice u.go u.gn u.gc, .slice u.ro u.rn u.rc, .bool u.bad] 30)) := ⟨X0, Y0⟩
  clear hX X0 Y0
  go_wp2_with (first | (refine wpList_load_row (by rfl) 30 _ (by rfl) w.heap.size _ (by rfl) P1.out.2 _ Try.underlying30 rfl 6 Try.infoZu (by rfl) ?_))
  refine Calls.mono (realsU z u E HE.out _ HZ0.out HZW.out (HU.out _ P1.out.1) HK.out) ?_
  rintro e w2 ⟨N', a1, l1, c1, a2, l2, c2, a3, l3, c3, a4, l4, c4, rfl, hR, b2⟩
  obtain ⟨g, hg⟩ : ∃ g, (!z.bad && wholeB z) = g := ⟨_, rfl⟩
  have HG : Hid ((!z.bad && wholeB z) = g) := hg
  rw [hg] at hR
  rw [hg]
  have P2 : Hid (Below w.heap.size w w2 ∧ w2.heap[w.heap.size]? = some (.cells #[.int .i64 u.N, .slice u.co u.cn u.cc, .slice u.io u.dn u.dc, .slice u.go u.gn u.gc, .slice u.ro u.rn u.rc, .bool u.bad] 30)) := ⟨to_call P1.out.1 b2, kept b2 P1.out.2⟩
  have HR : Hid (g = true → N' = z.N ∧ ∃ gl, RlS w2 X.heap.size E z.cs z.rs z.ids z.gs (.slice a1 l1 c1) (.slice a4 l4 c4) (.slice a2 l2 c2) (.slice a3 l3 c3) gl) := hR
  clear hR b2 hg P1
  have A3 : Below w2.heap.size w2 (w2.alloc (.cells #[.int .i64 N', .slice a1 l1 c1, .slice a2 l2 c2, .slice a3 l3 c3, .slice a4 l4 c4] 53)) := (Below.refl _ w2).alloc (Nat.le_refl _) _
  have Y3 : (w2.alloc (.cells #[.int .i64 N', .slice a1 l1 c1, .slice a2 l2 c2, .slice a3 l3 c3, .slice a4 l4 c4] 53)).heap[w2.heap.size]? = some (.cells #[.int .i64 N', .slice a1 l1 c1, .slice a2 l2 c2, .slice a3 l3 c3, .slice a4 l4 c4] 53) := heap_alloc_new w2 _
  go_upto_region 2 with fail
  obtain ⟨X3, hX3⟩ : ∃ X3, (w2.alloc (.cells #[.int .i64 N', .slice a1 l1 c1, .slice a2 l2 c2, .slice a3 l3 c3, .slice a4 l4 c4] 53)) = X3 := ⟨_, rfl⟩
  obtain ⟨B3, hB3⟩ : ∃ B3, w2.heap.size = B3 := ⟨_, rfl⟩
  rw [hX3] at A3 Y3 ⊢
  rw [hB3] at Y3 ⊢
  have P3 : Hid (Below w.heap.size w X3 ∧ X3.heap[w.heap.size]? = some (.cells #[.int .i64 u.N, .slice u.co u.cn u.cc, .slice u.io u.dn u.dc, .slice u.go u.gn u.gc, .slice u.ro u.rn u.rc, .bool u.bad] 30) ∧ X3.heap[B3]? = some (.cells #[.int .i64 N', .slice a1 l1 c1, .slice a2 l2 c2, .slice a3 l3 c3, .slice a4 l4 c4] 53)) := ⟨to_call P2.out.1 A3, kept A3 P2.out.2, Y3⟩
  have HR3 : Hid (g = true → N' = z.N ∧ ∃ gl, RlS X3 X.heap.size E z.cs z.rs z.ids z.gs (.slice a1 l1 c1) (.slice a4 l4 c4) (.slice a2 l2 c2) (.slice a3 l3 c3) gl) := fun h => ⟨(HR.out h).1, by obtain ⟨gl, hgl⟩ := (HR.out h).2; exact ⟨gl, hgl.later A3⟩⟩
  clear A3 Y3 hX3 hB3 HR P2
  go_wp2_with fail
  refine Calls.mono (exact_any bo l bc us E HE.out _ (HA.out _ P3.out.1) HLT.out hlm) ?_
  rintro e w5 ⟨⟨v5, rfl, hx5⟩, b5⟩
  have P5 : Hid (Below w.heap.size w w5 ∧ w5.heap[w.heap.size]? = some (.cells #[.int .i64 u.N, .slice u.co u.cn u.cc, .slice u.io u.dn u.dc, .slice u.go u.gn u.gc, .slice u.ro u.rn u.rc, .bool u.bad] 30) ∧ w5.heap[B3]? = some (.cells #[.int .i64 N', .slice a1 l1 c1, .slice a2 l2 c2, .slice a3 l3 c3, .slice a4 l4 c4] 53) ∧ Below X3.heap.size X3 w5) := ⟨to_call P3.out.1 b5, kept b5 P3.out.2.1, kept b5 P3.out.2.2, b5⟩
  obtain ⟨nb, hnb⟩ : ∃ nb, numsB us = nb := ⟨_, rfl⟩
  have HNB : Hid (numsB us = nb) := hnb
  rw [hnb] at hx5 ⊢
  have HX5 : Hid (nb = true → RowN w5 X3.heap.size v5 E us) := hx5
  have HCL : Hid (clB z us = (g && decide ((l : Int) = z.N + 1) && nb)) := by unfold Hid; rw [clB_eq, HG.out, HNB.out, HLN.out]
  have HNR : Hid (g = true → 1 ≤ z.N ∧ z.N ≤ 256) := by
    intro h
    have h1 := HG.out
    rw [h] at h1
    simp only [Bool.and_eq_true] at h1
    have h2 := h1.2
    unfold wholeB at h2
    simp only [Bool.and_eq_true, decide_eq_true_eq] at h2
    exact ⟨h2.1.1.1.1.1.1, h2.1.1.1.1.1.2⟩
  clear b5 hx5 hnb P3
  cases g with
  | false =>
    have hcf : clB z us = false := by rw [HCL.out]; rfl
    have k0 := cellAtJ P5.out.2.1 0 _ rfl
    go_wp2_with fail
    refine bodyPost_ret (v := .tuple #[.int .u64 0, .bool false]) (res_tmp2J _ 4 5 (by kernel_rfl) _ _ _ _ (by rfl) (by rfl)) rfl ?_
    exact ⟨⟨0, false, rfl, ⟨fun h => absurd (hcf.symm.trans h) (by decide), fun _ => ⟨rfl, rfl⟩⟩⟩, P5.out.1⟩
  | true =>
    cases nb with
    | false =>
      have hcf : clB z us = false := by rw [HCL.out, Bool.and_false]
      have k0 := cellAtJ P5.out.2.1 0 _ rfl
      go_wp2_with fail
      refine bodyPost_ret (v := .tuple #[.int .u64 0, .bool false]) (res_tmp2J _ 4 5 (by kernel_rfl) _ _ _ _ (by rfl) (by rfl)) rfl ?_
      exact ⟨⟨0, false, rfl, ⟨fun h => absurd (hcf.symm.trans h) (by decide), fun _ => ⟨rfl, rfl⟩⟩⟩, P5.out.1⟩
    | true =>
      obtain ⟨hN1, hN2⟩ := HNR.out rfl
      have huN : u.N = z.N := HK.out.N
      have huN1 : 1 ≤ u.N := by omega
      have huN2 : u.N ≤ 256 := by omega
      by_cases hlN : (l : Int) = z.N + 1
      · have hct : clB z us = true := by rw [HCL.out, decide_eq_true hlN]; rfl
        have hne : ((l : Int) != u.N + 1) = false := by rw [huN, hlN]; simp
        obtain ⟨h1, h2, h3, h4⟩ := clB_is hct
        have hW : WhF z := WhF.of HZ0.out HD.out h2
        obtain ⟨hN', gl, hgl⟩ := HR3.out rfl
        have eN : N' = (z.rn : Int) := hN'.trans hW.N
        have e1 : l1 = z.rn := (RowN.lenV hgl.c).trans hW.cl
        have e4 : l4 = z.rn := (RowN.lenV hgl.r).trans hW.rl
        have e3 : l3 = z.gn := hgl.lenG.trans HZ0.out.g.length
        clear HR3 hN'
        subst eN e1 e4 e3
        have hlr : l = z.rn + 1 := by have := hW.N; omega
        have HW : Hid (WhF z ∧ (∀ u ∈ us, Fin u) ∧ l = z.rn + 1) := ⟨hW, h4, hlr⟩
        obtain ⟨wb, wc0, an0, ao0, al0, ac0, ae0, hv5, -, -⟩ := RowN.range (HX5.out rfl) (k := 0) (by rw [HLN.out]; omega)
        rw [HLN.out] at hv5
        subst hv5
        have HRL : Hid (RlS w5 X.heap.size E z.cs z.rs z.ids z.gs (.slice a1 z.rn c1) (.slice a4 z.rn c4) (.slice a2 l2 c2) (.slice a3 z.gn c3) gl ∧ RowN w5 X3.heap.size (.slice (some ⟨wb, 0, none⟩) l wc0) E us) := ⟨hgl.later P5.out.2.2.2, HX5.out rfl⟩
        have hgm : z.gn ≤ 1050000 := by have := hW.dg; have := HD.out; omega
        have HCT : Hid (clB z us = true) := hct
        have k0 := cellAtJ P5.out.2.1 0 _ rfl
        clear h1 h2 h3 h4 hW hgl hct hlr HX5 hlN huN hN1 hN2
        go_wp2_with (first | (refine wpList_load_row (by rfl) 53 _ (by rfl) B3 _ (by rfl) P5.out.2.2.1 _ Try.underlying53 rfl 5 Try.infoR5M (by rfl) ?_))
        refine Calls.mono (refLeast_any z.rn a1 c1 a2 l2 c2 a3 z.gn c3 a4 c4 z.cs z.rs z.ids z.gs gl wb l wc0 us X.heap.size X3.heap.size E HE.out _ HRL.out.1 HRL.out.2 HLN.out (by have := HW.out.2.2; omega) (by have := HW.out.2.2; have := HW.out.1.n2; omega) HW.out.1.cl HW.out.1.rl HZ0.out.g.length (fun k hk => HW.out.1.gl k (by rw [HW.out.1.dg]; exact hk)) (finsB HW.out.2.1) HW.out.1.fin.c HW.out.1.fin.r HW.out.1.fin.g hgm HW.out.1.n2) ?_
        rintro e w6 ⟨v6, rfl, hz6, b6⟩
        have HZ6 : Hid (NumC w6 v6 (E + E) 2100 (leJ us z.cs z.rs z.gs z.rn E z.rn z.gn)) := hz6
        have P6 : Hid (Below w.heap.size w w6) := to_call P5.out.1 b6
        clear hz6 b6 k0 hne
        go_wp2_with fail
        refine Calls.mono (roundZ_any 2 _ (E + E) E 2100 _ _ HZ6.out.toZ E HE.out rfl (by rw [HE.out]; omega) (by omega) (by omega) (by omega)) ?_
        rintro e9 w9 ⟨r9, k9, rfl, hr9, b9⟩
        have HMG : Hid (MgR z us r9 k9) := by
          refine ⟨fun _ => ?_, fun h => absurd (HCT.out.symm.trans h) (by decide)⟩
          obtain ⟨a92, ha92⟩ : ∃ a : Nat, a = 92 := ⟨_, rfl⟩
          rw [leO_is ha92 HW.out.1 hgm (ltsB HLT.out) (finsB HW.out.2.1)]
          rw [leJ_is HE.out] at hr9
          exact RndO.ofM ha92 HE.out hr9
        have P9 : Hid (Below w.heap.size w w9) := to_call P6.out b9
        clear hr9 b9
        go_wp2_with fail
        refine bodyPost_ret (v := .tuple #[.int .u64 (r9 : Int), .bool k9]) (res_tmp2J _ 4 5 (by kernel_rfl) _ _ _ _ (by rfl) (by rfl)) rfl ?_
        exact ⟨⟨r9, k9, rfl, HMG.out⟩, P9.out⟩
      · have hcf : clB z us = false := by rw [HCL.out, decide_eq_false hlN]; rfl
        have hne : ((l : Int) != u.N + 1) = true := by rw [bne_iff_ne, huN]; exact hlN
        clear hlN huN hN1 hN2
        have k0 := cellAtJ P5.out.2.1 0 _ rfl
        go_wp2_with fail
        refine bodyPost_ret (v := .tuple #[.int .u64 0, .bool false]) (res_tmp2J _ 4 5 (by kernel_rfl) _ _ _ _ (by rfl) (by rfl)) rfl ?_
        exact ⟨⟨0, false, rfl, ⟨fun h => absurd (hcf.symm.trans h) (by decide), fun _ => ⟨rfl, rfl⟩⟩⟩, P5.out.1⟩
theorem fval_lt_iff (a b : Nat) : fval a < fval b ↔ srung a < srung b := by
  rw [fval_smag, fval_smag]
  exact ⟨lt_of_smag, smag_lt⟩
set_option maxRecDepth 100000 in
set_option maxHeartbeats 2000000 in
/-- The document's Less. -/
theorem refLess_any (a b : Nat) (ha : a < 18446744073709551616) (hb : b < 18446744073709551616) (fa : Fin a) (fb : Fin b) (w : World) :
    Calls Try.prog 38 #[.int .u64 (a : Int), .int .u64 (b : Int)] w fun e w' => e = .returned (.bool (decide (srung a < srung b))) ∧ Below w.heap.size w w' := by
  obtain ⟨E, hE⟩ : ∃ E : Nat, E = 1074 := ⟨_, rfl⟩
  have HE : Hid (E = 1074) := hE
  obtain ⟨sg, hsg⟩ : ∃ sg, sgi (fval a - fval b) = sg := ⟨_, rfl⟩
  have HSG : Hid (sgi (fval a - fval b) = sg) := hsg
  have hdd : decide (sg < 0) = decide (srung a < srung b) := by
    have h1 := fval_lt_iff a b
    rw [← hsg]
    by_cases h : srung a < srung b
    · rw [decide_eq_true h, decide_eq_true]
      have := h1.2 h
      unfold sgi; rw [if_pos (by omega)]; decide
    · rw [decide_eq_false h, decide_eq_false]
      have h2 : ¬ fval a < fval b := fun c => h (h1.1 c)
      unfold sgi; rw [if_neg (by omega)]; split <;> decide
  have HDD : Hid (decide (sg < 0) = decide (srung a < srung b)) := hdd
  have HOA : Hid (∀ W, _) := fun W => ofC_any a ha W E hE
  have HOB : Hid (∀ W, _) := fun W => ofC_any b hb W E hE
  have HFF : Hid (Fin a ∧ Fin b) := ⟨fa, fb⟩
  clear hsg hdd hE fa fb
  go_enter Try.func38, Try.ntmps38
  go_wp2_with fail
  refine Calls.mono (HOA.out _) ?_
  rintro e w1 ⟨v1, rfl, ⟨z1, hz1, hv1⟩, b1⟩
  obtain ⟨n1, o1, t1, p1, x1, hf1⟩ := hz1.form
  subst hf1
  have ez : z1 = fval a := hv1 HFF.out.1
  subst ez
  have HZ1 : Hid (NumC w1 (.agg #[.bool n1, .slice o1 t1 p1, .int .i64 x1]) E 1024 (fval a) ∧ Below w.heap.size w w1) := ⟨hz1, b1⟩
  clear hz1 hv1 b1
  go_upto_region 2 with fail
  have A1 : Below w1.heap.size w1 (w1.alloc (.cells #[.bool n1, .slice o1 t1 p1, .int .i64 x1] 60)) := (Below.refl _ w1).alloc (Nat.le_refl _) _
  have Y1 : (w1.alloc (.cells #[.bool n1, .slice o1 t1 p1, .int .i64 x1] 60)).heap[w1.heap.size]? = some (.cells #[.bool n1, .slice o1 t1 p1, .int .i64 x1] 60) := heap_alloc_new w1 _
  obtain ⟨X1, hX1⟩ : ∃ X1, (w1.alloc (.cells #[.bool n1, .slice o1 t1 p1, .int .i64 x1] 60)) = X1 := ⟨_, rfl⟩
  obtain ⟨B1, hB1⟩ : ∃ B1, w1.heap.size = B1 := ⟨_, rfl⟩
  rw [hX1] at A1 Y1 ⊢
  rw [hB1] at Y1 ⊢
  have P1 : Hid (Below w.heap.size w X1 ∧ X1.heap[B1]? = some (.cells #[.bool n1, .slice o1 t1 p1, .int .i64 x1] 60) ∧ NumC X1 (.agg #[.bool n1, .slice o1 t1 p1, .int .i64 x1]) E 1024 (fval a)) := ⟨to_call HZ1.out.2 A1, Y1, HZ1.out.1.later A1⟩
  clear hX1 hB1 A1 Y1 HZ1
  go_wp2_with fail
  refine Calls.mono (HOB.out _) ?_
  rintro e w2 ⟨v2, rfl, ⟨z2, hz2, hv2⟩, b2⟩
  obtain ⟨n2, o2, t2, p2, x2, hf2⟩ := hz2.form
  subst hf2
  have ez : z2 = fval b := hv2 HFF.out.2
  subst ez
  have HZ2 : Hid (NumC w2 (.agg #[.bool n2, .slice o2 t2 p2, .int .i64 x2]) E 1024 (fval b) ∧ Below w.heap.size w w2 ∧ w2.heap[B1]? = some (.cells #[.bool n1, .slice o1 t1 p1, .int .i64 x1] 60) ∧ NumC w2 (.agg #[.bool n1, .slice o1 t1 p1, .int .i64 x1]) E 1024 (fval a)) := ⟨hz2, to_call P1.out.1 b2, kept b2 P1.out.2.1, P1.out.2.2.later b2⟩
  clear hz2 hv2 b2 P1
  go_upto_region 3 with fail
  have A2 : Below w2.heap.size w2 (w2.alloc (.cells #[.bool n2, .slice o2 t2 p2, .int .i64 x2] 60)) := (Below.refl _ w2).alloc (Nat.le_refl _) _
  have Y2 : (w2.alloc (.cells #[.bool n2, .slice o2 t2 p2, .int .i64 x2] 60)).heap[w2.heap.size]? = some (.cells #[.bool n2, .slice o2 t2 p2, .int .i64 x2] 60) := heap_alloc_new w2 _
  obtain ⟨X2, hX2⟩ : ∃ X2, (w2.alloc (.cells #[.bool n2, .slice o2 t2 p2, .int .i64 x2] 60)) = X2 := ⟨_, rfl⟩
  obtain ⟨B2, hB2⟩ : ∃ B2, w2.heap.size = B2 := ⟨_, rfl⟩
  rw [hX2] at A2 Y2 ⊢
  rw [hB2] at Y2 ⊢
  have P2 : Hid (Below w.heap.size w X2 ∧ X2.heap[B1]? = some (.cells #[.bool n1, .slice o1 t1 p1, .int .i64 x1] 60) ∧ X2.heap[B2]? = some (.cells #[.bool n2, .slice o2 t2 p2, .int .i64 x2] 60) ∧ NumC X2 (.agg #[.bool n1, .slice o1 t1 p1, .int .i64 x1]) E 1024 (fval a) ∧ NumC X2 (.agg #[.bool n2, .slice o2 t2 p2, .int .i64 x2]) E 1024 (fval b)) := ⟨to_call HZ2.out.2.1 A2, kept A2 HZ2.out.2.2.1, Y2, HZ2.out.2.2.2.later A2, HZ2.out.1.later A2⟩
  clear hX2 hB2 A2 Y2 HZ2
  have HC : Hid (Calls Try.prog 24 #[.agg #[.bool n1, .slice o1 t1 p1, .int .i64 x1], .agg #[.bool n2, .slice o2 t2 p2, .int .i64 x2]] X2 fun e' w' => e' = .returned (.int .i64 sg) ∧ Below X2.heap.size X2 w') := by
    have h9 := cmpZ_any _ _ E 1024 _ _ X2 P2.out.2.2.2.1.toZ P2.out.2.2.2.2.toZ (by rw [HE.out]; omega) (by omega)
    rw [HSG.out] at h9
    exact h9
  go_wp2_with (first | (refine wpList_load_row (by rfl) 60 _ (by rfl) B1 _ (by rfl) P2.out.2.1 _ Try.underlying60 rfl 3 Try.infoN3 (by rfl) ?_) | (refine wpList_load_row (by rfl) 60 _ (by rfl) B2 _ (by rfl) P2.out.2.2.1 _ Try.underlying60 rfl 3 Try.infoN3 (by rfl) ?_))
  refine Calls.mono HC.out ?_
  rintro e w3 ⟨rfl, b3⟩
  go_wp2_with fail
  go_ret
  exact ⟨by rw [← HDD.out]; rfl, to_call P2.out.1 b3⟩
theorem Try.infoUsM : (Try.prog.info? 27).map (fun i => (i.zero, i.size, i.bytes)) = some (some (.slice none 0 0), 1, 24) := by kernel_rfl
set_option maxRecDepth 100000 in
set_option maxHeartbeats 2000000 in
/-- The law's lists. -/
theorem lists_any (ao : Option Addr) (l c : Nat) (gv : Nat → Option Addr × Nat × Nat) (css : List (List Nat)) (w : World) (ha : RdGs w ao l c gv css) (hl : l ≤ 1050000) (hll : ∀ k, k < l → (gv k).2.1 ≤ 1050000) :
    Calls Try.prog 16 #[.slice ao l c] w fun e w' => (∃ (go : Option Addr) (gc : Nat) (gv' : Nat → Option Addr × Nat × Nat), e = .returned (.slice go l gc) ∧ Hid (RdGu w' go l gc gv' css)) ∧ Below w.heap.size w w' := by
  have HA : Hid (∀ W', Below w.heap.size w W' → RdGs W' ao l c gv css) := fun W' hb => ha.later hb
  have HLN : Hid (css.length = l) := ha.length
  have HLL : Hid (∀ k, k < l → (gv k).2.1 ≤ 1050000) := hll
  clear ha hll
  go_enter Try.func16, Try.ntmps16
  go_wp2_with fail
  go_loopg [3, 4] l (fun g v3 v4 wx => ∃ k : Nat, v4 = .int .i64 k ∧ k + g = l ∧ ∃ gl : List Value, Hid (OfL wx w.heap.size [] [] [] (css.take k) (.slice none 0 0) (.slice none 0 0) (.slice none 0 0) v3 gl ∧ Below w.heap.size w wx ∧ gl.length = k))
  case atStart => exact ⟨0, rfl, by omega, [], ⟨OfL.nilM _ _, Below.refl _ _, rfl⟩⟩
  case round =>
    obtain ⟨k, rfl, hk, gl, HI⟩ := hrel
    by_cases hlt : k < l
    · have hd : decide ((k : Int) < (l : Int)) = true := decide_eq_true (by omega)
      obtain ⟨g, rfl⟩ : ∃ g, gk = g + 1 := ⟨gk - 1, by omega⟩
      have HIG : Hid (k + (g + 1) = l) := hk
      have hlt' : (k : Int) < (l : Int) := by omega
      have rx := HA.out _ HI.out.2.1
      rcases rx.cells with h0 | ⟨gb, goff, ego, hcg⟩
      · omega
      subst ego
      have gg := hcg k hlt
      have rg := rx.each k hlt
      have hl2 := HLL.out k hlt
      obtain ⟨x1, ex1⟩ : ∃ t, (gv k).1 = t := ⟨_, rfl⟩
      obtain ⟨x2, ex2⟩ : ∃ t, (gv k).2.1 = t := ⟨_, rfl⟩
      obtain ⟨x3, ex3⟩ : ∃ t, (gv k).2.2 = t := ⟨_, rfl⟩
      rw [ex1, ex2, ex3] at rg gg
      rw [ex2] at hl2
      have RG : Hid (RdF wr x1 x2 x3 (css[k]?.getD [])) := rg
      have HTK : Hid (css.take (k + 1) = css.take k ++ [css[k]?.getD []]) := by
        have hkl : k < css.length := by rw [HLN.out]; exact hlt
        unfold Hid
        rw [List.take_succ_eq_append_getElem hkl, List.getElem?_eq_getElem hkl]; rfl
      clear rx hcg rg ex1 ex2 ex3 hk
      go_wp2_with fail
      refine Calls.mono (bits10_any x1 x2 x3 _ _ RG.out hl2) ?_
      rintro e w1 ⟨v1, rfl, o1, b1⟩
      obtain ⟨bo1, bc1, hv1, -⟩ := rdU_own o1
      obtain ⟨ln1, hln1⟩ : ∃ ln, (css[k]?.getD []).length = ln := ⟨_, rfl⟩
      rw [hln1] at hv1
      subst hv1
      have O1 : Hid (w1.ownsRow w.heap.size 36 1 (.slice bo1 ln1 bc1) (css[k]?.getD []).length (uJ (css[k]?.getD []))) := owns_monoJ o1 HI.out.2.1.size
      have L1 : Hid (OfL w1 w.heap.size [] [] [] (css.take k) (.slice none 0 0) (.slice none 0 0) (.slice none 0 0) u3 gl ∧ Below w.heap.size w w1 ∧ gl.length = k) := ⟨HI.out.1.later b1, to_call HI.out.2.1 b1, HI.out.2.2⟩
      clear o1 b1 gg RG HI hln1
      have A1 : Below w1.heap.size w1 (w1.alloc (.cells #[.slice bo1 ln1 bc1] 27)) := (Below.refl _ w1).alloc (Nat.le_refl _) _
      have Lz : Hid (OfL (w1.alloc (.cells #[.slice bo1 ln1 bc1] 27)) w.heap.size [] [] [] (css.take k) (.slice none 0 0) (.slice none 0 0) (.slice none 0 0) u3 gl) := L1.out.1.later A1
      have Oz : Hid ((w1.alloc (.cells #[.slice bo1 ln1 bc1] 27)).ownsRow w.heap.size 36 1 (.slice bo1 ln1 bc1) (css[k]?.getD []).length (uJ (css[k]?.getD []))) := World.ownsRow.alloc O1.out _
      go_wp2_with (first
        | (at_builtin; refine append_gsJ Try.underlying28 Try.infoUsM rfl (by decide) (by decide) _ (by rfl) _ _ (by rfl) w.heap.size _ gl.length gl (by rfl) Lz.out.g ⟨w1.heap.size, 0, none⟩ 1 1 [.slice bo1 ln1 bc1] (by rfl) rfl (news_oneJ (heap_alloc_new w1 _)) (oneI _ (own_valJ O1.out).1) (by have := L1.out.2.2; omega) (by have := L1.out.2.1.size; simp only [alloc_size]; omega) ?_; intro v6 w6 o6 g6))
      have HI2 : Hid (OfL w6 w.heap.size [] [] [] (css.take (k + 1)) (.slice none 0 0) (.slice none 0 0) (.slice none 0 0) v6 (gl ++ [Value.slice bo1 ln1 bc1]) ∧ Below w.heap.size w w6 ∧ (gl ++ [Value.slice bo1 ln1 bc1]).length = k + 1) := by
        refine ⟨?_, (to_call L1.out.2.1 A1).trans (g6.below (fun k hk => (World.ownsRow.lt Lz.out.g k hk).1) (to_call L1.out.2.1 A1).size), by rw [List.length_append, L1.out.2.2]; rfl⟩
        rw [HTK.out]
        exact Lz.out.pushG g6 o6 Oz.out
      clear o6 g6 A1 Lz Oz O1 L1 HTK
      go_roundg g
      case measure => omega
      case rel => exact ⟨k + 1, by go_num, by have := HIG.out; omega, gl ++ [Value.slice bo1 ln1 bc1], HI2⟩
    · have hd : decide ((k : Int) < (l : Int)) = false := decide_eq_false (by omega)
      have hd' : decide (k < l) = false := decide_eq_false (by omega)
      have h9 := HI.out.1
      rw [List.take_of_length_le (by rw [HLN.out]; omega)] at h9
      obtain ⟨go, gc, gv', e9, r9⟩ := h9.guM
      rw [HLN.out] at e9 r9
      have HR9 : Hid (RdGu wr go l gc gv' css) := r9
      subst e9
      clear h9 r9
      go_wp2_with fail
      go_ret
      exact ⟨⟨go, gc, gv', rfl, HR9⟩, HI.out.2.1⟩
end Go.Proofs.Ytbjnkefjlaplkaa

namespace Go.Proofs.Ytbjnkefjlaplkaa
open Go.RowKit Go.Shelf
set_option linter.unusedVariables false
set_option linter.unusedSimpArgs false

theorem MgR.lt {z : ZD} {us : List Nat} {u : Nat} {b : Bool} (h : MgR z us u b) : u < 18446744073709551616 := by
  cases hc : clB z us with
  | true =>
    have h1 := h.1 hc
    cases ho : leO z us with
    | none => rw [ho] at h1; rw [h1.1]; decide
    | some v =>
      rw [ho] at h1
      obtain ⟨a, ha⟩ : ∃ a : Nat, a = 1166 := ⟨_, rfl⟩
      exact (tell_fin (h1 a ha)).2
  | false => rw [(h.2 hc).1]; decide
theorem WoK.lt {z : ZD} {css : List (List Nat)} : ∀ {k a u : Nat}, WoK z css k a u → u < 18446744073709551616
  | 0, a, u, h => by rw [h.2]; decide
  | k + 1, a, u, ⟨a9, u9, v, h1, h2, h3⟩ => by
    rcases h3 with ⟨_, e, _⟩ | ⟨_, e, _⟩
    · rw [e]; exact h2.lt
    · rw [e]; exact WoK.lt h1
set_option maxRecDepth 100000 in
set_option maxHeartbeats 4000000 in
/-- The document's Worst. -/
theorem refWorst_any {w0 : World} (z u : ZD) (go : Option Addr) (l gc : Nat) (gv : Nat → Option Addr × Nat × Nat) (css : List (List Nat)) (w : World) (hz : ZR w0 z) (hw : ZW z) (hdn : z.dn ≤ 1050000) (hu : ZU w u) (hk : SmZ u z) (ha : RdGu w go l gc gv css) (hlt : ∀ k, k < l → ∀ x ∈ (css[k]?.getD []), x < 18446744073709551616) (hll : ∀ k, k < l → (css[k]?.getD []).length ≤ 1050000) :
    Calls Try.prog 15 #[.agg #[.int .i64 u.N, .slice u.co u.cn u.cc, .slice u.io u.dn u.dc, .slice u.go u.gn u.gc, .slice u.ro u.rn u.rc, .bool u.bad], .slice go l gc] w fun e w' => (∃ (a r : Nat) (b : Bool), e = .returned (.tuple #[.int .i64 (a : Int), .int .u64 (r : Int), .bool b]) ∧ WoR z css l a r b) ∧ Below w.heap.size w w' := by
  have HZ0 : Hid (ZR w0 z) := hz
  have HZW : Hid (ZW z) := hw
  have HD : Hid (z.dn ≤ 1050000) := hdn
  have HU : Hid (∀ W', Below w.heap.size w W' → ZU W' u) := fun W' hb => hu.later hb
  have HK : Hid (SmZ u z) := hk
  have HA : Hid (∀ W', Below w.heap.size w W' → RdGu W' go l gc gv css) := fun W' hb => ha.later hb
  have HLT : Hid (∀ k, k < l → ∀ x ∈ (css[k]?.getD []), x < 18446744073709551616) := hlt
  have HLL : Hid (∀ k, k < l → (css[k]?.getD []).length ≤ 1050000) := hll
  have hlm : l ≤ 9223372036854775807 := Nat.le_trans ha.max maxLen_le
  have X0 : Below w.heap.size w (w.alloc (.cells #[.int .i64 u.N, .slice u.co u.cn u.cc, .slice u.io u.dn u.dc, .slice u.go u.gn u.gc, .slice u.ro u.rn u.rc, .bool u.bad] 30)) := (Below.refl _ w).alloc (Nat.le_refl _) _
  have Y0 : (w.alloc (.cells #[.int .i64 u.N, .slice u.co u.cn u.cc, .slice u.io u.dn u.dc, .slice u.go u.gn u.gc, .slice u.ro u.rn u.rc, .bool u.bad] 30)).heap[w.heap.size]? = some (.cells #[.int .i64 u.N, .slice u.co u.cn u.cc, .slice u.io u.dn u.dc, .slice u.go u.gn u.gc, .slice u.ro u.rn u.rc, .bool u.bad] 30) := heap_alloc_new w _
  clear hz hw hdn hu hk ha hlt hll
  go_enter Try.func15, Try.ntmps15
  go_upto_region 1 with fail
  obtain ⟨X, hX⟩ : ∃ X, (w.alloc (.cells #[.int .i64 u.N, .slice u.co u.cn u.cc, .slice u.io u.dn u.dc, .slice u.go u.gn u.gc, .slice u.ro u.rn u.rc, .bool u.bad] 30)) = X := ⟨_, rfl⟩
  rw [hX] at X0 Y0 ⊢
  have P1 : Hid (Below w.heap.size w X ∧ X.heap[w.heap.size]? = some (.cells #[.int .i64 u.N, .slice u.co u.cn u.cc, .slice u.io u.dn u.dc, .slice u.go u.gn u.gc, .slice u.ro u.rn u.rc, .bool u.bad] 30)) := ⟨X0, Y0⟩
  clear hX X0 Y0
  go_wp2_with fail
  go_loopg [7, 8, 9] l (fun g v7 v8 iv wx => ∃ k a m : Nat, iv = .int .i64 k ∧ k + g = l ∧ Hid (Below w.heap.size w wx ∧ wx.heap[w.heap.size]? = some (.cells #[.int .i64 u.N, .slice u.co u.cn u.cc, .slice u.io u.dn u.dc, .slice u.go u.gn u.gc, .slice u.ro u.rn u.rc, .bool u.bad] 30)) ∧ Hid (WoK z css k a m) ∧ ((k = 0 ∧ v7 = .int .i64 (-1) ∧ v8 = .int .u64 0) ∨ (0 < k ∧ v7 = .int .i64 (a : Int) ∧ v8 = .int .u64 (m : Int))))
  case atStart => exact ⟨0, 0, 0, rfl, by omega, P1, ⟨rfl, rfl⟩, .inl ⟨rfl, rfl, rfl⟩⟩
  case round =>
    clear P1
    obtain ⟨k, a, m, rfl, hk, P1, HWK, hv⟩ := hrel
    by_cases hlt : k < l
    · have hd : decide ((k : Int) < (l : Int)) = true := decide_eq_true (by omega)
      obtain ⟨g, rfl⟩ : ∃ g, gk = g + 1 := ⟨gk - 1, by omega⟩
      have HIG : Hid (k + (g + 1) = l) := hk
      have hlt' : (k : Int) < (l : Int) := by omega
      have rx := HA.out _ P1.out.1
      rcases rx.cells with h0 | ⟨gb, goff, ego, hcg⟩
      · omega
      subst ego
      have gg := hcg k hlt
      have rg := rx.each k hlt
      obtain ⟨x1, ex1⟩ : ∃ t, (gv k).1 = t := ⟨_, rfl⟩
      obtain ⟨x2, ex2⟩ : ∃ t, (gv k).2.1 = t := ⟨_, rfl⟩
      obtain ⟨x3, ex3⟩ : ∃ t, (gv k).2.2 = t := ⟨_, rfl⟩
      rw [ex1, ex2, ex3] at rg gg
      have hx2 : x2 ≤ 1050000 := by rw [← rg.length]; exact HLL.out k hlt
      have RG : Hid (RdUs wr x1 x2 x3 (css[k]?.getD [])) := rg
      have CG : Hid (wr.cell? ⟨gb, goff + k, none⟩ = some (.slice x1 x2 x3)) := gg
      clear rx hcg rg gg ex1 ex2 ex3 hk
      have HV : Hid _ := hv
      clear hv
      go_upto_region 6 with fail
      have bX : Below wr.heap.size wr wr.drew := (Below.refl _ _).drew
      refine wp_region_noPanic ?_
      refine wp_region_held_drew (S := (fun V => Below wr.heap.size wr V)) (by kernel_rfl) bX (fun _ => ?_)
      refine takeH 19 (i := 0) (v := .agg #[.int .i64 u.N, .slice u.co u.cn u.cc, .slice u.io u.dn u.dc, .slice u.go u.gn u.gc, .slice u.ro u.rn u.rc, .bool u.bad]) rfl rfl (by kernel_rfl) (by kernel_rfl) (by kernel_rfl) (fun _ _ _ h => h) (Or.inl ⟨by kernel_rfl, fun w' hSw => ex_loadRN _ 30 _ rfl w.heap.size (by kernel_rfl) w' _ (kept hSw P1.out.2) _ Try.underlying30 rfl 6 Try.infoZu rfl⟩) bX ?_
      try simp only [Act.put, List.setIfInBounds_toArray, List.set_cons_zero, List.set_cons_succ]
      refine takeH 20 (i := 1) (v := ?_) rfl rfl (by kernel_rfl) (by kernel_rfl) (by kernel_rfl) (fun _ _ _ h => h) (Or.inl ⟨by kernel_rfl, ?_⟩) bX ?_
      rotate_left
      · intro w' hSw; have s0 := cell_later CG.out hSw; go_simp; try with_reducible rfl
      try simp only [Act.put, List.setIfInBounds_toArray, List.set_cons_zero, List.set_cons_succ]
      refine takeH 21 (i := 2) (v := ?_) rfl rfl (by kernel_rfl) (by kernel_rfl) (by kernel_rfl) (fun _ _ _ h => h) (Or.inl ⟨by kernel_rfl, ?_⟩) bX ?_
      rotate_left
      · intro w' hSw; have s0 := cell_later CG.out hSw; go_simp; try with_reducible rfl
      try simp only [Act.put, List.setIfInBounds_toArray, List.set_cons_zero, List.set_cons_succ]
      refine takeH 22 (i := 3) (v := ?_) rfl rfl (by kernel_rfl) (by kernel_rfl) (by kernel_rfl) (fun _ _ _ h => h) (Or.inl ⟨by kernel_rfl, ?_⟩) bX ?_
      rotate_left
      · intro w' hSw; have s0 := cell_later CG.out hSw; go_simp; try with_reducible rfl
      try simp only [Act.put, List.setIfInBounds_toArray, List.set_cons_zero, List.set_cons_succ]
      refine takeH 23 (i := 4) (v := ?_) rfl rfl (by kernel_rfl) (by kernel_rfl) (by kernel_rfl) (fun _ _ _ h => h) (Or.inl ⟨by kernel_rfl, ?_⟩) bX ?_
      rotate_left
      · intro w' hSw; have s0 := cell_later CG.out hSw; go_simp; try with_reducible rfl
      try simp only [Act.put, List.setIfInBounds_toArray, List.set_cons_zero, List.set_cons_succ]
      refine wpAnyH_ready (rs := [5]) (by kernel_rfl) (by simp) ?_
      refine consH _ rfl (hopCd 24 rfl (by kernel_rfl) rfl (by kernel_rfl) (Calls.mono (refMargin_any z u x1 x2 x3 (css[k]?.getD []) _ HZ0.out HZW.out HD.out (HU.out _ (to_call P1.out.1 bX)) HK.out (RG.out.later bX) (HLT.out k hlt) hx2) ?_)) AllReadyH.nil
      rintro e V1 ⟨⟨r, b, rfl, hm⟩, b1⟩
      have bX : Below wr.heap.size wr V1 := to_call bX b1
      clear b1
      refine ⟨_, rfl, bX, ?_⟩
      try simp only [Act.put, List.setIfInBounds_toArray, List.set_cons_zero, List.set_cons_succ]
      refine takeH 18 (i := 6) (v := ?_) rfl rfl (by kernel_rfl) (by kernel_rfl) (by kernel_rfl) (fun _ _ _ h => h) (Or.inl ⟨by kernel_rfl, ?_⟩) bX ?_
      rotate_left
      · intro w' hSw; skip; go_simp; try with_reducible rfl
      try simp only [Act.put, List.setIfInBounds_toArray, List.set_cons_zero, List.set_cons_succ]
      refine takeH 25 (i := 7) (v := ?_) rfl rfl (by kernel_rfl) (by kernel_rfl) (by kernel_rfl) (fun _ _ _ h => h) (Or.inl ⟨by kernel_rfl, ?_⟩) bX ?_
      rotate_left
      · intro w' hSw; skip; go_simp; try with_reducible rfl
      try simp only [Act.put, List.setIfInBounds_toArray, List.set_cons_zero, List.set_cons_succ]
      refine takeH 26 (i := 8) (v := ?_) rfl rfl (by kernel_rfl) (by kernel_rfl) (by kernel_rfl) (fun _ _ _ h => h) (Or.inl ⟨by kernel_rfl, ?_⟩) bX ?_
      rotate_left
      · intro w' hSw; skip; go_simp; try with_reducible rfl
      try simp only [Act.put, List.setIfInBounds_toArray, List.set_cons_zero, List.set_cons_succ]
      refine takeH 10 (i := 9) (v := ?_) rfl rfl (by kernel_rfl) (by kernel_rfl) (by kernel_rfl) (fun _ _ _ h => h) (Or.inl ⟨by kernel_rfl, ?_⟩) bX ?_
      rotate_left
      · intro w' hSw; skip; go_simp; try with_reducible rfl
      try simp only [Act.put, List.setIfInBounds_toArray, List.set_cons_zero, List.set_cons_succ]
      refine takeH 11 (i := 10) (v := ?_) rfl rfl (by kernel_rfl) (by kernel_rfl) (by kernel_rfl) (fun _ _ _ h => h) (Or.inl ⟨by kernel_rfl, ?_⟩) bX ?_
      rotate_left
      · intro w' hSw; skip; go_simp; try with_reducible rfl
      try simp only [Act.put, List.setIfInBounds_toArray, List.set_cons_zero, List.set_cons_succ]
      refine wpAnyH_done (by kernel_rfl) ?_ _
      refine NoPanic.normal ?_
      try simp only [Act.put, List.setIfInBounds_toArray, List.set_cons_zero, List.set_cons_succ]
      have HM : Hid (MgR z (css[k]?.getD []) r b) := hm
      have P2 : Hid (Below w.heap.size w V1 ∧ V1.heap[w.heap.size]? = some (.cells #[.int .i64 u.N, .slice u.co u.cn u.cc, .slice u.io u.dn u.dc, .slice u.go u.gn u.gc, .slice u.ro u.rn u.rc, .bool u.bad] 30)) := ⟨to_call P1.out.1 bX, kept bX P1.out.2⟩
      clear hm bX P1 RG CG
      cases b with
      | false =>
        go_wp2_with fail
        refine bodyPost_ret (v := .tuple #[.int .i64 0, .int .u64 0, .bool false]) (res_tmp3M _ 4 5 6 (by kernel_rfl) _ _ _ _ _ (by rfl) (by rfl) (by rfl)) rfl ?_
        exact ⟨⟨0, 0, false, rfl, .inl ⟨k, a, m, r, hlt, HWK.out, HM.out, rfl, rfl, rfl⟩⟩, P2.out.1⟩
      | true =>
        rcases HV.out with ⟨h0, e7, e8⟩ | ⟨h0, e7, e8⟩
        · subst h0 e7 e8
          have HW2 : Hid (WoK z css (0 + 1) 0 r) := ⟨a, m, r, HWK.out, HM.out, .inl ⟨rfl, rfl, .inl rfl⟩⟩
          go_wp2_with fail
          go_roundg g
          case measure => omega
          case rel => exact ⟨0 + 1, 0, r, by go_num, by have := HIG.out; omega, P2, HW2, .inr ⟨by omega, by go_num, rfl⟩⟩
        · subst e7 e8
          have ha0 : decide ((a : Int) < 0) = false := decide_eq_false (by omega)
          obtain ⟨ls, hls⟩ : ∃ ls, decide (srung r < srung m) = ls := ⟨_, rfl⟩
          have HLS : Hid (decide (srung r < srung m) = ls) := hls
          have HLE : Hid (∀ W, Calls Try.prog 38 #[.int .u64 (r : Int), .int .u64 (m : Int)] W fun e w' => e = .returned (.bool ls) ∧ Below W.heap.size W w') := fun W => hls ▸ refLess_any r m HM.out.lt HWK.out.lt HM.out.fin HWK.out.fin W
          clear hls
          have hk0 : ¬ k = 0 := by omega
          cases ls with
          | true =>
            have HW2 : Hid (WoK z css (k + 1) k r) := ⟨a, m, r, HWK.out, HM.out, .inl ⟨rfl, rfl, .inr (of_decide_eq_true HLS.out)⟩⟩
            go_wp2_with (go_at_call 38; refine Calls.mono (HLE.out _) ?_; rintro e w4 ⟨rfl, b4⟩)
            have P4 : Hid (Below w.heap.size w w4 ∧ w4.heap[w.heap.size]? = some (.cells #[.int .i64 u.N, .slice u.co u.cn u.cc, .slice u.io u.dn u.dc, .slice u.go u.gn u.gc, .slice u.ro u.rn u.rc, .bool u.bad] 30)) := ⟨to_call P2.out.1 b4, kept b4 P2.out.2⟩
            clear b4
            go_roundg g
            case measure => omega
            case rel => exact ⟨k + 1, k, r, by go_num, by have := HIG.out; omega, P4, HW2, .inr ⟨by omega, rfl, rfl⟩⟩
          | false =>
            have HW2 : Hid (WoK z css (k + 1) a m) := ⟨a, m, r, HWK.out, HM.out, .inr ⟨rfl, rfl, fun h => by rcases h with h | h; exact hk0 h; exact of_decide_eq_false HLS.out h⟩⟩
            go_wp2_with (go_at_call 38; refine Calls.mono (HLE.out _) ?_; rintro e w4 ⟨rfl, b4⟩)
            have P4 : Hid (Below w.heap.size w w4 ∧ w4.heap[w.heap.size]? = some (.cells #[.int .i64 u.N, .slice u.co u.cn u.cc, .slice u.io u.dn u.dc, .slice u.go u.gn u.gc, .slice u.ro u.rn u.rc, .bool u.bad] 30)) := ⟨to_call P2.out.1 b4, kept b4 P2.out.2⟩
            clear b4
            go_roundg g
            case measure => omega
            case rel => exact ⟨k + 1, a, m, by go_num, by have := HIG.out; omega, P4, HW2, .inr ⟨by omega, rfl, rfl⟩⟩
    · have hd : decide ((k : Int) < (l : Int)) = false := decide_eq_false (by omega)
      have hd' : decide (k < l) = false := decide_eq_false (by omega)
      have ek : k = l := by omega
      have HW2 : Hid (WoK z css l a m) := ek ▸ HWK.out
      rcases hv with ⟨h0, e7, e8⟩ | ⟨h0, e7, e8⟩
      · subst e7 e8
        have hl0 : l = 0 := by omega
        have HW3 : Hid (WoR z css l 0 0 false) := .inr ⟨by rw [hl0]; exact ⟨rfl, rfl⟩, by rw [hl0]; rfl⟩
        clear hk ek h0 hl0
        go_wp2_with fail
        refine bodyPost_ret (v := .tuple #[.int .i64 0, .int .u64 0, .bool false]) (res_tmp3M _ 4 5 6 (by kernel_rfl) _ _ _ _ _ (by rfl) (by rfl) (by rfl)) rfl ?_
        exact ⟨⟨0, 0, false, rfl, HW3.out⟩, P1.out.1⟩
      · subst e7 e8
        have ha0 : decide ((a : Int) < 0) = false := decide_eq_false (by omega)
        have HW3 : Hid (WoR z css l a m true) := .inr ⟨HW2.out, (decide_eq_true (by omega)).symm⟩
        clear hk ek h0
        go_wp2_with fail
        refine bodyPost_ret (v := .tuple #[.int .i64 (a : Int), .int .u64 (m : Int), .bool true]) (res_tmp3M _ 4 5 6 (by kernel_rfl) _ _ _ _ _ (by rfl) (by rfl) (by rfl)) rfl ?_
        exact ⟨⟨a, m, true, rfl, HW3.out⟩, P1.out.1⟩
end Go.Proofs.Ytbjnkefjlaplkaa

namespace Go.Proofs.Ytbjnkefjlaplkaa
open Go.RowKit Go.Shelf
set_option linter.unusedVariables false
set_option linter.unusedSimpArgs false

theorem RowN.storedM {w w' : World} {base E B : Nat} {v : Value} {us : List Nat} (h : RowN w base v E us) (hc : Cl noU w B) (ho : ∀ b, b ≠ B → w'.heap[b]? = w.heap[b]?) (hB : ∀ g, v.ownBlock = some g → g ≠ B) : RowN w' base v E us := by
  obtain ⟨xs, h1, h2⟩ := h.own
  refine ⟨⟨xs, owns_keep h1 fun k hk => ho k (hB k hk), fun j hj => ?_⟩, fun g hg => ?_⟩
  · obtain ⟨n, o, l, c, e, a1, a2, a3, a4⟩ := h2 j hj
    exact ⟨n, o, l, c, e, a1, a2, a3, a4.cl hc (fun b hb _ => ho b hb)⟩
  · obtain ⟨cur, t, h3, h4⟩ := h.cl g hg
    exact ⟨cur, t, (ho g (hB g hg)).trans h3, h4⟩
theorem RowN.storedB {w w' : World} {base E B : Nat} {v : Value} {us : List Nat} (h : RowN w base v E us) (hc : Cl noU w B) (ho : ∀ b, b ≠ B → w'.heap[b]? = w.heap[b]?) (hB : B < base) : RowN w' base v E us :=
  h.storedM hc ho fun g hg => by obtain ⟨xs, h1, h2⟩ := h.own; have := (World.ownsRow.lt h1 g hg).1; omega
theorem RlS.storedB {w w' : World} {base E B : Nat} {cs rs : List Nat} {ids : List Int} {gs : List (List Nat)} {vc vr vi vg : Value} {gl : List Value} (h : RlS w base E cs rs ids gs vc vr vi vg gl) (hc : Cl noU w B) (ho : ∀ b, b ≠ B → w'.heap[b]? = w.heap[b]?) (hB : B < base) : RlS w' base E cs rs ids gs vc vr vi vg gl := by
  have k1 : ∀ k, vi.ownBlock = some k → k ≠ B := fun k hk => by have := (World.ownsRow.lt h.i k hk).1; omega
  have k2 : ∀ k, vg.ownBlock = some k → k ≠ B := fun k hk => by have := (World.ownsRow.lt h.g k hk).1; omega
  refine ⟨h.c.storedB hc ho hB, h.r.storedB hc ho hB, owns_keep h.i fun k hk => ho k (k1 k hk), fun g hg => ?_, owns_keep h.g fun k hk => ho k (k2 k hk), fun g hg => ?_, h.len, fun j u hj => (h.col j u hj).storedB hc ho hB⟩
  · obtain ⟨cur, t, h3, h4⟩ := h.icl g hg
    exact ⟨cur, t, (ho g (k1 g hg)).trans h3, h4⟩
  · obtain ⟨cur, t, h3, h4⟩ := h.gcl g hg
    exact ⟨cur, t, (ho g (k2 g hg)).trans h3, h4⟩
theorem inC_cl {W : World} {B : Nat} {is : List Int} {t : TypeId} (h : W.heap[B]? = some (.cells (inC is) t)) : Cl noU W B := by
  refine ⟨_, _, h, fun i v hv => ?_⟩
  unfold inC at hv
  simp only [List.getElem?_toArray, List.getElem?_map, Option.map_eq_some_iff] at hv
  obtain ⟨j, _, rfl⟩ := hv
  rfl
theorem sgi_pow (x : Int) (a : Nat) : sgi (x * ((2 ^ a : Nat) : Int)) = sgi x := by
  have h : (0 : Int) < ((2 ^ a : Nat) : Int) := by have := Nat.two_pow_pos a; omega
  unfold sgi
  rcases Int.lt_trichotomy x 0 with c | c | c
  · rw [if_pos (Int.mul_neg_of_neg_of_pos c h), if_pos c]
  · subst c; simp
  · have h1 := Int.mul_pos c h
    rw [if_neg (by omega), if_neg (by omega), if_neg (by omega), if_neg (by omega)]
theorem signO_dot {us vs : List Nat} {n : Nat} (hd : ∀ j : Nat, Fin (us[j]?.getD 0)) (hv : ∀ j : Nat, Fin (vs[j]?.getD 0)) (hn : n ≤ 257) : signO (wgK us vs n) = sgi (dotV us vs n) := by
  obtain ⟨a, ha⟩ : ∃ a : Nat, a = 92 := ⟨_, rfl⟩
  obtain ⟨F, hF⟩ : ∃ F : Nat, F = 4196 := ⟨_, rfl⟩
  rw [wgK_is ha hF hd hv hn n (Nat.le_refl _)]
  exact sgi_pow _ _
set_option maxRecDepth 100000 in
set_option maxHeartbeats 4000000 in
/-- The document's Signs. -/
theorem refSigns_any {w0 : World} (z u : ZD) (bo : Option Addr) (l bc : Nat) (us : List Nat) (k : Int) (w : World) (hz : ZR w0 z) (hw : ZW z) (hdn : z.dn ≤ 1050000) (hu : ZU w u) (hk : SmZ u z) (ha : RdUs w bo l bc us) (hlt : ∀ u ∈ us, u < 18446744073709551616) (hl : l ≤ 1050000) (hid : wholeB z = true → ∀ j, j < z.dn → 0 ≤ z.ids[j]?.getD 0) :
    Calls Try.prog 13 #[.agg #[.int .i64 u.N, .slice u.co u.cn u.cc, .slice u.io u.dn u.dc, .slice u.go u.gn u.gc, .slice u.ro u.rn u.rc, .bool u.bad], .slice bo l bc, .int .i64 k] w fun e w' => (∃ (o : Option Addr) (n : Nat), e = .returned (.slice o n n) ∧ SgR z us k w.heap.size w' o n) ∧ Below w.heap.size w w' := by
  obtain ⟨E, hE⟩ : ∃ E : Nat, E = 1074 := ⟨_, rfl⟩
  have HE : Hid (E = 1074) := hE
  have HZ0 : Hid (ZR w0 z) := hz
  have HZW : Hid (ZW z) := hw
  have HD : Hid (z.dn ≤ 1050000) := hdn
  have HU : Hid (∀ W', Below w.heap.size w W' → ZU W' u) := fun W' hb => hu.later hb
  have HK : Hid (SmZ u z) := hk
  have HA : Hid (∀ W', Below w.heap.size w W' → RdUs W' bo l bc us) := fun W' hb => ha.later hb
  have HLN : Hid (us.length = l) := ha.length
  have HLT : Hid (∀ u ∈ us, u < 18446744073709551616) := hlt
  have HID : Hid (wholeB z = true → ∀ j, j < z.dn → 0 ≤ z.ids[j]?.getD 0) := hid
  have hlm : l ≤ 1050000 := hl
  have X0 : Below w.heap.size w (w.alloc (.cells #[.int .i64 u.N, .slice u.co u.cn u.cc, .slice u.io u.dn u.dc, .slice u.go u.gn u.gc, .slice u.ro u.rn u.rc, .bool u.bad] 30)) := (Below.refl _ w).alloc (Nat.le_refl _) _
  have Y0 : (w.alloc (.cells #[.int .i64 u.N, .slice u.co u.cn u.cc, .slice u.io u.dn u.dc, .slice u.go u.gn u.gc, .slice u.ro u.rn u.rc, .bool u.bad] 30)).heap[w.heap.size]? = some (.cells #[.int .i64 u.N, .slice u.co u.cn u.cc, .slice u.io u.dn u.dc, .slice u.go u.gn u.gc, .slice u.ro u.rn u.rc, .bool u.bad] 30) := heap_alloc_new w _
  clear hz hw hdn hu hk ha hlt hl hE hid
  by_cases hk : 0 ≤ k ∧ k ≤ 256
  · obtain ⟨n, rfl⟩ : ∃ n : Nat, k = n := ⟨k.toNat, by omega⟩
    have hn : n ≤ 256 := by omega
    have HSR : Hid (∀ (W : World) (B : Nat), w.heap.size < B → W.heap[B]? = some (.cells (inC (sgL z us n)) 3) → SgR z us (n : Int) w.heap.size W (some ⟨B, 0, none⟩) n) := by
      intro W B h1 h2
      unfold SgR
      rw [if_pos hk, Int.toNat_natCast]
      exact ⟨rfl, B, rfl, by omega, h2⟩
    have hk1 : decide ((n : Int) < 0) = false := decide_eq_false (by omega)
    have hk2 : decide ((n : Int) > 256) = false := decide_eq_false (by omega)
    have hmk := makeIM n (by omega)
    clear hk
    go_enter Try.func13, Try.ntmps13
    go_upto_region 3 with fail
    obtain ⟨X, hX⟩ : ∃ X, (w.alloc (.cells #[.int .i64 u.N, .slice u.co u.cn u.cc, .slice u.io u.dn u.dc, .slice u.go u.gn u.gc, .slice u.ro u.rn u.rc, .bool u.bad] 30)) = X := ⟨_, rfl⟩
    rw [hX] at X0 Y0 ⊢
    clear hX
    go_upto_region 4 with fail
    obtain ⟨B, hB⟩ : ∃ B, X.heap.size = B := ⟨_, rfl⟩
    obtain ⟨X1, hX1⟩ : ∃ X1, (X.alloc (.cells (inC (List.replicate n 0)) 3)) = X1 := ⟨_, rfl⟩
    have P1 : Hid (Below w.heap.size w X1 ∧ X1.heap[w.heap.size]? = some (.cells #[.int .i64 u.N, .slice u.co u.cn u.cc, .slice u.io u.dn u.dc, .slice u.go u.gn u.gc, .slice u.ro u.rn u.rc, .bool u.bad] 30) ∧ X1.heap[B]? = some (.cells (inC (List.replicate n 0)) 3) ∧ w.heap.size < B) := by
      rw [← hX1, ← hB]
      exact ⟨X0.alloc X0.size _, alloc_kept Y0 _, heap_alloc_new X _, blk_lt Y0⟩
    rw [hX1, hB]
    clear hX1 hB X0 Y0 hk1 hk2 hmk
    go_wp2_with (first | (refine wpList_load_row (by rfl) 30 _ (by rfl) w.heap.size _ (by rfl) P1.out.2.1 _ Try.underlying30 rfl 6 Try.infoZu (by rfl) ?_))
    refine Calls.mono (realsU z u E HE.out _ HZ0.out HZW.out (HU.out _ P1.out.1) HK.out) ?_
    rintro e w2 ⟨N', a1, l1, c1, a2, l2, c2, a3, l3, c3, a4, l4, c4, rfl, hR, b2⟩
    obtain ⟨g, hg⟩ : ∃ g, (!z.bad && wholeB z) = g := ⟨_, rfl⟩
    have HG : Hid ((!z.bad && wholeB z) = g) := hg
    rw [hg] at hR
    rw [hg]
    obtain ⟨bs0, hbs0⟩ : ∃ bs0, X1.heap.size = bs0 := ⟨_, rfl⟩
    have HB0 : Hid (B < bs0) := by unfold Hid; rw [← hbs0]; exact blk_lt P1.out.2.2.1
    rw [hbs0] at hR
    have P2 : Hid (Below w.heap.size w w2 ∧ w2.heap[w.heap.size]? = some (.cells #[.int .i64 u.N, .slice u.co u.cn u.cc, .slice u.io u.dn u.dc, .slice u.go u.gn u.gc, .slice u.ro u.rn u.rc, .bool u.bad] 30) ∧ w2.heap[B]? = some (.cells (inC (List.replicate n 0)) 3) ∧ w.heap.size < B) := ⟨to_call P1.out.1 b2, kept b2 P1.out.2.1, kept b2 P1.out.2.2.1, P1.out.2.2.2⟩
    have HR : Hid (g = true → N' = z.N ∧ ∃ gl, RlS w2 bs0 E z.cs z.rs z.ids z.gs (.slice a1 l1 c1) (.slice a4 l4 c4) (.slice a2 l2 c2) (.slice a3 l3 c3) gl) := hR
    have HS2 : Hid (B < w2.heap.size) := blk_lt P2.out.2.2.1
    clear hR b2 hg P1 hbs0
    have A3 : Below w2.heap.size w2 (w2.alloc (.cells #[.int .i64 N', .slice a1 l1 c1, .slice a2 l2 c2, .slice a3 l3 c3, .slice a4 l4 c4] 53)) := (Below.refl _ w2).alloc (Nat.le_refl _) _
    have Y3 : (w2.alloc (.cells #[.int .i64 N', .slice a1 l1 c1, .slice a2 l2 c2, .slice a3 l3 c3, .slice a4 l4 c4] 53)).heap[w2.heap.size]? = some (.cells #[.int .i64 N', .slice a1 l1 c1, .slice a2 l2 c2, .slice a3 l3 c3, .slice a4 l4 c4] 53) := heap_alloc_new w2 _
    go_upto_region 5 with fail
    obtain ⟨X3, hX3⟩ : ∃ X3, (w2.alloc (.cells #[.int .i64 N', .slice a1 l1 c1, .slice a2 l2 c2, .slice a3 l3 c3, .slice a4 l4 c4] 53)) = X3 := ⟨_, rfl⟩
    obtain ⟨B3, hB3⟩ : ∃ B3, w2.heap.size = B3 := ⟨_, rfl⟩
    rw [hX3] at A3 Y3 ⊢
    have HBB : Hid (B < B3) := by unfold Hid; rw [← hB3]; exact HS2.out
    rw [hB3] at Y3 ⊢
    have P3 : Hid (Below w.heap.size w X3 ∧ X3.heap[w.heap.size]? = some (.cells #[.int .i64 u.N, .slice u.co u.cn u.cc, .slice u.io u.dn u.dc, .slice u.go u.gn u.gc, .slice u.ro u.rn u.rc, .bool u.bad] 30) ∧ X3.heap[B3]? = some (.cells #[.int .i64 N', .slice a1 l1 c1, .slice a2 l2 c2, .slice a3 l3 c3, .slice a4 l4 c4] 53) ∧ X3.heap[B]? = some (.cells (inC (List.replicate n 0)) 3) ∧ w.heap.size < B) := ⟨to_call P2.out.1 A3, kept A3 P2.out.2.1, Y3, kept A3 P2.out.2.2.1, P2.out.2.2.2⟩
    have HR3 : Hid (g = true → N' = z.N ∧ ∃ gl, RlS X3 bs0 E z.cs z.rs z.ids z.gs (.slice a1 l1 c1) (.slice a4 l4 c4) (.slice a2 l2 c2) (.slice a3 l3 c3) gl) := fun h => ⟨(HR.out h).1, by obtain ⟨gl, hgl⟩ := (HR.out h).2; exact ⟨gl, hgl.later A3⟩⟩
    clear A3 Y3 hX3 hB3 HR P2 HS2
    go_wp2_with fail
    refine Calls.mono (exact_any bo l bc us E HE.out _ (HA.out _ P3.out.1) HLT.out hlm) ?_
    rintro e w5 ⟨⟨v5, rfl, hx5⟩, b5⟩
    obtain ⟨bs1, hbs1⟩ : ∃ bs1, X3.heap.size = bs1 := ⟨_, rfl⟩
    have HB1 : Hid (B < bs1) := by unfold Hid; rw [← hbs1]; exact blk_lt P3.out.2.2.2.1
    have P5 : Hid (Below w.heap.size w w5 ∧ w5.heap[w.heap.size]? = some (.cells #[.int .i64 u.N, .slice u.co u.cn u.cc, .slice u.io u.dn u.dc, .slice u.go u.gn u.gc, .slice u.ro u.rn u.rc, .bool u.bad] 30) ∧ w5.heap[B3]? = some (.cells #[.int .i64 N', .slice a1 l1 c1, .slice a2 l2 c2, .slice a3 l3 c3, .slice a4 l4 c4] 53) ∧ w5.heap[B]? = some (.cells (inC (List.replicate n 0)) 3) ∧ w.heap.size < B ∧ Below X3.heap.size X3 w5) := ⟨to_call P3.out.1 b5, kept b5 P3.out.2.1, kept b5 P3.out.2.2.1, kept b5 P3.out.2.2.2.1, P3.out.2.2.2.2, b5⟩
    obtain ⟨nb, hnb⟩ : ∃ nb, numsB us = nb := ⟨_, rfl⟩
    have HNB : Hid (numsB us = nb) := hnb
    rw [hnb] at hx5 ⊢
    rw [hbs1] at hx5
    have HX5 : Hid (nb = true → RowN w5 bs1 v5 E us) := hx5
    have HCL : Hid (clB z us = (g && decide ((l : Int) = z.N + 1) && nb)) := by unfold Hid; rw [clB_eq, HG.out, HNB.out, HLN.out]
    have HNR : Hid (g = true → 1 ≤ z.N ∧ z.N ≤ 256) := by
      intro h
      have h1 := HG.out
      rw [h] at h1
      simp only [Bool.and_eq_true] at h1
      have h2 := h1.2
      unfold wholeB at h2
      simp only [Bool.and_eq_true, decide_eq_true_eq] at h2
      exact ⟨h2.1.1.1.1.1.1, h2.1.1.1.1.1.2⟩
    clear b5 hx5 hnb P3 hbs1
    cases g with
    | false =>
      have hcf : clB z us = false := by rw [HCL.out]; rfl
      have k0 := cellAtJ P5.out.2.1 0 _ rfl
      go_wp2_with fail
      go_ret
      refine ⟨⟨_, n, rfl, HSR.out _ B P5.out.2.2.2.2.1 ?_⟩, P5.out.1⟩
      unfold sgL
      rw [hcf]
      exact P5.out.2.2.2.1
    | true =>
      cases nb with
      | false =>
        have hcf : clB z us = false := by rw [HCL.out, Bool.and_false]
        have k0 := cellAtJ P5.out.2.1 0 _ rfl
        go_wp2_with fail
        go_ret
        refine ⟨⟨_, n, rfl, HSR.out _ B P5.out.2.2.2.2.1 ?_⟩, P5.out.1⟩
        unfold sgL
        rw [hcf]
        exact P5.out.2.2.2.1
      | true =>
        obtain ⟨hN1, hN2⟩ := HNR.out rfl
        have huN : u.N = z.N := HK.out.N
        have huN1 : 1 ≤ u.N := by omega
        have huN2 : u.N ≤ 256 := by omega
        by_cases hlN : (l : Int) = z.N + 1
        · have hct : clB z us = true := by rw [HCL.out, decide_eq_true hlN]; rfl
          have hne : ((l : Int) != u.N + 1) = false := by rw [huN, hlN]; simp
          obtain ⟨h1, h2, h3, h4⟩ := clB_is hct
          have hW : WhF z := WhF.of HZ0.out HD.out h2
          have hid := HID.out h2
          obtain ⟨hN', gl, hgl⟩ := HR3.out rfl
          have eN : N' = (z.rn : Int) := hN'.trans hW.N
          have e1 : l1 = z.rn := (RowN.lenV hgl.c).trans hW.cl
          have e4 : l4 = z.rn := (RowN.lenV hgl.r).trans hW.rl
          have e3 : l3 = z.gn := hgl.lenG.trans HZ0.out.g.length
          have e2 : l2 = z.dn := by
            obtain ⟨ai, ci, hi1, -, -⟩ := owns_slice hgl.i
            injection hi1 with q1 q2 q3
            rw [q2]; exact HZ0.out.i.length
          clear HR3 hN'
          subst eN e1 e4 e3 e2
          have hlr : l = z.rn + 1 := by have := hW.N; omega
          have HW : Hid (WhF z ∧ (∀ u ∈ us, Fin u) ∧ l = z.rn + 1 ∧ ∀ j, j < z.dn → 0 ≤ z.ids[j]?.getD 0) := ⟨hW, h4, hlr, hid⟩
          have HRN : Hid (z.rn ≤ 256) := hW.n2
          have HLU : Hid (z.rn ≤ us.length ∧ us.length ≤ 1000) := by have := HLN.out; have := hW.n2; exact ⟨by omega, by omega⟩
          obtain ⟨wb, wc0, an0, ao0, al0, ac0, ae0, hv5, -, -⟩ := RowN.range (HX5.out rfl) (k := 0) (by rw [HLN.out]; omega)
          rw [HLN.out] at hv5
          subst hv5
          have Q5 : Hid (Below w.heap.size w w5 ∧ w5.heap[B3]? = some (.cells #[.int .i64 (z.rn : Int), .slice a1 z.rn c1, .slice a2 z.dn c2, .slice a3 z.gn c3, .slice a4 z.rn c4] 53) ∧ w5.heap[B]? = some (.cells (inC (siL z us n 0)) 3) ∧ w.heap.size < B ∧ RlS w5 bs0 E z.cs z.rs z.ids z.gs (.slice a1 z.rn c1) (.slice a4 z.rn c4) (.slice a2 z.dn c2) (.slice a3 z.gn c3) gl ∧ RowN w5 bs1 (.slice (some ⟨wb, 0, none⟩) l wc0) E us) := ⟨P5.out.1, P5.out.2.2.1, P5.out.2.2.2.1, P5.out.2.2.2.2.1, hgl.later P5.out.2.2.2.2.2, HX5.out rfl⟩
          have HCT : Hid (clB z us = true) := hct
          have hdm : z.dn ≤ 1050000 := HD.out
          have k0 := cellAtJ P5.out.2.1 0 _ rfl
          clear h1 h2 h3 h4 hW hgl hct hlr HX5 hlN huN hN1 hN2 hid
          go_wp2_with fail
          clear k0 hne P5 huN1 huN2
          go_loopg [12] z.dn (fun g v12 wx => ∃ i : Nat, v12 = .int .i64 i ∧ i + g = z.dn ∧ Hid (Below w.heap.size w wx ∧ wx.heap[B3]? = some (.cells #[.int .i64 (z.rn : Int), .slice a1 z.rn c1, .slice a2 z.dn c2, .slice a3 z.gn c3, .slice a4 z.rn c4] 53) ∧ wx.heap[B]? = some (.cells (inC (siL z us n i)) 3) ∧ w.heap.size < B ∧ RlS wx bs0 E z.cs z.rs z.ids z.gs (.slice a1 z.rn c1) (.slice a4 z.rn c4) (.slice a2 z.dn c2) (.slice a3 z.gn c3) gl ∧ RowN wx bs1 (.slice (some ⟨wb, 0, none⟩) l wc0) E us))
          case atStart => exact ⟨0, rfl, by omega, Q5⟩
          case round =>
            clear Q5
            obtain ⟨i, rfl, hi, P5⟩ := hrel
            have j2 := cellAtJ P5.out.2.1 2 _ rfl
            by_cases h1 : i < z.dn
            · have hd1 : decide ((i : Int) < (z.dn : Int)) = true := decide_eq_true (by omega)
              obtain ⟨q, rfl⟩ : ∃ q, gk = q + 1 := ⟨gk - 1, by omega⟩
              have HIG : Hid (i + (q + 1) = z.dn) := hi
              have hi' : (i : Int) < (z.dn : Int) := by omega
              have hig : i < z.gn := by rw [← HW.out.1.dg]; exact h1
              have hig' : (i : Int) < (z.gn : Int) := by omega
              obtain ⟨ai, ci, hi1, -, hi3⟩ := owns_slice P5.out.2.2.2.2.1.i
              injection hi1 with qa1 qa2 qa3
              subst qa1
              clear qa2 qa3
              rcases hi3 with h0 | ⟨ib, eib, hci⟩
              · rw [HZ0.out.i.length] at h0; omega
              subst eib
              have gi := hci i (by rw [HZ0.out.i.length]; exact h1)
              rw [List.getElem?_map, List.getElem?_eq_getElem (by rw [HZ0.out.i.length]; exact h1)] at gi
              obtain ⟨g3, uc, ea3, hc3, hrk⟩ := RlS.colAtM P5.out.2.2.2.2.1 (k := i) (by rw [HZ0.out.g.length]; exact hig)
              obtain ⟨ka, kc, hka⟩ := hrk.form
              have HGL : Hid ((z.gs[i]?.getD []).length = z.rn) := HW.out.1.gl i h1
              rw [HGL.out] at hka
              subst hka
              have hid0 := HW.out.2.2.2 i h1
              have HSI : Hid (siL z us n (i + 1) = if z.ids[i]?.getD 0 < (n : Int) then (siL z us n i).set (z.ids[i]?.getD 0).toNat (-(signO (wgK us (z.gs[i]?.getD []) z.rn))) else siL z us n i) := rfl
              obtain ⟨id, hid⟩ : ∃ id : Nat, z.ids[i]?.getD 0 = id := ⟨(z.ids[i]?.getD 0).toNat, by omega⟩
              have gi2 : wr.cell? ⟨ib, i, none⟩ = some (.int .i64 (id : Int)) := by
                rw [gi, ← hid, List.getElem?_eq_getElem (by rw [HZ0.out.i.length]; exact h1)]; rfl
              rw [hid] at HSI
              rw [Int.toNat_natCast] at HSI
              obtain ⟨s, hs⟩ : ∃ s, sgi (dotV us (z.gs[i]?.getD []) z.rn) = s := ⟨_, rfl⟩
              have hsb := sgi_bound (dotV us (z.gs[i]?.getD []) z.rn)
              have HSG : Hid (∀ W v, NumC W v (E + E) (2048 + z.rn) (dotV us (z.gs[i]?.getD []) z.rn) → Calls Try.prog 37 #[v] W fun e w' => e = .returned (.int .i64 s) ∧ Below W.heap.size W w') := fun W v h => hs ▸ signZ_any v (E + E) _ _ W h.toZ
              rw [signO_dot (finsB HW.out.2.1) (HW.out.1.fin.g i) (by have := HRN.out; omega), hs] at HSI
              rw [hs] at hsb
              obtain ⟨hs1, hs2⟩ := hsb
              have hws : IntKind.i64.wrap (-s) = -s := by rw [IntKind.wrap_i64]; omega
              have C2 : Hid (wr.cell? ⟨B3, 2, none⟩ = some (.slice (some ⟨ib, 0, none⟩) z.dn c2)) := j2
              have C3 : Hid (wr.cell? ⟨B3, 3, none⟩ = some (.slice (some ⟨g3, 0, none⟩) z.gn c3)) := by have h9 := cellAtJ P5.out.2.1 3 _ rfl; rw [ea3] at h9; exact h9
              have CI : Hid (wr.cell? ⟨ib, i, none⟩ = some (.int .i64 (id : Int))) := gi2
              have CK : Hid (wr.cell? ⟨g3, i, none⟩ = some (.slice ka z.rn kc)) := hc3
              have RK : Hid (RowN wr bs0 (.slice ka z.rn kc) E (z.gs[i]?.getD [])) := hrk
              have RW9 : Hid (RowN wr bs1 (.slice (some ⟨wb, 0, none⟩) l wc0) E us) := P5.out.2.2.2.2.2
              clear gi hci hc3 hrk hi hid hid0 hs ea3
              by_cases hik : id < n
              · have hik2 : decide ((id : Int) < (n : Int)) = true := decide_eq_true (by omega)
                have hik3 : (id : Int) < (n : Int) := by omega
                rw [if_pos hik3] at HSI
                go_upto_region 12 with fail
                clear j2 gi2 hd1 hik2
                have SX : Below wr.heap.size wr wr.drew := (Below.refl _ _).drew
                refine wp_region_noPanic ?_
                refine wp_region_P (S := (fun V => Below wr.heap.size wr V)) (s := 16) (by kernel_rfl) ?_
                refine takeP 60 (i := 0) (v := ?_) rfl rfl (by kernel_rfl) (by kernel_rfl) (by kernel_rfl) (by kernel_rfl) rfl (by kernel_rfl) (fun _ _ _ h => h) (Or.inl ⟨by kernel_rfl, ?_⟩) SX ?_
                rotate_left
                · intro w' hSw; have s2 := cell_later C2.out hSw; have s3 := cell_later C3.out hSw; have s4 := cell_later CI.out hSw; have s5 := cell_later CK.out hSw; go_simp; try with_reducible rfl
                try simp only [Act.put, List.setIfInBounds_toArray, List.set_cons_zero, List.set_cons_succ]
                refine takeP 61 (i := 1) (v := ?_) rfl rfl (by kernel_rfl) (by kernel_rfl) (by kernel_rfl) (by kernel_rfl) rfl (by kernel_rfl) (fun _ _ _ h => h) (Or.inl ⟨by kernel_rfl, ?_⟩) SX ?_
                rotate_left
                · intro w' hSw; have s2 := cell_later C2.out hSw; have s3 := cell_later C3.out hSw; have s4 := cell_later CI.out hSw; have s5 := cell_later CK.out hSw; go_simp; try with_reducible rfl
                try simp only [Act.put, List.setIfInBounds_toArray, List.set_cons_zero, List.set_cons_succ]
                refine takeP 62 (i := 2) (v := ?_) rfl rfl (by kernel_rfl) (by kernel_rfl) (by kernel_rfl) (by kernel_rfl) rfl (by kernel_rfl) (fun _ _ _ h => h) (Or.inl ⟨by kernel_rfl, ?_⟩) SX ?_
                rotate_left
                · intro w' hSw; have s2 := cell_later C2.out hSw; have s3 := cell_later C3.out hSw; have s4 := cell_later CI.out hSw; have s5 := cell_later CK.out hSw; go_simp; try with_reducible rfl
                try simp only [Act.put, List.setIfInBounds_toArray, List.set_cons_zero, List.set_cons_succ]
                refine takeP 63 (i := 3) (v := ?_) rfl rfl (by kernel_rfl) (by kernel_rfl) (by kernel_rfl) (by kernel_rfl) rfl (by kernel_rfl) (fun _ _ _ h => h) (Or.inl ⟨by kernel_rfl, ?_⟩) SX ?_
                rotate_left
                · intro w' hSw; have s2 := cell_later C2.out hSw; have s3 := cell_later C3.out hSw; have s4 := cell_later CI.out hSw; have s5 := cell_later CK.out hSw; go_simp; try with_reducible rfl
                try simp only [Act.put, List.setIfInBounds_toArray, List.set_cons_zero, List.set_cons_succ]
                refine takeP 64 (i := 4) (v := ?_) rfl rfl (by kernel_rfl) (by kernel_rfl) (by kernel_rfl) (by kernel_rfl) rfl (by kernel_rfl) (fun _ _ _ h => h) (Or.inl ⟨by kernel_rfl, ?_⟩) SX ?_
                rotate_left
                · intro w' hSw; have s2 := cell_later C2.out hSw; have s3 := cell_later C3.out hSw; have s4 := cell_later CI.out hSw; have s5 := cell_later CK.out hSw; go_simp; try with_reducible rfl
                try simp only [Act.put, List.setIfInBounds_toArray, List.set_cons_zero, List.set_cons_succ]
                refine takeP 65 (i := 5) (v := ?_) rfl rfl (by kernel_rfl) (by kernel_rfl) (by kernel_rfl) (by kernel_rfl) rfl (by kernel_rfl) (fun _ _ _ h => h) (Or.inl ⟨by kernel_rfl, ?_⟩) SX ?_
                rotate_left
                · intro w' hSw; have s2 := cell_later C2.out hSw; have s3 := cell_later C3.out hSw; have s4 := cell_later CI.out hSw; have s5 := cell_later CK.out hSw; go_simp; try with_reducible rfl
                try simp only [Act.put, List.setIfInBounds_toArray, List.set_cons_zero, List.set_cons_succ]
                refine takeP 66 (i := 6) (v := ?_) rfl rfl (by kernel_rfl) (by kernel_rfl) (by kernel_rfl) (by kernel_rfl) rfl (by kernel_rfl) (fun _ _ _ h => h) (Or.inl ⟨by kernel_rfl, ?_⟩) SX ?_
                rotate_left
                · intro w' hSw; have s2 := cell_later C2.out hSw; have s3 := cell_later C3.out hSw; have s4 := cell_later CI.out hSw; have s5 := cell_later CK.out hSw; go_simp; try with_reducible rfl
                try simp only [Act.put, List.setIfInBounds_toArray, List.set_cons_zero, List.set_cons_succ]
                refine takeP 67 (i := 7) (v := ?_) rfl rfl (by kernel_rfl) (by kernel_rfl) (by kernel_rfl) (by kernel_rfl) rfl (by kernel_rfl) (fun _ _ _ h => h) (Or.inl ⟨by kernel_rfl, ?_⟩) SX ?_
                rotate_left
                · intro w' hSw; have s2 := cell_later C2.out hSw; have s3 := cell_later C3.out hSw; have s4 := cell_later CI.out hSw; have s5 := cell_later CK.out hSw; go_simp; try with_reducible rfl
                try simp only [Act.put, List.setIfInBounds_toArray, List.set_cons_zero, List.set_cons_succ]
                refine takeP 68 (i := 8) (v := ?_) rfl rfl (by kernel_rfl) (by kernel_rfl) (by kernel_rfl) (by kernel_rfl) rfl (by kernel_rfl) (fun _ _ _ h => h) (Or.inl ⟨by kernel_rfl, ?_⟩) SX ?_
                rotate_left
                · intro w' hSw; have s2 := cell_later C2.out hSw; have s3 := cell_later C3.out hSw; have s4 := cell_later CI.out hSw; have s5 := cell_later CK.out hSw; go_simp; try with_reducible rfl
                try simp only [Act.put, List.setIfInBounds_toArray, List.set_cons_zero, List.set_cons_succ]
                refine takeP 69 (i := 9) (v := ?_) rfl rfl (by kernel_rfl) (by kernel_rfl) (by kernel_rfl) (by kernel_rfl) rfl (by kernel_rfl) (fun _ _ _ h => h) (Or.inl ⟨by kernel_rfl, ?_⟩) SX ?_
                rotate_left
                · intro w' hSw; have s2 := cell_later C2.out hSw; have s3 := cell_later C3.out hSw; have s4 := cell_later CI.out hSw; have s5 := cell_later CK.out hSw; go_simp; try with_reducible rfl
                try simp only [Act.put, List.setIfInBounds_toArray, List.set_cons_zero, List.set_cons_succ]
                refine takeP 70 (i := 10) (v := ?_) rfl rfl (by kernel_rfl) (by kernel_rfl) (by kernel_rfl) (by kernel_rfl) rfl (by kernel_rfl) (fun _ _ _ h => h) (Or.inl ⟨by kernel_rfl, ?_⟩) SX ?_
                rotate_left
                · intro w' hSw; have s2 := cell_later C2.out hSw; have s3 := cell_later C3.out hSw; have s4 := cell_later CI.out hSw; have s5 := cell_later CK.out hSw; go_simp; try with_reducible rfl
                try simp only [Act.put, List.setIfInBounds_toArray, List.set_cons_zero, List.set_cons_succ]
                refine takeP 71 (i := 11) (v := ?_) rfl rfl (by kernel_rfl) (by kernel_rfl) (by kernel_rfl) (by kernel_rfl) rfl (by kernel_rfl) (fun _ _ _ h => h) (Or.inl ⟨by kernel_rfl, ?_⟩) SX ?_
                rotate_left
                · intro w' hSw; have s2 := cell_later C2.out hSw; have s3 := cell_later C3.out hSw; have s4 := cell_later CI.out hSw; have s5 := cell_later CK.out hSw; go_simp; try with_reducible rfl
                try simp only [Act.put, List.setIfInBounds_toArray, List.set_cons_zero, List.set_cons_succ]
                refine wpAnyP_ready (rs := [12]) (by kernel_rfl) (by simp) ?_
                refine consP _ rfl (hopCd 72 rfl (by kernel_rfl) rfl (by kernel_rfl) (Calls.mono (weighs_any _ _ us _ z.rn _ _ E HE.out _ (RW9.out.later SX) (RK.out.later SX) HLU.out.1 HLU.out.2 HGL.out (by have := HRN.out; omega)) ?_)) AllReadyP.nil
                rintro e V1 ⟨v1, rfl, hz1, b1⟩
                obtain ⟨n1, o1, t1, p1, x1, hv1⟩ := hz1.form
                subst hv1
                have SX : Below wr.heap.size wr V1 := to_call SX b1
                clear b1
                refine ⟨_, rfl, SX, ?_⟩
                try simp only [Act.put, List.setIfInBounds_toArray, List.set_cons_zero, List.set_cons_succ]
                refine wpAnyP_ready (rs := [13]) (by kernel_rfl) (by simp) ?_
                refine consP _ rfl (hopCd 73 rfl (by kernel_rfl) rfl (by kernel_rfl) (Calls.mono (HSG.out _ _ hz1) ?_)) AllReadyP.nil
                rintro e V2 ⟨rfl, b2⟩
                have SX : Below wr.heap.size wr V2 := to_call SX b2
                clear b2
                refine ⟨_, rfl, SX, ?_⟩
                try simp only [Act.put, List.setIfInBounds_toArray, List.set_cons_zero, List.set_cons_succ]
                refine takeP 74 (i := 14) (v := ?_) rfl rfl (by kernel_rfl) (by kernel_rfl) (by kernel_rfl) (by kernel_rfl) rfl (by kernel_rfl) (fun _ _ _ h => h) (Or.inl ⟨by kernel_rfl, ?_⟩) SX ?_
                rotate_left
                · intro w' hSw; skip; go_simp; try with_reducible rfl
                try simp only [Act.put, List.setIfInBounds_toArray, List.set_cons_zero, List.set_cons_succ]
                refine takeP 75 (i := 15) (v := ?_) rfl rfl (by kernel_rfl) (by kernel_rfl) (by kernel_rfl) (by kernel_rfl) rfl (by kernel_rfl) (fun _ _ _ h => h) (Or.inl ⟨by kernel_rfl, ?_⟩) SX ?_
                rotate_left
                · intro w' hSw; skip; go_simp; try with_reducible rfl
                try simp only [Act.put, List.setIfInBounds_toArray, List.set_cons_zero, List.set_cons_succ]
                try rw [hws]
                refine wpAnyP_ready (rs := [16]) (by kernel_rfl) (by simp) ?_
                refine consPs _ rfl (by kernel_rfl) (hopL rfl (wpList_store_at (by rfl) 3 _ _ (by rfl) w w.heap.size B id (.int .i64 (-s)) _ (inC ((siL z us n i).set id (-s))) 3 (by kernel_rfl) (by kernel_rfl) (kept SX P5.out.2.2.1) (to_call P5.out.1 SX) (Nat.le_of_lt P5.out.2.2.2.1) 1 Try.szIM rfl (by rw [inC_size, siL_len]; omega) (one_inM _) (inC_set _ _ _ (by rw [siL_len]; exact hik)) fun W9 e9 b9 s9 o9 => ?_)) AllReadyP.nil
                refine ⟨trivial, ?_⟩
                try simp only [Act.put, List.setIfInBounds_toArray, List.set_cons_zero, List.set_cons_succ]
                refine wpAnyP_done (by kernel_rfl) ?_ _
                refine NoPanic.normal ?_
                try simp only [Act.put, List.setIfInBounds_toArray, List.set_cons_zero, List.set_cons_succ]
                have Q6 : Hid (Below w.heap.size w W9 ∧ W9.heap[B3]? = some (.cells #[.int .i64 (z.rn : Int), .slice a1 z.rn c1, .slice (some ⟨ib, 0, none⟩) z.dn c2, .slice a3 z.gn c3, .slice a4 z.rn c4] 53) ∧ W9.heap[B]? = some (.cells (inC (siL z us n (i + 1))) 3) ∧ w.heap.size < B ∧ RlS W9 bs0 E z.cs z.rs z.ids z.gs (.slice a1 z.rn c1) (.slice a4 z.rn c4) (.slice (some ⟨ib, 0, none⟩) z.dn c2) (.slice a3 z.gn c3) gl ∧ RowN W9 bs1 (.slice (some ⟨wb, 0, none⟩) l wc0) E us) := by
                  have hcl := inC_cl (kept SX P5.out.2.2.1)
                  unfold Hid
                  rw [HSI.out]
                  exact ⟨b9, (o9 _ (by have := HBB.out; omega)).trans (kept SX P5.out.2.1), e9, P5.out.2.2.2.1, (P5.out.2.2.2.2.1.later SX).storedB hcl (fun b hb => o9 b hb) HB0.out, (P5.out.2.2.2.2.2.later SX).storedB hcl (fun b hb => o9 b hb) HB1.out⟩
                clear SX e9 b9 s9 o9 hz1 P5 RK RW9 C2 C3 CI CK HGL HSG HSI
                go_wp2_with fail
                go_roundg q
                case measure => omega
                case rel => exact ⟨i + 1, by go_num, by have := HIG.out; omega, Q6⟩
              · have hik2 : decide ((id : Int) < (n : Int)) = false := decide_eq_false (by omega)
                have hik3 : ¬ (id : Int) < (n : Int) := by omega
                have hik4 : decide (id < n) = false := decide_eq_false hik
                rw [if_neg hik3] at HSI
                have Q6 : Hid (Below w.heap.size w wr ∧ wr.heap[B3]? = some (.cells #[.int .i64 (z.rn : Int), .slice a1 z.rn c1, .slice (some ⟨ib, 0, none⟩) z.dn c2, .slice a3 z.gn c3, .slice a4 z.rn c4] 53) ∧ wr.heap[B]? = some (.cells (inC (siL z us n (i + 1))) 3) ∧ w.heap.size < B ∧ RlS wr bs0 E z.cs z.rs z.ids z.gs (.slice a1 z.rn c1) (.slice a4 z.rn c4) (.slice (some ⟨ib, 0, none⟩) z.dn c2) (.slice a3 z.gn c3) gl ∧ RowN wr bs1 (.slice (some ⟨wb, 0, none⟩) l wc0) E us) := by unfold Hid; rw [HSI.out]; exact P5.out
                clear P5 RK RW9 C2 C3 CI CK HGL HSG HSI
                go_wp2_with fail
                go_roundg q
                case measure => omega
                case rel => exact ⟨i + 1, by go_num, by have := HIG.out; omega, Q6⟩
            · have hd1 : decide ((i : Int) < (z.dn : Int)) = false := decide_eq_false (by omega)
              have hd2 : decide (i < z.dn) = false := decide_eq_false h1
              have ei : i = z.dn := by omega
              have Q6 : Hid (wr.heap[B]? = some (.cells (inC (sgL z us n)) 3)) := by
                unfold Hid sgL
                rw [HCT.out, if_pos rfl]
                have h9 := P5.out.2.2.1
                rw [ei] at h9
                exact h9
              clear ei hi
              go_wp2_with fail
              go_ret
              exact ⟨⟨_, n, rfl, HSR.out _ B P5.out.2.2.2.1 Q6.out⟩, P5.out.1⟩
        · have hcf : clB z us = false := by rw [HCL.out, decide_eq_false hlN]; rfl
          have hne : ((l : Int) != u.N + 1) = true := by rw [bne_iff_ne, huN]; exact hlN
          clear hlN huN hN1 hN2
          have k0 := cellAtJ P5.out.2.1 0 _ rfl
          go_wp2_with fail
          go_ret
          refine ⟨⟨_, n, rfl, HSR.out _ B P5.out.2.2.2.2.1 ?_⟩, P5.out.1⟩
          unfold sgL
          rw [hcf]
          exact P5.out.2.2.2.1
  · have HSR : Hid (SgR z us k w.heap.size (w.alloc (.cells #[.int .i64 u.N, .slice u.co u.cn u.cc, .slice u.io u.dn u.dc, .slice u.go u.gn u.gc, .slice u.ro u.rn u.rc, .bool u.bad] 30)) none 0) := by unfold Hid SgR; rw [if_neg hk]; exact ⟨rfl, rfl⟩
    by_cases hk1 : k < 0
    · have hk2 : decide (k < 0) = true := decide_eq_true hk1
      go_enter Try.func13, Try.ntmps13
      go_wp2_with fail
      go_ret
      exact ⟨⟨none, 0, rfl, HSR.out⟩, X0⟩
    · have hk2 : decide (k < 0) = false := decide_eq_false hk1
      have hk3 : k > 256 := by omega
      have hk4 : decide (k > 256) = true := decide_eq_true hk3
      go_enter Try.func13, Try.ntmps13
      go_wp2_with fail
      go_ret
      exact ⟨⟨none, 0, rfl, HSR.out⟩, X0⟩
end Go.Proofs.Ytbjnkefjlaplkaa
