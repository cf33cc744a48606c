import Derived.Test.YtlpfbgepdfjmjaaGreatJXf
import Derived.Test.YtlpfbgepdfjmjaaGreatMV
namespace Go.Proofs.YtlpfbgepdfjmjaaGreat
open Go.RowKit Go.Shelf
set_option linter.unusedVariables false
set_option linter.unusedSimpArgs false

theorem Tryz.infoSp4 : (Tryz.prog.info? 84).map (fun i => (i.zero, i.size, i.bytes)) = some (some (.agg #[.int .u64 0, .int .u64 0, .bool false]), 3, 24) := by kernel_rfl
theorem three_oneU (a b : Int) (c : Bool) : ∀ u ∈ [Value.int .u64 a, .int .u64 b, .bool c], u.oneCell' = true := by
  intro u hu
  simp only [List.mem_cons, List.not_mem_nil, or_false] at hu
  rcases hu with rfl | rfl | rfl <;> rfl
/-- A list of the document's spans. -/
structure OwnSp (w : World) (base : Nat) (v : Value) (n : Nat) (R : Nat → Nat × Nat × Bool → Prop) : Prop where
  ex : ∃ xs, w.ownsRow base 84 3 v n xs ∧ ∀ j, j < n → ∃ r : Nat × Nat × Bool, R j r ∧ xs[j * 3]? = some (.int .u64 (r.1 : Int)) ∧ xs[j * 3 + 1]? = some (.int .u64 (r.2.1 : Int)) ∧ xs[j * 3 + 2]? = some (.bool r.2.2)
theorem OwnSp.nil (w : World) (base : Nat) (R : Nat → Nat × Nat × Bool → Prop) : OwnSp w base (.slice none 0 0) 0 R := ⟨[], World.ownsRow_nil _ _ _ _, fun j hj => absurd hj (Nat.not_lt_zero _)⟩
theorem OwnSp.later {w w' : World} {base n : Nat} {v : Value} {R : Nat → Nat × Nat × Bool → Prop} (h : OwnSp w base v n R) (hb : Below w.heap.size w w') : OwnSp w' base v n R := by
  obtain ⟨xs, h1, h2⟩ := h.ex
  exact ⟨xs, owns_keep h1 fun k hk => hb.block k (World.ownsRow.lt h1 k hk).2, h2⟩
theorem OwnSp.push {w : World} {base n : Nat} {v : Value} {R : Nat → Nat × Nat × Bool → Prop} {xs : List Value} {lo hi : Nat} {bd : Bool} (hl : xs.length = n * 3) (h2 : ∀ j, j < n → ∃ r : Nat × Nat × Bool, R j r ∧ xs[j * 3]? = some (.int .u64 (r.1 : Int)) ∧ xs[j * 3 + 1]? = some (.int .u64 (r.2.1 : Int)) ∧ xs[j * 3 + 2]? = some (.bool r.2.2)) (ho : w.ownsRow base 84 3 v (n + 1) (xs ++ [.int .u64 (lo : Int), .int .u64 (hi : Int), .bool bd])) (hr : R n (lo, hi, bd)) : OwnSp w base v (n + 1) R := by
  refine ⟨_, ho, fun j hj => ?_⟩
  by_cases e : j < n
  · obtain ⟨r, a1, a2, a3, a4⟩ := h2 j e
    exact ⟨r, a1, by rw [List.getElem?_append_left (by omega)]; exact a2, by rw [List.getElem?_append_left (by omega)]; exact a3, by rw [List.getElem?_append_left (by omega)]; exact a4⟩
  · have ej : j = n := by omega
    subst ej
    refine ⟨_, hr, ?_, ?_, ?_⟩
    · rw [List.getElem?_append_right (by omega), hl, Nat.sub_self]; rfl
    · rw [List.getElem?_append_right (by omega), hl, show j * 3 + 1 - j * 3 = 1 by omega]; rfl
    · rw [List.getElem?_append_right (by omega), hl, show j * 3 + 2 - j * 3 = 2 by omega]; rfl
set_option maxRecDepth 100000 in
set_option maxHeartbeats 4000000 in
theorem refBounds_any (u : ZD) (w : World) (hu : ZU w u) (huw : UW u) :
    Calls Tryz.prog 12 #[.agg (zRow u)] w fun e w' => ∃ v, e = .returned v ∧ (((!u.bad && wholeB u) = true ∧ ∃ base, OwnSp w' base v u.rn (fun j r => SpR (fval (u.cs[j]?.getD 0) - farV u.rs u.gs j) (fval (u.cs[j]?.getD 0) + farV u.rs u.gs j) 1 r)) ∨ ((!u.bad && wholeB u) = false ∧ v = .slice none 0 0)) ∧ Below w.heap.size w w' := by
  obtain ⟨E, hE⟩ : ∃ E : Nat, E = 1074 := ⟨_, rfl⟩
  have HE : Hid (E = 1074) := hE
  have HRE : Hid (∀ W', Below w.heap.size w W' → _) := fun W' hb => reals_any u E hE W' (hu.later hb) huw
  have HU : Hid (ZU w u ∧ UW u) := ⟨hu, huw⟩
  unfold zRow at HRE ⊢
  clear hu huw hE
  have X0 : Below w.heap.size w (w.alloc (.cells #[.int .i64 u.N, .slice u.co u.cn u.cc, .slice u.io u.dn u.dc, .slice u.go u.gn u.gc, .slice u.ro u.rn u.rc, .bool u.bad] 30)) := (Below.refl _ w).alloc (Nat.le_refl _) _
  have Y0 : (w.alloc (.cells #[.int .i64 u.N, .slice u.co u.cn u.cc, .slice u.io u.dn u.dc, .slice u.go u.gn u.gc, .slice u.ro u.rn u.rc, .bool u.bad] 30)).heap[w.heap.size]? = some (.cells #[.int .i64 u.N, .slice u.co u.cn u.cc, .slice u.io u.dn u.dc, .slice u.go u.gn u.gc, .slice u.ro u.rn u.rc, .bool u.bad] 30) := heap_alloc_new w _
  have HX : Hid _ := And.intro X0 Y0
  clear X0 Y0
  go_enter Tryz.func12, Tryz.ntmps12
  go_upto_region 2 with (first
    | (refine wpList_load_row (by rfl) 30 _ (by rfl) w.heap.size _ (by rfl) HX.out.2 _ Tryz.underlying30 rfl 6 Tryz.infoZu (by rfl) ?_)
    | (go_at_call 29; refine Calls.mono (HRE.out _ HX.out.1) ?_; rintro e w1 ⟨⟨N', a1, l1, c1, a2, l2, c2, a3, l3, c3, a4, l4, c4, rfl, hN⟩, b1⟩; have HN : Hid _ := hN; clear hN))
  have A1 : Below w1.heap.size w1 (w1.alloc (.cells #[.int .i64 N', .slice a1 l1 c1, .slice a2 l2 c2, .slice a3 l3 c3, .slice a4 l4 c4] 72)) := (Below.refl _ w1).alloc (Nat.le_refl _) _
  have P1 : Hid (Below w.heap.size w (w1.alloc (.cells #[.int .i64 N', .slice a1 l1 c1, .slice a2 l2 c2, .slice a3 l3 c3, .slice a4 l4 c4] 72)) ∧ (w1.alloc (.cells #[.int .i64 N', .slice a1 l1 c1, .slice a2 l2 c2, .slice a3 l3 c3, .slice a4 l4 c4] 72)).heap[w1.heap.size]? = some (.cells #[.int .i64 N', .slice a1 l1 c1, .slice a2 l2 c2, .slice a3 l3 c3, .slice a4 l4 c4] 72) ∧ ((!u.bad && wholeB u) = true → N' = u.N ∧ ∃ gl, RlS (w1.alloc (.cells #[.int .i64 N', .slice a1 l1 c1, .slice a2 l2 c2, .slice a3 l3 c3, .slice a4 l4 c4] 72)) (w.alloc (.cells #[.int .i64 u.N, .slice u.co u.cn u.cc, .slice u.io u.dn u.dc, .slice u.go u.gn u.gc, .slice u.ro u.rn u.rc, .bool u.bad] 30)).heap.size E u.cs u.rs u.ids u.gs (.slice a1 l1 c1) (.slice a4 l4 c4) (.slice a2 l2 c2) (.slice a3 l3 c3) gl)) := ⟨to_call (to_call HX.out.1 b1) A1, heap_alloc_new w1 _, fun g => ⟨(HN.out g).1, by obtain ⟨gl, hr⟩ := (HN.out g).2; exact ⟨gl, hr.later A1⟩⟩⟩
  obtain ⟨X, hX⟩ : ∃ X, w1.alloc (.cells #[.int .i64 N', .slice a1 l1 c1, .slice a2 l2 c2, .slice a3 l3 c3, .slice a4 l4 c4] 72) = X := ⟨_, rfl⟩
  obtain ⟨B3, hB3⟩ : ∃ B3, w1.heap.size = B3 := ⟨_, rfl⟩
  obtain ⟨base, hbase⟩ : ∃ base, (w.alloc (.cells #[.int .i64 u.N, .slice u.co u.cn u.cc, .slice u.io u.dn u.dc, .slice u.go u.gn u.gc, .slice u.ro u.rn u.rc, .bool u.bad] 30)).heap.size = base := ⟨_, rfl⟩
  rw [hX, hB3, hbase] at P1
  rw [hX, hB3]
  clear hX hB3 hbase A1 b1 HN HX HRE
  cases hgd : (!u.bad && wholeB u) with
  | false =>
    have HG : Hid _ := hgd
    clear hgd
    go_wp2_with fail
    go_ret
    exact ⟨_, rfl, .inr ⟨HG.out, rfl⟩, P1.out.1⟩
  | true =>
    obtain ⟨hb0, hwh, hck⟩ := tk_good hgd
    have HF : Hid (WhF u) := WhF.ofU HU.out.1 HU.out.2.il hwh
    obtain ⟨hN1, gl, hR⟩ := P1.out.2.2 hgd
    have HG : Hid _ := hgd
    replace hN1 := hN1.trans HF.out.N
    subst hN1
    have P2 : Hid (Below w.heap.size w X ∧ X.heap[B3]? = some (.cells #[.int .i64 (u.rn : Int), .slice a1 l1 c1, .slice a2 l2 c2, .slice a3 l3 c3, .slice a4 l4 c4] 72) ∧ RlS X base E u.cs u.rs u.ids u.gs (.slice a1 l1 c1) (.slice a4 l4 c4) (.slice a2 l2 c2) (.slice a3 l3 c3) gl) := ⟨P1.out.1, P1.out.2.1, hR⟩
    have hgl2 : u.gs.length = u.dn := by rw [HU.out.1.g.length, HF.out.dg]
    have HFA : Hid (∀ (i : Nat), i < u.rn → ∀ W', Below X.heap.size X W' → _) := fun i hi W' hb => far_any (u.rn : Int) a1 l1 c1 a2 l2 c2 a3 l3 c3 a4 l4 c4 u.cs u.rs u.ids u.gs gl base E u.rn i HE.out W' (P2.out.2.2.later hb) hi HF.out.rl (fun k hk => HF.out.gl k (by omega)) (HF.out.fin.r i) (fun k => HF.out.fin.g k i) (by rw [hgl2]; exact HF.out.fin.few) HF.out.n2
    have hn2 : u.rn ≤ 256 := HF.out.n2
    clear hR hgd hb0 hwh hck P1 hgl2
    go_wp2_with fail
    go_loopg [5, 6] u.rn (fun q v5 v6 wx => ∃ (k : Nat), v6 = .int .i64 k ∧ k + q = u.rn ∧ Hid (OwnSp wx X.heap.size v5 k (fun j r => SpR (fval (u.cs[j]?.getD 0) - farV u.rs u.gs j) (fval (u.cs[j]?.getD 0) + farV u.rs u.gs j) 1 r) ∧ Below X.heap.size X wx))
    case atStart => exact ⟨0, rfl, by omega, ⟨OwnSp.nil _ _ _, Below.refl _ _⟩⟩
    case round =>
      obtain ⟨k, rfl, hk, HI⟩ := hrel
      have k0 : wr.cell? ⟨B3, 0, none⟩ = some (.int .i64 (u.rn : Int)) := cellAtJ (kept HI.out.2 P2.out.2.1) 0 _ rfl
      by_cases h1 : k < u.rn
      · have hd1 : decide ((k : Int) < (u.rn : Int)) = true := decide_eq_true (by omega)
        obtain ⟨q, rfl⟩ : ∃ q, gk = q + 1 := ⟨gk - 1, by omega⟩
        have HIG : Hid _ := hk
        clear hk
        go_upto_region 9 with (first
          | (refine wpList_load_row (by rfl) 72 _ (by rfl) B3 _ (by rfl) (kept HI.out.2 P2.out.2.1) _ Tryz.underlying72 rfl 5 Tryz.infoRl (by rfl) ?_)
          | (go_at_call 34; refine Calls.mono (HFA.out k h1 _ HI.out.2) ?_; rintro e w3 ⟨v3, rfl, hz3, b3⟩; obtain ⟨sn, so, sl, sc, se, hv3⟩ := hz3.form; subst hv3; have HZ3 : Hid (NumC w3 (.agg #[.bool sn, .slice so sl sc, .int .i64 se]) E 1060 (farV u.rs u.gs k)) := hz3; clear hz3))
        have A3 : Below w3.heap.size w3 (w3.alloc (.cells #[.bool sn, .slice so sl sc, .int .i64 se] 80)) := (Below.refl _ w3).alloc (Nat.le_refl _) _
        have P3 : Hid (Below X.heap.size X (w3.alloc (.cells #[.bool sn, .slice so sl sc, .int .i64 se] 80)) ∧ (w3.alloc (.cells #[.bool sn, .slice so sl sc, .int .i64 se] 80)).heap[w3.heap.size]? = some (.cells #[.bool sn, .slice so sl sc, .int .i64 se] 80) ∧ NumC (w3.alloc (.cells #[.bool sn, .slice so sl sc, .int .i64 se] 80)) (.agg #[.bool sn, .slice so sl sc, .int .i64 se]) E 1060 (farV u.rs u.gs k) ∧ OwnSp (w3.alloc (.cells #[.bool sn, .slice so sl sc, .int .i64 se] 80)) X.heap.size u5 k (fun j r => SpR (fval (u.cs[j]?.getD 0) - farV u.rs u.gs j) (fval (u.cs[j]?.getD 0) + farV u.rs u.gs j) 1 r)) := ⟨to_call (to_call HI.out.2 b3) A3, heap_alloc_new w3 _, HZ3.out.later A3, (HI.out.1.later b3).later A3⟩
        obtain ⟨W, hW⟩ : ∃ W, w3.alloc (.cells #[.bool sn, .slice so sl sc, .int .i64 se] 80) = W := ⟨_, rfl⟩
        obtain ⟨B7, hB7⟩ : ∃ B7, w3.heap.size = B7 := ⟨_, rfl⟩
        rw [hW, hB7] at P3
        rw [hW, hB7]
        clear hW hB7 A3 b3 HZ3 HI k0 hd1
        obtain ⟨cb, cq, cn, co, cl, cc, ce, hcv, hcr, hcz⟩ := RowN.range P2.out.2.2.c (k := k) (by rw [HF.out.cl]; exact h1)
        rw [HF.out.cl] at hcv
        have kc : X.cell? ⟨B3, 1, none⟩ = some (.slice a1 l1 c1) := cellAtJ P2.out.2.1 1 _ rfl
        rw [hcv] at kc
        have KC : Hid (X.cell? ⟨B3, 1, none⟩ = some (.slice (some ⟨cb, 0, none⟩) u.rn cq)) := kc
        have HCR : Hid (X.rangeAt cb (k * 3) #[.bool cn, .slice co cl cc, .int .i64 ce].toList) := hcr
        have HCN : Hid (∀ W', Below X.heap.size X W' → NumC W' (.agg #[.bool cn, .slice co cl cc, .int .i64 ce]) E 1060 (fval (u.cs[k]?.getD 0))) := fun W' hb => (hcz.later hb).mono (by omega)
        have hk0 : (k : Int) < (u.rn : Int) := by omega
        have SX : (fun V => Below X.heap.size X V ∧ V.heap[B7]? = some (.cells #[.bool sn, .slice so sl sc, .int .i64 se] 80)) W.drew := ⟨P3.out.1.drew, P3.out.2.1⟩
        have HSN : Hid (NumC W.drew (.agg #[.bool sn, .slice so sl sc, .int .i64 se]) E 1060 (farV u.rs u.gs k)) := P3.out.2.2.1.later (Below.refl _ W).drew
        obtain ⟨xs, ho, hxs⟩ := (P3.out.2.2.2.later (Below.refl _ W).drew).ex
        have HO : Hid _ := ho
        have HXS : Hid _ := hxs
        clear hcv hcr hcz kc ho hxs P3
        refine wp_region_noPanic ?_
        refine wp_region_held_drew (S := (fun V => Below X.heap.size X V ∧ V.heap[B7]? = some (.cells #[.bool sn, .slice so sl sc, .int .i64 se] 80))) (by kernel_rfl) SX (fun _ => ?_)
        refine takeH 24 (i := 0) (v := ?_) rfl rfl (by kernel_rfl) (by kernel_rfl) (by kernel_rfl) (fun _ _ _ h => h) (Or.inl ⟨by kernel_rfl, ?_⟩) SX ?_
        rotate_left
        · intro w' hSw; have s1 := (hSw.1.cell (World.block_lt_of_cell? _ _ KC.out)).trans KC.out; go_simp; try with_reducible rfl
        try simp only [Act.put, List.setIfInBounds_toArray, List.set_cons_zero, List.set_cons_succ]
        refine takeH 25 (i := 1) (v := ?_) rfl rfl (by kernel_rfl) (by kernel_rfl) (by kernel_rfl) (fun _ _ _ h => h) (Or.inl ⟨by kernel_rfl, ?_⟩) SX ?_
        rotate_left
        · intro w' hSw; have s1 := (hSw.1.cell (World.block_lt_of_cell? _ _ KC.out)).trans KC.out; go_simp; try with_reducible rfl
        try simp only [Act.put, List.setIfInBounds_toArray, List.set_cons_zero, List.set_cons_succ]
        refine takeH 26 (i := 2) (v := ?_) rfl rfl (by kernel_rfl) (by kernel_rfl) (by kernel_rfl) (fun _ _ _ h => h) (Or.inl ⟨by kernel_rfl, ?_⟩) SX ?_
        rotate_left
        · intro w' hSw; have s1 := (hSw.1.cell (World.block_lt_of_cell? _ _ KC.out)).trans KC.out; go_simp; try with_reducible rfl
        try simp only [Act.put, List.setIfInBounds_toArray, List.set_cons_zero, List.set_cons_succ]
        refine takeH 27 (i := 3) (v := ?_) rfl rfl (by kernel_rfl) (by kernel_rfl) (by kernel_rfl) (fun _ _ _ h => h) (Or.inl ⟨by kernel_rfl, ?_⟩) SX ?_
        rotate_left
        · intro w' hSw; have s1 := (hSw.1.cell (World.block_lt_of_cell? _ _ KC.out)).trans KC.out; go_simp; try with_reducible rfl
        try simp only [Act.put, List.setIfInBounds_toArray, List.set_cons_zero, List.set_cons_succ]
        refine takeH 28 (i := 4) (v := ?_) rfl rfl (by kernel_rfl) (by kernel_rfl) (by kernel_rfl) (fun _ _ _ h => h) (Or.inl ⟨by kernel_rfl, ?_⟩) SX ?_
        rotate_left
        · intro w' hSw; have s1 := (hSw.1.cell (World.block_lt_of_cell? _ _ KC.out)).trans KC.out; go_simp; try with_reducible rfl
        try simp only [Act.put, List.setIfInBounds_toArray, List.set_cons_zero, List.set_cons_succ]
        refine takeH 29 (i := 5) (v := .agg #[.bool cn, .slice co cl cc, .int .i64 ce]) rfl rfl (by kernel_rfl) (by kernel_rfl) (by kernel_rfl) (fun _ _ _ h => h) (yieldsIf_load_mid (by kernel_rfl) 80 _ rfl cb (k * 3) (by kernel_rfl) #[.bool cn, .slice co cl cc, .int .i64 ce].toList _ (fun _ hS => range_later HCR.out hS.1) Tryz.underlying80 rfl (by kernel_rfl)) SX ?_
        try simp only [Act.put, List.setIfInBounds_toArray, List.set_cons_zero, List.set_cons_succ]
        refine takeH 30 (i := 6) (v := .agg #[.bool sn, .slice so sl sc, .int .i64 se]) rfl rfl (by kernel_rfl) (by kernel_rfl) (by kernel_rfl) (fun _ _ _ h => h) (Or.inl ⟨by kernel_rfl, fun w' hSw => ex_loadRN _ 80 _ rfl B7 (by kernel_rfl) w' _ hSw.2 _ Tryz.underlying80 rfl 3 Tryz.infoN3 rfl⟩) SX ?_
        try simp only [Act.put, List.setIfInBounds_toArray, List.set_cons_zero, List.set_cons_succ]
        refine takeH 32 (i := 8) (v := ?_) rfl rfl (by kernel_rfl) (by kernel_rfl) (by kernel_rfl) (fun _ _ _ h => h) (Or.inl ⟨by kernel_rfl, ?_⟩) SX ?_
        rotate_left
        · intro w' hSw; have s1 := (hSw.1.cell (World.block_lt_of_cell? _ _ KC.out)).trans KC.out; go_simp; try with_reducible rfl
        try simp only [Act.put, List.setIfInBounds_toArray, List.set_cons_zero, List.set_cons_succ]
        refine takeH 33 (i := 9) (v := ?_) rfl rfl (by kernel_rfl) (by kernel_rfl) (by kernel_rfl) (fun _ _ _ h => h) (Or.inl ⟨by kernel_rfl, ?_⟩) SX ?_
        rotate_left
        · intro w' hSw; have s1 := (hSw.1.cell (World.block_lt_of_cell? _ _ KC.out)).trans KC.out; go_simp; try with_reducible rfl
        try simp only [Act.put, List.setIfInBounds_toArray, List.set_cons_zero, List.set_cons_succ]
        refine takeH 34 (i := 10) (v := ?_) rfl rfl (by kernel_rfl) (by kernel_rfl) (by kernel_rfl) (fun _ _ _ h => h) (Or.inl ⟨by kernel_rfl, ?_⟩) SX ?_
        rotate_left
        · intro w' hSw; have s1 := (hSw.1.cell (World.block_lt_of_cell? _ _ KC.out)).trans KC.out; go_simp; try with_reducible rfl
        try simp only [Act.put, List.setIfInBounds_toArray, List.set_cons_zero, List.set_cons_succ]
        refine takeH 35 (i := 11) (v := ?_) rfl rfl (by kernel_rfl) (by kernel_rfl) (by kernel_rfl) (fun _ _ _ h => h) (Or.inl ⟨by kernel_rfl, ?_⟩) SX ?_
        rotate_left
        · intro w' hSw; have s1 := (hSw.1.cell (World.block_lt_of_cell? _ _ KC.out)).trans KC.out; go_simp; try with_reducible rfl
        try simp only [Act.put, List.setIfInBounds_toArray, List.set_cons_zero, List.set_cons_succ]
        refine takeH 36 (i := 12) (v := .agg #[.bool cn, .slice co cl cc, .int .i64 ce]) rfl rfl (by kernel_rfl) (by kernel_rfl) (by kernel_rfl) (fun _ _ _ h => h) (yieldsIf_load_mid (by kernel_rfl) 80 _ rfl cb (k * 3) (by kernel_rfl) #[.bool cn, .slice co cl cc, .int .i64 ce].toList _ (fun _ hS => range_later HCR.out hS.1) Tryz.underlying80 rfl (by kernel_rfl)) SX ?_
        try simp only [Act.put, List.setIfInBounds_toArray, List.set_cons_zero, List.set_cons_succ]
        refine takeH 37 (i := 13) (v := .agg #[.bool sn, .slice so sl sc, .int .i64 se]) rfl rfl (by kernel_rfl) (by kernel_rfl) (by kernel_rfl) (fun _ _ _ h => h) (Or.inl ⟨by kernel_rfl, fun w' hSw => ex_loadRN _ 80 _ rfl B7 (by kernel_rfl) w' _ hSw.2 _ Tryz.underlying80 rfl 3 Tryz.infoN3 rfl⟩) SX ?_
        try simp only [Act.put, List.setIfInBounds_toArray, List.set_cons_zero, List.set_cons_succ]
        refine wpAnyH_ready (rs := [7]) (by kernel_rfl) (by simp) ?_
        refine consH _ rfl (hopCd 31 rfl (by kernel_rfl) rfl (by kernel_rfl) (Calls.mono (minusC_any _ _ E 1060 _ _ _ (HCN.out _ SX.1) HSN.out (by rw [HE.out]; omega) (by omega)) ?_)) AllReadyH.nil
        rintro e V1 ⟨v1, rfl, hz1, b1⟩
        have SX : (fun V => Below X.heap.size X V ∧ V.heap[B7]? = some (.cells #[.bool sn, .slice so sl sc, .int .i64 se] 80)) V1 := ⟨to_call SX.1 b1, kept b1 SX.2⟩
        have HS1 := HSN.out.later b1
        have O1 := owns_keep HO.out fun k hk => b1.block k (World.ownsRow.lt HO.out k hk).2
        refine ⟨_, rfl, SX, ?_⟩
        try simp only [Act.put, List.setIfInBounds_toArray, List.set_cons_zero, List.set_cons_succ]
        refine wpAnyH_ready (rs := [14]) (by kernel_rfl) (by simp) ?_
        refine consH _ rfl (hopCd 38 rfl (by kernel_rfl) rfl (by kernel_rfl) (Calls.mono (plusC_any _ _ E 1060 _ _ _ (HCN.out _ SX.1) HS1 (by rw [HE.out]; omega) (by omega)) ?_)) AllReadyH.nil
        rintro e V2 ⟨v2, rfl, hz2, b2⟩
        have SX : (fun V => Below X.heap.size X V ∧ V.heap[B7]? = some (.cells #[.bool sn, .slice so sl sc, .int .i64 se] 80)) V2 := ⟨to_call SX.1 b2, kept b2 SX.2⟩
        have hz1' := hz1.later b2
        have O2 := owns_keep O1 fun k hk => b2.block k (World.ownsRow.lt O1 k hk).2
        refine ⟨_, rfl, SX, ?_⟩
        try simp only [Act.put, List.setIfInBounds_toArray, List.set_cons_zero, List.set_cons_succ]
        refine wpAnyH_ready (rs := [15]) (by kernel_rfl) (by simp) ?_
        refine consH _ rfl (hopCd 39 rfl (by kernel_rfl) rfl (by kernel_rfl) (Calls.mono (refOf_any _ _ E 0 1061 1061 _ _ _ hz1'.toZ hz2.toZ E HE.out rfl (by rw [HE.out]; omega) (by omega) (by omega)) ?_)) AllReadyH.nil
        rintro e V3 ⟨r3, rfl, hr3, b3⟩
        have SX : (fun V => Below X.heap.size X V ∧ V.heap[B7]? = some (.cells #[.bool sn, .slice so sl sc, .int .i64 se] 80)) V3 := ⟨to_call SX.1 b3, kept b3 SX.2⟩
        obtain ⟨rlo, rhi, rbd⟩ := r3
        try dsimp only at hr3
        have O3 := owns_keep O2 fun k hk => b3.block k (World.ownsRow.lt O2 k hk).2
        refine ⟨_, rfl, SX, ?_⟩
        try simp only [Act.put, List.setIfInBounds_toArray, List.set_cons_zero, List.set_cons_succ]
        refine wpAnyH_ready (rs := [16]) (by kernel_rfl) (by simp) ?_
        refine consH _ rfl (hopV 40 (v := .slice (some ⟨V3.heap.size, 0, none⟩) 1 1) (w' := (V3.alloc (.cells #[.int .u64 (rlo : Int), .int .u64 (rhi : Int), .bool rbd] 84))) rfl rfl rfl (by kernel_rfl) ?_) AllReadyH.nil
        have A4 : Below V3.heap.size V3 (V3.alloc (.cells #[.int .u64 (rlo : Int), .int .u64 (rhi : Int), .bool rbd] 84)) := (Below.refl _ V3).alloc (Nat.le_refl _) _
        have SX : (fun V => Below X.heap.size X V ∧ V.heap[B7]? = some (.cells #[.bool sn, .slice so sl sc, .int .i64 se] 80)) (V3.alloc (.cells #[.int .u64 (rlo : Int), .int .u64 (rhi : Int), .bool rbd] 84)) := ⟨to_call SX.1 A4, kept A4 SX.2⟩
        refine ⟨SX, ?_⟩
        try simp only [Act.put, List.setIfInBounds_toArray, List.set_cons_zero, List.set_cons_succ]
        refine wpAnyH_ready (rs := [17]) (by kernel_rfl) (by simp) ?_
        refine consH _ rfl (hopL rfl (append_gsJ Tryz.underlying44 Tryz.infoSp4 rfl (by decide) (by decide) (V3.alloc (.cells #[.int .u64 (rlo : Int), .int .u64 (rhi : Int), .bool rbd] 84)) (by rfl) _ _ (by rfl) X.heap.size u5 k _ (by kernel_rfl) (World.ownsRow.alloc O3 _) ⟨V3.heap.size, 0, none⟩ 1 1 [.int .u64 (rlo : Int), .int .u64 (rhi : Int), .bool rbd] (by kernel_rfl) rfl (news_threeJ (heap_alloc_new V3 _)) (three_oneU _ _ _) (by omega) SX.1.size fun v6 w6 o6 g6 => ?_)) AllReadyH.nil
        change QK _ _ Exit.normal (Act.put _ (some 41) v6) w6
        have G6 : Below X.heap.size X w6 := SX.1.trans (g6.below (fun k hk => (World.ownsRow.lt O3 k hk).1) SX.1.size)
        have SX : (fun V => Below X.heap.size X V ∧ V.heap[B7]? = some (.cells #[.bool sn, .slice so sl sc, .int .i64 se] 80)) w6 := ⟨G6, (grw_types (World.ownsRow.alloc O3 _) g6 B7 _ _ (by decide) SX.2).trans SX.2⟩
        refine (And.intro SX ?_ : _ ∧ _)
        try simp only [Act.put, List.setIfInBounds_toArray, List.set_cons_zero, List.set_cons_succ]
        refine takeH 5 (i := 18) (v := ?_) rfl rfl (by kernel_rfl) (by kernel_rfl) (by kernel_rfl) (fun _ _ _ h => h) (Or.inl ⟨by kernel_rfl, ?_⟩) SX ?_
        rotate_left
        · intro w' hSw; have s1 := (hSw.1.cell (World.block_lt_of_cell? _ _ KC.out)).trans KC.out; go_simp; try with_reducible rfl
        try simp only [Act.put, List.setIfInBounds_toArray, List.set_cons_zero, List.set_cons_succ]
        refine wpAnyH_done (by kernel_rfl) ?_ _
        refine NoPanic.normal ?_
        try simp only [Act.put, List.setIfInBounds_toArray, List.set_cons_zero, List.set_cons_succ]
        have HN : Hid (OwnSp w6 X.heap.size v6 (k + 1) (fun j r => SpR (fval (u.cs[j]?.getD 0) - farV u.rs u.gs j) (fval (u.cs[j]?.getD 0) + farV u.rs u.gs j) 1 r) ∧ Below X.heap.size X w6) := ⟨OwnSp.push HO.out.1 HXS.out o6 hr3, G6⟩
        clear SX o6 g6 G6 O1 O2 O3 A4 hz1 hz2 hz1' hr3 HS1 b1 b2 b3 HSN HO HXS KC HCR HCN
        go_wp2_with fail
        go_roundg q
        case measure => omega
        case rel => exact ⟨k + 1, by go_num, by have := HIG.out; omega, HN⟩
      · have hd1 : decide ((k : Int) < (u.rn : Int)) = false := decide_eq_false (by omega)
        have ek : k = u.rn := by omega
        have HN : Hid (OwnSp wr X.heap.size u5 u.rn (fun j r => SpR (fval (u.cs[j]?.getD 0) - farV u.rs u.gs j) (fval (u.cs[j]?.getD 0) + farV u.rs u.gs j) 1 r) ∧ Below w.heap.size w wr) := ⟨by have := HI.out.1; rw [ek] at this; exact this, to_call P2.out.1 HI.out.2⟩
        clear ek
        go_wp2_with fail
        go_ret
        exact ⟨_, rfl, .inl ⟨HG.out, _, HN.out.1⟩, HN.out.2⟩
end Go.Proofs.YtlpfbgepdfjmjaaGreat
