import Derived.Test.YtfecnhfghepfkaaGreatGJd
namespace Go.Proofs.YtfecnhfghepfkaaGreat
open Go.RowKit Go.Shelf
set_option linter.unusedVariables false
set_option linter.unusedSimpArgs false

/-- A slice of words. -/
structure RdUs (w : World) (ao : Option Addr) (len cap : Nat) (us : List Nat) : Prop where
  length : us.length = len
  max : len ≤ maxLen
  cells : len = 0 ∨ ∃ b off, ao = some ⟨b, off, none⟩ ∧ ∀ j, j < len → w.cell? ⟨b, off + j, none⟩ = some (.int .u64 ((us[j]?.getD 0 : Nat) : Int))
theorem RdUs.later {w w' : World} {ao : Option Addr} {len cap : Nat} {us : List Nat} (h : RdUs w ao len cap us) (hb : Below w.heap.size w w') : RdUs w' ao len cap us := by
  refine ⟨h.length, h.max, ?_⟩
  rcases h.cells with h0 | ⟨b, off, ha, hc⟩
  · exact .inl h0
  · refine .inr ⟨b, off, ha, fun j hj => ?_⟩
    rw [hb.cell (p := ⟨b, off + j, none⟩) (World.block_lt_of_cell? w _ (hc j hj))]
    exact hc j hj
theorem apiBits_any (u : Nat) (w : World) : Calls Tryz.prog 25 #[.float .f64 u] w fun e w' => e = .returned (.int .u64 u) ∧ w' = w := by
  have hcb := call_bits u
  go_enter Tryz.func25, Tryz.ntmps25
  go_wp2_with fail
  go_ret
  exact ⟨rfl, rfl⟩
theorem drop_eqU {us vs : List Nat} {k : Nat} (h1 : k < us.length) (h2 : k < vs.length) : decide (us.drop k = vs.drop k) = (decide (us[k]?.getD 0 = vs[k]?.getD 0) && decide (us.drop (k + 1) = vs.drop (k + 1))) := by
  rw [List.drop_eq_getElem_cons h1, List.drop_eq_getElem_cons h2, List.getElem?_eq_getElem h1, List.getElem?_eq_getElem h2]
  simp only [List.cons.injEq, Option.getD_some, Bool.decide_and]
set_option maxRecDepth 100000 in
set_option maxHeartbeats 1500000 in
theorem refSame_any (ao bo : Option Addr) (al ac bl bc : Nat) (us vs : List Nat) (w : World) (h : RdF w ao al ac us) (h' : RdUs w bo bl bc vs) :
    Calls Tryz.prog 21 #[.slice ao al ac, .slice bo bl bc] w fun e w' => e = .returned (.bool (decide (us = vs))) ∧ Below w.heap.size w w' := by
  have HR : Hid _ := h
  have HR' : Hid _ := h'
  have HLN : Hid (us.length = al ∧ vs.length = bl ∧ al ≤ 9223372036854775807) := ⟨h.length, h'.length, Nat.le_trans h.max maxLen_le⟩
  have hmx : al ≤ 9223372036854775807 := Nat.le_trans h.max maxLen_le
  clear h h'
  by_cases hn : al = bl
  · subst hn
    go_enter Tryz.func21, Tryz.ntmps21
    go_wp2_with fail
    go_loopg [5] al (fun g iv wx => ∃ k : Nat, iv = .int .i64 k ∧ k + g = al ∧ Hid (Below w.heap.size w wx) ∧ Hid (decide (us.drop k = vs.drop k) = decide (us = vs)))
    case atStart => exact ⟨0, rfl, by omega, Below.refl _ w, rfl⟩
    case round =>
      obtain ⟨k, rfl, hk, HB, HD⟩ := hrel
      by_cases hlt : k < al
      · have hd : decide ((k : Int) < (al : Int)) = true := decide_eq_true (by omega)
        obtain ⟨g, rfl⟩ : ∃ g, gk = g + 1 := ⟨gk - 1, by omega⟩
        rcases (HR.out.later HB.out).cells with h0 | ⟨ab, aoff, rfl, hca⟩
        · omega
        rcases (HR'.out.later HB.out).cells with h0 | ⟨bb, boff, rfl, hcb⟩
        · omega
        have ga := hca k hlt
        have gb := hcb k hlt
        have HDs : Hid (_ = _) := drop_eqU (us := us) (vs := vs) (k := k) (by rw [HLN.out.1]; exact hlt) (by rw [HLN.out.2.1]; exact hlt)
        obtain ⟨x, hx⟩ : ∃ x, us[k]?.getD 0 = x := ⟨_, rfl⟩
        obtain ⟨y, hy⟩ : ∃ y, vs[k]?.getD 0 = y := ⟨_, rfl⟩
        rw [hx, hy] at HDs
        rw [hx] at ga
        rw [hy] at gb
        have HIG : Hid (k + (g + 1) = al) := hk
        clear hca hcb hx hy hk
        have HB1 : Hid (Below w.heap.size w wr.drew) := HB.out.drew
        go_upto_region 6 with fail
        have hS : (fun w' => w'.cell? ⟨ab, aoff + k, none⟩ = some (.float .f64 x) ∧ w'.cell? ⟨bb, boff + k, none⟩ = some (.int .u64 (y : Int))) wr.drew := ⟨ga, gb⟩
        refine wp_region_noPanic ?_
        refine wp_region_held_drew (S := (fun w' => w'.cell? ⟨ab, aoff + k, none⟩ = some (.float .f64 x) ∧ w'.cell? ⟨bb, boff + k, none⟩ = some (.int .u64 (y : Int)))) (by kernel_rfl) hS (fun _ => ?_)
        refine takeH 17 (i := 0) (v := ?_) rfl rfl (by kernel_rfl) (by kernel_rfl) (by kernel_rfl) (fun _ _ _ h => h) (Or.inl ⟨by kernel_rfl, ?_⟩) (by assumption) ?_
        rotate_left
        · intro w' hSw; (try dsimp only at hSw); go_simp; try with_reducible rfl
        try simp only [Act.put, List.setIfInBounds_toArray, List.set_cons_zero, List.set_cons_succ]
        refine takeH 18 (i := 1) (v := ?_) rfl rfl (by kernel_rfl) (by kernel_rfl) (by kernel_rfl) (fun _ _ _ h => h) (Or.inl ⟨by kernel_rfl, ?_⟩) (by assumption) ?_
        rotate_left
        · intro w' hSw; (try dsimp only at hSw); go_simp; try with_reducible rfl
        try simp only [Act.put, List.setIfInBounds_toArray, List.set_cons_zero, List.set_cons_succ]
        refine takeH 19 (i := 2) (v := ?_) rfl rfl (by kernel_rfl) (by kernel_rfl) (by kernel_rfl) (fun _ _ _ h => h) (Or.inl ⟨by kernel_rfl, ?_⟩) (by assumption) ?_
        rotate_left
        · intro w' hSw; (try dsimp only at hSw); go_simp; try with_reducible rfl
        try simp only [Act.put, List.setIfInBounds_toArray, List.set_cons_zero, List.set_cons_succ]
        refine takeH 20 (i := 3) (v := ?_) rfl rfl (by kernel_rfl) (by kernel_rfl) (by kernel_rfl) (fun _ _ _ h => h) (Or.inl ⟨by kernel_rfl, ?_⟩) (by assumption) ?_
        rotate_left
        · intro w' hSw; (try dsimp only at hSw); go_simp; try with_reducible rfl
        try simp only [Act.put, List.setIfInBounds_toArray, List.set_cons_zero, List.set_cons_succ]
        refine takeH 22 (i := 5) (v := ?_) rfl rfl (by kernel_rfl) (by kernel_rfl) (by kernel_rfl) (fun _ _ _ h => h) (Or.inl ⟨by kernel_rfl, ?_⟩) (by assumption) ?_
        rotate_left
        · intro w' hSw; (try dsimp only at hSw); go_simp; try with_reducible rfl
        try simp only [Act.put, List.setIfInBounds_toArray, List.set_cons_zero, List.set_cons_succ]
        refine takeH 23 (i := 6) (v := ?_) rfl rfl (by kernel_rfl) (by kernel_rfl) (by kernel_rfl) (fun _ _ _ h => h) (Or.inl ⟨by kernel_rfl, ?_⟩) (by assumption) ?_
        rotate_left
        · intro w' hSw; (try dsimp only at hSw); go_simp; try with_reducible rfl
        try simp only [Act.put, List.setIfInBounds_toArray, List.set_cons_zero, List.set_cons_succ]
        refine takeH 24 (i := 7) (v := ?_) rfl rfl (by kernel_rfl) (by kernel_rfl) (by kernel_rfl) (fun _ _ _ h => h) (Or.inl ⟨by kernel_rfl, ?_⟩) (by assumption) ?_
        rotate_left
        · intro w' hSw; (try dsimp only at hSw); go_simp; try with_reducible rfl
        try simp only [Act.put, List.setIfInBounds_toArray, List.set_cons_zero, List.set_cons_succ]
        refine takeH 25 (i := 8) (v := ?_) rfl rfl (by kernel_rfl) (by kernel_rfl) (by kernel_rfl) (fun _ _ _ h => h) (Or.inl ⟨by kernel_rfl, ?_⟩) (by assumption) ?_
        rotate_left
        · intro w' hSw; (try dsimp only at hSw); go_simp; try with_reducible rfl
        try simp only [Act.put, List.setIfInBounds_toArray, List.set_cons_zero, List.set_cons_succ]
        refine wpAnyH_ready (rs := [4]) (by kernel_rfl) (by simp) ?_
        refine consH _ rfl (hopCd 21 rfl (by kernel_rfl) rfl (by kernel_rfl) (Calls.mono (apiBits_any x _) ?_)) AllReadyH.nil
        rintro e m ⟨rfl, hm⟩
        subst hm
        refine ⟨_, rfl, hS, ?_⟩
        try simp only [Act.put, List.setIfInBounds_toArray, List.set_cons_zero, List.set_cons_succ]
        refine takeH 26 (i := 9) (v := ?_) rfl rfl (by kernel_rfl) (by kernel_rfl) (by kernel_rfl) (fun _ _ _ h => h) (Or.inl ⟨by kernel_rfl, ?_⟩) (by assumption) ?_
        rotate_left
        · intro w' hSw; (try dsimp only at hSw); go_simp; try with_reducible rfl
        try simp only [Act.put, List.setIfInBounds_toArray, List.set_cons_zero, List.set_cons_succ]
        refine wpAnyH_done (by kernel_rfl) ?_ _
        refine NoPanic.normal ?_
        try simp only [Act.put, List.setIfInBounds_toArray, List.set_cons_zero, List.set_cons_succ]
        clear hS
        by_cases hxy : x = y
        · have HDt : Hid (decide (us.drop (k + 1) = vs.drop (k + 1)) = decide (us = vs)) := by
            have h1 := HDs.out
            rw [decide_eq_true hxy, Bool.true_and] at h1
            unfold Hid; rw [← h1]; exact HD.out
          have hne : ((x : Int) != (y : Int)) = false := by simp [hxy]
          clear hxy HDs
          go_wp2_with fail
          go_roundg g
          case measure => omega
          case rel => exact ⟨k + 1, by go_num, by have := HIG.out; omega, HB1, HDt⟩
        · have hne : ((x : Int) != (y : Int)) = true := by simpa using (show ¬ (x : Int) = (y : Int) by omega)
          have HE : Hid (decide (us = vs) = false) := by
            have h1 := HDs.out
            rw [decide_eq_false hxy, Bool.false_and] at h1
            unfold Hid; rw [← HD.out]; exact h1
          go_wp2_with fail
          go_ret
          exact ⟨by rw [HE.out]; rfl, HB1.out⟩
      · have hd : decide ((k : Int) < (al : Int)) = false := decide_eq_false (by omega)
        have hd' : decide (k < al) = false := decide_eq_false (by omega)
        have HE : Hid (decide (us = vs) = true) := by
          have h1 := HD.out
          rw [List.drop_eq_nil_of_le (by rw [HLN.out.1]; omega), List.drop_eq_nil_of_le (by rw [HLN.out.2.1]; omega), decide_eq_true rfl] at h1
          exact h1.symm
        go_wp2_with fail
        go_ret
        exact ⟨by rw [HE.out]; rfl, HB.out⟩
  · have hd : ((al : Int) != (bl : Int)) = true := by simpa using (show ¬ ((al : Int) = (bl : Int)) by omega)
    have HE : Hid (decide (us = vs) = false) := by
      unfold Hid
      refine decide_eq_false fun c => hn ?_
      rw [← HLN.out.1, ← HLN.out.2.1, c]
    go_enter Tryz.func21, Tryz.ntmps21
    go_wp2_with fail
    go_ret
    exact ⟨by rw [HE.out]; rfl, Below.refl _ w⟩
end Go.Proofs.YtfecnhfghepfkaaGreat

namespace Go.Proofs.YtfecnhfghepfkaaGreat
open Go.RowKit Go.Shelf
set_option linter.unusedVariables false
set_option linter.unusedSimpArgs false

/-- A slice of lists of words; gv: where each of them lies. -/
structure RdGu (w : World) (ao : Option Addr) (len cap : Nat) (gv : Nat → Option Addr × Nat × Nat) (gs : List (List Nat)) : Prop where
  length : gs.length = len
  max : len ≤ maxLen
  cells : len = 0 ∨ ∃ b off, ao = some ⟨b, off, none⟩ ∧ ∀ j, j < len → w.cell? ⟨b, off + j, none⟩ = some (.slice (gv j).1 (gv j).2.1 (gv j).2.2)
  each : ∀ j, j < len → RdUs w (gv j).1 (gv j).2.1 (gv j).2.2 (gs[j]?.getD [])
theorem RdGu.later {w w' : World} {ao : Option Addr} {len cap : Nat} {gv : Nat → Option Addr × Nat × Nat} {gs : List (List Nat)} (h : RdGu w ao len cap gv gs) (hb : Below w.heap.size w w') : RdGu w' ao len cap gv gs := by
  refine ⟨h.length, h.max, ?_, fun j hj => (h.each j hj).later hb⟩
  rcases h.cells with h0 | ⟨b, off, ha, hc⟩
  · exact .inl h0
  · refine .inr ⟨b, off, ha, fun j hj => ?_⟩
    rw [hb.cell (p := ⟨b, off + j, none⟩) (World.block_lt_of_cell? w _ (hc j hj))]
    exact hc j hj
/-- The document's zonotope lies in w. -/
structure ZU (w : World) (z : ZD) : Prop where
  c : RdUs w z.co z.cn z.cc z.cs
  i : RdIs w z.io z.dn z.dc z.ids
  g : RdGu w z.go z.gn z.gc z.gv z.gs
  r : RdUs w z.ro z.rn z.rc z.rs
theorem ZU.later {w w' : World} {z : ZD} (h : ZU w z) (hb : Below w.heap.size w w') : ZU w' z := ⟨h.c.later hb, h.i.later hb, h.g.later hb, h.r.later hb⟩
theorem drop_eqGG {us vs : List (List Nat)} {k : Nat} (h1 : k < us.length) (h2 : k < vs.length) : decide (us.drop k = vs.drop k) = (decide (us[k]?.getD [] = vs[k]?.getD []) && decide (us.drop (k + 1) = vs.drop (k + 1))) := by
  rw [List.drop_eq_getElem_cons h1, List.drop_eq_getElem_cons h2, List.getElem?_eq_getElem h1, List.getElem?_eq_getElem h2]
  simp only [List.cons.injEq, Option.getD_some, Bool.decide_and]
/-- Does the answer a have the bits that b tells? -/
def bitsB (a b : ZD) : Bool := decide (a.N = b.N) && decide (a.bad = b.bad) && decide (a.cs = b.cs) && decide (a.rs = b.rs) && decide (a.ids = b.ids) && decide (a.gs = b.gs)
set_option maxRecDepth 100000 in
set_option maxHeartbeats 2000000 in
theorem refSameZ_any (a b : ZD) (w : World) (ha : ZR w a) (hb : ZU w b) :
    Calls Tryz.prog 8 #[.agg (zRow a), .agg (zRow b)] w fun e w' => e = .returned (.bool (bitsB a b)) ∧ Below w.heap.size w w' := by
  unfold zRow
  have HC : Hid (∀ W', Below w.heap.size w W' → Calls Tryz.prog 21 #[.slice a.co a.cn a.cc, .slice b.co b.cn b.cc] W' fun e w' => e = .returned (.bool (decide (a.cs = b.cs))) ∧ Below W'.heap.size W' w') := fun W' h => refSame_any _ _ _ _ _ _ _ _ W' (ha.later h).c (hb.later h).c
  have HR : Hid (∀ W', Below w.heap.size w W' → Calls Tryz.prog 21 #[.slice a.ro a.rn a.rc, .slice b.ro b.rn b.rc] W' fun e w' => e = .returned (.bool (decide (a.rs = b.rs))) ∧ Below W'.heap.size W' w') := fun W' h => refSame_any _ _ _ _ _ _ _ _ W' (ha.later h).r (hb.later h).r
  have HIa : Hid (∀ W', Below w.heap.size w W' → RdIs W' a.io a.dn a.dc a.ids) := fun W' h => (ha.later h).i
  have HIb : Hid (∀ W', Below w.heap.size w W' → RdIs W' b.io b.dn b.dc b.ids) := fun W' h => (hb.later h).i
  have HGa : Hid (∀ W', Below w.heap.size w W' → RdGs W' a.go a.gn a.gc a.gv a.gs) := fun W' h => (ha.later h).g
  have HGb : Hid (∀ W', Below w.heap.size w W' → RdGu W' b.go b.gn b.gc b.gv b.gs) := fun W' h => (hb.later h).g
  have HLN : Hid (a.ids.length = a.dn ∧ b.ids.length = b.dn ∧ a.gs.length = a.gn ∧ b.gs.length = b.gn) := ⟨ha.i.length, hb.i.length, ha.g.length, hb.g.length⟩
  have hmi : a.dn ≤ 9223372036854775807 := Nat.le_trans ha.i.max maxLen_le
  have hmg : a.gn ≤ 9223372036854775807 := Nat.le_trans ha.g.max maxLen_le
  have HE : Hid (bitsB a b = (decide (a.N = b.N) && decide (a.bad = b.bad) && decide (a.cs = b.cs) && decide (a.rs = b.rs) && decide (a.ids = b.ids) && decide (a.gs = b.gs))) := rfl
  obtain ⟨sz, hsz⟩ : ∃ sz, bitsB a b = sz := ⟨_, rfl⟩
  rw [hsz] at HE ⊢
  obtain ⟨c0, hc0⟩ : ∃ c0, decide (a.cs = b.cs) = c0 := ⟨_, rfl⟩
  obtain ⟨r0, hr0⟩ : ∃ r0, decide (a.rs = b.rs) = r0 := ⟨_, rfl⟩
  rw [hc0] at HC HE
  rw [hr0] at HR HE
  clear hsz hc0 hr0 ha hb
  obtain ⟨N1, co1, cn1, cc1, io1, dn1, dc1, go1, gn1, gc1, ro1, rn1, rc1, bad1, cs1, ids1, gv1, gs1, rs1⟩ := a
  obtain ⟨N2, co2, cn2, cc2, io2, dn2, dc2, go2, gn2, gc2, ro2, rn2, rc2, bad2, cs2, ids2, gv2, gs2, rs2⟩ := b
  dsimp only at HC HR HIa HIb HGa HGb HLN hmi hmg HE ⊢
  have bW : Below w.heap.size w ((w.alloc (.cells #[.int .i64 N1, .slice co1 cn1 cc1, .slice io1 dn1 dc1, .slice go1 gn1 gc1, .slice ro1 rn1 rc1, .bool bad1] 26)).alloc (.cells #[.int .i64 N2, .slice co2 cn2 cc2, .slice io2 dn2 dc2, .slice go2 gn2 gc2, .slice ro2 rn2 rc2, .bool bad2] 32)) := ((Below.refl _ w).alloc (Nat.le_refl _) _).alloc (by simp only [alloc_size]; omega) _
  have eAW : ((w.alloc (.cells #[.int .i64 N1, .slice co1 cn1 cc1, .slice io1 dn1 dc1, .slice go1 gn1 gc1, .slice ro1 rn1 rc1, .bool bad1] 26)).alloc (.cells #[.int .i64 N2, .slice co2 cn2 cc2, .slice io2 dn2 dc2, .slice go2 gn2 gc2, .slice ro2 rn2 rc2, .bool bad2] 32)).heap[w.heap.size]? = some (.cells #[.int .i64 N1, .slice co1 cn1 cc1, .slice io1 dn1 dc1, .slice go1 gn1 gc1, .slice ro1 rn1 rc1, .bool bad1] 26) := alloc_kept (heap_alloc_new w _) _
  have eBW : ((w.alloc (.cells #[.int .i64 N1, .slice co1 cn1 cc1, .slice io1 dn1 dc1, .slice go1 gn1 gc1, .slice ro1 rn1 rc1, .bool bad1] 26)).alloc (.cells #[.int .i64 N2, .slice co2 cn2 cc2, .slice io2 dn2 dc2, .slice go2 gn2 gc2, .slice ro2 rn2 rc2, .bool bad2] 32)).heap[w.heap.size + 1]? = some (.cells #[.int .i64 N2, .slice co2 cn2 cc2, .slice io2 dn2 dc2, .slice go2 gn2 gc2, .slice ro2 rn2 rc2, .bool bad2] 32) := heap_at _ _ (w.heap.size + 1) (by simp only [alloc_size])
  have HK0 : Hid _ := And.intro bW (And.intro eAW eBW)
  clear bW eAW eBW
  by_cases q0 : N1 = N2
  case neg =>
    have d0 : (N1 != N2) = true := by simpa using q0
    have HS : Hid (sz = false) := by unfold Hid; rw [HE.out]; simp [q0]
    go_enter Tryz.func8, Tryz.ntmps8
    go_wp2_with fail
    go_ret
    exact ⟨by rw [HS.out]; rfl, HK0.out.1⟩
  subst q0
  by_cases q1 : bad1 = bad2
  case neg =>
    have d1 : (bad1 != bad2) = true := by simpa using q1
    have HS : Hid (sz = false) := by unfold Hid; rw [HE.out]; simp [q1]
    go_enter Tryz.func8, Tryz.ntmps8
    go_wp2_with fail
    go_ret
    exact ⟨by rw [HS.out]; rfl, HK0.out.1⟩
  subst q1
  by_cases q2 : dn1 = dn2
  case neg =>
    have d2 : ((dn1 : Int) != (dn2 : Int)) = true := by simpa using (show ¬ (dn1 : Int) = (dn2 : Int) by omega)
    have HS : Hid (sz = false) := by unfold Hid; rw [HE.out]; have hq : ¬ ids1 = ids2 := fun c => q2 (by rw [← HLN.out.1, ← HLN.out.2.1, c]); simp [hq]
    go_enter Tryz.func8, Tryz.ntmps8
    go_wp2_with fail
    go_ret
    exact ⟨by rw [HS.out]; rfl, HK0.out.1⟩
  subst q2
  by_cases q3 : gn1 = gn2
  case neg =>
    have d3 : ((gn1 : Int) != (gn2 : Int)) = true := by simpa using (show ¬ (gn1 : Int) = (gn2 : Int) by omega)
    have HS : Hid (sz = false) := by unfold Hid; rw [HE.out]; have hq : ¬ gs1 = gs2 := fun c => q3 (by rw [← HLN.out.2.2.1, ← HLN.out.2.2.2, c]); simp [hq]
    go_enter Tryz.func8, Tryz.ntmps8
    go_wp2_with fail
    go_ret
    exact ⟨by rw [HS.out]; rfl, HK0.out.1⟩
  subst q3
  have HS0 : Hid (sz = (c0 && r0 && decide (ids1 = ids2) && decide (gs1 = gs2))) := by unfold Hid; rw [HE.out]; simp
  cases c0
  case false =>
    have HS : Hid (sz = false) := by unfold Hid; rw [HS0.out]; simp
    go_enter Tryz.func8, Tryz.ntmps8
    go_wp2_with (go_at_call_of 21 (Value.slice co1 cn1 cc1); refine Calls.mono (HC.out _ HK0.out.1) ?_; rintro e W1 ⟨rfl, hb1⟩; have HK1 : Hid _ := And.intro (to_call HK0.out.1 hb1) (And.intro (kept hb1 HK0.out.2.1) (kept hb1 HK0.out.2.2)); obtain ⟨a01, a11, a21, a31, a41, a51⟩ := cells6 HK1.out.2.1; obtain ⟨b01, b11, b21, b31, b41, b51⟩ := cells6 HK1.out.2.2)
    go_ret
    exact ⟨by rw [HS.out]; rfl, HK1.out.1⟩
  cases r0
  case false =>
    have HS : Hid (sz = false) := by unfold Hid; rw [HS0.out]; simp
    go_enter Tryz.func8, Tryz.ntmps8
    go_wp2_with (first | (go_at_call_of 21 (Value.slice co1 cn1 cc1); refine Calls.mono (HC.out _ HK0.out.1) ?_; rintro e W1 ⟨rfl, hb1⟩; have HK1 : Hid _ := And.intro (to_call HK0.out.1 hb1) (And.intro (kept hb1 HK0.out.2.1) (kept hb1 HK0.out.2.2)); obtain ⟨a01, a11, a21, a31, a41, a51⟩ := cells6 HK1.out.2.1; obtain ⟨b01, b11, b21, b31, b41, b51⟩ := cells6 HK1.out.2.2) | (go_at_call_of 21 (Value.slice ro1 rn1 rc1); refine Calls.mono (HR.out _ HK1.out.1) ?_; rintro e W2 ⟨rfl, hb2⟩; have HK2 : Hid _ := And.intro (to_call HK1.out.1 hb2) (And.intro (kept hb2 HK1.out.2.1) (kept hb2 HK1.out.2.2)); obtain ⟨a02, a12, a22, a32, a42, a52⟩ := cells6 HK2.out.2.1; obtain ⟨b02, b12, b22, b32, b42, b52⟩ := cells6 HK2.out.2.2))
    go_ret
    exact ⟨by rw [HS.out]; rfl, HK2.out.1⟩
  have HS1 : Hid (sz = (decide (ids1 = ids2) && decide (gs1 = gs2))) := by unfold Hid; rw [HS0.out]; simp
  clear HE HS0
  go_enter Tryz.func8, Tryz.ntmps8
  go_wp2_with (first | (go_at_call_of 21 (Value.slice co1 cn1 cc1); refine Calls.mono (HC.out _ HK0.out.1) ?_; rintro e W1 ⟨rfl, hb1⟩; have HK1 : Hid _ := And.intro (to_call HK0.out.1 hb1) (And.intro (kept hb1 HK0.out.2.1) (kept hb1 HK0.out.2.2)); obtain ⟨a01, a11, a21, a31, a41, a51⟩ := cells6 HK1.out.2.1; obtain ⟨b01, b11, b21, b31, b41, b51⟩ := cells6 HK1.out.2.2) | (go_at_call_of 21 (Value.slice ro1 rn1 rc1); refine Calls.mono (HR.out _ HK1.out.1) ?_; rintro e W2 ⟨rfl, hb2⟩; have HK2 : Hid _ := And.intro (to_call HK1.out.1 hb2) (And.intro (kept hb2 HK1.out.2.1) (kept hb2 HK1.out.2.2)); obtain ⟨a02, a12, a22, a32, a42, a52⟩ := cells6 HK2.out.2.1; obtain ⟨b02, b12, b22, b32, b42, b52⟩ := cells6 HK2.out.2.2))
  go_loopg [5] dn1 (fun g iv wx => ∃ k : Nat, iv = .int .i64 k ∧ k + g = dn1 ∧ Hid (Below w.heap.size w wx ∧ wx.heap[w.heap.size]? = some (.cells #[.int .i64 N1, .slice co1 cn1 cc1, .slice io1 dn1 dc1, .slice go1 gn1 gc1, .slice ro1 rn1 rc1, .bool bad1] 26) ∧ wx.heap[w.heap.size + 1]? = some (.cells #[.int .i64 N1, .slice co2 cn2 cc2, .slice io2 dn1 dc2, .slice go2 gn1 gc2, .slice ro2 rn2 rc2, .bool bad1] 32)) ∧ Hid (decide (ids1.drop k = ids2.drop k) = decide (ids1 = ids2)))
  case atStart => exact ⟨0, rfl, by omega, HK2.out, rfl⟩
  case round =>
    obtain ⟨k, rfl, hk, HK, HD⟩ := hrel
    obtain ⟨a0, a1, a2, a3, a4, a5⟩ := cells6 HK.out.2.1
    obtain ⟨b0, b1, b2, b3, b4, b5⟩ := cells6 HK.out.2.2
    by_cases hlt : k < dn1
    · have hd : decide ((k : Int) < (dn1 : Int)) = true := decide_eq_true (by omega)
      obtain ⟨g, rfl⟩ : ∃ g, gk = g + 1 := ⟨gk - 1, by omega⟩
      rcases (HIa.out _ HK.out.1).cells with h0 | ⟨p1, f1, rfl, hca⟩
      · omega
      rcases (HIb.out _ HK.out.1).cells with h0 | ⟨p2, f2, rfl, hcb⟩
      · omega
      have ga := hca k hlt
      have gb := hcb k hlt
      have HDs : Hid (_ = _) := drop_eqI (is := ids1) (js := ids2) (k := k) (by rw [HLN.out.1]; exact hlt) (by rw [HLN.out.2.1]; exact hlt)
      obtain ⟨x, hx⟩ : ∃ x, ids1[k]?.getD 0 = x := ⟨_, rfl⟩
      obtain ⟨y, hy⟩ : ∃ y, ids2[k]?.getD 0 = y := ⟨_, rfl⟩
      rw [hx, hy] at HDs
      rw [hx] at ga
      rw [hy] at gb
      have HIG : Hid (k + (g + 1) = dn1) := hk
      clear hca hcb hx hy hk
      have HKd : Hid _ := And.intro (HK.out.1.drew) (And.intro HK.out.2.1 HK.out.2.2)
      go_upto_region 6 with fail
      have hS : (fun w' => w'.cell? ⟨w.heap.size, 2, none⟩ = some (.slice (some ⟨p1, f1, none⟩) dn1 dc1) ∧ w'.cell? ⟨w.heap.size + 1, 2, none⟩ = some (.slice (some ⟨p2, f2, none⟩) dn1 dc2) ∧ w'.cell? ⟨p1, f1 + k, none⟩ = some (.int .i64 x) ∧ w'.cell? ⟨p2, f2 + k, none⟩ = some (.int .i64 y)) wr.drew := ⟨a2, b2, ga, gb⟩
      refine wp_region_noPanic ?_
      refine wp_region_held_drew (S := (fun w' => w'.cell? ⟨w.heap.size, 2, none⟩ = some (.slice (some ⟨p1, f1, none⟩) dn1 dc1) ∧ w'.cell? ⟨w.heap.size + 1, 2, none⟩ = some (.slice (some ⟨p2, f2, none⟩) dn1 dc2) ∧ w'.cell? ⟨p1, f1 + k, none⟩ = some (.int .i64 x) ∧ w'.cell? ⟨p2, f2 + k, none⟩ = some (.int .i64 y))) (by kernel_rfl) hS (fun _ => ?_)
      refine takeH 60 (i := 0) (v := ?_) rfl rfl (by kernel_rfl) (by kernel_rfl) (by kernel_rfl) (fun _ _ _ h => h) (Or.inl ⟨by kernel_rfl, ?_⟩) (by assumption) ?_
      rotate_left
      · intro w' hSw; (try dsimp only at hSw); go_simp; try with_reducible rfl
      try simp only [Act.put, List.setIfInBounds_toArray, List.set_cons_zero, List.set_cons_succ]
      refine takeH 61 (i := 1) (v := ?_) rfl rfl (by kernel_rfl) (by kernel_rfl) (by kernel_rfl) (fun _ _ _ h => h) (Or.inl ⟨by kernel_rfl, ?_⟩) (by assumption) ?_
      rotate_left
      · intro w' hSw; (try dsimp only at hSw); go_simp; try with_reducible rfl
      try simp only [Act.put, List.setIfInBounds_toArray, List.set_cons_zero, List.set_cons_succ]
      refine takeH 62 (i := 2) (v := ?_) rfl rfl (by kernel_rfl) (by kernel_rfl) (by kernel_rfl) (fun _ _ _ h => h) (Or.inl ⟨by kernel_rfl, ?_⟩) (by assumption) ?_
      rotate_left
      · intro w' hSw; (try dsimp only at hSw); go_simp; try with_reducible rfl
      try simp only [Act.put, List.setIfInBounds_toArray, List.set_cons_zero, List.set_cons_succ]
      refine takeH 63 (i := 3) (v := ?_) rfl rfl (by kernel_rfl) (by kernel_rfl) (by kernel_rfl) (fun _ _ _ h => h) (Or.inl ⟨by kernel_rfl, ?_⟩) (by assumption) ?_
      rotate_left
      · intro w' hSw; (try dsimp only at hSw); go_simp; try with_reducible rfl
      try simp only [Act.put, List.setIfInBounds_toArray, List.set_cons_zero, List.set_cons_succ]
      refine takeH 64 (i := 4) (v := ?_) rfl rfl (by kernel_rfl) (by kernel_rfl) (by kernel_rfl) (fun _ _ _ h => h) (Or.inl ⟨by kernel_rfl, ?_⟩) (by assumption) ?_
      rotate_left
      · intro w' hSw; (try dsimp only at hSw); go_simp; try with_reducible rfl
      try simp only [Act.put, List.setIfInBounds_toArray, List.set_cons_zero, List.set_cons_succ]
      refine takeH 65 (i := 5) (v := ?_) rfl rfl (by kernel_rfl) (by kernel_rfl) (by kernel_rfl) (fun _ _ _ h => h) (Or.inl ⟨by kernel_rfl, ?_⟩) (by assumption) ?_
      rotate_left
      · intro w' hSw; (try dsimp only at hSw); go_simp; try with_reducible rfl
      try simp only [Act.put, List.setIfInBounds_toArray, List.set_cons_zero, List.set_cons_succ]
      refine takeH 66 (i := 6) (v := ?_) rfl rfl (by kernel_rfl) (by kernel_rfl) (by kernel_rfl) (fun _ _ _ h => h) (Or.inl ⟨by kernel_rfl, ?_⟩) (by assumption) ?_
      rotate_left
      · intro w' hSw; (try dsimp only at hSw); go_simp; try with_reducible rfl
      try simp only [Act.put, List.setIfInBounds_toArray, List.set_cons_zero, List.set_cons_succ]
      refine takeH 67 (i := 7) (v := ?_) rfl rfl (by kernel_rfl) (by kernel_rfl) (by kernel_rfl) (fun _ _ _ h => h) (Or.inl ⟨by kernel_rfl, ?_⟩) (by assumption) ?_
      rotate_left
      · intro w' hSw; (try dsimp only at hSw); go_simp; try with_reducible rfl
      try simp only [Act.put, List.setIfInBounds_toArray, List.set_cons_zero, List.set_cons_succ]
      refine takeH 68 (i := 8) (v := ?_) rfl rfl (by kernel_rfl) (by kernel_rfl) (by kernel_rfl) (fun _ _ _ h => h) (Or.inl ⟨by kernel_rfl, ?_⟩) (by assumption) ?_
      rotate_left
      · intro w' hSw; (try dsimp only at hSw); go_simp; try with_reducible rfl
      try simp only [Act.put, List.setIfInBounds_toArray, List.set_cons_zero, List.set_cons_succ]
      refine takeH 69 (i := 9) (v := ?_) rfl rfl (by kernel_rfl) (by kernel_rfl) (by kernel_rfl) (fun _ _ _ h => h) (Or.inl ⟨by kernel_rfl, ?_⟩) (by assumption) ?_
      rotate_left
      · intro w' hSw; (try dsimp only at hSw); go_simp; try with_reducible rfl
      try simp only [Act.put, List.setIfInBounds_toArray, List.set_cons_zero, List.set_cons_succ]
      refine takeH 70 (i := 10) (v := ?_) rfl rfl (by kernel_rfl) (by kernel_rfl) (by kernel_rfl) (fun _ _ _ h => h) (Or.inl ⟨by kernel_rfl, ?_⟩) (by assumption) ?_
      rotate_left
      · intro w' hSw; (try dsimp only at hSw); go_simp; try with_reducible rfl
      try simp only [Act.put, List.setIfInBounds_toArray, List.set_cons_zero, List.set_cons_succ]
      refine wpAnyH_done (by kernel_rfl) ?_ _
      refine NoPanic.normal ?_
      try simp only [Act.put, List.setIfInBounds_toArray, List.set_cons_zero, List.set_cons_succ]
      clear hS
      by_cases hxy : x = y
      · have HDt : Hid (decide (ids1.drop (k + 1) = ids2.drop (k + 1)) = decide (ids1 = ids2)) := by
          have h1 := HDs.out
          rw [decide_eq_true hxy, Bool.true_and] at h1
          unfold Hid; rw [← h1]; exact HD.out
        have hne : (x != y) = false := by simp [hxy]
        clear hxy HDs
        go_wp2_with fail
        go_roundg g
        case measure => omega
        case rel => exact ⟨k + 1, by go_num, by have := HIG.out; omega, HKd, HDt⟩
      · have hne : (x != y) = true := by simpa using hxy
        have HS : Hid (sz = false) := by
          have h1 := HDs.out
          rw [decide_eq_false hxy, Bool.false_and] at h1
          unfold Hid; rw [HS1.out, ← HD.out, h1]; rfl
        go_wp2_with fail
        go_ret
        exact ⟨by rw [HS.out]; rfl, HKd.out.1⟩
    · have hd : decide ((k : Int) < (dn1 : Int)) = false := decide_eq_false (by omega)
      have hd' : decide (k < dn1) = false := decide_eq_false (by omega)
      have HS2 : Hid (sz = decide (gs1 = gs2)) := by
        have h1 := HD.out
        rw [List.drop_eq_nil_of_le (by rw [HLN.out.1]; omega), List.drop_eq_nil_of_le (by rw [HLN.out.2.1]; omega), decide_eq_true rfl] at h1
        unfold Hid; rw [HS1.out, ← h1, Bool.true_and]
      clear HS1 HD
      go_wp2_with fail
      go_loopg [6] gn1 (fun g iv wx => ∃ k : Nat, iv = .int .i64 k ∧ k + g = gn1 ∧ Hid (Below w.heap.size w wx ∧ wx.heap[w.heap.size]? = some (.cells #[.int .i64 N1, .slice co1 cn1 cc1, .slice io1 dn1 dc1, .slice go1 gn1 gc1, .slice ro1 rn1 rc1, .bool bad1] 26) ∧ wx.heap[w.heap.size + 1]? = some (.cells #[.int .i64 N1, .slice co2 cn2 cc2, .slice io2 dn1 dc2, .slice go2 gn1 gc2, .slice ro2 rn2 rc2, .bool bad1] 32)) ∧ Hid (decide (gs1.drop k = gs2.drop k) = decide (gs1 = gs2)))
      case atStart => exact ⟨0, rfl, by omega, HK.out, rfl⟩
      case round =>
        clear hlt hd hd' a0 a1 a2 a3 a4 a5 b0 b1 b2 b3 b4 b5 HK
        obtain ⟨k, rfl, hk, HK, HD⟩ := hrel
        obtain ⟨a0, a1, a2, a3, a4, a5⟩ := cells6 HK.out.2.1
        obtain ⟨b0, b1, b2, b3, b4, b5⟩ := cells6 HK.out.2.2
        by_cases hlt : k < gn1
        · have hd : decide ((k : Int) < (gn1 : Int)) = true := decide_eq_true (by omega)
          obtain ⟨g, rfl⟩ : ∃ g, gk = g + 1 := ⟨gk - 1, by omega⟩
          rcases (HGa.out _ HK.out.1).cells with h0 | ⟨p1, f1, rfl, hca⟩
          · omega
          rcases (HGb.out _ HK.out.1).cells with h0 | ⟨p2, f2, rfl, hcb⟩
          · omega
          have ga := hca k hlt
          have gb := hcb k hlt
          have HDs : Hid (_ = _) := drop_eqGG (us := gs1) (vs := gs2) (k := k) (by rw [HLN.out.2.2.1]; exact hlt) (by rw [HLN.out.2.2.2]; exact hlt)
          have HKd : Hid _ := And.intro (HK.out.1.drew) (And.intro HK.out.2.1 HK.out.2.2)
          have HCk : Hid (Calls Tryz.prog 21 #[.slice (gv1 k).1 (gv1 k).2.1 (gv1 k).2.2, .slice (gv2 k).1 (gv2 k).2.1 (gv2 k).2.2] wr.drew fun e w' => e = .returned (.bool (decide (gs1[k]?.getD [] = gs2[k]?.getD []))) ∧ Below wr.drew.heap.size wr.drew w') := refSame_any _ _ _ _ _ _ _ _ _ ((HGa.out _ HKd.out.1).each k hlt) ((HGb.out _ HKd.out.1).each k hlt)
          obtain ⟨x, hx⟩ : ∃ x, decide (gs1[k]?.getD [] = gs2[k]?.getD []) = x := ⟨_, rfl⟩
          rw [hx] at HDs HCk
          have HIG : Hid (k + (g + 1) = gn1) := hk
          clear hca hcb hx hk
          go_upto_region 11 with fail
          have hS : (fun w' => w'.cell? ⟨w.heap.size, 3, none⟩ = some (.slice (some ⟨p1, f1, none⟩) gn1 gc1) ∧ w'.cell? ⟨w.heap.size + 1, 3, none⟩ = some (.slice (some ⟨p2, f2, none⟩) gn1 gc2) ∧ w'.cell? ⟨p1, f1 + k, none⟩ = some (.slice (gv1 k).1 (gv1 k).2.1 (gv1 k).2.2) ∧ w'.cell? ⟨p2, f2 + k, none⟩ = some (.slice (gv2 k).1 (gv2 k).2.1 (gv2 k).2.2)) wr.drew := ⟨a3, b3, ga, gb⟩
          refine wp_region_noPanic ?_
          refine wp_region_held_drew (S := (fun w' => w'.cell? ⟨w.heap.size, 3, none⟩ = some (.slice (some ⟨p1, f1, none⟩) gn1 gc1) ∧ w'.cell? ⟨w.heap.size + 1, 3, none⟩ = some (.slice (some ⟨p2, f2, none⟩) gn1 gc2) ∧ w'.cell? ⟨p1, f1 + k, none⟩ = some (.slice (gv1 k).1 (gv1 k).2.1 (gv1 k).2.2) ∧ w'.cell? ⟨p2, f2 + k, none⟩ = some (.slice (gv2 k).1 (gv2 k).2.1 (gv2 k).2.2))) (by kernel_rfl) hS (fun _ => ?_)
          refine takeH 78 (i := 0) (v := ?_) rfl rfl (by kernel_rfl) (by kernel_rfl) (by kernel_rfl) (fun _ _ _ h => h) (Or.inl ⟨by kernel_rfl, ?_⟩) (by assumption) ?_
          rotate_left
          · intro w' hSw; (try dsimp only at hSw); go_simp; try with_reducible rfl
          try simp only [Act.put, List.setIfInBounds_toArray, List.set_cons_zero, List.set_cons_succ]
          refine takeH 79 (i := 1) (v := ?_) rfl rfl (by kernel_rfl) (by kernel_rfl) (by kernel_rfl) (fun _ _ _ h => h) (Or.inl ⟨by kernel_rfl, ?_⟩) (by assumption) ?_
          rotate_left
          · intro w' hSw; (try dsimp only at hSw); go_simp; try with_reducible rfl
          try simp only [Act.put, List.setIfInBounds_toArray, List.set_cons_zero, List.set_cons_succ]
          refine takeH 80 (i := 2) (v := ?_) rfl rfl (by kernel_rfl) (by kernel_rfl) (by kernel_rfl) (fun _ _ _ h => h) (Or.inl ⟨by kernel_rfl, ?_⟩) (by assumption) ?_
          rotate_left
          · intro w' hSw; (try dsimp only at hSw); go_simp; try with_reducible rfl
          try simp only [Act.put, List.setIfInBounds_toArray, List.set_cons_zero, List.set_cons_succ]
          refine takeH 81 (i := 3) (v := ?_) rfl rfl (by kernel_rfl) (by kernel_rfl) (by kernel_rfl) (fun _ _ _ h => h) (Or.inl ⟨by kernel_rfl, ?_⟩) (by assumption) ?_
          rotate_left
          · intro w' hSw; (try dsimp only at hSw); go_simp; try with_reducible rfl
          try simp only [Act.put, List.setIfInBounds_toArray, List.set_cons_zero, List.set_cons_succ]
          refine takeH 82 (i := 4) (v := ?_) rfl rfl (by kernel_rfl) (by kernel_rfl) (by kernel_rfl) (fun _ _ _ h => h) (Or.inl ⟨by kernel_rfl, ?_⟩) (by assumption) ?_
          rotate_left
          · intro w' hSw; (try dsimp only at hSw); go_simp; try with_reducible rfl
          try simp only [Act.put, List.setIfInBounds_toArray, List.set_cons_zero, List.set_cons_succ]
          refine takeH 83 (i := 5) (v := ?_) rfl rfl (by kernel_rfl) (by kernel_rfl) (by kernel_rfl) (fun _ _ _ h => h) (Or.inl ⟨by kernel_rfl, ?_⟩) (by assumption) ?_
          rotate_left
          · intro w' hSw; (try dsimp only at hSw); go_simp; try with_reducible rfl
          try simp only [Act.put, List.setIfInBounds_toArray, List.set_cons_zero, List.set_cons_succ]
          refine takeH 84 (i := 6) (v := ?_) rfl rfl (by kernel_rfl) (by kernel_rfl) (by kernel_rfl) (fun _ _ _ h => h) (Or.inl ⟨by kernel_rfl, ?_⟩) (by assumption) ?_
          rotate_left
          · intro w' hSw; (try dsimp only at hSw); go_simp; try with_reducible rfl
          try simp only [Act.put, List.setIfInBounds_toArray, List.set_cons_zero, List.set_cons_succ]
          refine takeH 85 (i := 7) (v := ?_) rfl rfl (by kernel_rfl) (by kernel_rfl) (by kernel_rfl) (fun _ _ _ h => h) (Or.inl ⟨by kernel_rfl, ?_⟩) (by assumption) ?_
          rotate_left
          · intro w' hSw; (try dsimp only at hSw); go_simp; try with_reducible rfl
          try simp only [Act.put, List.setIfInBounds_toArray, List.set_cons_zero, List.set_cons_succ]
          refine takeH 86 (i := 8) (v := ?_) rfl rfl (by kernel_rfl) (by kernel_rfl) (by kernel_rfl) (fun _ _ _ h => h) (Or.inl ⟨by kernel_rfl, ?_⟩) (by assumption) ?_
          rotate_left
          · intro w' hSw; (try dsimp only at hSw); go_simp; try with_reducible rfl
          try simp only [Act.put, List.setIfInBounds_toArray, List.set_cons_zero, List.set_cons_succ]
          refine takeH 87 (i := 9) (v := ?_) rfl rfl (by kernel_rfl) (by kernel_rfl) (by kernel_rfl) (fun _ _ _ h => h) (Or.inl ⟨by kernel_rfl, ?_⟩) (by assumption) ?_
          rotate_left
          · intro w' hSw; (try dsimp only at hSw); go_simp; try with_reducible rfl
          try simp only [Act.put, List.setIfInBounds_toArray, List.set_cons_zero, List.set_cons_succ]
          refine wpAnyH_ready (rs := [10]) (by kernel_rfl) (by simp) ?_
          refine consH _ rfl (hopCd 88 rfl (by kernel_rfl) rfl (by kernel_rfl) (Calls.mono HCk.out ?_)) AllReadyH.nil
          rintro e w5 ⟨rfl, hb5⟩
          have HK5 : Hid _ := And.intro (to_call HKd.out.1 hb5) (And.intro (kept hb5 HKd.out.2.1) (kept hb5 HKd.out.2.2))
          have hS5 : (fun w' => w'.cell? ⟨w.heap.size, 3, none⟩ = some (.slice (some ⟨p1, f1, none⟩) gn1 gc1) ∧ w'.cell? ⟨w.heap.size + 1, 3, none⟩ = some (.slice (some ⟨p2, f2, none⟩) gn1 gc2) ∧ w'.cell? ⟨p1, f1 + k, none⟩ = some (.slice (gv1 k).1 (gv1 k).2.1 (gv1 k).2.2) ∧ w'.cell? ⟨p2, f2 + k, none⟩ = some (.slice (gv2 k).1 (gv2 k).2.1 (gv2 k).2.2)) w5 := ⟨(hb5.cell (World.block_lt_of_cell? _ _ hS.1)).trans hS.1, (hb5.cell (World.block_lt_of_cell? _ _ hS.2.1)).trans hS.2.1, (hb5.cell (World.block_lt_of_cell? _ _ hS.2.2.1)).trans hS.2.2.1, (hb5.cell (World.block_lt_of_cell? _ _ hS.2.2.2)).trans hS.2.2.2⟩
          refine ⟨_, rfl, hS5, ?_⟩
          try simp only [Act.put, List.setIfInBounds_toArray, List.set_cons_zero, List.set_cons_succ]
          refine takeH 89 (i := 11) (v := ?_) rfl rfl (by kernel_rfl) (by kernel_rfl) (by kernel_rfl) (fun _ _ _ h => h) (Or.inl ⟨by kernel_rfl, ?_⟩) (by assumption) ?_
          rotate_left
          · intro w' hSw; (try dsimp only at hSw); go_simp; try with_reducible rfl
          try simp only [Act.put, List.setIfInBounds_toArray, List.set_cons_zero, List.set_cons_succ]
          refine wpAnyH_done (by kernel_rfl) ?_ _
          refine NoPanic.normal ?_
          try simp only [Act.put, List.setIfInBounds_toArray, List.set_cons_zero, List.set_cons_succ]
          clear hS hS5
          cases x
          case true =>
            have HDt : Hid (decide (gs1.drop (k + 1) = gs2.drop (k + 1)) = decide (gs1 = gs2)) := by
              have h1 := HDs.out
              rw [Bool.true_and] at h1
              unfold Hid; rw [← h1]; exact HD.out
            go_wp2_with fail
            go_roundg g
            case measure => omega
            case rel => exact ⟨k + 1, by go_num, by have := HIG.out; omega, HK5, HDt⟩
          case false =>
            have HS : Hid (sz = false) := by
              have h1 := HDs.out
              rw [Bool.false_and] at h1
              unfold Hid; rw [HS2.out, ← HD.out]; exact h1
            go_wp2_with fail
            go_ret
            exact ⟨by rw [HS.out]; rfl, HK5.out.1⟩
        · have hd : decide ((k : Int) < (gn1 : Int)) = false := decide_eq_false (by omega)
          have hd' : decide (k < gn1) = false := decide_eq_false (by omega)
          have HS : Hid (sz = true) := by
            have h1 := HD.out
            rw [List.drop_eq_nil_of_le (by rw [HLN.out.2.2.1]; omega), List.drop_eq_nil_of_le (by rw [HLN.out.2.2.2]; omega), decide_eq_true rfl] at h1
            unfold Hid; rw [HS2.out]; exact h1.symm
          go_wp2_with fail
          go_ret
          exact ⟨by rw [HS.out]; rfl, HK.out.1⟩
end Go.Proofs.YtfecnhfghepfkaaGreat

namespace Go.Proofs.YtfecnhfghepfkaaGreat
open Go.RowKit
set_option linter.unusedVariables false
set_option linter.unusedSimpArgs false

set_option maxRecDepth 100000 in
set_option maxHeartbeats 2000000 in
/-- plain: a new list with every number plain, in a block of its own. -/
theorem plainT_any (ao : Option Addr) (len cap : Nat) (us : List Nat) (hl : len ≤ 100000) (hf : numsB us = true) (w : World) (h : RdF w ao len cap us) :
    Calls Tryz.prog 33 #[.slice ao len cap] w fun e w' => e = .returned (.slice (some ⟨w.heap.size, 0, none⟩) len len) ∧ RdF w' (some ⟨w.heap.size, 0, none⟩) len len (us.map plainM) ∧ (∃ cur, w'.heap[w.heap.size]? = some (.cells cur 37)) ∧ Below w.heap.size w w' ∧ w.heap.size < w'.heap.size := by
  have HR : Hid _ := h
  have HLN : Hid _ := h.length
  have HF : Hid (∀ u ∈ us, Fin u) := by
    unfold numsB at hf
    intro u hu
    have := List.all_eq_true.1 hf u hu
    simpa using this
  clear h hf
  have hmk := makeFJ len (by omega)
  go_enter Tryz.func33, Tryz.ntmps33
  go_wp2_with fail
  clear hmk
  go_loopg [11] len (fun g iv wx => ∃ k : Nat, iv = .int .i64 k ∧ k + g = len ∧ Hid (∀ j, j < k → wx.cell? ⟨w.heap.size, j, none⟩ = some (.float .f64 (plainM (us[j]?.getD 0)))) ∧ Hid ((∀ j, j < len → ∃ v, wx.cell? ⟨w.heap.size, j, none⟩ = some (.float .f64 v)) ∧ (∀ j, wx.frozen? ⟨w.heap.size, j, none⟩ = false)) ∧ Hid (Below w.heap.size w wx) ∧ Hid (w.heap.size < wx.heap.size ∧ ∃ cur, wx.heap[w.heap.size]? = some (.cells cur 37)))
  case atStart =>
    refine ⟨0, rfl, by omega, fun j hj => by omega, ⟨fun j hj => ⟨0, cellAtJ (heap_alloc_new w _) j _ (flN_at len j hj)⟩, fun j => frozen_of_row _ _ j _ _ (heap_alloc_new w _)⟩, (Below.refl _ w).alloc (Nat.le_refl _) _, ?_, _, heap_alloc_new w _⟩
    show w.heap.size < (w.alloc _).heap.size
    simp
  case round =>
    obtain ⟨k, rfl, hk, HP, HC, HB, HS⟩ := hrel
    by_cases hlt : k < len
    · have hd : decide ((k : Int) < (len : Int)) = true := decide_eq_true (by omega)
      obtain ⟨g, rfl⟩ : ∃ g, gk = g + 1 := ⟨gk - 1, by omega⟩
      rcases (HR.out.later HB.out).cells with h0 | ⟨ab, aoff, rfl, hca⟩
      · omega
      have ga := hca k hlt
      have hmem := getD_mem (us := us) (j := k) (by rw [HLN.out]; exact hlt)
      have hax := HR.out.lt _ hmem
      have HFx : Hid (Fin (us[k]?.getD 0)) := HF.out _ hmem
      obtain ⟨x, hx⟩ : ∃ x, us[k]?.getD 0 = x := ⟨_, rfl⟩
      have HX : Hid (us[k]?.getD 0 = x) := hx
      rw [hx] at ga hax HFx
      have HIG : Hid (k + (g + 1) = len) := hk
      clear hca hx hk hmem
      obtain ⟨pv, hpv⟩ := HC.out.1 k hlt
      have hfr := HC.out.2 k
      have hsf := run_store_f
      go_wp2_with (go_at_call 48; refine (next_plain hax HFx.out _).mono ?_; rintro e w1 ⟨rfl, hw1⟩; rw [hw1]; clear hw1 w1)
      have hcs : (wr.cell? ⟨w.heap.size, k, none⟩).isSome = true := by rw [hpv]; rfl
      have hrow : ∀ j, (wr.setCell ⟨w.heap.size, k, none⟩ (.float .f64 (plainM x))).cell? ⟨w.heap.size, j, none⟩ = if j = k then some (.float .f64 (plainM x)) else wr.cell? ⟨w.heap.size, j, none⟩ := by
        intro j
        by_cases e : j = k
        · subst e; rw [if_pos rfl]; exact World.cell?_setCell_same' _ _ _ hcs
        · rw [if_neg e, World.cell?_setCell_other _ _ _ _ (by intro c; cases c; exact e rfl)]
      have HP3 : Hid (∀ j, j < k + 1 → (wr.setCell ⟨w.heap.size, k, none⟩ (.float .f64 (plainM x))).cell? ⟨w.heap.size, j, none⟩ = some (.float .f64 (plainM (us[j]?.getD 0)))) := by
        intro j hj
        rw [hrow j]
        by_cases e : j = k
        · rw [if_pos e, e, HX.out]
        · rw [if_neg e]; exact HP.out j (by omega)
      have HC3 : Hid ((∀ j, j < len → ∃ v, (wr.setCell ⟨w.heap.size, k, none⟩ (.float .f64 (plainM x))).cell? ⟨w.heap.size, j, none⟩ = some (.float .f64 v)) ∧ (∀ j, (wr.setCell ⟨w.heap.size, k, none⟩ (.float .f64 (plainM x))).frozen? ⟨w.heap.size, j, none⟩ = false)) := by
        refine ⟨fun j hj => ?_, fun j => by rw [World.frozen?_setCell]; exact HC.out.2 j⟩
        rw [hrow j]
        by_cases e : j = k
        · exact ⟨_, if_pos e⟩
        · rw [if_neg e]; exact HC.out.1 j hj
      have HB3 : Hid (Below w.heap.size w (wr.setCell ⟨w.heap.size, k, none⟩ (.float .f64 (plainM x)))) := HB.out.trans ((Below.refl w.heap.size wr).setCell (p := ⟨w.heap.size, k, none⟩) (Nat.le_refl _) _)
      have HS3 : Hid (w.heap.size < (wr.setCell ⟨w.heap.size, k, none⟩ (.float .f64 (plainM x))).heap.size ∧ ∃ cur, (wr.setCell ⟨w.heap.size, k, none⟩ (.float .f64 (plainM x))).heap[w.heap.size]? = some (.cells cur 37)) := by
        have h1 : (wr.setCell ⟨w.heap.size, k, none⟩ (.float .f64 (plainM x))).heap.size = wr.heap.size := by simp
        obtain ⟨h2, cur, h3⟩ := HS.out
        exact ⟨by rw [h1]; exact h2, _, heap_setCell_same wr w.heap.size k _ _ _ h3⟩
      clear hsf hrow hcs hpv hfr ga hax HP HC
      go_roundg g
      case measure => omega
      case rel => exact ⟨k + 1, by go_num, by have := HIG.out; omega, HP3, HC3, HB3, HS3⟩
    · have hd : decide ((k : Int) < (len : Int)) = false := decide_eq_false (by omega)
      have hd' : decide (k < len) = false := decide_eq_false (by omega)
      have hkl : k = len := by omega
      have HP2 : Hid (∀ j, j < len → wr.cell? ⟨w.heap.size, j, none⟩ = some (.float .f64 (plainM (us[j]?.getD 0)))) := hkl ▸ HP.out
      clear hkl
      go_wp2_with fail
      go_ret
      refine ⟨rfl, ⟨by rw [List.length_map]; exact HLN.out, HR.out.max, fun u hu => ?_, .inr ⟨_, _, rfl, fun j hj => ?_⟩⟩, HS.out.2, HB.out, HS.out.1⟩
      · obtain ⟨v, hv, rfl⟩ := List.mem_map.1 hu
        exact plainM_ltJ (HR.out.lt v hv)
      · rw [Nat.zero_add, HP2.out j hj, List.getElem?_map, List.getElem?_eq_getElem (by rw [HLN.out]; exact hj)]; rfl
end Go.Proofs.YtfecnhfghepfkaaGreat
