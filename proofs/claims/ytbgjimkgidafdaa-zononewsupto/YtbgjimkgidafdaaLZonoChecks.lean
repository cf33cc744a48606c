import Derived.Test.YtbgjimkgidafdaaJZv
import Derived.Test.YtbgjimkgidafdaaGJk
import Derived.Test.YtbgjimkgidafdaaGJh
import Derived.Test.YtbgjimkgidafdaaGJj
namespace Go.Proofs.Ytbgjimkgidafdaa
open Go.RowKit Go.Shelf
set_option linter.unusedVariables false
set_option linter.unusedSimpArgs false

theorem ex_loadRJ {P : Program} {ρ : Operand → Value} (o : Oper) (ty : TypeId) (p : Operand) (ho : o.op = .load ty p) (B : Nat) (hp : ρ p = .pointer (some ⟨B, 0, none⟩)) (w : World) (c : Array Value) (h : w.heap[B]? = some (.cells c ty)) (d : TypeDesc) (hu : P.underlying ty = some d) (hd : d.isRow = true) (n : Nat) (hi : (P.info? ty).map (·.size) = some n) (hn : c.size = n) : (execOp ρ o).run P w = .ok (.value (.agg c)) w := by
  have hr : w.rangeAt B 0 c.toList := by
    have := World.rangeAt_of_block h 0 c.size
    simpa using this
  have hl := run_loadVar_mid (P := P) w B 0 ty c.toList d hr hu hd (by rw [hi]; simp [hn])
  have hl2 : (loadVar ty ⟨B, 0, none⟩).run P w = .ok (.agg c) w := by simpa using hl
  unfold execOp
  simp only [ho, hp, Instr.loadAt, Instr.sureAddr, Sem.run_bind, Sem.run_pure, Result.andThen_ok, hl2]
theorem ZR.fin64 {w : World} {z : ZD} (h : ZR w z) : (∀ x ∈ z.cs, x < 18446744073709551616) ∧ (∀ x ∈ z.rs, x < 18446744073709551616) ∧ ∀ l ∈ z.gs, ∀ x ∈ l, x < 18446744073709551616 := by
  refine ⟨h.c.lt, h.r.lt, fun l hl => ?_⟩
  obtain ⟨j, hj, rfl⟩ := List.getElem_of_mem hl
  have h1 := h.g.each j (by rw [← h.g.length]; exact hj)
  rw [List.getElem?_eq_getElem hj] at h1
  exact h1.lt
set_option maxRecDepth 100000 in
set_option maxHeartbeats 4000000 in
theorem zonoChecks_walk (z : ZD) (w : World) (hz : ZR w z) (hw : ZW z) :
    Calls Try.prog 3 #[.agg (zRow z)] w fun e w' => e = .returned (.bool true) ∧ Below w.heap.size w w' := by
  have HOF : Hid (∀ W', Below w.heap.size w W' → _) := fun W' hb => of10_any z W' (hz.later hb) hw
  have HLA : Hid (∀ W', Below w.heap.size w W' → _) := fun W' hb => laid_any z W' (hz.later hb) hw
  have HF64 := hz.fin64
  have HLN : Hid (z.cs.length = z.cn ∧ z.ids.length = z.dn ∧ z.gs.length = z.gn ∧ z.rs.length = z.rn) := ⟨hz.c.length, hz.i.length, hz.g.length, hz.r.length⟩
  have HGL : Hid (∀ j, j < z.gn → (z.gs[j]?.getD []).length ≤ 1048576) := fun j hj => by rw [(hz.g.each j hj).length]; exact hw.coll j hj
  have HWZ : Hid _ := hw
  have H64 : Hid _ := HF64
  unfold zRow at HOF HLA ⊢
  clear hz hw HF64
  have X0 : Below w.heap.size w (w.alloc (.cells #[.int .i64 z.N, .slice z.co z.cn z.cc, .slice z.io z.dn z.dc, .slice z.go z.gn z.gc, .slice z.ro z.rn z.rc, .bool z.bad] 26)) := (Below.refl _ w).alloc (Nat.le_refl _) _
  have Y0 : (w.alloc (.cells #[.int .i64 z.N, .slice z.co z.cn z.cc, .slice z.io z.dn z.dc, .slice z.go z.gn z.gc, .slice z.ro z.rn z.rc, .bool z.bad] 26)).heap[w.heap.size]? = some (.cells #[.int .i64 z.N, .slice z.co z.cn z.cc, .slice z.io z.dn z.dc, .slice z.go z.gn z.gc, .slice z.ro z.rn z.rc, .bool z.bad] 26) := heap_alloc_new w _
  have HX : Hid _ := And.intro X0 Y0
  clear X0 Y0
  go_enter Try.func3, Try.ntmps3
  go_upto_region 2 with (first
    | (refine wpList_load_row (by rfl) 26 _ (by rfl) w.heap.size _ (by rfl) HX.out.2 _ Try.underlying26 rfl 6 Try.infoZ (by rfl) ?_)
    | (go_at_call 5; refine Calls.mono (HOF.out _ HX.out.1) ?_; rintro e w1 ⟨u, rfl, hu, u1, u2, u3, u4, u5, u6, u7, u8, u9, u10, b1⟩; have HU1 : Hid (u.N = z.N ∧ u.bad = z.bad ∧ u.cs = z.cs ∧ u.rs = z.rs ∧ u.ids = z.ids ∧ u.gs = z.gs ∧ u.dn = z.dn ∧ u.gn = z.gn ∧ u.cn = z.cn ∧ u.rn = z.rn) := ⟨u1, u2, u3, u4, u5, u6, u7, u8, u9, u10⟩; clear u1 u2 u3 u4 u5 u6 u7 u8 u9 u10))
  have A1 : Below w1.heap.size w1 (w1.alloc (.cells #[.int .i64 u.N, .slice u.co u.cn u.cc, .slice u.io u.dn u.dc, .slice u.go u.gn u.gc, .slice u.ro u.rn u.rc, .bool u.bad] 30)) := (Below.refl _ w1).alloc (Nat.le_refl _) _
  have P1 : Hid (Below w.heap.size w (w1.alloc (.cells #[.int .i64 u.N, .slice u.co u.cn u.cc, .slice u.io u.dn u.dc, .slice u.go u.gn u.gc, .slice u.ro u.rn u.rc, .bool u.bad] 30)) ∧ (w1.alloc (.cells #[.int .i64 u.N, .slice u.co u.cn u.cc, .slice u.io u.dn u.dc, .slice u.go u.gn u.gc, .slice u.ro u.rn u.rc, .bool u.bad] 30)).heap[w.heap.size]? = some (.cells #[.int .i64 z.N, .slice z.co z.cn z.cc, .slice z.io z.dn z.dc, .slice z.go z.gn z.gc, .slice z.ro z.rn z.rc, .bool z.bad] 26) ∧ (w1.alloc (.cells #[.int .i64 u.N, .slice u.co u.cn u.cc, .slice u.io u.dn u.dc, .slice u.go u.gn u.gc, .slice u.ro u.rn u.rc, .bool u.bad] 30)).heap[w1.heap.size]? = some (.cells #[.int .i64 u.N, .slice u.co u.cn u.cc, .slice u.io u.dn u.dc, .slice u.go u.gn u.gc, .slice u.ro u.rn u.rc, .bool u.bad] 30) ∧ ZU (w1.alloc (.cells #[.int .i64 u.N, .slice u.co u.cn u.cc, .slice u.io u.dn u.dc, .slice u.go u.gn u.gc, .slice u.ro u.rn u.rc, .bool u.bad] 30)) u) := ⟨to_call (to_call HX.out.1 b1) A1, alloc_kept (kept b1 HX.out.2) _, heap_alloc_new w1 _, hu.later A1⟩
  obtain ⟨X, hX⟩ : ∃ X, w1.alloc (.cells #[.int .i64 u.N, .slice u.co u.cn u.cc, .slice u.io u.dn u.dc, .slice u.go u.gn u.gc, .slice u.ro u.rn u.rc, .bool u.bad] 30) = X := ⟨_, rfl⟩
  obtain ⟨B3, hB3⟩ : ∃ B3, w1.heap.size = B3 := ⟨_, rfl⟩
  rw [hX, hB3] at P1
  rw [hX, hB3]
  clear hX hB3 A1 b1 hu HX HOF
  go_upto_region 3 with (first
    | (refine wpList_load_row (by rfl) 26 _ (by rfl) w.heap.size _ (by rfl) P1.out.2.1 _ Try.underlying26 rfl 6 Try.infoZ (by rfl) ?_)
    | (go_at_call 6; refine Calls.mono (HLA.out _ P1.out.1) ?_; rintro e w2 ⟨x, rfl, hx, b2⟩))
  have A2 : Below w2.heap.size w2 (w2.alloc (.cells #[.int .i64 x.N, .slice x.co x.cn x.cc, .slice x.io x.dn x.dc, .slice x.go x.gn x.gc, .slice x.ro x.rn x.rc, .bool x.bad] 26)) := (Below.refl _ w2).alloc (Nat.le_refl _) _
  have qV : Below w.heap.size w (w2.alloc (.cells #[.int .i64 x.N, .slice x.co x.cn x.cc, .slice x.io x.dn x.dc, .slice x.go x.gn x.gc, .slice x.ro x.rn x.rc, .bool x.bad] 26)).drew := (to_call (to_call P1.out.1 b2) A2).drew
  have SX : (w2.alloc (.cells #[.int .i64 x.N, .slice x.co x.cn x.cc, .slice x.io x.dn x.dc, .slice x.go x.gn x.gc, .slice x.ro x.rn x.rc, .bool x.bad] 26)).drew.heap[w2.heap.size]? = some (.cells #[.int .i64 x.N, .slice x.co x.cn x.cc, .slice x.io x.dn x.dc, .slice x.go x.gn x.gc, .slice x.ro x.rn x.rc, .bool x.bad] 26) ∧ (w2.alloc (.cells #[.int .i64 x.N, .slice x.co x.cn x.cc, .slice x.io x.dn x.dc, .slice x.go x.gn x.gc, .slice x.ro x.rn x.rc, .bool x.bad] 26)).drew.heap[B3]? = some (.cells #[.int .i64 u.N, .slice u.co u.cn u.cc, .slice u.io u.dn u.dc, .slice u.go u.gn u.gc, .slice u.ro u.rn u.rc, .bool u.bad] 30) := ⟨heap_alloc_new w2 _, alloc_kept (kept b2 P1.out.2.2.1) _⟩
  have q2 : Below X.heap.size X w2 := b2
  obtain ⟨V0, hV0⟩ : ∃ V0, w2.alloc (.cells #[.int .i64 x.N, .slice x.co x.cn x.cc, .slice x.io x.dn x.dc, .slice x.go x.gn x.gc, .slice x.ro x.rn x.rc, .bool x.bad] 26) = V0 := ⟨_, rfl⟩
  obtain ⟨B4, hB4⟩ : ∃ B4, w2.heap.size = B4 := ⟨_, rfl⟩
  have bw2 : Below w.heap.size w w2 := to_call P1.out.1 b2
  have hu2 : ZU w2 u := P1.out.2.2.2.later b2
  have FRM : ∀ W, Below w2.heap.size w2 W → Below w.heap.size w W := fun W h => to_call bw2 h
  obtain ⟨k1, k2, k3, k4, k5, k6, k7, k8, k9, k10⟩ := HU1.out
  obtain ⟨g1, c1, -, c3⟩ := hx.c
  obtain ⟨g4, r1, -, r3⟩ := hx.r
  obtain ⟨gi, i1, -, i3⟩ := hx.i
  obtain ⟨gg, mb, gg1, gg2, -⟩ := hx.g
  obtain ⟨n1, n2, n3, n4⟩ := HLN.out
  have hxc : x.cn = z.cn := by rw [c3, hx.cs, n1]
  have hxr : x.rn = z.rn := by rw [r3, hx.rs, n4]
  have hxi : x.dn = z.dn := by rw [i3, hx.ids, n2]
  have hxg : x.gn = z.gn := by rw [gg2, hx.gs, n3]
  have hcx : checkB x = checkB z := checkB_eq x z hx.N hx.bad hx.cs hx.rs hx.ids hx.gs hxc hxi hxg hxr
  have hcu : checkB u = checkB z := checkB_eq u z k1 k2 k3 k4 k5 k6 k9 k7 k8 k10
  have huw : UW u := ⟨by rw [k9]; exact HWZ.out.cl, by rw [k10]; exact HWZ.out.rl, by rw [k7]; exact HWZ.out.il, by rw [k8]; exact HWZ.out.gl, fun k hk => by rw [← (hu2.g.each k hk).length, k6]; exact HGL.out k (by rw [← k8]; exact hk), by rw [k3]; exact H64.out.1, by rw [k4]; exact H64.out.2.1, by rw [k6]; exact H64.out.2.2⟩
  have hbit : bitsB x u = true := by
    unfold bitsB
    rw [hx.N, hx.bad, hx.cs, hx.rs, hx.ids, hx.gs, k1, k2, k3, k4, k5, k6]
    simp
  obtain ⟨r, hrr⟩ : ∃ r : Int, (if checkB z = true then 0 else 100) = r := ⟨_, rfl⟩
  have hr : -9223372036854775808 ≤ r ∧ r < 9223372036854775808 := by rw [← hrr]; split <;> omega
  have HCK : Hid (∀ W', Below w2.heap.size w2 W' → Calls Try.prog 8 #[.agg #[.int .i64 x.N, .slice x.co x.cn x.cc, .slice x.io x.dn x.dc, .slice x.go x.gn x.gc, .slice x.ro x.rn x.rc, .bool x.bad]] W' fun e w' => e = .returned (.int .i64 r) ∧ Below W'.heap.size W' w') := fun W' hb => by
    have h := check_any x W' (hx.zr.later hb)
    rw [hcx, hrr] at h
    exact h
  have HRC : Hid (∀ W', Below w2.heap.size w2 W' → Calls Try.prog 9 #[.agg #[.int .i64 u.N, .slice u.co u.cn u.cc, .slice u.io u.dn u.dc, .slice u.go u.gn u.gc, .slice u.ro u.rn u.rc, .bool u.bad]] W' fun e w' => e = .returned (.int .i64 r) ∧ Below W'.heap.size W' w') := fun W' hb => by
    have h := refCheck_any u W' (hu2.later hb) huw
    rw [hcu, hrr] at h
    exact h
  have HHD : Hid (∀ W', Below w2.heap.size w2 W' → Calls Try.prog 10 #[.agg #[.int .i64 x.N, .slice x.co x.cn x.cc, .slice x.io x.dn x.dc, .slice x.go x.gn x.gc, .slice x.ro x.rn x.rc, .bool x.bad], .agg #[.int .i64 u.N, .slice u.co u.cn u.cc, .slice u.io u.dn u.dc, .slice u.go u.gn u.gc, .slice u.ro u.rn u.rc, .bool u.bad]] W' fun e w' => e = .returned (.bool true) ∧ Below W'.heap.size W' w') := fun W' hb => heldJ_any z x u _ W' (hx.later hb) (hu2.later hb) hbit (by rw [hx.cs, n1]; exact HWZ.out.cl) (by rw [hx.rs, n4]; exact HWZ.out.rl) (by rw [hx.ids, n2]; exact HWZ.out.il) (by rw [hx.gs, n3]; exact HWZ.out.gl) (fun j hj => by rw [hx.gs]; exact HGL.out j (by rw [hx.gs, n3] at hj; exact hj))
  have qV2 : Below w2.heap.size w2 (w2.alloc (.cells #[.int .i64 x.N, .slice x.co x.cn x.cc, .slice x.io x.dn x.dc, .slice x.go x.gn x.gc, .slice x.ro x.rn x.rc, .bool x.bad] 26)).drew := A2.drew
  rw [hV0] at SX qV qV2 ⊢
  rw [hB4] at SX ⊢
  have BW2 : Hid _ := bw2
  clear hu2 hbit hcx hcu huw hxc hxr hxi hxg n1 n2 n3 n4 k1 k2 k3 k4 k5 k6 k7 k8 k9 k10 c1 c3 r1 r3 i1 i3 gg1 gg2 hx A2 q2 b2 P1 HLA HWZ H64 HGL HLN HU1 FRM hrr qV bw2
  have qV := qV2
  clear qV2
  obtain ⟨V, hV⟩ : ∃ V, V0.drew = V := ⟨_, rfl⟩
  refine wp_region_noPanic ?_
  refine wp_region_held_drew (S := (fun V => V.heap[B4]? = some (.cells #[.int .i64 x.N, .slice x.co x.cn x.cc, .slice x.io x.dn x.dc, .slice x.go x.gn x.gc, .slice x.ro x.rn x.rc, .bool x.bad] 26) ∧ V.heap[B3]? = some (.cells #[.int .i64 u.N, .slice u.co u.cn u.cc, .slice u.io u.dn u.dc, .slice u.go u.gn u.gc, .slice u.ro u.rn u.rc, .bool u.bad] 30))) (by kernel_rfl) SX (fun _ => ?_)
  rw [hV] at SX qV ⊢
  clear hV
  refine takeH 9 (i := 0) (v := .agg #[.int .i64 x.N, .slice x.co x.cn x.cc, .slice x.io x.dn x.dc, .slice x.go x.gn x.gc, .slice x.ro x.rn x.rc, .bool x.bad]) rfl rfl (by kernel_rfl) (by kernel_rfl) (by kernel_rfl) (fun _ _ _ h => h) (Or.inl ⟨by kernel_rfl, fun w' hSw => ex_loadRJ _ 26 _ rfl B4 (by kernel_rfl) w' _ hSw.1 _ Try.underlying26 rfl 6 Try.infoZ rfl⟩) SX ?_
  try simp only [Act.put, List.setIfInBounds_toArray, List.set_cons_zero, List.set_cons_succ]
  refine takeH 12 (i := 3) (v := .agg #[.int .i64 u.N, .slice u.co u.cn u.cc, .slice u.io u.dn u.dc, .slice u.go u.gn u.gc, .slice u.ro u.rn u.rc, .bool u.bad]) rfl rfl (by kernel_rfl) (by kernel_rfl) (by kernel_rfl) (fun _ _ _ h => h) (Or.inl ⟨by kernel_rfl, fun w' hSw => ex_loadRJ _ 30 _ rfl B3 (by kernel_rfl) w' _ hSw.2 _ Try.underlying30 rfl 6 Try.infoZu rfl⟩) SX ?_
  try simp only [Act.put, List.setIfInBounds_toArray, List.set_cons_zero, List.set_cons_succ]
  refine wpAnyH_ready (rs := [1]) (by kernel_rfl) (by simp) ?_
  refine consH _ rfl (hopCd 10 rfl (by kernel_rfl) rfl (by kernel_rfl) (Calls.mono (HCK.out _ qV) ?_)) AllReadyH.nil
  rintro e V1 ⟨rfl, hb⟩
  have qV1 : Below w2.heap.size w2 V1 := to_call qV hb
  have SX := And.intro (kept hb SX.1) (kept hb SX.2)
  clear hb
  refine ⟨_, rfl, SX, ?_⟩
  try simp only [Act.put, List.setIfInBounds_toArray, List.set_cons_zero, List.set_cons_succ]
  refine wpAnyH_ready (rs := [2]) (by kernel_rfl) (by simp) ?_
  refine consH _ rfl (hopCd 11 rfl (by kernel_rfl) rfl (by kernel_rfl) (Calls.mono (num_any10 r hr _) ?_)) AllReadyH.nil
  rintro e V1' ⟨rfl, hw⟩
  rw [hw]
  clear hw
  refine ⟨_, rfl, SX, ?_⟩
  try simp only [Act.put, List.setIfInBounds_toArray, List.set_cons_zero, List.set_cons_succ]
  refine wpAnyH_ready (rs := [4]) (by kernel_rfl) (by simp) ?_
  refine consH _ rfl (hopCd 13 rfl (by kernel_rfl) rfl (by kernel_rfl) (Calls.mono (HRC.out _ qV1) ?_)) AllReadyH.nil
  rintro e V2 ⟨rfl, hb⟩
  have qV2 : Below w2.heap.size w2 V2 := to_call qV1 hb
  have SX := And.intro (kept hb SX.1) (kept hb SX.2)
  clear hb
  refine ⟨_, rfl, SX, ?_⟩
  try simp only [Act.put, List.setIfInBounds_toArray, List.set_cons_zero, List.set_cons_succ]
  refine takeH 14 (i := 5) (v := ?_) rfl rfl (by kernel_rfl) (by kernel_rfl) (by kernel_rfl) (fun _ _ _ h => h) (Or.inl ⟨by kernel_rfl, ?_⟩) SX ?_
  rotate_left
  · intro w' hSw; go_simp; try with_reducible rfl
  try simp only [Act.put, List.setIfInBounds_toArray, List.set_cons_zero, List.set_cons_succ]
  refine takeH 15 (i := 6) (v := ?_) rfl rfl (by kernel_rfl) (by kernel_rfl) (by kernel_rfl) (fun _ _ _ h => h) (Or.inl ⟨by kernel_rfl, ?_⟩) SX ?_
  rotate_left
  · intro w' hSw; go_simp; try with_reducible rfl
  try simp only [Act.put, List.setIfInBounds_toArray, List.set_cons_zero, List.set_cons_succ]
  refine takeH 16 (i := 7) (v := .agg #[.int .i64 x.N, .slice x.co x.cn x.cc, .slice x.io x.dn x.dc, .slice x.go x.gn x.gc, .slice x.ro x.rn x.rc, .bool x.bad]) rfl rfl (by kernel_rfl) (by kernel_rfl) (by kernel_rfl) (fun _ _ _ h => h) (Or.inl ⟨by kernel_rfl, fun w' hSw => ex_loadRJ _ 26 _ rfl B4 (by kernel_rfl) w' _ hSw.1 _ Try.underlying26 rfl 6 Try.infoZ rfl⟩) SX ?_
  try simp only [Act.put, List.setIfInBounds_toArray, List.set_cons_zero, List.set_cons_succ]
  refine takeH 17 (i := 8) (v := .agg #[.int .i64 u.N, .slice u.co u.cn u.cc, .slice u.io u.dn u.dc, .slice u.go u.gn u.gc, .slice u.ro u.rn u.rc, .bool u.bad]) rfl rfl (by kernel_rfl) (by kernel_rfl) (by kernel_rfl) (fun _ _ _ h => h) (Or.inl ⟨by kernel_rfl, fun w' hSw => ex_loadRJ _ 30 _ rfl B3 (by kernel_rfl) w' _ hSw.2 _ Try.underlying30 rfl 6 Try.infoZu rfl⟩) SX ?_
  try simp only [Act.put, List.setIfInBounds_toArray, List.set_cons_zero, List.set_cons_succ]
  refine wpAnyH_ready (rs := [9]) (by kernel_rfl) (by simp) ?_
  refine consH _ rfl (hopCd 18 rfl (by kernel_rfl) rfl (by kernel_rfl) (Calls.mono (HHD.out _ qV2) ?_)) AllReadyH.nil
  rintro e V3 ⟨rfl, hb⟩
  have qV3 : Below w2.heap.size w2 V3 := to_call qV2 hb
  have SX := And.intro (kept hb SX.1) (kept hb SX.2)
  clear hb
  refine ⟨_, rfl, SX, ?_⟩
  try simp only [Act.put, List.setIfInBounds_toArray, List.set_cons_zero, List.set_cons_succ]
  refine takeH 19 (i := 10) (v := ?_) rfl rfl (by kernel_rfl) (by kernel_rfl) (by kernel_rfl) (fun _ _ _ h => h) (Or.inl ⟨by kernel_rfl, ?_⟩) SX ?_
  rotate_left
  · intro w' hSw; go_simp; try with_reducible rfl
  try simp only [Act.put, List.setIfInBounds_toArray, List.set_cons_zero, List.set_cons_succ]
  refine takeH 20 (i := 11) (v := ?_) rfl rfl (by kernel_rfl) (by kernel_rfl) (by kernel_rfl) (fun _ _ _ h => h) (Or.inl ⟨by kernel_rfl, ?_⟩) SX ?_
  rotate_left
  · intro w' hSw; go_simp; try with_reducible rfl
  try simp only [Act.put, List.setIfInBounds_toArray, List.set_cons_zero, List.set_cons_succ]
  refine wpAnyH_ready (rs := [12]) (by kernel_rfl) (by simp) ?_
  refine consH _ rfl (hopCd 21 rfl (by kernel_rfl) rfl (by kernel_rfl) (Calls.mono (started_any _) ?_)) AllReadyH.nil
  rintro e V4 ⟨rfl, hb⟩
  have qV4 : Below w2.heap.size w2 V4 := to_call qV3 hb
  have SX := And.intro (kept hb SX.1) (kept hb SX.2)
  clear hb
  refine ⟨_, rfl, SX, ?_⟩
  try simp only [Act.put, List.setIfInBounds_toArray, List.set_cons_zero, List.set_cons_succ]
  refine takeH 22 (i := 13) (v := ?_) rfl rfl (by kernel_rfl) (by kernel_rfl) (by kernel_rfl) (fun _ _ _ h => h) (Or.inl ⟨by kernel_rfl, ?_⟩) SX ?_
  rotate_left
  · intro w' hSw; go_simp; try with_reducible rfl
  try simp only [Act.put, List.setIfInBounds_toArray, List.set_cons_zero, List.set_cons_succ]
  refine takeH 2 (i := 14) (v := ?_) rfl rfl (by kernel_rfl) (by kernel_rfl) (by kernel_rfl) (fun _ _ _ h => h) (Or.inl ⟨by kernel_rfl, ?_⟩) SX ?_
  rotate_left
  · intro w' hSw; go_simp; try with_reducible rfl
  try simp only [Act.put, List.setIfInBounds_toArray, List.set_cons_zero, List.set_cons_succ]
  refine wpAnyH_done (by kernel_rfl) ?_ _
  refine NoPanic.normal ?_
  try simp only [Act.put, List.setIfInBounds_toArray, List.set_cons_zero, List.set_cons_succ]
  go_wp2_with fail
  go_ret
  exact ⟨rfl, to_call BW2.out qV4⟩
end Go.Proofs.Ytbgjimkgidafdaa
