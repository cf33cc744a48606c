import Derived.Test.YtfecnhfghepfkaaGreatGSa
namespace Go.Proofs.YtfecnhfghepfkaaGreat
open Go.RowKit Go.Shelf
set_option linter.unusedVariables false
set_option linter.unusedSimpArgs false

theorem ex_loadRT {P : Program} {ρ : Operand → Value} (o : Oper) (ty : TypeId) (p : Operand) (ho : o.op = .load ty p) (B : Nat) (hp : ρ p = .pointer (some ⟨B, 0, none⟩)) (w : World) (c : Array Value) (h : w.heap[B]? = some (.cells c ty)) (d : TypeDesc) (hu : P.underlying ty = some d) (hd : d.isRow = true) (n : Nat) (hi : (P.info? ty).map (·.size) = some n) (hn : c.size = n) : (execOp ρ o).run P w = .ok (.value (.agg c)) w := by
  have hr : w.rangeAt B 0 c.toList := by
    have := World.rangeAt_of_block h 0 c.size
    simpa using this
  have hl := run_loadVar_mid (P := P) w B 0 ty c.toList d hr hu hd (by rw [hi]; simp [hn])
  have hl2 : (loadVar ty ⟨B, 0, none⟩).run P w = .ok (.agg c) w := by simpa using hl
  unfold execOp
  simp only [ho, hp, Instr.loadAt, Instr.sureAddr, Sem.run_bind, Sem.run_pure, Result.andThen_ok, hl2]
theorem run_minI (x y : Int) : ∀ ts t w, (Builtin.min_ ts t #[.int .i64 x, .int .i64 y]).run Tryz.prog w = .ok (.int .i64 (min x y)) w := by
  intro ts t w
  have e : (if y < x then y else x) = min x y := by split <;> omega
  unfold Builtin.min_
  simp [Builtin.min2, e]
theorem allocBx (w : World) : (Instr.alloc 26 true (.tuple #[])).run Tryz.prog w = .ok (.pointer (some ⟨w.heap.size, 0, none⟩)) (w.alloc (.cells #[.int .i64 0, .slice none 0 0, .slice none 0 0, .slice none 0 0, .slice none 0 0, .bool false] 26)) := by kernel_rfl
theorem oneR (z : ZD) : (zRow z).all (·.oneCell') = true := oneZ _ _ _ _ _ rfl rfl rfl rfl _
/-- What the law holds between its rounds. -/
structure LsS (w W : World) (z x : ZD) (B low : Nat) : Prop where
  zb : W.heap[w.heap.size]? = some (.cells (zRow z) 26)
  xb : W.heap[B]? = some (.cells (zRow x) 26)
  lo : w.heap.size < B
  xr : ZR W x
  xw : ZW x
  st : StR z x low
  wf : WhF x
  bel : Below w.heap.size w W
theorem LsS.later {w W W' : World} {z x : ZD} {B low : Nat} (h : LsS w W z x B low) (hb : Below W.heap.size W W') : LsS w W' z x B low := ⟨kept hb h.zb, kept hb h.xb, h.lo, h.xr.later hb, h.xw, h.st, h.wf, to_call h.bel hb⟩
set_option maxRecDepth 100000 in
set_option maxHeartbeats 16000000 in
theorem trimSteps_walk (z : ZD) (w : World) (hz : ZR w z) (hw : ZW z) (hdn : z.dn ≤ 1048576) (ao : Option Addr) (l c : Nat) (ss : List Int) (hs : RdIs w ao l c ss) (hsb : ∀ i ∈ ss, -9223372036854775808 ≤ i ∧ i ≤ 9223372036854775807) :
    Calls Tryz.prog 3 #[.agg (zRow z), .slice ao l c] w fun e w' => e = .returned (.bool true) ∧ Below w.heap.size w w' := by
  have HZ : Hid (∀ W', Below w.heap.size w W' → ZR W' z) := fun W' hb => hz.later hb
  have HS : Hid (∀ W', Below w.heap.size w W' → RdIs W' ao l c ss) := fun W' hb => hs.later hb
  have HSB : Hid (∀ i ∈ ss, -9223372036854775808 ≤ i ∧ i ≤ 9223372036854775807) := hsb
  have HSL : Hid (ss.length = l) := hs.length
  have hmx := Nat.le_trans hs.max maxLen_le
  have HZW : Hid (ZW z) := hw
  have HD : Hid (z.dn ≤ 1048576) := hdn
  have HWF : Hid (wholeB z = true → WhF z) := fun h => WhF.of hz (by omega) h
  have HIL : Hid (z.ids.length = z.dn) := hz.i.length
  have HOf : Hid (∀ W', Below w.heap.size w W' → Calls Tryz.prog 6 #[.agg #[.int .i64 z.N, .slice z.co z.cn z.cc, .slice z.io z.dn z.dc, .slice z.go z.gn z.gc, .slice z.ro z.rn z.rc, .bool z.bad]] W' fun e w' => ∃ u : ZD, e = .returned (.agg (zRow u)) ∧ ZU w' u ∧ OfS z u ∧ Below W'.heap.size W' w') := fun W' hb => ofT_any z W' (hz.later hb) hw
  have X0 : Below w.heap.size w (w.alloc (.cells #[.int .i64 z.N, .slice z.co z.cn z.cc, .slice z.io z.dn z.dc, .slice z.go z.gn z.gc, .slice z.ro z.rn z.rc, .bool z.bad] 26)) := (Below.refl _ w).alloc (Nat.le_refl _) _
  have Y0 : (w.alloc (.cells #[.int .i64 z.N, .slice z.co z.cn z.cc, .slice z.io z.dn z.dc, .slice z.go z.gn z.gc, .slice z.ro z.rn z.rc, .bool z.bad] 26)).heap[w.heap.size]? = some (.cells #[.int .i64 z.N, .slice z.co z.cn z.cc, .slice z.io z.dn z.dc, .slice z.go z.gn z.gc, .slice z.ro z.rn z.rc, .bool z.bad] 26) := heap_alloc_new w _
  clear hz hs hsb hw hdn
  unfold zRow
  go_enter Tryz.func3, Tryz.ntmps3
  go_upto_region 1 with fail
  obtain ⟨X, hX⟩ : ∃ X, (w.alloc (.cells #[.int .i64 z.N, .slice z.co z.cn z.cc, .slice z.io z.dn z.dc, .slice z.go z.gn z.gc, .slice z.ro z.rn z.rc, .bool z.bad] 26)) = X := ⟨_, rfl⟩
  rw [hX] at X0 Y0 ⊢
  have P0 : Hid (Below w.heap.size w X ∧ X.heap[w.heap.size]? = some (.cells #[.int .i64 z.N, .slice z.co z.cn z.cc, .slice z.io z.dn z.dc, .slice z.go z.gn z.gc, .slice z.ro z.rn z.rc, .bool z.bad] 26)) := ⟨X0, Y0⟩
  clear hX X0 Y0
  go_wp2_with fail
  refine Calls.mono (told11_any _) ?_
  rintro e w1 ⟨rfl, b1⟩
  have P1 : Hid (Below w.heap.size w w1 ∧ w1.heap[w.heap.size]? = some (.cells #[.int .i64 z.N, .slice z.co z.cn z.cc, .slice z.io z.dn z.dc, .slice z.go z.gn z.gc, .slice z.ro z.rn z.rc, .bool z.bad] 26)) := ⟨to_call P0.out.1 b1, kept b1 P0.out.2⟩
  clear b1 P0
  go_wp2_with (first | (refine wpList_load_rowG (by kernel_rfl) 26 _ (by rfl) w.heap.size _ (by rfl) P1.out.2 _ Tryz.underlying26 rfl 6 Tryz.infoZ (by rfl) ?_))
  refine Calls.mono (HOf.out _ P1.out.1) ?_
  rintro e w2 ⟨u, rfl, hu, hk, b2⟩
  have huw := hk.uw (HZ.out _ P1.out.1) HZW.out hu
  have HG : Hid (Calls Tryz.prog 5 #[.agg #[.int .i64 u.N, .slice u.co u.cn u.cc, .slice u.io u.dn u.dc, .slice u.go u.gn u.gc, .slice u.ro u.rn u.rc, .bool u.bad]] w2 fun e w' => e = .returned (.bool (checkB z && !z.bad)) ∧ Below w2.heap.size w2 w') := by
    have h9 := goodT_any u w2 hu huw
    have e9 : (checkB u && !u.bad) = (checkB z && !z.bad) := by rw [hk.check, hk.bad]
    rw [e9] at h9
    exact h9
  have P2 : Hid (Below w.heap.size w w2 ∧ w2.heap[w.heap.size]? = some (.cells #[.int .i64 z.N, .slice z.co z.cn z.cc, .slice z.io z.dn z.dc, .slice z.go z.gn z.gc, .slice z.ro z.rn z.rc, .bool z.bad] 26)) := ⟨to_call P1.out.1 b2, kept b2 P1.out.2⟩
  simp only [zRow]
  clear P1 b2 hu hk huw HOf
  go_wp2_with fail
  refine Calls.mono HG.out ?_
  rintro e w3 ⟨rfl, b3⟩
  have P3 : Hid (Below w.heap.size w w3 ∧ w3.heap[w.heap.size]? = some (.cells #[.int .i64 z.N, .slice z.co z.cn z.cc, .slice z.io z.dn z.dc, .slice z.go z.gn z.gc, .slice z.ro z.rn z.rc, .bool z.bad] 26)) := ⟨to_call P2.out.1 b3, kept b3 P2.out.2⟩
  clear P2 b3 HG
  cases hgd : (checkB z && !z.bad) with
  | false =>
    clear hgd
    go_wp2_with fail
    refine Calls.mono (told11_any _) ?_
    rintro e w4 ⟨rfl, b4⟩
    go_wp2_with fail
    go_ret
    exact ⟨rfl, to_call P3.out.1 b4⟩
  | true =>
    have hgd2 : checkB z = true ∧ z.bad = false := by simpa using hgd
    have hwh : wholeB z = true := by have h9 := hgd2.1; unfold checkB at h9; rw [hgd2.2] at h9; simpa using h9
    have HGD : Hid (z.bad = false ∧ wholeB z = true ∧ WhF z) := ⟨hgd2.2, hwh, HWF.out hwh⟩
    clear hgd hgd2 hwh HWF
    have B4 : Below w3.heap.size w3 (w3.alloc (.cells #[.int .i64 0, .slice none 0 0, .slice none 0 0, .slice none 0 0, .slice none 0 0, .bool false] 26)) := (Below.refl _ w3).alloc (Nat.le_refl _) _
    go_upto_region 4 with (first
      | (refine wpList_load_row (by rfl) 26 _ (by rfl) w.heap.size _ (by rfl) P3.out.2 _ Tryz.underlying26 rfl 6 Tryz.infoZ (by rfl) ?_)
      | (refine wpList_store_row (by rfl) 26 _ _ (by rfl) w3 w3.heap.size w3.heap.size (zRow z) _ (by rfl) (by rfl) (heap_alloc_new w3 _) B4 (Nat.le_refl _) 6 Tryz.infoZ rfl rfl (oneR z) ?_; intro W4 e4 b4 s4 o4))
    obtain ⟨B, hB⟩ : ∃ B, w3.heap.size = B := ⟨_, rfl⟩
    have H0 : Hid (LsS w W4 z z B z.gn) := ⟨kept b4 P3.out.2, hB ▸ e4, by have h9 := blk_lt P3.out.2; omega, HZ.out _ (to_call P3.out.1 b4), HZW.out, StR.start HGD.out.1 HGD.out.2.1 HGD.out.2.2.dg (by rw [HIL.out]; exact HGD.out.2.2.dg), HGD.out.2.2, to_call P3.out.1 b4⟩
    rw [hB]
    clear B4 e4 b4 s4 o4 P3 hB
    have c2 : W4.cell? ⟨w.heap.size, 2, none⟩ = some (.slice z.io z.dn z.dc) := cellAtJ H0.out.zb 2 _ rfl
    have hdg : z.dn = z.gn := HGD.out.2.2.dg
    have HDG : Hid (z.dn = z.gn) := hdg
    clear hdg
    go_wp2_with fail
    clear c2
    obtain ⟨m, hm⟩ : ∃ m, min l 8 = m := ⟨_, rfl⟩
    have HM : Hid (min l 8 = m) := hm
    clear hm
    go_loopg [6, 7] m (fun g v6 v7 wx => ∃ (k low : Nat) (x : ZD), v7 = .int .i64 k ∧ v6 = .int .i64 low ∧ k + g = m ∧ Hid (LsS w wx z x B low))
    case atStart => exact ⟨0, z.dn, z, rfl, rfl, by omega, by have h9 := H0; rw [← HDG.out] at h9; exact h9⟩
    case round =>
      clear H0
      obtain ⟨k, low, x, rfl, rfl, hk, HI⟩ := hrel
      by_cases hlt : k < m
      · have hkl : k < l := by have := HM.out; omega
        have hk8 : k < 8 := by have := HM.out; omega
        have hd1 : decide ((k : Int) < (l : Int)) = true := decide_eq_true (by omega)
        have hd2 : decide ((k : Int) < 8) = true := decide_eq_true (by omega)
        have hkl' : (k : Int) < (l : Int) := by omega
        obtain ⟨q, rfl⟩ : ∃ q, gk = q + 1 := ⟨gk - 1, by omega⟩
        have HIG : Hid (k + (q + 1) = m) := hk
        clear hk
        rcases (HS.out w (Below.refl _ _)).cells with h0 | ⟨sb, soff, rfl, hcs⟩
        · omega
        have ga := hcs k hkl
        have hks : k < ss.length := by rw [HSL.out]; exact hkl
        have HSS0 := HSB.out (ss[k]?.getD 0) (by rw [List.getElem?_eq_getElem hks]; exact List.getElem_mem hks)
        obtain ⟨s, hs⟩ : ∃ s, ss[k]?.getD 0 = s := ⟨_, rfl⟩
        rw [hs] at ga HSS0
        have HGA : Hid (∀ W', Below w.heap.size w W' → W'.cell? ⟨sb, soff + k, none⟩ = some (.int .i64 s)) := fun W' hb => cellT ga hb
        clear ga
        have ga := HGA.out wr HI.out.bel
        have HSS : Hid (-9223372036854775808 ≤ s ∧ s ≤ 9223372036854775807) := HSS0
        clear hs hks hcs HSS0
        have hmx1 := run_maxI s 0
        have hmn1 := run_minI (low : Int) (max s 0)
        obtain ⟨mm, hmm⟩ : ∃ mm : Nat, max s 0 = (mm : Int) := ⟨(max s 0).toNat, by omega⟩
        rw [hmm] at hmx1 hmn1
        obtain ⟨lw, hlw⟩ : ∃ lw : Nat, min low (max s 0).toNat = lw := ⟨_, rfl⟩
        have hml : min (low : Int) (mm : Int) = (lw : Int) := by omega
        rw [hml] at hmn1
        have HLW : Hid (min low (max s 0).toNat = lw) := hlw
        clear hml hlw hmm
        have HXD : Hid (x.dn ≤ 1050000) := HI.out.xw.il
        go_upto_region 9 with fail
        have SX : (fun V => V.heap[B]? = some (.cells (zRow x) 26) ∧ V.cell? ⟨sb, soff + k, none⟩ = some (.int .i64 s)) wr.drew := ⟨HI.out.xb, ga⟩
        refine wp_region_noPanic ?_
        refine wp_region_P (S := (fun V => V.heap[B]? = some (.cells (zRow x) 26) ∧ V.cell? ⟨sb, soff + k, none⟩ = some (.int .i64 s))) (s := 6) (by kernel_rfl) ?_
        refine takeP 42 (i := 0) (v := .agg (zRow x)) rfl rfl (by kernel_rfl) (by kernel_rfl) (by kernel_rfl) (by kernel_rfl) rfl (by kernel_rfl) (fun _ _ _ h => h) (Or.inl ⟨by kernel_rfl, fun w' hSw => ex_loadRT _ 26 _ rfl B (by kernel_rfl) w' _ hSw.1 _ Tryz.underlying26 rfl 6 Tryz.infoZ rfl⟩) SX ?_
        try simp only [Act.put, List.setIfInBounds_toArray, List.set_cons_zero, List.set_cons_succ]
        refine takeP 43 (i := 1) (v := ?_) rfl rfl (by kernel_rfl) (by kernel_rfl) (by kernel_rfl) (by kernel_rfl) rfl (by kernel_rfl) (fun _ _ _ h => h) (Or.inl ⟨by kernel_rfl, ?_⟩) SX ?_
        rotate_left
        · intro w' hSw; have s1 := hSw.2; go_simp; try with_reducible rfl
        try simp only [Act.put, List.setIfInBounds_toArray, List.set_cons_zero, List.set_cons_succ]
        refine takeP 44 (i := 2) (v := ?_) rfl rfl (by kernel_rfl) (by kernel_rfl) (by kernel_rfl) (by kernel_rfl) rfl (by kernel_rfl) (fun _ _ _ h => h) (Or.inl ⟨by kernel_rfl, ?_⟩) SX ?_
        rotate_left
        · intro w' hSw; have s1 := hSw.2; go_simp; try with_reducible rfl
        try simp only [Act.put, List.setIfInBounds_toArray, List.set_cons_zero, List.set_cons_succ]
        refine takeP 45 (i := 3) (v := ?_) rfl rfl (by kernel_rfl) (by kernel_rfl) (by kernel_rfl) (by kernel_rfl) rfl (by kernel_rfl) (fun _ _ _ h => h) (Or.inl ⟨by kernel_rfl, ?_⟩) SX ?_
        rotate_left
        · intro w' hSw; have s1 := hSw.2; go_simp; try with_reducible rfl
        try simp only [Act.put, List.setIfInBounds_toArray, List.set_cons_zero, List.set_cons_succ]
        refine takeP 46 (i := 4) (v := ?_) rfl rfl (by kernel_rfl) (by kernel_rfl) (by kernel_rfl) (by kernel_rfl) rfl (by kernel_rfl) (fun _ _ _ h => h) (Or.inl ⟨by kernel_rfl, ?_⟩) SX ?_
        rotate_left
        · intro w' hSw; have s1 := hSw.2; go_simp; try with_reducible rfl
        try simp only [Act.put, List.setIfInBounds_toArray, List.set_cons_zero, List.set_cons_succ]
        refine wpAnyP_ready (rs := [5]) (by kernel_rfl) (by simp) ?_
        refine consP _ rfl (hopCd 47 rfl (by kernel_rfl) rfl (by kernel_rfl) (Calls.mono (reduce_any 1166 rfl x _ (HI.out.xr.later (Below.refl _ wr).drew) HXD.out s HSS.out.1 HSS.out.2) ?_)) AllReadyP.nil
        rintro e w4 ⟨y, rfl, hzy, hwy, hty, hry, b4⟩
        have c4 : Below wr.heap.size wr w4 := (Below.refl _ wr).drew.trans b4
        have SX4 : (fun V => V.heap[B]? = some (.cells (zRow x) 26) ∧ V.cell? ⟨sb, soff + k, none⟩ = some (.int .i64 s)) w4 := ⟨kept c4 HI.out.xb, cellT ga c4⟩
        refine ⟨_, rfl, SX4, ?_⟩
        try simp only [Act.put, List.setIfInBounds_toArray, List.set_cons_zero, List.set_cons_succ]
        refine wpAnyP_ready (rs := [6]) (by kernel_rfl) (by simp) ?_
        refine consPs _ rfl (by kernel_rfl) (hopL rfl (wpList_store_row (by rfl) 26 _ _ (by rfl) w w.heap.size B (zRow y) _ (by kernel_rfl) (by kernel_rfl) SX4.1 (to_call HI.out.bel c4) (Nat.le_of_lt HI.out.lo) 6 Tryz.infoZ rfl rfl (oneR y) fun W5 e5 b5 s5 o5 => ?_)) AllReadyP.nil
        refine (And.intro trivial ?_ : _ ∧ _)
        try simp only [Act.put, List.setIfInBounds_toArray, List.set_cons_zero, List.set_cons_succ]
        refine wpAnyP_done (by kernel_rfl) ?_ _
        refine NoPanic.normal ?_
        try simp only [Act.put, List.setIfInBounds_toArray, List.set_cons_zero, List.set_cons_succ]
        simp only [List.getElem_toArray, List.getElem_cons_succ, List.getElem_cons_zero]
        try simp only [Act.put, List.setIfInBounds_toArray, List.set_cons_zero, List.set_cons_succ]
        have H5 : Hid (W5.heap[B]? = some (.cells (zRow y) 26) ∧ ZR W5 y ∧ W5.heap[w.heap.size]? = some (.cells (zRow z) 26) ∧ Below w.heap.size w W5) := ⟨e5, ZR.storeZ hzy hty SX4.1 o5, (o5 _ (Nat.ne_of_lt HI.out.lo)).trans (kept c4 HI.out.zb), b5⟩
        have ga5 := HGA.out W5 b5
        have HYW : Hid (ZW y) := hwy
        have HYD : Hid (y.dn ≤ 1050000) := hwy.il
        have HST : Hid (y = badN z.N ∨ (StR z y lw ∧ Pln y)) := by
          have h9 := StR.step HI.out.st HI.out.wf HI.out.xr H5.out.2.1 hry
          rw [HLW.out] at h9
          exact h9
        have HLO : Hid (w.heap.size < B) := HI.out.lo
        clear SX SX4 e5 b5 s5 o5 c4 b4 hzy hwy hty hry HI ga
        go_upto_region 10 with fail
        go_cut [8] (fun v8 wx => ∃ (D : Nat) (y2 : ZD), v8 = .pointer (some ⟨D, 0, none⟩) ∧ Hid (wx.heap[D]? = some (.cells (zRow y2) 26) ∧ ZR wx y2 ∧ RdC y s y2) ∧ Hid (Below W5.heap.size W5 wx))
        case first =>
          have SX : (fun V => V.heap[B]? = some (.cells (zRow y) 26) ∧ V.cell? ⟨sb, soff + k, none⟩ = some (.int .i64 s)) W5.drew := ⟨H5.out.1, ga5⟩
          refine wp_region_noPanic ?_
          refine wp_region_held_drew (S := (fun V => V.heap[B]? = some (.cells (zRow y) 26) ∧ V.cell? ⟨sb, soff + k, none⟩ = some (.int .i64 s))) (by kernel_rfl) SX (fun _ => ?_)
          refine takeH 48 (i := 0) (v := .agg (zRow y)) rfl rfl (by kernel_rfl) (by kernel_rfl) (by kernel_rfl) (fun _ _ _ h => h) (Or.inl ⟨by kernel_rfl, fun w' hSw => ex_loadRT _ 26 _ rfl B (by kernel_rfl) w' _ hSw.1 _ Tryz.underlying26 rfl 6 Tryz.infoZ rfl⟩) SX ?_
          try simp only [Act.put, List.setIfInBounds_toArray, List.set_cons_zero, List.set_cons_succ]
          refine takeH 49 (i := 1) (v := ?_) rfl rfl (by kernel_rfl) (by kernel_rfl) (by kernel_rfl) (fun _ _ _ h => h) (Or.inl ⟨by kernel_rfl, ?_⟩) SX ?_
          rotate_left
          · intro w' hSw; have s1 := hSw.2; go_simp; try with_reducible rfl
          try simp only [Act.put, List.setIfInBounds_toArray, List.set_cons_zero, List.set_cons_succ]
          refine takeH 50 (i := 2) (v := ?_) rfl rfl (by kernel_rfl) (by kernel_rfl) (by kernel_rfl) (fun _ _ _ h => h) (Or.inl ⟨by kernel_rfl, ?_⟩) SX ?_
          rotate_left
          · intro w' hSw; have s1 := hSw.2; go_simp; try with_reducible rfl
          try simp only [Act.put, List.setIfInBounds_toArray, List.set_cons_zero, List.set_cons_succ]
          refine takeH 51 (i := 3) (v := ?_) rfl rfl (by kernel_rfl) (by kernel_rfl) (by kernel_rfl) (fun _ _ _ h => h) (Or.inl ⟨by kernel_rfl, ?_⟩) SX ?_
          rotate_left
          · intro w' hSw; have s1 := hSw.2; go_simp; try with_reducible rfl
          try simp only [Act.put, List.setIfInBounds_toArray, List.set_cons_zero, List.set_cons_succ]
          refine takeH 52 (i := 4) (v := ?_) rfl rfl (by kernel_rfl) (by kernel_rfl) (by kernel_rfl) (fun _ _ _ h => h) (Or.inl ⟨by kernel_rfl, ?_⟩) SX ?_
          rotate_left
          · intro w' hSw; have s1 := hSw.2; go_simp; try with_reducible rfl
          try simp only [Act.put, List.setIfInBounds_toArray, List.set_cons_zero, List.set_cons_succ]
          obtain ⟨V, hV⟩ : ∃ V, W5.drew = V := ⟨_, rfl⟩
          have bV : Below W5.heap.size W5 V := hV ▸ (Below.refl _ W5).drew
          have SV : (fun V => V.heap[B]? = some (.cells (zRow y) 26) ∧ V.cell? ⟨sb, soff + k, none⟩ = some (.int .i64 s)) V := hV ▸ SX
          rw [hV]
          clear hV SX
          refine wpAnyH_ready (rs := [5, 6]) (by kernel_rfl) (by simp) ?_
          refine consH _ rfl ?_ (consH _ rfl ?_ AllReadyH.nil)
          · refine hopCd 53 rfl (by kernel_rfl) rfl (by kernel_rfl) (Calls.mono (reduce_any 1166 rfl y _ (H5.out.2.1.later bV) HYD.out s HSS.out.1 HSS.out.2) ?_)
            rintro e Va ⟨y2, rfl, hz2Va, -, ht2Va, hr2, hb⟩
            have bVa : Below W5.heap.size W5 Va := to_call bV hb
            have SVa : (fun V => V.heap[B]? = some (.cells (zRow y) 26) ∧ V.cell? ⟨sb, soff + k, none⟩ = some (.int .i64 s)) Va := ⟨kept hb SV.1, cellT SV.2 hb⟩
            clear hb
            refine ⟨_, rfl, SVa, ?_⟩
            try simp only [Act.put, List.setIfInBounds_toArray, List.set_cons_zero, List.set_cons_succ]
            refine wpAnyH_ready (rs := [6]) (by kernel_rfl) (by simp) ?_
            refine consH _ rfl ?_ AllReadyH.nil
            refine hopAJ 8 rfl rfl rfl 26 rfl #[.int .i64 0, .slice none 0 0, .slice none 0 0, .slice none 0 0, .slice none 0 0, .bool false] allocBx fun D Vb hDVb hDl hb => ?_
            have bVb : Below W5.heap.size W5 Vb := to_call bVa hb
            have SVb : (fun V => V.heap[B]? = some (.cells (zRow y) 26) ∧ V.cell? ⟨sb, soff + k, none⟩ = some (.int .i64 s)) Vb := ⟨kept hb SVa.1, cellT SVa.2 hb⟩
            have hDX : W5.heap.size ≤ D := Nat.le_trans bVa.size hDl
            have hz2Vb := hz2Va.later hb
            have ht2Vb := ht2Va.later hb
            clear hb hDl
            refine ⟨SVb, ?_⟩
            try simp only [Act.put, List.setIfInBounds_toArray, List.set_cons_zero, List.set_cons_succ]
            refine wpAnyH_ready (rs := [7]) (by kernel_rfl) (by simp) ?_
            refine consH _ rfl (hopL rfl (wpList_store_row (by rfl) 26 _ _ (by rfl) W5 W5.heap.size D (zRow y2) _ (by kernel_rfl) (by kernel_rfl) hDVb bVb hDX 6 Tryz.infoZ rfl rfl (oneR y2) fun W6 e6 b6 s6 o6 => ?_)) AllReadyH.nil
            have S6 : (fun V => V.heap[B]? = some (.cells (zRow y) 26) ∧ V.cell? ⟨sb, soff + k, none⟩ = some (.int .i64 s)) W6 := ⟨kept b6 H5.out.1, cellT ga5 b6⟩
            refine (And.intro S6 ?_ : _ ∧ _)
            try simp only [Act.put, List.setIfInBounds_toArray, List.set_cons_zero, List.set_cons_succ]
            refine wpAnyH_done (by kernel_rfl) ?_ _
            refine NoPanic.normal ?_
            try simp only [Act.put, List.setIfInBounds_toArray, List.set_cons_zero, List.set_cons_succ]
            go_wp2_with fail
            go_meet
            exact ⟨D, y2, rfl, ⟨e6, ZR.storeZ (x := (⟨0, none, 0, 0, none, 0, 0, none, 0, 0, none, 0, 0, false, [], [], fun _ => (none, 0, 0), [], []⟩ : ZD)) hz2Vb ht2Vb hDVb o6, hr2⟩, b6⟩
          · refine hopAJ 8 rfl rfl rfl 26 rfl #[.int .i64 0, .slice none 0 0, .slice none 0 0, .slice none 0 0, .slice none 0 0, .bool false] allocBx fun D Vc hDVc hDl hb => ?_
            have bVc : Below W5.heap.size W5 Vc := to_call bV hb
            have SVc : (fun V => V.heap[B]? = some (.cells (zRow y) 26) ∧ V.cell? ⟨sb, soff + k, none⟩ = some (.int .i64 s)) Vc := ⟨kept hb SV.1, cellT SV.2 hb⟩
            have hDX : W5.heap.size ≤ D := Nat.le_trans bV.size hDl
            clear hb hDl
            refine ⟨SVc, ?_⟩
            try simp only [Act.put, List.setIfInBounds_toArray, List.set_cons_zero, List.set_cons_succ]
            refine wpAnyH_ready (rs := [5]) (by kernel_rfl) (by simp) ?_
            refine consH _ rfl ?_ AllReadyH.nil
            refine hopCd 53 rfl (by kernel_rfl) rfl (by kernel_rfl) (Calls.mono (reduce_any 1166 rfl y _ (H5.out.2.1.later bVc) HYD.out s HSS.out.1 HSS.out.2) ?_)
            rintro e Vd ⟨y2, rfl, hz2Vd, -, ht2Vd, hr2, hb⟩
            have bVd : Below W5.heap.size W5 Vd := to_call bVc hb
            have SVd : (fun V => V.heap[B]? = some (.cells (zRow y) 26) ∧ V.cell? ⟨sb, soff + k, none⟩ = some (.int .i64 s)) Vd := ⟨kept hb SVc.1, cellT SVc.2 hb⟩
            have hDVd := kept hb hDVc
            clear hb
            refine ⟨_, rfl, SVd, ?_⟩
            try simp only [Act.put, List.setIfInBounds_toArray, List.set_cons_zero, List.set_cons_succ]
            refine wpAnyH_ready (rs := [7]) (by kernel_rfl) (by simp) ?_
            refine consH _ rfl (hopL rfl (wpList_store_row (by rfl) 26 _ _ (by rfl) W5 W5.heap.size D (zRow y2) _ (by kernel_rfl) (by kernel_rfl) hDVd bVd hDX 6 Tryz.infoZ rfl rfl (oneR y2) fun W6 e6 b6 s6 o6 => ?_)) AllReadyH.nil
            have S6 : (fun V => V.heap[B]? = some (.cells (zRow y) 26) ∧ V.cell? ⟨sb, soff + k, none⟩ = some (.int .i64 s)) W6 := ⟨kept b6 H5.out.1, cellT ga5 b6⟩
            refine (And.intro S6 ?_ : _ ∧ _)
            try simp only [Act.put, List.setIfInBounds_toArray, List.set_cons_zero, List.set_cons_succ]
            refine wpAnyH_done (by kernel_rfl) ?_ _
            refine NoPanic.normal ?_
            try simp only [Act.put, List.setIfInBounds_toArray, List.set_cons_zero, List.set_cons_succ]
            go_wp2_with fail
            go_meet
            exact ⟨D, y2, rfl, ⟨e6, ZR.storeZ (x := (⟨0, none, 0, 0, none, 0, 0, none, 0, 0, none, 0, 0, false, [], [], fun _ => (none, 0, 0), [], []⟩ : ZD)) hz2Vd ht2Vd hDVd o6, hr2⟩, b6⟩
        case rest =>
          obtain ⟨D, y2, rfl, HD2, HB6⟩ := hcut
          have HN : Hid (0 ≤ z.N ∧ z.N ≤ 256) := by have h9 := HGD.out.2.2.N; have := HGD.out.2.2.n2; unfold Hid; omega
          have HBits : Hid (∀ u, OfS y u → bitsB y2 u = true) := by
            intro u hu
            have hq : y2.N = y.N ∧ y2.bad = y.bad ∧ y2.cs = y.cs ∧ y2.rs = y.rs ∧ y2.ids = y.ids ∧ y2.gs = y.gs := by
              rcases HST.out with h | ⟨h, hp⟩
              · have hr9 := HD2.out.2.2
                rw [h] at hr9
                rw [bad_again HN.out.1 HN.out.2 hr9, h]
                exact ⟨rfl, rfl, rfl, rfl, rfl, rfl⟩
              · exact h.again hp (by rw [← HLW.out]; omega) (WhF.of H5.out.2.1 HYD.out h.wh) H5.out.2.1 HD2.out.2.1 HD2.out.2.2
            unfold bitsB
            rw [hq.1, hq.2.1, hq.2.2.1, hq.2.2.2.1, hq.2.2.2.2.1, hq.2.2.2.2.2, hu.N, hu.bad, hu.cs, hu.rs, hu.ids, hu.gs]
            simp
          go_upto_region 11 with fail
          have SX : (fun V => V.heap[D]? = some (.cells (zRow y2) 26) ∧ V.heap[B]? = some (.cells (zRow y) 26)) wc.drew := ⟨HD2.out.1, (show wc.heap[B]? = _ from kept HB6.out H5.out.1)⟩
          refine wp_region_noPanic ?_
          refine wp_region_held_drew (S := (fun V => V.heap[D]? = some (.cells (zRow y2) 26) ∧ V.heap[B]? = some (.cells (zRow y) 26))) (by kernel_rfl) SX (fun _ => ?_)
          refine takeH 54 (i := 0) (v := .agg (zRow y2)) rfl rfl (by kernel_rfl) (by kernel_rfl) (by kernel_rfl) (fun _ _ _ h => h) (Or.inl ⟨by kernel_rfl, fun w' hSw => ex_loadRT _ 26 _ rfl D (by kernel_rfl) w' _ hSw.1 _ Tryz.underlying26 rfl 6 Tryz.infoZ rfl⟩) SX ?_
          try simp only [Act.put, List.setIfInBounds_toArray, List.set_cons_zero, List.set_cons_succ]
          refine takeH 55 (i := 1) (v := .agg (zRow y)) rfl rfl (by kernel_rfl) (by kernel_rfl) (by kernel_rfl) (fun _ _ _ h => h) (Or.inl ⟨by kernel_rfl, fun w' hSw => ex_loadRT _ 26 _ rfl B (by kernel_rfl) w' _ hSw.2 _ Tryz.underlying26 rfl 6 Tryz.infoZ rfl⟩) SX ?_
          try simp only [Act.put, List.setIfInBounds_toArray, List.set_cons_zero, List.set_cons_succ]
          refine wpAnyH_ready (rs := [2]) (by kernel_rfl) (by simp) ?_
          refine consH _ rfl (hopCd 56 rfl (by kernel_rfl) rfl (by kernel_rfl) (Calls.mono (ofT_any y _ ((H5.out.2.1.later HB6.out).later (Below.refl _ wc).drew) HYW.out) ?_)) AllReadyH.nil
          rintro e w7 ⟨u, rfl, hu, hk, b7⟩
          have c7 : Below wc.heap.size wc w7 := (Below.refl _ wc).drew.trans b7
          have SX7 : (fun V => V.heap[D]? = some (.cells (zRow y2) 26) ∧ V.heap[B]? = some (.cells (zRow y) 26)) w7 := ⟨kept c7 SX.1, kept c7 SX.2⟩
          refine ⟨_, rfl, SX7, ?_⟩
          try simp only [Act.put, List.setIfInBounds_toArray, List.set_cons_zero, List.set_cons_succ]
          refine wpAnyH_ready (rs := [3]) (by kernel_rfl) (by simp) ?_
          refine consH _ rfl (hopCd 57 rfl (by kernel_rfl) rfl (by kernel_rfl) (Calls.mono (refSameZ_any y2 u _ (HD2.out.2.1.later c7) hu) ?_)) AllReadyH.nil
          rintro e w8 ⟨rfl, b8⟩
          rw [HBits.out u hk]
          have SX8 : (fun V => V.heap[D]? = some (.cells (zRow y2) 26) ∧ V.heap[B]? = some (.cells (zRow y) 26)) w8 := ⟨kept b8 SX7.1, kept b8 SX7.2⟩
          refine ⟨_, rfl, SX8, ?_⟩
          try simp only [Act.put, List.setIfInBounds_toArray, List.set_cons_zero, List.set_cons_succ]
          refine takeH 58 (i := 4) (v := .bool false) rfl rfl (by kernel_rfl) (by kernel_rfl) (by kernel_rfl) (fun _ _ _ h => h) (Or.inl ⟨by kernel_rfl, fun w' _ => by kernel_rfl⟩) SX8 ?_
          try simp only [Act.put, List.setIfInBounds_toArray, List.set_cons_zero, List.set_cons_succ]
          refine wpAnyH_done (by kernel_rfl) ?_ _
          refine NoPanic.normal ?_
          try simp only [Act.put, List.setIfInBounds_toArray, List.set_cons_zero, List.set_cons_succ]
          have H8 : Hid (w8.heap[B]? = some (.cells (zRow y) 26) ∧ ZR w8 y ∧ w8.heap[w.heap.size]? = some (.cells (zRow z) 26) ∧ Below w.heap.size w w8) := by
            have c8 : Below wc.heap.size wc w8 := to_call c7 b8
            have d8 : Below W5.heap.size W5 w8 := to_call HB6.out c8
            exact ⟨SX8.2, H5.out.2.1.later d8, kept d8 H5.out.2.2.1, to_call H5.out.2.2.2 d8⟩
          clear SX SX7 SX8 c7 b7 b8 hu hk HBits HD2 HB6 H5 ga5
          have q5 : w8.cell? ⟨B, 5, none⟩ = some (.bool y.bad) := cellAtJ H8.out.1 5 _ rfl
          have q0 : w8.cell? ⟨B, 0, none⟩ = some (.int .i64 y.N) := cellAtJ H8.out.1 0 _ rfl
          have z0 : w8.cell? ⟨w.heap.size, 0, none⟩ = some (.int .i64 z.N) := cellAtJ H8.out.2.2.1 0 _ rfl
          rcases HST.out with h | ⟨h, hp⟩
          · have e1 : y.bad = true := by rw [h]; rfl
            have e2 : y.N = z.N := by rw [h]; rfl
            rw [e1] at q5
            rw [e2] at q0
            have hnn : (z.N == z.N) = true := by simp
            clear h e1 e2
            go_wp2_with fail
            go_ret
            exact ⟨rfl, H8.out.2.2.2⟩
          · have e1 := h.bad
            rw [e1] at q5
            have HI2 : Hid (LsS w w8 z y B lw) := ⟨H8.out.2.2.1, H8.out.1, HLO.out, H8.out.2.1, HYW.out, h, WhF.of H8.out.2.1 HYD.out h.wh, H8.out.2.2.2⟩
            clear h hp e1 q0 z0
            go_wp2_with fail
            go_roundg q
            case measure => omega
            case rel => exact ⟨k + 1, lw, y, by go_num, rfl, by have := HIG.out; omega, HI2⟩
      · have HKM : Hid (k = min l 8) := by have := HM.out; unfold Hid; omega
        have HDD : Hid (z.dn ≤ 1050000) := by have := HD.out; unfold Hid; omega
        clear hk hlt
        by_cases hkl : k < l
        · have hd1 : decide ((k : Int) < (l : Int)) = true := decide_eq_true (by omega)
          have hd4 : decide (k < l) = true := decide_eq_true hkl
          have hd2 : decide ((k : Int) < 8) = false := decide_eq_false (by have := HKM.out; omega)
          have hd3 : decide (k < 8) = false := decide_eq_false (by have := HKM.out; omega)
          clear hkl
          go_wp2_with (first | (refine wpList_load_row (by rfl) 26 _ (by rfl) w.heap.size _ (by rfl) HI.out.zb _ Tryz.underlying26 rfl 6 Tryz.infoZ (by rfl) ?_))
          refine Calls.mono (reduce_any 1166 rfl z _ (HZ.out _ HI.out.bel) HDD.out (low : Int) (by omega) (by have := HI.out.st.le; have := HGD.out.2.2.dg; have := HDD.out; omega)) ?_
          rintro e w4 ⟨y, rfl, hzy, -, hty, hry, b4⟩
          have A4 : Below w4.heap.size w4 (w4.alloc (.cells #[.int .i64 0, .slice none 0 0, .slice none 0 0, .slice none 0 0, .slice none 0 0, .bool false] 26)) := (Below.refl _ w4).alloc (Nat.le_refl _) _
          go_upto_region 16 with (first
            | (refine wpList_store_row (by rfl) 26 _ _ (by rfl) w4 w4.heap.size w4.heap.size (zRow y) _ (by rfl) (by rfl) (heap_alloc_new w4 _) A4 (Nat.le_refl _) 6 Tryz.infoZ rfl rfl (oneR y) ?_; intro W5 e5 b5 s5 o5))
          have c5 : Below wr.heap.size wr W5 := to_call b4 b5
          have zy5 : ZR W5 y := ZR.storeZ (x := (⟨0, none, 0, 0, none, 0, 0, none, 0, 0, none, 0, 0, false, [], [], fun _ => (none, 0, 0), [], []⟩ : ZD)) (hzy.later A4) (hty.later A4) (heap_alloc_new w4 _) o5
          have HON : Hid _ := HI.out.st.once HGD.out.2.2 HGD.out.1 HGD.out.2.1 HI.out.wf (HZ.out _ HI.out.bel) HI.out.xr zy5 hry
          have HXX : Hid (W5.heap[B]? = some (.cells (zRow x) 26) ∧ ZR W5 x ∧ W5.heap[w4.heap.size]? = some (.cells (zRow y) 26) ∧ ZR W5 y ∧ Below w.heap.size w W5) := ⟨kept c5 HI.out.xb, HI.out.xr.later c5, e5, zy5, to_call HI.out.bel c5⟩
          have HXS : Hid (x.dn = low ∧ x.gn = low ∧ x.rn = z.rn ∧ FnZ x ∧ (∀ i, i < low → (x.gs[i]?.getD []).length = z.rn)) := ⟨HI.out.st.dn, HI.out.st.gn, HI.out.st.rn, HI.out.wf.fin, fun i hi => by rw [HI.out.wf.gl i (by rw [HI.out.st.dn]; exact hi), HI.out.st.rn]⟩
          obtain ⟨n, hn⟩ : ∃ n, z.rn = n := ⟨_, rfl⟩
          obtain ⟨D, hD⟩ : ∃ D, w4.heap.size = D := ⟨_, rfl⟩
          rw [hn] at HXS
          rw [hD] at HXX ⊢
          clear hzy hty hry b4 A4 e5 b5 s5 o5 c5 zy5 HI hn hD HZ HS HSB HSL HGD HDG HM
          obtain ⟨xN, xo, xcn, xcc, xi, xdn, xdc, xg, xgn, xgc, xr, xrn, xrc, xb, xcs, xids, xgv, xgs, xrs⟩ := x
          obtain ⟨yN, yo, ycn, ycc, yi, ydn, ydc, yg, ygn, ygc, yr, yrn, yrc, yb, ycs, yids, ygv, ygs, yrs⟩ := y
          dsimp only [zRow] at HXX HXS HON ⊢
          obtain ⟨h1, h2, h3, h4, h5⟩ := HXS.out
          obtain ⟨k1, k2, k3, k4, k5, k6, k7⟩ := HON.out
          replace h1 := h1.symm
          replace h2 := h2.symm
          replace h3 := h3.symm
          subst h1 h2 h3
          replace k3 := k3.symm
          replace k4 := k4.symm
          replace k5 := k5.symm
          subst k1 k2 k3 k4 k5
          have HF : Hid (FnZ (⟨xN, xo, xcn, xcc, xi, low, xdc, xg, low, xgc, xr, n, xrc, xb, xcs, yids, xgv, xgs, xrs⟩ : ZD) ∧ (∀ i, i < low → (xgs[i]?.getD []).length = n) ∧ (∀ i, i < low → ygs[i]?.getD [] = (xgs[i]?.getD []).map plainM) ∧ (∀ j, j < n → Fin (yrs[j]?.getD 0) ∧ srung (yrs[j]?.getD 0) ≤ srung (xrs[j]?.getD 0))) := ⟨h4, h5, k6, k7⟩
          clear h4 h5 k6 k7 HXS HON
          have cx2 : W5.cell? ⟨B, 2, none⟩ = some (.slice xi low xdc) := cellAtJ HXX.out.1 2 _ rfl
          have cx3 : W5.cell? ⟨B, 3, none⟩ = some (.slice xg low xgc) := cellAtJ HXX.out.1 3 _ rfl
          have cx4 : W5.cell? ⟨B, 4, none⟩ = some (.slice xr n xrc) := cellAtJ HXX.out.1 4 _ rfl
          have cy2 : W5.cell? ⟨D, 2, none⟩ = some (.slice yi low ydc) := cellAtJ HXX.out.2.2.1 2 _ rfl
          have cy3 : W5.cell? ⟨D, 3, none⟩ = some (.slice yg low ygc) := cellAtJ HXX.out.2.2.1 3 _ rfl
          have cy4 : W5.cell? ⟨D, 4, none⟩ = some (.slice yr n yrc) := cellAtJ HXX.out.2.2.1 4 _ rfl
          have cy5 : W5.cell? ⟨D, 5, none⟩ = some (.bool false) := cellAtJ HXX.out.2.2.1 5 _ rfl
          have HC : Hid (W5.cell? ⟨B, 2, none⟩ = some (.slice xi low xdc) ∧ W5.cell? ⟨B, 3, none⟩ = some (.slice xg low xgc) ∧ W5.cell? ⟨B, 4, none⟩ = some (.slice xr n xrc) ∧ W5.cell? ⟨D, 2, none⟩ = some (.slice yi low ydc) ∧ W5.cell? ⟨D, 3, none⟩ = some (.slice yg low ygc) ∧ W5.cell? ⟨D, 4, none⟩ = some (.slice yr n yrc)) := ⟨cx2, cx3, cx4, cy2, cy3, cy4⟩
          have hz1 : ((low : Int) != (low : Int)) = false := by simp
          have hz2 : ((n : Int) != (n : Int)) = false := by simp
          have hmx2 : low ≤ 9223372036854775807 := Nat.le_trans HXX.out.2.1.i.max maxLen_le
          have hmx3 : n ≤ 9223372036854775807 := Nat.le_trans HXX.out.2.1.r.max maxLen_le
          go_wp2_with fail
          clear cx2 cx3 cx4 cy2 cy3 cy4 cy5 hz1 hz2
          go_loopg [10] low (fun g v10 wx => ∃ i : Nat, v10 = .int .i64 i ∧ i + g = low ∧ Hid (Below W5.heap.size W5 wx))
          case atStart => exact ⟨0, rfl, by omega, Below.refl _ _⟩
          case round =>
            obtain ⟨i, rfl, hi, HB⟩ := hrel
            have cx2 := cellT HC.out.1 HB.out
            by_cases h1 : i < low
            · have he1 : decide ((i : Int) < (low : Int)) = true := decide_eq_true (by omega)
              obtain ⟨q, rfl⟩ : ∃ q, gk = q + 1 := ⟨gk - 1, by omega⟩
              have HIG2 : Hid (i + (q + 1) = low) := hi
              have h1' : (i : Int) < (low : Int) := by omega
              clear hi
              have cy2 := cellT HC.out.2.2.2.1 HB.out
              have cx3 := cellT HC.out.2.1 HB.out
              have cy3 := cellT HC.out.2.2.2.2.1 HB.out
              have zx := HXX.out.2.1.later HB.out
              have zy := HXX.out.2.2.2.1.later HB.out
              rcases zx.i.cells with h0 | ⟨xib, xio, exi, hxi⟩
              · dsimp only at h0; omega
              rcases zy.i.cells with h0 | ⟨yib, yio, eyi, hyi⟩
              · dsimp only at h0; omega
              rcases zx.g.cells with h0 | ⟨xgb, xgo, exg, hxg⟩
              · dsimp only at h0; omega
              rcases zy.g.cells with h0 | ⟨ygb, ygo, eyg, hyg⟩
              · dsimp only at h0; omega
              dsimp only at exi eyi exg eyg
              have gxi := hxi i h1
              have gyi := hyi i h1
              have gxg := hxg i h1
              have gyg := hyg i h1
              dsimp only at gxi gyi gxg gyg
              have rx := zx.g.each i h1
              have ry := zy.g.each i h1
              dsimp only at rx ry
              rw [HF.out.2.2.1 i h1] at ry
              have lx := rx.length
              have ly := ry.length
              rw [HF.out.2.1 i h1] at lx
              rw [List.length_map, HF.out.2.1 i h1] at ly
              have hfx := HF.out.1.g i
              dsimp only at hfx
              obtain ⟨us, hus⟩ : ∃ us, xgs[i]?.getD [] = us := ⟨_, rfl⟩
              rw [hus] at rx ry hfx
              obtain ⟨x1, ex1⟩ : ∃ t, (xgv i).1 = t := ⟨_, rfl⟩
              obtain ⟨x3, ex3⟩ : ∃ t, (xgv i).2.2 = t := ⟨_, rfl⟩
              obtain ⟨y1, ey1⟩ : ∃ t, (ygv i).1 = t := ⟨_, rfl⟩
              obtain ⟨y3, ey3⟩ : ∃ t, (ygv i).2.2 = t := ⟨_, rfl⟩
              rw [ex1, ex3, ← lx] at rx gxg
              rw [ey1, ey3, ← ly] at ry gyg
              have HXG : Hid (RdF wr x1 n x3 us ∧ RdF wr y1 n y3 (us.map plainM) ∧ ∀ j : Nat, Fin (us[j]?.getD 0)) := ⟨rx, ry, hfx⟩
              obtain ⟨di, edi⟩ : ∃ t, yids[i]?.getD 0 = t := ⟨_, rfl⟩
              rw [edi] at gxi gyi
              have hdd : (di != di) = false := by simp
              subst exi eyi exg eyg
              clear hxi hyi hxg hyg zx zy rx ry lx ly hfx hus ex1 ex3 ey1 ey3 edi
              go_upto_region 21 with fail
              have bX : Below wr.heap.size wr wr.drew := (Below.refl _ _).drew
              refine wp_region_noPanic ?_
              refine wp_region_held_drew (S := (fun V => Below wr.heap.size wr V)) (by kernel_rfl) bX (fun _ => ?_)
              refine takeH 96 (i := 0) (v := ?_) rfl rfl (by kernel_rfl) (by kernel_rfl) (by kernel_rfl) (fun _ _ _ h => h) (Or.inl ⟨by kernel_rfl, ?_⟩) bX ?_
              rotate_left
              · intro w' hSw; have s1 := cellT cx2 hSw; have s2 := cellT cy2 hSw; have s3 := cellT cx3 hSw; have s4 := cellT cy3 hSw; have s5 := cellT gxi hSw; have s6 := cellT gyi hSw; have s7 := cellT gxg hSw; have s8 := cellT gyg hSw; go_simp; try with_reducible rfl
              try simp only [Act.put, List.setIfInBounds_toArray, List.set_cons_zero, List.set_cons_succ]
              refine takeH 97 (i := 1) (v := ?_) rfl rfl (by kernel_rfl) (by kernel_rfl) (by kernel_rfl) (fun _ _ _ h => h) (Or.inl ⟨by kernel_rfl, ?_⟩) bX ?_
              rotate_left
              · intro w' hSw; have s1 := cellT cx2 hSw; have s2 := cellT cy2 hSw; have s3 := cellT cx3 hSw; have s4 := cellT cy3 hSw; have s5 := cellT gxi hSw; have s6 := cellT gyi hSw; have s7 := cellT gxg hSw; have s8 := cellT gyg hSw; go_simp; try with_reducible rfl
              try simp only [Act.put, List.setIfInBounds_toArray, List.set_cons_zero, List.set_cons_succ]
              refine takeH 98 (i := 2) (v := ?_) rfl rfl (by kernel_rfl) (by kernel_rfl) (by kernel_rfl) (fun _ _ _ h => h) (Or.inl ⟨by kernel_rfl, ?_⟩) bX ?_
              rotate_left
              · intro w' hSw; have s1 := cellT cx2 hSw; have s2 := cellT cy2 hSw; have s3 := cellT cx3 hSw; have s4 := cellT cy3 hSw; have s5 := cellT gxi hSw; have s6 := cellT gyi hSw; have s7 := cellT gxg hSw; have s8 := cellT gyg hSw; go_simp; try with_reducible rfl
              try simp only [Act.put, List.setIfInBounds_toArray, List.set_cons_zero, List.set_cons_succ]
              refine takeH 99 (i := 3) (v := ?_) rfl rfl (by kernel_rfl) (by kernel_rfl) (by kernel_rfl) (fun _ _ _ h => h) (Or.inl ⟨by kernel_rfl, ?_⟩) bX ?_
              rotate_left
              · intro w' hSw; have s1 := cellT cx2 hSw; have s2 := cellT cy2 hSw; have s3 := cellT cx3 hSw; have s4 := cellT cy3 hSw; have s5 := cellT gxi hSw; have s6 := cellT gyi hSw; have s7 := cellT gxg hSw; have s8 := cellT gyg hSw; go_simp; try with_reducible rfl
              try simp only [Act.put, List.setIfInBounds_toArray, List.set_cons_zero, List.set_cons_succ]
              refine takeH 100 (i := 4) (v := ?_) rfl rfl (by kernel_rfl) (by kernel_rfl) (by kernel_rfl) (fun _ _ _ h => h) (Or.inl ⟨by kernel_rfl, ?_⟩) bX ?_
              rotate_left
              · intro w' hSw; have s1 := cellT cx2 hSw; have s2 := cellT cy2 hSw; have s3 := cellT cx3 hSw; have s4 := cellT cy3 hSw; have s5 := cellT gxi hSw; have s6 := cellT gyi hSw; have s7 := cellT gxg hSw; have s8 := cellT gyg hSw; go_simp; try with_reducible rfl
              try simp only [Act.put, List.setIfInBounds_toArray, List.set_cons_zero, List.set_cons_succ]
              refine takeH 101 (i := 5) (v := ?_) rfl rfl (by kernel_rfl) (by kernel_rfl) (by kernel_rfl) (fun _ _ _ h => h) (Or.inl ⟨by kernel_rfl, ?_⟩) bX ?_
              rotate_left
              · intro w' hSw; have s1 := cellT cx2 hSw; have s2 := cellT cy2 hSw; have s3 := cellT cx3 hSw; have s4 := cellT cy3 hSw; have s5 := cellT gxi hSw; have s6 := cellT gyi hSw; have s7 := cellT gxg hSw; have s8 := cellT gyg hSw; go_simp; try with_reducible rfl
              try simp only [Act.put, List.setIfInBounds_toArray, List.set_cons_zero, List.set_cons_succ]
              refine takeH 102 (i := 6) (v := ?_) rfl rfl (by kernel_rfl) (by kernel_rfl) (by kernel_rfl) (fun _ _ _ h => h) (Or.inl ⟨by kernel_rfl, ?_⟩) bX ?_
              rotate_left
              · intro w' hSw; have s1 := cellT cx2 hSw; have s2 := cellT cy2 hSw; have s3 := cellT cx3 hSw; have s4 := cellT cy3 hSw; have s5 := cellT gxi hSw; have s6 := cellT gyi hSw; have s7 := cellT gxg hSw; have s8 := cellT gyg hSw; go_simp; try with_reducible rfl
              try simp only [Act.put, List.setIfInBounds_toArray, List.set_cons_zero, List.set_cons_succ]
              refine takeH 103 (i := 7) (v := ?_) rfl rfl (by kernel_rfl) (by kernel_rfl) (by kernel_rfl) (fun _ _ _ h => h) (Or.inl ⟨by kernel_rfl, ?_⟩) bX ?_
              rotate_left
              · intro w' hSw; have s1 := cellT cx2 hSw; have s2 := cellT cy2 hSw; have s3 := cellT cx3 hSw; have s4 := cellT cy3 hSw; have s5 := cellT gxi hSw; have s6 := cellT gyi hSw; have s7 := cellT gxg hSw; have s8 := cellT gyg hSw; go_simp; try with_reducible rfl
              try simp only [Act.put, List.setIfInBounds_toArray, List.set_cons_zero, List.set_cons_succ]
              refine takeH 104 (i := 8) (v := ?_) rfl rfl (by kernel_rfl) (by kernel_rfl) (by kernel_rfl) (fun _ _ _ h => h) (Or.inl ⟨by kernel_rfl, ?_⟩) bX ?_
              rotate_left
              · intro w' hSw; have s1 := cellT cx2 hSw; have s2 := cellT cy2 hSw; have s3 := cellT cx3 hSw; have s4 := cellT cy3 hSw; have s5 := cellT gxi hSw; have s6 := cellT gyi hSw; have s7 := cellT gxg hSw; have s8 := cellT gyg hSw; go_simp; try with_reducible rfl
              try simp only [Act.put, List.setIfInBounds_toArray, List.set_cons_zero, List.set_cons_succ]
              refine takeH 105 (i := 9) (v := ?_) rfl rfl (by kernel_rfl) (by kernel_rfl) (by kernel_rfl) (fun _ _ _ h => h) (Or.inl ⟨by kernel_rfl, ?_⟩) bX ?_
              rotate_left
              · intro w' hSw; have s1 := cellT cx2 hSw; have s2 := cellT cy2 hSw; have s3 := cellT cx3 hSw; have s4 := cellT cy3 hSw; have s5 := cellT gxi hSw; have s6 := cellT gyi hSw; have s7 := cellT gxg hSw; have s8 := cellT gyg hSw; go_simp; try with_reducible rfl
              try simp only [Act.put, List.setIfInBounds_toArray, List.set_cons_zero, List.set_cons_succ]
              refine takeH 106 (i := 10) (v := ?_) rfl rfl (by kernel_rfl) (by kernel_rfl) (by kernel_rfl) (fun _ _ _ h => h) (Or.inl ⟨by kernel_rfl, ?_⟩) bX ?_
              rotate_left
              · intro w' hSw; have s1 := cellT cx2 hSw; have s2 := cellT cy2 hSw; have s3 := cellT cx3 hSw; have s4 := cellT cy3 hSw; have s5 := cellT gxi hSw; have s6 := cellT gyi hSw; have s7 := cellT gxg hSw; have s8 := cellT gyg hSw; go_simp; try with_reducible rfl
              try simp only [Act.put, List.setIfInBounds_toArray, List.set_cons_zero, List.set_cons_succ]
              refine takeH 107 (i := 11) (v := ?_) rfl rfl (by kernel_rfl) (by kernel_rfl) (by kernel_rfl) (fun _ _ _ h => h) (Or.inl ⟨by kernel_rfl, ?_⟩) bX ?_
              rotate_left
              · intro w' hSw; have s1 := cellT cx2 hSw; have s2 := cellT cy2 hSw; have s3 := cellT cx3 hSw; have s4 := cellT cy3 hSw; have s5 := cellT gxi hSw; have s6 := cellT gyi hSw; have s7 := cellT gxg hSw; have s8 := cellT gyg hSw; go_simp; try with_reducible rfl
              try simp only [Act.put, List.setIfInBounds_toArray, List.set_cons_zero, List.set_cons_succ]
              refine takeH 108 (i := 12) (v := ?_) rfl rfl (by kernel_rfl) (by kernel_rfl) (by kernel_rfl) (fun _ _ _ h => h) (Or.inl ⟨by kernel_rfl, ?_⟩) bX ?_
              rotate_left
              · intro w' hSw; have s1 := cellT cx2 hSw; have s2 := cellT cy2 hSw; have s3 := cellT cx3 hSw; have s4 := cellT cy3 hSw; have s5 := cellT gxi hSw; have s6 := cellT gyi hSw; have s7 := cellT gxg hSw; have s8 := cellT gyg hSw; go_simp; try with_reducible rfl
              try simp only [Act.put, List.setIfInBounds_toArray, List.set_cons_zero, List.set_cons_succ]
              refine takeH 109 (i := 13) (v := ?_) rfl rfl (by kernel_rfl) (by kernel_rfl) (by kernel_rfl) (fun _ _ _ h => h) (Or.inl ⟨by kernel_rfl, ?_⟩) bX ?_
              rotate_left
              · intro w' hSw; have s1 := cellT cx2 hSw; have s2 := cellT cy2 hSw; have s3 := cellT cx3 hSw; have s4 := cellT cy3 hSw; have s5 := cellT gxi hSw; have s6 := cellT gyi hSw; have s7 := cellT gxg hSw; have s8 := cellT gyg hSw; go_simp; try with_reducible rfl
              try simp only [Act.put, List.setIfInBounds_toArray, List.set_cons_zero, List.set_cons_succ]
              refine takeH 110 (i := 14) (v := ?_) rfl rfl (by kernel_rfl) (by kernel_rfl) (by kernel_rfl) (fun _ _ _ h => h) (Or.inl ⟨by kernel_rfl, ?_⟩) bX ?_
              rotate_left
              · intro w' hSw; have s1 := cellT cx2 hSw; have s2 := cellT cy2 hSw; have s3 := cellT cx3 hSw; have s4 := cellT cy3 hSw; have s5 := cellT gxi hSw; have s6 := cellT gyi hSw; have s7 := cellT gxg hSw; have s8 := cellT gyg hSw; go_simp; try with_reducible rfl
              try simp only [Act.put, List.setIfInBounds_toArray, List.set_cons_zero, List.set_cons_succ]
              refine takeH 111 (i := 15) (v := ?_) rfl rfl (by kernel_rfl) (by kernel_rfl) (by kernel_rfl) (fun _ _ _ h => h) (Or.inl ⟨by kernel_rfl, ?_⟩) bX ?_
              rotate_left
              · intro w' hSw; have s1 := cellT cx2 hSw; have s2 := cellT cy2 hSw; have s3 := cellT cx3 hSw; have s4 := cellT cy3 hSw; have s5 := cellT gxi hSw; have s6 := cellT gyi hSw; have s7 := cellT gxg hSw; have s8 := cellT gyg hSw; go_simp; try with_reducible rfl
              try simp only [Act.put, List.setIfInBounds_toArray, List.set_cons_zero, List.set_cons_succ]
              refine takeH 112 (i := 16) (v := ?_) rfl rfl (by kernel_rfl) (by kernel_rfl) (by kernel_rfl) (fun _ _ _ h => h) (Or.inl ⟨by kernel_rfl, ?_⟩) bX ?_
              rotate_left
              · intro w' hSw; have s1 := cellT cx2 hSw; have s2 := cellT cy2 hSw; have s3 := cellT cx3 hSw; have s4 := cellT cy3 hSw; have s5 := cellT gxi hSw; have s6 := cellT gyi hSw; have s7 := cellT gxg hSw; have s8 := cellT gyg hSw; go_simp; try with_reducible rfl
              try simp only [Act.put, List.setIfInBounds_toArray, List.set_cons_zero, List.set_cons_succ]
              refine takeH 113 (i := 17) (v := ?_) rfl rfl (by kernel_rfl) (by kernel_rfl) (by kernel_rfl) (fun _ _ _ h => h) (Or.inl ⟨by kernel_rfl, ?_⟩) bX ?_
              rotate_left
              · intro w' hSw; have s1 := cellT cx2 hSw; have s2 := cellT cy2 hSw; have s3 := cellT cx3 hSw; have s4 := cellT cy3 hSw; have s5 := cellT gxi hSw; have s6 := cellT gyi hSw; have s7 := cellT gxg hSw; have s8 := cellT gyg hSw; go_simp; try with_reducible rfl
              try simp only [Act.put, List.setIfInBounds_toArray, List.set_cons_zero, List.set_cons_succ]
              refine takeH 114 (i := 18) (v := ?_) rfl rfl (by kernel_rfl) (by kernel_rfl) (by kernel_rfl) (fun _ _ _ h => h) (Or.inl ⟨by kernel_rfl, ?_⟩) bX ?_
              rotate_left
              · intro w' hSw; have s1 := cellT cx2 hSw; have s2 := cellT cy2 hSw; have s3 := cellT cx3 hSw; have s4 := cellT cy3 hSw; have s5 := cellT gxi hSw; have s6 := cellT gyi hSw; have s7 := cellT gxg hSw; have s8 := cellT gyg hSw; go_simp; try with_reducible rfl
              try simp only [Act.put, List.setIfInBounds_toArray, List.set_cons_zero, List.set_cons_succ]
              refine takeH 115 (i := 19) (v := ?_) rfl rfl (by kernel_rfl) (by kernel_rfl) (by kernel_rfl) (fun _ _ _ h => h) (Or.inl ⟨by kernel_rfl, ?_⟩) bX ?_
              rotate_left
              · intro w' hSw; have s1 := cellT cx2 hSw; have s2 := cellT cy2 hSw; have s3 := cellT cx3 hSw; have s4 := cellT cy3 hSw; have s5 := cellT gxi hSw; have s6 := cellT gyi hSw; have s7 := cellT gxg hSw; have s8 := cellT gyg hSw; go_simp; try with_reducible rfl
              try simp only [Act.put, List.setIfInBounds_toArray, List.set_cons_zero, List.set_cons_succ]
              refine takeH 116 (i := 20) (v := ?_) rfl rfl (by kernel_rfl) (by kernel_rfl) (by kernel_rfl) (fun _ _ _ h => h) (Or.inl ⟨by kernel_rfl, ?_⟩) bX ?_
              rotate_left
              · intro w' hSw; have s1 := cellT cx2 hSw; have s2 := cellT cy2 hSw; have s3 := cellT cx3 hSw; have s4 := cellT cy3 hSw; have s5 := cellT gxi hSw; have s6 := cellT gyi hSw; have s7 := cellT gxg hSw; have s8 := cellT gyg hSw; go_simp; try with_reducible rfl
              try simp only [Act.put, List.setIfInBounds_toArray, List.set_cons_zero, List.set_cons_succ]
              refine takeH 117 (i := 21) (v := ?_) rfl rfl (by kernel_rfl) (by kernel_rfl) (by kernel_rfl) (fun _ _ _ h => h) (Or.inl ⟨by kernel_rfl, ?_⟩) bX ?_
              rotate_left
              · intro w' hSw; have s1 := cellT cx2 hSw; have s2 := cellT cy2 hSw; have s3 := cellT cx3 hSw; have s4 := cellT cy3 hSw; have s5 := cellT gxi hSw; have s6 := cellT gyi hSw; have s7 := cellT gxg hSw; have s8 := cellT gyg hSw; go_simp; try with_reducible rfl
              try simp only [Act.put, List.setIfInBounds_toArray, List.set_cons_zero, List.set_cons_succ]
              refine wpAnyH_ready (rs := [22]) (by kernel_rfl) (by simp) ?_
              refine consH _ rfl (hopCd 118 rfl (by kernel_rfl) rfl (by kernel_rfl) (Calls.mono (alikeT_any x1 y1 n x3 y3 us _ (HXG.out.1.later (Below.refl _ wr).drew) (HXG.out.2.1.later (Below.refl _ wr).drew) HXG.out.2.2) ?_)) AllReadyH.nil
              rintro e w7 ⟨rfl, b7⟩
              have bX7 : Below wr.heap.size wr w7 := (Below.refl _ wr).drew.trans b7
              refine ⟨_, rfl, bX7, ?_⟩
              try simp only [Act.put, List.setIfInBounds_toArray, List.set_cons_zero, List.set_cons_succ]
              refine takeH 119 (i := 23) (v := .bool false) rfl rfl (by kernel_rfl) (by kernel_rfl) (by kernel_rfl) (fun _ _ _ h => h) (Or.inl ⟨by kernel_rfl, fun w' _ => by kernel_rfl⟩) bX7 ?_
              try simp only [Act.put, List.setIfInBounds_toArray, List.set_cons_zero, List.set_cons_succ]
              refine takeH 120 (i := 24) (v := .bool false) rfl rfl (by kernel_rfl) (by kernel_rfl) (by kernel_rfl) (fun _ _ _ h => h) (Or.inl ⟨by kernel_rfl, fun w' _ => by kernel_rfl⟩) bX7 ?_
              try simp only [Act.put, List.setIfInBounds_toArray, List.set_cons_zero, List.set_cons_succ]
              refine wpAnyH_done (by kernel_rfl) ?_ _
              refine NoPanic.normal ?_
              try simp only [Act.put, List.setIfInBounds_toArray, List.set_cons_zero, List.set_cons_succ]
              have HB2 : Hid (Below W5.heap.size W5 w7) := to_call HB.out bX7
              clear bX bX7 b7 cx2 cy2 cx3 cy3 gxi gyi gxg gyg HXG hdd HB
              go_wp2_with fail
              go_roundg q
              case measure => omega
              case rel => exact ⟨i + 1, by go_num, by have := HIG2.out; omega, HB2⟩
            · have he1 : decide ((i : Int) < (low : Int)) = false := decide_eq_false (by omega)
              have he2 : decide (i < low) = false := decide_eq_false (by omega)
              clear hi
              have cx4 := cellT HC.out.2.2.1 HB.out
              go_wp2_with fail
              clear cx2 cx4
              obtain ⟨W6, hW6⟩ : ∃ W6, wr = W6 := ⟨_, rfl⟩
              rw [hW6] at HB ⊢
              clear hW6 wr
              go_loopg [11] n (fun g v11 wx => ∃ i : Nat, v11 = .int .i64 i ∧ i + g = n ∧ Hid (Below W5.heap.size W5 wx))
              case atStart => exact ⟨0, rfl, by omega, HB⟩
              case round =>
                clear HB
                obtain ⟨i, rfl, hi, HB⟩ := hrel
                have cx4 := cellT HC.out.2.2.1 HB.out
                by_cases h2 : i < n
                · have hf1 : decide ((i : Int) < (n : Int)) = true := decide_eq_true (by omega)
                  obtain ⟨q, rfl⟩ : ∃ q, gk = q + 1 := ⟨gk - 1, by omega⟩
                  have HIG3 : Hid (i + (q + 1) = n) := hi
                  have h2' : (i : Int) < (n : Int) := by omega
                  clear hi
                  have cy4 := cellT HC.out.2.2.2.2.2 HB.out
                  have zx := HXX.out.2.1.later HB.out
                  have zy := HXX.out.2.2.2.1.later HB.out
                  rcases zx.r.cells with h0 | ⟨xrb, xro, exr, hxr⟩
                  · dsimp only at h0; omega
                  rcases zy.r.cells with h0 | ⟨yrb, yro, eyr, hyr⟩
                  · dsimp only at h0; omega
                  dsimp only at exr eyr
                  have gxr := hxr i h2
                  have gyr := hyr i h2
                  dsimp only at gxr gyr
                  have hcmp := ltN_ord (HF.out.1.r i) (HF.out.2.2.2 i h2).1
                  dsimp only at hcmp
                  rw [decide_eq_false (by have h9 := (HF.out.2.2.2 i h2).2; omega)] at hcmp
                  obtain ⟨xv, exv⟩ : ∃ t, xrs[i]?.getD 0 = t := ⟨_, rfl⟩
                  obtain ⟨yv, eyv⟩ : ∃ t, yrs[i]?.getD 0 = t := ⟨_, rfl⟩
                  rw [exv] at gxr hcmp
                  rw [eyv] at gyr hcmp
                  subst exr eyr
                  clear hxr hyr zx zy exv eyv
                  go_upto_region 26 with fail
                  have bX : Below wr.heap.size wr wr.drew := (Below.refl _ _).drew
                  refine wp_region_noPanic ?_
                  refine wp_region_held_drew (S := (fun V => Below wr.heap.size wr V)) (by kernel_rfl) bX (fun _ => ?_)
                  refine takeH 128 (i := 0) (v := ?_) rfl rfl (by kernel_rfl) (by kernel_rfl) (by kernel_rfl) (fun _ _ _ h => h) (Or.inl ⟨by kernel_rfl, ?_⟩) bX ?_
                  rotate_left
                  · intro w' hSw; have s1 := cellT cx4 hSw; have s2 := cellT cy4 hSw; have s3 := cellT gxr hSw; have s4 := cellT gyr hSw; go_simp; try with_reducible rfl
                  try simp only [Act.put, List.setIfInBounds_toArray, List.set_cons_zero, List.set_cons_succ]
                  refine takeH 129 (i := 1) (v := ?_) rfl rfl (by kernel_rfl) (by kernel_rfl) (by kernel_rfl) (fun _ _ _ h => h) (Or.inl ⟨by kernel_rfl, ?_⟩) bX ?_
                  rotate_left
                  · intro w' hSw; have s1 := cellT cx4 hSw; have s2 := cellT cy4 hSw; have s3 := cellT gxr hSw; have s4 := cellT gyr hSw; go_simp; try with_reducible rfl
                  try simp only [Act.put, List.setIfInBounds_toArray, List.set_cons_zero, List.set_cons_succ]
                  refine takeH 130 (i := 2) (v := ?_) rfl rfl (by kernel_rfl) (by kernel_rfl) (by kernel_rfl) (fun _ _ _ h => h) (Or.inl ⟨by kernel_rfl, ?_⟩) bX ?_
                  rotate_left
                  · intro w' hSw; have s1 := cellT cx4 hSw; have s2 := cellT cy4 hSw; have s3 := cellT gxr hSw; have s4 := cellT gyr hSw; go_simp; try with_reducible rfl
                  try simp only [Act.put, List.setIfInBounds_toArray, List.set_cons_zero, List.set_cons_succ]
                  refine takeH 131 (i := 3) (v := ?_) rfl rfl (by kernel_rfl) (by kernel_rfl) (by kernel_rfl) (fun _ _ _ h => h) (Or.inl ⟨by kernel_rfl, ?_⟩) bX ?_
                  rotate_left
                  · intro w' hSw; have s1 := cellT cx4 hSw; have s2 := cellT cy4 hSw; have s3 := cellT gxr hSw; have s4 := cellT gyr hSw; go_simp; try with_reducible rfl
                  try simp only [Act.put, List.setIfInBounds_toArray, List.set_cons_zero, List.set_cons_succ]
                  refine takeH 132 (i := 4) (v := ?_) rfl rfl (by kernel_rfl) (by kernel_rfl) (by kernel_rfl) (fun _ _ _ h => h) (Or.inl ⟨by kernel_rfl, ?_⟩) bX ?_
                  rotate_left
                  · intro w' hSw; have s1 := cellT cx4 hSw; have s2 := cellT cy4 hSw; have s3 := cellT gxr hSw; have s4 := cellT gyr hSw; go_simp; try with_reducible rfl
                  try simp only [Act.put, List.setIfInBounds_toArray, List.set_cons_zero, List.set_cons_succ]
                  refine takeH 133 (i := 5) (v := ?_) rfl rfl (by kernel_rfl) (by kernel_rfl) (by kernel_rfl) (fun _ _ _ h => h) (Or.inl ⟨by kernel_rfl, ?_⟩) bX ?_
                  rotate_left
                  · intro w' hSw; have s1 := cellT cx4 hSw; have s2 := cellT cy4 hSw; have s3 := cellT gxr hSw; have s4 := cellT gyr hSw; go_simp; try with_reducible rfl
                  try simp only [Act.put, List.setIfInBounds_toArray, List.set_cons_zero, List.set_cons_succ]
                  refine takeH 134 (i := 6) (v := ?_) rfl rfl (by kernel_rfl) (by kernel_rfl) (by kernel_rfl) (fun _ _ _ h => h) (Or.inl ⟨by kernel_rfl, ?_⟩) bX ?_
                  rotate_left
                  · intro w' hSw; have s1 := cellT cx4 hSw; have s2 := cellT cy4 hSw; have s3 := cellT gxr hSw; have s4 := cellT gyr hSw; go_simp; try with_reducible rfl
                  try simp only [Act.put, List.setIfInBounds_toArray, List.set_cons_zero, List.set_cons_succ]
                  refine takeH 135 (i := 7) (v := ?_) rfl rfl (by kernel_rfl) (by kernel_rfl) (by kernel_rfl) (fun _ _ _ h => h) (Or.inl ⟨by kernel_rfl, ?_⟩) bX ?_
                  rotate_left
                  · intro w' hSw; have s1 := cellT cx4 hSw; have s2 := cellT cy4 hSw; have s3 := cellT gxr hSw; have s4 := cellT gyr hSw; go_simp; try with_reducible rfl
                  try simp only [Act.put, List.setIfInBounds_toArray, List.set_cons_zero, List.set_cons_succ]
                  refine takeH 136 (i := 8) (v := ?_) rfl rfl (by kernel_rfl) (by kernel_rfl) (by kernel_rfl) (fun _ _ _ h => h) (Or.inl ⟨by kernel_rfl, ?_⟩) bX ?_
                  rotate_left
                  · intro w' hSw; have s1 := cellT cx4 hSw; have s2 := cellT cy4 hSw; have s3 := cellT gxr hSw; have s4 := cellT gyr hSw; go_simp; try with_reducible rfl
                  try simp only [Act.put, List.setIfInBounds_toArray, List.set_cons_zero, List.set_cons_succ]
                  refine takeH 137 (i := 9) (v := ?_) rfl rfl (by kernel_rfl) (by kernel_rfl) (by kernel_rfl) (fun _ _ _ h => h) (Or.inl ⟨by kernel_rfl, ?_⟩) bX ?_
                  rotate_left
                  · intro w' hSw; have s1 := cellT cx4 hSw; have s2 := cellT cy4 hSw; have s3 := cellT gxr hSw; have s4 := cellT gyr hSw; go_simp; try with_reducible rfl
                  try simp only [Act.put, List.setIfInBounds_toArray, List.set_cons_zero, List.set_cons_succ]
                  refine takeH 138 (i := 10) (v := ?_) rfl rfl (by kernel_rfl) (by kernel_rfl) (by kernel_rfl) (fun _ _ _ h => h) (Or.inl ⟨by kernel_rfl, ?_⟩) bX ?_
                  rotate_left
                  · intro w' hSw; have s1 := cellT cx4 hSw; have s2 := cellT cy4 hSw; have s3 := cellT gxr hSw; have s4 := cellT gyr hSw; go_simp; try with_reducible rfl
                  try simp only [Act.put, List.setIfInBounds_toArray, List.set_cons_zero, List.set_cons_succ]
                  refine wpAnyH_done (by kernel_rfl) ?_ _
                  refine NoPanic.normal ?_
                  try simp only [Act.put, List.setIfInBounds_toArray, List.set_cons_zero, List.set_cons_succ]
                  have HB2 : Hid (Below W5.heap.size W5 wr.drew) := HB.out.drew
                  clear bX cx4 cy4 gxr gyr hcmp HB
                  go_wp2_with fail
                  go_roundg q
                  case measure => omega
                  case rel => exact ⟨i + 1, by go_num, by have := HIG3.out; omega, HB2⟩
                · have hf1 : decide ((i : Int) < (n : Int)) = false := decide_eq_false (by omega)
                  have hf2 : decide (i < n) = false := decide_eq_false (by omega)
                  clear hi
                  go_wp2_with fail
                  go_ret
                  exact ⟨rfl, to_call HXX.out.2.2.2.2 HB.out⟩
        · have hd1 : decide ((k : Int) < (l : Int)) = false := decide_eq_false (by omega)
          have hd2 : decide (k < l) = false := decide_eq_false (by omega)
          clear hkl
          go_wp2_with (first | (refine wpList_load_row (by rfl) 26 _ (by rfl) w.heap.size _ (by rfl) HI.out.zb _ Tryz.underlying26 rfl 6 Tryz.infoZ (by rfl) ?_))
          refine Calls.mono (reduce_any 1166 rfl z _ (HZ.out _ HI.out.bel) HDD.out (low : Int) (by omega) (by have := HI.out.st.le; have := HGD.out.2.2.dg; have := HDD.out; omega)) ?_
          rintro e w4 ⟨y, rfl, hzy, -, hty, hry, b4⟩
          have A4 : Below w4.heap.size w4 (w4.alloc (.cells #[.int .i64 0, .slice none 0 0, .slice none 0 0, .slice none 0 0, .slice none 0 0, .bool false] 26)) := (Below.refl _ w4).alloc (Nat.le_refl _) _
          go_upto_region 16 with (first
            | (refine wpList_store_row (by rfl) 26 _ _ (by rfl) w4 w4.heap.size w4.heap.size (zRow y) _ (by rfl) (by rfl) (heap_alloc_new w4 _) A4 (Nat.le_refl _) 6 Tryz.infoZ rfl rfl (oneR y) ?_; intro W5 e5 b5 s5 o5))
          have c5 : Below wr.heap.size wr W5 := to_call b4 b5
          have zy5 : ZR W5 y := ZR.storeZ (x := (⟨0, none, 0, 0, none, 0, 0, none, 0, 0, none, 0, 0, false, [], [], fun _ => (none, 0, 0), [], []⟩ : ZD)) (hzy.later A4) (hty.later A4) (heap_alloc_new w4 _) o5
          have HON : Hid _ := HI.out.st.once HGD.out.2.2 HGD.out.1 HGD.out.2.1 HI.out.wf (HZ.out _ HI.out.bel) HI.out.xr zy5 hry
          have HXX : Hid (W5.heap[B]? = some (.cells (zRow x) 26) ∧ ZR W5 x ∧ W5.heap[w4.heap.size]? = some (.cells (zRow y) 26) ∧ ZR W5 y ∧ Below w.heap.size w W5) := ⟨kept c5 HI.out.xb, HI.out.xr.later c5, e5, zy5, to_call HI.out.bel c5⟩
          have HXS : Hid (x.dn = low ∧ x.gn = low ∧ x.rn = z.rn ∧ FnZ x ∧ (∀ i, i < low → (x.gs[i]?.getD []).length = z.rn)) := ⟨HI.out.st.dn, HI.out.st.gn, HI.out.st.rn, HI.out.wf.fin, fun i hi => by rw [HI.out.wf.gl i (by rw [HI.out.st.dn]; exact hi), HI.out.st.rn]⟩
          obtain ⟨n, hn⟩ : ∃ n, z.rn = n := ⟨_, rfl⟩
          obtain ⟨D, hD⟩ : ∃ D, w4.heap.size = D := ⟨_, rfl⟩
          rw [hn] at HXS
          rw [hD] at HXX ⊢
          clear hzy hty hry b4 A4 e5 b5 s5 o5 c5 zy5 HI hn hD HZ HS HSB HSL HGD HDG HM
          obtain ⟨xN, xo, xcn, xcc, xi, xdn, xdc, xg, xgn, xgc, xr, xrn, xrc, xb, xcs, xids, xgv, xgs, xrs⟩ := x
          obtain ⟨yN, yo, ycn, ycc, yi, ydn, ydc, yg, ygn, ygc, yr, yrn, yrc, yb, ycs, yids, ygv, ygs, yrs⟩ := y
          dsimp only [zRow] at HXX HXS HON ⊢
          obtain ⟨h1, h2, h3, h4, h5⟩ := HXS.out
          obtain ⟨k1, k2, k3, k4, k5, k6, k7⟩ := HON.out
          replace h1 := h1.symm
          replace h2 := h2.symm
          replace h3 := h3.symm
          subst h1 h2 h3
          replace k3 := k3.symm
          replace k4 := k4.symm
          replace k5 := k5.symm
          subst k1 k2 k3 k4 k5
          have HF : Hid (FnZ (⟨xN, xo, xcn, xcc, xi, low, xdc, xg, low, xgc, xr, n, xrc, xb, xcs, yids, xgv, xgs, xrs⟩ : ZD) ∧ (∀ i, i < low → (xgs[i]?.getD []).length = n) ∧ (∀ i, i < low → ygs[i]?.getD [] = (xgs[i]?.getD []).map plainM) ∧ (∀ j, j < n → Fin (yrs[j]?.getD 0) ∧ srung (yrs[j]?.getD 0) ≤ srung (xrs[j]?.getD 0))) := ⟨h4, h5, k6, k7⟩
          clear h4 h5 k6 k7 HXS HON
          have cx2 : W5.cell? ⟨B, 2, none⟩ = some (.slice xi low xdc) := cellAtJ HXX.out.1 2 _ rfl
          have cx3 : W5.cell? ⟨B, 3, none⟩ = some (.slice xg low xgc) := cellAtJ HXX.out.1 3 _ rfl
          have cx4 : W5.cell? ⟨B, 4, none⟩ = some (.slice xr n xrc) := cellAtJ HXX.out.1 4 _ rfl
          have cy2 : W5.cell? ⟨D, 2, none⟩ = some (.slice yi low ydc) := cellAtJ HXX.out.2.2.1 2 _ rfl
          have cy3 : W5.cell? ⟨D, 3, none⟩ = some (.slice yg low ygc) := cellAtJ HXX.out.2.2.1 3 _ rfl
          have cy4 : W5.cell? ⟨D, 4, none⟩ = some (.slice yr n yrc) := cellAtJ HXX.out.2.2.1 4 _ rfl
          have cy5 : W5.cell? ⟨D, 5, none⟩ = some (.bool false) := cellAtJ HXX.out.2.2.1 5 _ rfl
          have HC : Hid (W5.cell? ⟨B, 2, none⟩ = some (.slice xi low xdc) ∧ W5.cell? ⟨B, 3, none⟩ = some (.slice xg low xgc) ∧ W5.cell? ⟨B, 4, none⟩ = some (.slice xr n xrc) ∧ W5.cell? ⟨D, 2, none⟩ = some (.slice yi low ydc) ∧ W5.cell? ⟨D, 3, none⟩ = some (.slice yg low ygc) ∧ W5.cell? ⟨D, 4, none⟩ = some (.slice yr n yrc)) := ⟨cx2, cx3, cx4, cy2, cy3, cy4⟩
          have hz1 : ((low : Int) != (low : Int)) = false := by simp
          have hz2 : ((n : Int) != (n : Int)) = false := by simp
          have hmx2 : low ≤ 9223372036854775807 := Nat.le_trans HXX.out.2.1.i.max maxLen_le
          have hmx3 : n ≤ 9223372036854775807 := Nat.le_trans HXX.out.2.1.r.max maxLen_le
          go_wp2_with fail
          clear cx2 cx3 cx4 cy2 cy3 cy4 cy5 hz1 hz2
          go_loopg [10] low (fun g v10 wx => ∃ i : Nat, v10 = .int .i64 i ∧ i + g = low ∧ Hid (Below W5.heap.size W5 wx))
          case atStart => exact ⟨0, rfl, by omega, Below.refl _ _⟩
          case round =>
            obtain ⟨i, rfl, hi, HB⟩ := hrel
            have cx2 := cellT HC.out.1 HB.out
            by_cases h1 : i < low
            · have he1 : decide ((i : Int) < (low : Int)) = true := decide_eq_true (by omega)
              obtain ⟨q, rfl⟩ : ∃ q, gk = q + 1 := ⟨gk - 1, by omega⟩
              have HIG2 : Hid (i + (q + 1) = low) := hi
              have h1' : (i : Int) < (low : Int) := by omega
              clear hi
              have cy2 := cellT HC.out.2.2.2.1 HB.out
              have cx3 := cellT HC.out.2.1 HB.out
              have cy3 := cellT HC.out.2.2.2.2.1 HB.out
              have zx := HXX.out.2.1.later HB.out
              have zy := HXX.out.2.2.2.1.later HB.out
              rcases zx.i.cells with h0 | ⟨xib, xio, exi, hxi⟩
              · dsimp only at h0; omega
              rcases zy.i.cells with h0 | ⟨yib, yio, eyi, hyi⟩
              · dsimp only at h0; omega
              rcases zx.g.cells with h0 | ⟨xgb, xgo, exg, hxg⟩
              · dsimp only at h0; omega
              rcases zy.g.cells with h0 | ⟨ygb, ygo, eyg, hyg⟩
              · dsimp only at h0; omega
              dsimp only at exi eyi exg eyg
              have gxi := hxi i h1
              have gyi := hyi i h1
              have gxg := hxg i h1
              have gyg := hyg i h1
              dsimp only at gxi gyi gxg gyg
              have rx := zx.g.each i h1
              have ry := zy.g.each i h1
              dsimp only at rx ry
              rw [HF.out.2.2.1 i h1] at ry
              have lx := rx.length
              have ly := ry.length
              rw [HF.out.2.1 i h1] at lx
              rw [List.length_map, HF.out.2.1 i h1] at ly
              have hfx := HF.out.1.g i
              dsimp only at hfx
              obtain ⟨us, hus⟩ : ∃ us, xgs[i]?.getD [] = us := ⟨_, rfl⟩
              rw [hus] at rx ry hfx
              obtain ⟨x1, ex1⟩ : ∃ t, (xgv i).1 = t := ⟨_, rfl⟩
              obtain ⟨x3, ex3⟩ : ∃ t, (xgv i).2.2 = t := ⟨_, rfl⟩
              obtain ⟨y1, ey1⟩ : ∃ t, (ygv i).1 = t := ⟨_, rfl⟩
              obtain ⟨y3, ey3⟩ : ∃ t, (ygv i).2.2 = t := ⟨_, rfl⟩
              rw [ex1, ex3, ← lx] at rx gxg
              rw [ey1, ey3, ← ly] at ry gyg
              have HXG : Hid (RdF wr x1 n x3 us ∧ RdF wr y1 n y3 (us.map plainM) ∧ ∀ j : Nat, Fin (us[j]?.getD 0)) := ⟨rx, ry, hfx⟩
              obtain ⟨di, edi⟩ : ∃ t, yids[i]?.getD 0 = t := ⟨_, rfl⟩
              rw [edi] at gxi gyi
              have hdd : (di != di) = false := by simp
              subst exi eyi exg eyg
              clear hxi hyi hxg hyg zx zy rx ry lx ly hfx hus ex1 ex3 ey1 ey3 edi
              go_upto_region 21 with fail
              have bX : Below wr.heap.size wr wr.drew := (Below.refl _ _).drew
              refine wp_region_noPanic ?_
              refine wp_region_held_drew (S := (fun V => Below wr.heap.size wr V)) (by kernel_rfl) bX (fun _ => ?_)
              refine takeH 96 (i := 0) (v := ?_) rfl rfl (by kernel_rfl) (by kernel_rfl) (by kernel_rfl) (fun _ _ _ h => h) (Or.inl ⟨by kernel_rfl, ?_⟩) bX ?_
              rotate_left
              · intro w' hSw; have s1 := cellT cx2 hSw; have s2 := cellT cy2 hSw; have s3 := cellT cx3 hSw; have s4 := cellT cy3 hSw; have s5 := cellT gxi hSw; have s6 := cellT gyi hSw; have s7 := cellT gxg hSw; have s8 := cellT gyg hSw; go_simp; try with_reducible rfl
              try simp only [Act.put, List.setIfInBounds_toArray, List.set_cons_zero, List.set_cons_succ]
              refine takeH 97 (i := 1) (v := ?_) rfl rfl (by kernel_rfl) (by kernel_rfl) (by kernel_rfl) (fun _ _ _ h => h) (Or.inl ⟨by kernel_rfl, ?_⟩) bX ?_
              rotate_left
              · intro w' hSw; have s1 := cellT cx2 hSw; have s2 := cellT cy2 hSw; have s3 := cellT cx3 hSw; have s4 := cellT cy3 hSw; have s5 := cellT gxi hSw; have s6 := cellT gyi hSw; have s7 := cellT gxg hSw; have s8 := cellT gyg hSw; go_simp; try with_reducible rfl
              try simp only [Act.put, List.setIfInBounds_toArray, List.set_cons_zero, List.set_cons_succ]
              refine takeH 98 (i := 2) (v := ?_) rfl rfl (by kernel_rfl) (by kernel_rfl) (by kernel_rfl) (fun _ _ _ h => h) (Or.inl ⟨by kernel_rfl, ?_⟩) bX ?_
              rotate_left
              · intro w' hSw; have s1 := cellT cx2 hSw; have s2 := cellT cy2 hSw; have s3 := cellT cx3 hSw; have s4 := cellT cy3 hSw; have s5 := cellT gxi hSw; have s6 := cellT gyi hSw; have s7 := cellT gxg hSw; have s8 := cellT gyg hSw; go_simp; try with_reducible rfl
              try simp only [Act.put, List.setIfInBounds_toArray, List.set_cons_zero, List.set_cons_succ]
              refine takeH 99 (i := 3) (v := ?_) rfl rfl (by kernel_rfl) (by kernel_rfl) (by kernel_rfl) (fun _ _ _ h => h) (Or.inl ⟨by kernel_rfl, ?_⟩) bX ?_
              rotate_left
              · intro w' hSw; have s1 := cellT cx2 hSw; have s2 := cellT cy2 hSw; have s3 := cellT cx3 hSw; have s4 := cellT cy3 hSw; have s5 := cellT gxi hSw; have s6 := cellT gyi hSw; have s7 := cellT gxg hSw; have s8 := cellT gyg hSw; go_simp; try with_reducible rfl
              try simp only [Act.put, List.setIfInBounds_toArray, List.set_cons_zero, List.set_cons_succ]
              refine takeH 100 (i := 4) (v := ?_) rfl rfl (by kernel_rfl) (by kernel_rfl) (by kernel_rfl) (fun _ _ _ h => h) (Or.inl ⟨by kernel_rfl, ?_⟩) bX ?_
              rotate_left
              · intro w' hSw; have s1 := cellT cx2 hSw; have s2 := cellT cy2 hSw; have s3 := cellT cx3 hSw; have s4 := cellT cy3 hSw; have s5 := cellT gxi hSw; have s6 := cellT gyi hSw; have s7 := cellT gxg hSw; have s8 := cellT gyg hSw; go_simp; try with_reducible rfl
              try simp only [Act.put, List.setIfInBounds_toArray, List.set_cons_zero, List.set_cons_succ]
              refine takeH 101 (i := 5) (v := ?_) rfl rfl (by kernel_rfl) (by kernel_rfl) (by kernel_rfl) (fun _ _ _ h => h) (Or.inl ⟨by kernel_rfl, ?_⟩) bX ?_
              rotate_left
              · intro w' hSw; have s1 := cellT cx2 hSw; have s2 := cellT cy2 hSw; have s3 := cellT cx3 hSw; have s4 := cellT cy3 hSw; have s5 := cellT gxi hSw; have s6 := cellT gyi hSw; have s7 := cellT gxg hSw; have s8 := cellT gyg hSw; go_simp; try with_reducible rfl
              try simp only [Act.put, List.setIfInBounds_toArray, List.set_cons_zero, List.set_cons_succ]
              refine takeH 102 (i := 6) (v := ?_) rfl rfl (by kernel_rfl) (by kernel_rfl) (by kernel_rfl) (fun _ _ _ h => h) (Or.inl ⟨by kernel_rfl, ?_⟩) bX ?_
              rotate_left
              · intro w' hSw; have s1 := cellT cx2 hSw; have s2 := cellT cy2 hSw; have s3 := cellT cx3 hSw; have s4 := cellT cy3 hSw; have s5 := cellT gxi hSw; have s6 := cellT gyi hSw; have s7 := cellT gxg hSw; have s8 := cellT gyg hSw; go_simp; try with_reducible rfl
              try simp only [Act.put, List.setIfInBounds_toArray, List.set_cons_zero, List.set_cons_succ]
              refine takeH 103 (i := 7) (v := ?_) rfl rfl (by kernel_rfl) (by kernel_rfl) (by kernel_rfl) (fun _ _ _ h => h) (Or.inl ⟨by kernel_rfl, ?_⟩) bX ?_
              rotate_left
              · intro w' hSw; have s1 := cellT cx2 hSw; have s2 := cellT cy2 hSw; have s3 := cellT cx3 hSw; have s4 := cellT cy3 hSw; have s5 := cellT gxi hSw; have s6 := cellT gyi hSw; have s7 := cellT gxg hSw; have s8 := cellT gyg hSw; go_simp; try with_reducible rfl
              try simp only [Act.put, List.setIfInBounds_toArray, List.set_cons_zero, List.set_cons_succ]
              refine takeH 104 (i := 8) (v := ?_) rfl rfl (by kernel_rfl) (by kernel_rfl) (by kernel_rfl) (fun _ _ _ h => h) (Or.inl ⟨by kernel_rfl, ?_⟩) bX ?_
              rotate_left
              · intro w' hSw; have s1 := cellT cx2 hSw; have s2 := cellT cy2 hSw; have s3 := cellT cx3 hSw; have s4 := cellT cy3 hSw; have s5 := cellT gxi hSw; have s6 := cellT gyi hSw; have s7 := cellT gxg hSw; have s8 := cellT gyg hSw; go_simp; try with_reducible rfl
              try simp only [Act.put, List.setIfInBounds_toArray, List.set_cons_zero, List.set_cons_succ]
              refine takeH 105 (i := 9) (v := ?_) rfl rfl (by kernel_rfl) (by kernel_rfl) (by kernel_rfl) (fun _ _ _ h => h) (Or.inl ⟨by kernel_rfl, ?_⟩) bX ?_
              rotate_left
              · intro w' hSw; have s1 := cellT cx2 hSw; have s2 := cellT cy2 hSw; have s3 := cellT cx3 hSw; have s4 := cellT cy3 hSw; have s5 := cellT gxi hSw; have s6 := cellT gyi hSw; have s7 := cellT gxg hSw; have s8 := cellT gyg hSw; go_simp; try with_reducible rfl
              try simp only [Act.put, List.setIfInBounds_toArray, List.set_cons_zero, List.set_cons_succ]
              refine takeH 106 (i := 10) (v := ?_) rfl rfl (by kernel_rfl) (by kernel_rfl) (by kernel_rfl) (fun _ _ _ h => h) (Or.inl ⟨by kernel_rfl, ?_⟩) bX ?_
              rotate_left
              · intro w' hSw; have s1 := cellT cx2 hSw; have s2 := cellT cy2 hSw; have s3 := cellT cx3 hSw; have s4 := cellT cy3 hSw; have s5 := cellT gxi hSw; have s6 := cellT gyi hSw; have s7 := cellT gxg hSw; have s8 := cellT gyg hSw; go_simp; try with_reducible rfl
              try simp only [Act.put, List.setIfInBounds_toArray, List.set_cons_zero, List.set_cons_succ]
              refine takeH 107 (i := 11) (v := ?_) rfl rfl (by kernel_rfl) (by kernel_rfl) (by kernel_rfl) (fun _ _ _ h => h) (Or.inl ⟨by kernel_rfl, ?_⟩) bX ?_
              rotate_left
              · intro w' hSw; have s1 := cellT cx2 hSw; have s2 := cellT cy2 hSw; have s3 := cellT cx3 hSw; have s4 := cellT cy3 hSw; have s5 := cellT gxi hSw; have s6 := cellT gyi hSw; have s7 := cellT gxg hSw; have s8 := cellT gyg hSw; go_simp; try with_reducible rfl
              try simp only [Act.put, List.setIfInBounds_toArray, List.set_cons_zero, List.set_cons_succ]
              refine takeH 108 (i := 12) (v := ?_) rfl rfl (by kernel_rfl) (by kernel_rfl) (by kernel_rfl) (fun _ _ _ h => h) (Or.inl ⟨by kernel_rfl, ?_⟩) bX ?_
              rotate_left
              · intro w' hSw; have s1 := cellT cx2 hSw; have s2 := cellT cy2 hSw; have s3 := cellT cx3 hSw; have s4 := cellT cy3 hSw; have s5 := cellT gxi hSw; have s6 := cellT gyi hSw; have s7 := cellT gxg hSw; have s8 := cellT gyg hSw; go_simp; try with_reducible rfl
              try simp only [Act.put, List.setIfInBounds_toArray, List.set_cons_zero, List.set_cons_succ]
              refine takeH 109 (i := 13) (v := ?_) rfl rfl (by kernel_rfl) (by kernel_rfl) (by kernel_rfl) (fun _ _ _ h => h) (Or.inl ⟨by kernel_rfl, ?_⟩) bX ?_
              rotate_left
              · intro w' hSw; have s1 := cellT cx2 hSw; have s2 := cellT cy2 hSw; have s3 := cellT cx3 hSw; have s4 := cellT cy3 hSw; have s5 := cellT gxi hSw; have s6 := cellT gyi hSw; have s7 := cellT gxg hSw; have s8 := cellT gyg hSw; go_simp; try with_reducible rfl
              try simp only [Act.put, List.setIfInBounds_toArray, List.set_cons_zero, List.set_cons_succ]
              refine takeH 110 (i := 14) (v := ?_) rfl rfl (by kernel_rfl) (by kernel_rfl) (by kernel_rfl) (fun _ _ _ h => h) (Or.inl ⟨by kernel_rfl, ?_⟩) bX ?_
              rotate_left
              · intro w' hSw; have s1 := cellT cx2 hSw; have s2 := cellT cy2 hSw; have s3 := cellT cx3 hSw; have s4 := cellT cy3 hSw; have s5 := cellT gxi hSw; have s6 := cellT gyi hSw; have s7 := cellT gxg hSw; have s8 := cellT gyg hSw; go_simp; try with_reducible rfl
              try simp only [Act.put, List.setIfInBounds_toArray, List.set_cons_zero, List.set_cons_succ]
              refine takeH 111 (i := 15) (v := ?_) rfl rfl (by kernel_rfl) (by kernel_rfl) (by kernel_rfl) (fun _ _ _ h => h) (Or.inl ⟨by kernel_rfl, ?_⟩) bX ?_
              rotate_left
              · intro w' hSw; have s1 := cellT cx2 hSw; have s2 := cellT cy2 hSw; have s3 := cellT cx3 hSw; have s4 := cellT cy3 hSw; have s5 := cellT gxi hSw; have s6 := cellT gyi hSw; have s7 := cellT gxg hSw; have s8 := cellT gyg hSw; go_simp; try with_reducible rfl
              try simp only [Act.put, List.setIfInBounds_toArray, List.set_cons_zero, List.set_cons_succ]
              refine takeH 112 (i := 16) (v := ?_) rfl rfl (by kernel_rfl) (by kernel_rfl) (by kernel_rfl) (fun _ _ _ h => h) (Or.inl ⟨by kernel_rfl, ?_⟩) bX ?_
              rotate_left
              · intro w' hSw; have s1 := cellT cx2 hSw; have s2 := cellT cy2 hSw; have s3 := cellT cx3 hSw; have s4 := cellT cy3 hSw; have s5 := cellT gxi hSw; have s6 := cellT gyi hSw; have s7 := cellT gxg hSw; have s8 := cellT gyg hSw; go_simp; try with_reducible rfl
              try simp only [Act.put, List.setIfInBounds_toArray, List.set_cons_zero, List.set_cons_succ]
              refine takeH 113 (i := 17) (v := ?_) rfl rfl (by kernel_rfl) (by kernel_rfl) (by kernel_rfl) (fun _ _ _ h => h) (Or.inl ⟨by kernel_rfl, ?_⟩) bX ?_
              rotate_left
              · intro w' hSw; have s1 := cellT cx2 hSw; have s2 := cellT cy2 hSw; have s3 := cellT cx3 hSw; have s4 := cellT cy3 hSw; have s5 := cellT gxi hSw; have s6 := cellT gyi hSw; have s7 := cellT gxg hSw; have s8 := cellT gyg hSw; go_simp; try with_reducible rfl
              try simp only [Act.put, List.setIfInBounds_toArray, List.set_cons_zero, List.set_cons_succ]
              refine takeH 114 (i := 18) (v := ?_) rfl rfl (by kernel_rfl) (by kernel_rfl) (by kernel_rfl) (fun _ _ _ h => h) (Or.inl ⟨by kernel_rfl, ?_⟩) bX ?_
              rotate_left
              · intro w' hSw; have s1 := cellT cx2 hSw; have s2 := cellT cy2 hSw; have s3 := cellT cx3 hSw; have s4 := cellT cy3 hSw; have s5 := cellT gxi hSw; have s6 := cellT gyi hSw; have s7 := cellT gxg hSw; have s8 := cellT gyg hSw; go_simp; try with_reducible rfl
              try simp only [Act.put, List.setIfInBounds_toArray, List.set_cons_zero, List.set_cons_succ]
              refine takeH 115 (i := 19) (v := ?_) rfl rfl (by kernel_rfl) (by kernel_rfl) (by kernel_rfl) (fun _ _ _ h => h) (Or.inl ⟨by kernel_rfl, ?_⟩) bX ?_
              rotate_left
              · intro w' hSw; have s1 := cellT cx2 hSw; have s2 := cellT cy2 hSw; have s3 := cellT cx3 hSw; have s4 := cellT cy3 hSw; have s5 := cellT gxi hSw; have s6 := cellT gyi hSw; have s7 := cellT gxg hSw; have s8 := cellT gyg hSw; go_simp; try with_reducible rfl
              try simp only [Act.put, List.setIfInBounds_toArray, List.set_cons_zero, List.set_cons_succ]
              refine takeH 116 (i := 20) (v := ?_) rfl rfl (by kernel_rfl) (by kernel_rfl) (by kernel_rfl) (fun _ _ _ h => h) (Or.inl ⟨by kernel_rfl, ?_⟩) bX ?_
              rotate_left
              · intro w' hSw; have s1 := cellT cx2 hSw; have s2 := cellT cy2 hSw; have s3 := cellT cx3 hSw; have s4 := cellT cy3 hSw; have s5 := cellT gxi hSw; have s6 := cellT gyi hSw; have s7 := cellT gxg hSw; have s8 := cellT gyg hSw; go_simp; try with_reducible rfl
              try simp only [Act.put, List.setIfInBounds_toArray, List.set_cons_zero, List.set_cons_succ]
              refine takeH 117 (i := 21) (v := ?_) rfl rfl (by kernel_rfl) (by kernel_rfl) (by kernel_rfl) (fun _ _ _ h => h) (Or.inl ⟨by kernel_rfl, ?_⟩) bX ?_
              rotate_left
              · intro w' hSw; have s1 := cellT cx2 hSw; have s2 := cellT cy2 hSw; have s3 := cellT cx3 hSw; have s4 := cellT cy3 hSw; have s5 := cellT gxi hSw; have s6 := cellT gyi hSw; have s7 := cellT gxg hSw; have s8 := cellT gyg hSw; go_simp; try with_reducible rfl
              try simp only [Act.put, List.setIfInBounds_toArray, List.set_cons_zero, List.set_cons_succ]
              refine wpAnyH_ready (rs := [22]) (by kernel_rfl) (by simp) ?_
              refine consH _ rfl (hopCd 118 rfl (by kernel_rfl) rfl (by kernel_rfl) (Calls.mono (alikeT_any x1 y1 n x3 y3 us _ (HXG.out.1.later (Below.refl _ wr).drew) (HXG.out.2.1.later (Below.refl _ wr).drew) HXG.out.2.2) ?_)) AllReadyH.nil
              rintro e w7 ⟨rfl, b7⟩
              have bX7 : Below wr.heap.size wr w7 := (Below.refl _ wr).drew.trans b7
              refine ⟨_, rfl, bX7, ?_⟩
              try simp only [Act.put, List.setIfInBounds_toArray, List.set_cons_zero, List.set_cons_succ]
              refine takeH 119 (i := 23) (v := .bool false) rfl rfl (by kernel_rfl) (by kernel_rfl) (by kernel_rfl) (fun _ _ _ h => h) (Or.inl ⟨by kernel_rfl, fun w' _ => by kernel_rfl⟩) bX7 ?_
              try simp only [Act.put, List.setIfInBounds_toArray, List.set_cons_zero, List.set_cons_succ]
              refine takeH 120 (i := 24) (v := .bool false) rfl rfl (by kernel_rfl) (by kernel_rfl) (by kernel_rfl) (fun _ _ _ h => h) (Or.inl ⟨by kernel_rfl, fun w' _ => by kernel_rfl⟩) bX7 ?_
              try simp only [Act.put, List.setIfInBounds_toArray, List.set_cons_zero, List.set_cons_succ]
              refine wpAnyH_done (by kernel_rfl) ?_ _
              refine NoPanic.normal ?_
              try simp only [Act.put, List.setIfInBounds_toArray, List.set_cons_zero, List.set_cons_succ]
              have HB2 : Hid (Below W5.heap.size W5 w7) := to_call HB.out bX7
              clear bX bX7 b7 cx2 cy2 cx3 cy3 gxi gyi gxg gyg HXG hdd HB
              go_wp2_with fail
              go_roundg q
              case measure => omega
              case rel => exact ⟨i + 1, by go_num, by have := HIG2.out; omega, HB2⟩
            · have he1 : decide ((i : Int) < (low : Int)) = false := decide_eq_false (by omega)
              have he2 : decide (i < low) = false := decide_eq_false (by omega)
              clear hi
              have cx4 := cellT HC.out.2.2.1 HB.out
              go_wp2_with fail
              clear cx2 cx4
              obtain ⟨W6, hW6⟩ : ∃ W6, wr = W6 := ⟨_, rfl⟩
              rw [hW6] at HB ⊢
              clear hW6 wr
              go_loopg [11] n (fun g v11 wx => ∃ i : Nat, v11 = .int .i64 i ∧ i + g = n ∧ Hid (Below W5.heap.size W5 wx))
              case atStart => exact ⟨0, rfl, by omega, HB⟩
              case round =>
                clear HB
                obtain ⟨i, rfl, hi, HB⟩ := hrel
                have cx4 := cellT HC.out.2.2.1 HB.out
                by_cases h2 : i < n
                · have hf1 : decide ((i : Int) < (n : Int)) = true := decide_eq_true (by omega)
                  obtain ⟨q, rfl⟩ : ∃ q, gk = q + 1 := ⟨gk - 1, by omega⟩
                  have HIG3 : Hid (i + (q + 1) = n) := hi
                  have h2' : (i : Int) < (n : Int) := by omega
                  clear hi
                  have cy4 := cellT HC.out.2.2.2.2.2 HB.out
                  have zx := HXX.out.2.1.later HB.out
                  have zy := HXX.out.2.2.2.1.later HB.out
                  rcases zx.r.cells with h0 | ⟨xrb, xro, exr, hxr⟩
                  · dsimp only at h0; omega
                  rcases zy.r.cells with h0 | ⟨yrb, yro, eyr, hyr⟩
                  · dsimp only at h0; omega
                  dsimp only at exr eyr
                  have gxr := hxr i h2
                  have gyr := hyr i h2
                  dsimp only at gxr gyr
                  have hcmp := ltN_ord (HF.out.1.r i) (HF.out.2.2.2 i h2).1
                  dsimp only at hcmp
                  rw [decide_eq_false (by have h9 := (HF.out.2.2.2 i h2).2; omega)] at hcmp
                  obtain ⟨xv, exv⟩ : ∃ t, xrs[i]?.getD 0 = t := ⟨_, rfl⟩
                  obtain ⟨yv, eyv⟩ : ∃ t, yrs[i]?.getD 0 = t := ⟨_, rfl⟩
                  rw [exv] at gxr hcmp
                  rw [eyv] at gyr hcmp
                  subst exr eyr
                  clear hxr hyr zx zy exv eyv
                  go_upto_region 26 with fail
                  have bX : Below wr.heap.size wr wr.drew := (Below.refl _ _).drew
                  refine wp_region_noPanic ?_
                  refine wp_region_held_drew (S := (fun V => Below wr.heap.size wr V)) (by kernel_rfl) bX (fun _ => ?_)
                  refine takeH 128 (i := 0) (v := ?_) rfl rfl (by kernel_rfl) (by kernel_rfl) (by kernel_rfl) (fun _ _ _ h => h) (Or.inl ⟨by kernel_rfl, ?_⟩) bX ?_
                  rotate_left
                  · intro w' hSw; have s1 := cellT cx4 hSw; have s2 := cellT cy4 hSw; have s3 := cellT gxr hSw; have s4 := cellT gyr hSw; go_simp; try with_reducible rfl
                  try simp only [Act.put, List.setIfInBounds_toArray, List.set_cons_zero, List.set_cons_succ]
                  refine takeH 129 (i := 1) (v := ?_) rfl rfl (by kernel_rfl) (by kernel_rfl) (by kernel_rfl) (fun _ _ _ h => h) (Or.inl ⟨by kernel_rfl, ?_⟩) bX ?_
                  rotate_left
                  · intro w' hSw; have s1 := cellT cx4 hSw; have s2 := cellT cy4 hSw; have s3 := cellT gxr hSw; have s4 := cellT gyr hSw; go_simp; try with_reducible rfl
                  try simp only [Act.put, List.setIfInBounds_toArray, List.set_cons_zero, List.set_cons_succ]
                  refine takeH 130 (i := 2) (v := ?_) rfl rfl (by kernel_rfl) (by kernel_rfl) (by kernel_rfl) (fun _ _ _ h => h) (Or.inl ⟨by kernel_rfl, ?_⟩) bX ?_
                  rotate_left
                  · intro w' hSw; have s1 := cellT cx4 hSw; have s2 := cellT cy4 hSw; have s3 := cellT gxr hSw; have s4 := cellT gyr hSw; go_simp; try with_reducible rfl
                  try simp only [Act.put, List.setIfInBounds_toArray, List.set_cons_zero, List.set_cons_succ]
                  refine takeH 131 (i := 3) (v := ?_) rfl rfl (by kernel_rfl) (by kernel_rfl) (by kernel_rfl) (fun _ _ _ h => h) (Or.inl ⟨by kernel_rfl, ?_⟩) bX ?_
                  rotate_left
                  · intro w' hSw; have s1 := cellT cx4 hSw; have s2 := cellT cy4 hSw; have s3 := cellT gxr hSw; have s4 := cellT gyr hSw; go_simp; try with_reducible rfl
                  try simp only [Act.put, List.setIfInBounds_toArray, List.set_cons_zero, List.set_cons_succ]
                  refine takeH 132 (i := 4) (v := ?_) rfl rfl (by kernel_rfl) (by kernel_rfl) (by kernel_rfl) (fun _ _ _ h => h) (Or.inl ⟨by kernel_rfl, ?_⟩) bX ?_
                  rotate_left
                  · intro w' hSw; have s1 := cellT cx4 hSw; have s2 := cellT cy4 hSw; have s3 := cellT gxr hSw; have s4 := cellT gyr hSw; go_simp; try with_reducible rfl
                  try simp only [Act.put, List.setIfInBounds_toArray, List.set_cons_zero, List.set_cons_succ]
                  refine takeH 133 (i := 5) (v := ?_) rfl rfl (by kernel_rfl) (by kernel_rfl) (by kernel_rfl) (fun _ _ _ h => h) (Or.inl ⟨by kernel_rfl, ?_⟩) bX ?_
                  rotate_left
                  · intro w' hSw; have s1 := cellT cx4 hSw; have s2 := cellT cy4 hSw; have s3 := cellT gxr hSw; have s4 := cellT gyr hSw; go_simp; try with_reducible rfl
                  try simp only [Act.put, List.setIfInBounds_toArray, List.set_cons_zero, List.set_cons_succ]
                  refine takeH 134 (i := 6) (v := ?_) rfl rfl (by kernel_rfl) (by kernel_rfl) (by kernel_rfl) (fun _ _ _ h => h) (Or.inl ⟨by kernel_rfl, ?_⟩) bX ?_
                  rotate_left
                  · intro w' hSw; have s1 := cellT cx4 hSw; have s2 := cellT cy4 hSw; have s3 := cellT gxr hSw; have s4 := cellT gyr hSw; go_simp; try with_reducible rfl
                  try simp only [Act.put, List.setIfInBounds_toArray, List.set_cons_zero, List.set_cons_succ]
                  refine takeH 135 (i := 7) (v := ?_) rfl rfl (by kernel_rfl) (by kernel_rfl) (by kernel_rfl) (fun _ _ _ h => h) (Or.inl ⟨by kernel_rfl, ?_⟩) bX ?_
                  rotate_left
                  · intro w' hSw; have s1 := cellT cx4 hSw; have s2 := cellT cy4 hSw; have s3 := cellT gxr hSw; have s4 := cellT gyr hSw; go_simp; try with_reducible rfl
                  try simp only [Act.put, List.setIfInBounds_toArray, List.set_cons_zero, List.set_cons_succ]
                  refine takeH 136 (i := 8) (v := ?_) rfl rfl (by kernel_rfl) (by kernel_rfl) (by kernel_rfl) (fun _ _ _ h => h) (Or.inl ⟨by kernel_rfl, ?_⟩) bX ?_
                  rotate_left
                  · intro w' hSw; have s1 := cellT cx4 hSw; have s2 := cellT cy4 hSw; have s3 := cellT gxr hSw; have s4 := cellT gyr hSw; go_simp; try with_reducible rfl
                  try simp only [Act.put, List.setIfInBounds_toArray, List.set_cons_zero, List.set_cons_succ]
                  refine takeH 137 (i := 9) (v := ?_) rfl rfl (by kernel_rfl) (by kernel_rfl) (by kernel_rfl) (fun _ _ _ h => h) (Or.inl ⟨by kernel_rfl, ?_⟩) bX ?_
                  rotate_left
                  · intro w' hSw; have s1 := cellT cx4 hSw; have s2 := cellT cy4 hSw; have s3 := cellT gxr hSw; have s4 := cellT gyr hSw; go_simp; try with_reducible rfl
                  try simp only [Act.put, List.setIfInBounds_toArray, List.set_cons_zero, List.set_cons_succ]
                  refine takeH 138 (i := 10) (v := ?_) rfl rfl (by kernel_rfl) (by kernel_rfl) (by kernel_rfl) (fun _ _ _ h => h) (Or.inl ⟨by kernel_rfl, ?_⟩) bX ?_
                  rotate_left
                  · intro w' hSw; have s1 := cellT cx4 hSw; have s2 := cellT cy4 hSw; have s3 := cellT gxr hSw; have s4 := cellT gyr hSw; go_simp; try with_reducible rfl
                  try simp only [Act.put, List.setIfInBounds_toArray, List.set_cons_zero, List.set_cons_succ]
                  refine wpAnyH_done (by kernel_rfl) ?_ _
                  refine NoPanic.normal ?_
                  try simp only [Act.put, List.setIfInBounds_toArray, List.set_cons_zero, List.set_cons_succ]
                  have HB2 : Hid (Below W5.heap.size W5 wr.drew) := HB.out.drew
                  clear bX cx4 cy4 gxr gyr hcmp HB
                  go_wp2_with fail
                  go_roundg q
                  case measure => omega
                  case rel => exact ⟨i + 1, by go_num, by have := HIG3.out; omega, HB2⟩
                · have hf1 : decide ((i : Int) < (n : Int)) = false := decide_eq_false (by omega)
                  have hf2 : decide (i < n) = false := decide_eq_false (by omega)
                  clear hi
                  go_wp2_with fail
                  go_ret
                  exact ⟨rfl, to_call HXX.out.2.2.2.2 HB.out⟩
end Go.Proofs.YtfecnhfghepfkaaGreat
