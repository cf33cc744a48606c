import Derived.Test.YtifdicafanglaaaGreatGHa
namespace Go.Proofs.YtifdicafanglaaaGreat
open Go.RowKit Go.Shelf
set_option linter.unusedVariables false
set_option linter.unusedSimpArgs false

theorem ex_loadRT {P : Program} {ρ : Operand → Value} (o : Oper) (ty : TypeId) (p : Operand) (ho : o.op = .load ty p) (B : Nat) (hp : ρ p = .pointer (some ⟨B, 0, none⟩)) (w : World) (c : Array Value) (h : w.heap[B]? = some (.cells c ty)) (d : TypeDesc) (hu : P.underlying ty = some d) (hd : d.isRow = true) (n : Nat) (hi : (P.info? ty).map (·.size) = some n) (hn : c.size = n) : (execOp ρ o).run P w = .ok (.value (.agg c)) w := by
  have hr : w.rangeAt B 0 c.toList := by
    have := World.rangeAt_of_block h 0 c.size
    simpa using this
  have hl := run_loadVar_mid (P := P) w B 0 ty c.toList d hr hu hd (by rw [hi]; simp [hn])
  have hl2 : (loadVar ty ⟨B, 0, none⟩).run P w = .ok (.agg c) w := by simpa using hl
  unfold execOp
  simp only [ho, hp, Instr.loadAt, Instr.sureAddr, Sem.run_bind, Sem.run_pure, Result.andThen_ok, hl2]
theorem run_minI (x y : Int) : ∀ ts t w, (Builtin.min_ ts t #[.int .i64 x, .int .i64 y]).run Tryz.prog w = .ok (.int .i64 (min x y)) w := by
  intro ts t w
  have e : (if y < x then y else x) = min x y := by split <;> omega
  unfold Builtin.min_
  simp [Builtin.min2, e]
theorem allocBx (w : World) : (Instr.alloc 26 true (.tuple #[])).run Tryz.prog w = .ok (.pointer (some ⟨w.heap.size, 0, none⟩)) (w.alloc (.cells #[.int .i64 0, .slice none 0 0, .slice none 0 0, .slice none 0 0, .slice none 0 0, .bool false] 26)) := by kernel_rfl
theorem oneR (z : ZD) : (zRow z).all (·.oneCell') = true := oneZ _ _ _ _ _ rfl rfl rfl rfl _
set_option maxRecDepth 100000 in
set_option maxHeartbeats 16000000 in
theorem trimHolds_walk (z : ZD) (w : World) (hz : ZR w z) (hw : ZW z) (hdn : z.dn ≤ 1048576) (most : Int) (hm1 : -9223372036854775808 ≤ most) (hm2 : most ≤ 9223372036854775807) (ao : Option Addr) (l c : Nat) (ds : List Nat) (hs : RdUs w ao l c ds) (hsb : ∀ u ∈ ds, u < 18446744073709551616) :
    Calls Tryz.prog 3 #[.agg (zRow z), .int .i64 most, .slice ao l c] w fun e w' => e = .returned (.bool true) ∧ Below w.heap.size w w' := by
  have HZ : Hid (∀ W', Below w.heap.size w W' → ZR W' z) := fun W' hb => hz.later hb
  have HS : Hid (∀ W', Below w.heap.size w W' → RdUs W' ao l c ds) := fun W' hb => hs.later hb
  have HSB : Hid (∀ u ∈ ds, u < 18446744073709551616) := hsb
  have HMM : Hid (-9223372036854775808 ≤ most ∧ most ≤ 9223372036854775807) := ⟨hm1, hm2⟩
  have HZW : Hid (ZW z) := hw
  have HD : Hid (z.dn ≤ 1048576) := hdn
  have HWF : Hid (wholeB z = true → WhF z) := fun h => WhF.of hz (by omega) h
  have HOf : Hid (∀ W', Below w.heap.size w W' → Calls Tryz.prog 5 #[.agg #[.int .i64 z.N, .slice z.co z.cn z.cc, .slice z.io z.dn z.dc, .slice z.go z.gn z.gc, .slice z.ro z.rn z.rc, .bool z.bad]] W' fun e w' => ∃ u : ZD, e = .returned (.agg (zRow u)) ∧ ZU w' u ∧ OfS z u ∧ Below W'.heap.size W' w') := fun W' hb => ofT_any z W' (hz.later hb) hw
  have X0 : Below w.heap.size w (w.alloc (.cells #[.int .i64 z.N, .slice z.co z.cn z.cc, .slice z.io z.dn z.dc, .slice z.go z.gn z.gc, .slice z.ro z.rn z.rc, .bool z.bad] 26)) := (Below.refl _ w).alloc (Nat.le_refl _) _
  have Y0 : (w.alloc (.cells #[.int .i64 z.N, .slice z.co z.cn z.cc, .slice z.io z.dn z.dc, .slice z.go z.gn z.gc, .slice z.ro z.rn z.rc, .bool z.bad] 26)).heap[w.heap.size]? = some (.cells #[.int .i64 z.N, .slice z.co z.cn z.cc, .slice z.io z.dn z.dc, .slice z.go z.gn z.gc, .slice z.ro z.rn z.rc, .bool z.bad] 26) := heap_alloc_new w _
  clear hz hs hsb hw hdn hm1 hm2
  unfold zRow
  go_enter Tryz.func3, Tryz.ntmps3
  go_upto_region 1 with fail
  obtain ⟨X, hX⟩ : ∃ X, (w.alloc (.cells #[.int .i64 z.N, .slice z.co z.cn z.cc, .slice z.io z.dn z.dc, .slice z.go z.gn z.gc, .slice z.ro z.rn z.rc, .bool z.bad] 26)) = X := ⟨_, rfl⟩
  rw [hX] at X0 Y0 ⊢
  have P0 : Hid (Below w.heap.size w X ∧ X.heap[w.heap.size]? = some (.cells #[.int .i64 z.N, .slice z.co z.cn z.cc, .slice z.io z.dn z.dc, .slice z.go z.gn z.gc, .slice z.ro z.rn z.rc, .bool z.bad] 26)) := ⟨X0, Y0⟩
  clear hX X0 Y0
  go_wp2_with fail
  refine Calls.mono (told11_any _) ?_
  rintro e w1 ⟨rfl, b1⟩
  have P1 : Hid (Below w.heap.size w w1 ∧ w1.heap[w.heap.size]? = some (.cells #[.int .i64 z.N, .slice z.co z.cn z.cc, .slice z.io z.dn z.dc, .slice z.go z.gn z.gc, .slice z.ro z.rn z.rc, .bool z.bad] 26)) := ⟨to_call P0.out.1 b1, kept b1 P0.out.2⟩
  clear b1 P0
  go_wp2_with (first | (refine wpList_load_row (by kernel_rfl) 26 _ (by rfl) w.heap.size _ (by rfl) P1.out.2 _ Tryz.underlying26 rfl 6 Tryz.infoZ (by rfl) ?_))
  refine Calls.mono (HOf.out _ P1.out.1) ?_
  rintro e w2 ⟨u, rfl, hu, hk, b2⟩
  have huw := hk.uw (HZ.out _ P1.out.1) HZW.out hu
  have P2 : Hid (Below w.heap.size w w2 ∧ w2.heap[w.heap.size]? = some (.cells #[.int .i64 z.N, .slice z.co z.cn z.cc, .slice z.io z.dn z.dc, .slice z.go z.gn z.gc, .slice z.ro z.rn z.rc, .bool z.bad] 26)) := ⟨to_call P1.out.1 b2, kept b2 P1.out.2⟩
  have A2 : Below w2.heap.size w2 (w2.alloc (.cells #[.int .i64 0, .slice none 0 0, .slice none 0 0, .slice none 0 0, .slice none 0 0, .bool false] 31)) := (Below.refl _ w2).alloc (Nat.le_refl _) _
  clear P1 b2 HOf
  go_upto_region 4 with (first
    | (refine wpList_store_row (by rfl) 31 _ _ (by rfl) w2 w2.heap.size w2.heap.size (zRow u) _ (by rfl) (by rfl) (heap_alloc_new w2 _) A2 (Nat.le_refl _) 6 Tryz.infoZu rfl rfl (oneR u) ?_; intro W3 e3 b3 s3 o3))
  have HG : Hid (Calls Tryz.prog 6 #[.agg #[.int .i64 u.N, .slice u.co u.cn u.cc, .slice u.io u.dn u.dc, .slice u.go u.gn u.gc, .slice u.ro u.rn u.rc, .bool u.bad]] W3 fun e w' => e = .returned (.bool (checkB z && !z.bad)) ∧ Below W3.heap.size W3 w') := by
    have h9 := goodT_any u W3 (hu.later b3) huw
    have e9 : (checkB u && !u.bad) = (checkB z && !z.bad) := by rw [hk.check, hk.bad]
    rw [e9] at h9
    exact h9
  have P3 : Hid (Below w.heap.size w W3 ∧ W3.heap[w.heap.size]? = some (.cells #[.int .i64 z.N, .slice z.co z.cn z.cc, .slice z.io z.dn z.dc, .slice z.go z.gn z.gc, .slice z.ro z.rn z.rc, .bool z.bad] 26)) := ⟨to_call P2.out.1 b3, kept b3 P2.out.2⟩
  have E3 : Hid (W3.heap[w2.heap.size]? = some (.cells (zRow u) 31)) := e3
  clear P2 e3 b3 s3 o3 hu hk huw A2
  go_wp2_with (first | (refine wpList_load_row (by kernel_rfl) 31 _ (by rfl) w2.heap.size _ (by rfl) E3.out _ Tryz.underlying31 rfl 6 Tryz.infoZu (by rfl) ?_))
  refine Calls.mono HG.out ?_
  rintro e w4 ⟨rfl, b4⟩
  have P4 : Hid (Below w.heap.size w w4 ∧ w4.heap[w.heap.size]? = some (.cells #[.int .i64 z.N, .slice z.co z.cn z.cc, .slice z.io z.dn z.dc, .slice z.go z.gn z.gc, .slice z.ro z.rn z.rc, .bool z.bad] 26)) := ⟨to_call P3.out.1 b4, kept b4 P3.out.2⟩
  clear P3 b4 HG E3
  cases hgd : (checkB z && !z.bad) with
  | false =>
    clear hgd
    go_wp2_with fail
    go_ret
    exact ⟨rfl, P4.out.1⟩
  | true =>
    have hgd2 : checkB z = true ∧ z.bad = false := by simpa using hgd
    have hwh : wholeB z = true := by have h9 := hgd2.1; unfold checkB at h9; rw [hgd2.2] at h9; simpa using h9
    have HGD : Hid (z.bad = false ∧ wholeB z = true ∧ WhF z) := ⟨hgd2.2, hwh, HWF.out hwh⟩
    clear hgd hgd2 hwh HWF
    go_wp2_with (first | (refine wpList_load_row (by kernel_rfl) 26 _ (by rfl) w.heap.size _ (by rfl) P4.out.2 _ Tryz.underlying26 rfl 6 Tryz.infoZ (by rfl) ?_))
    refine Calls.mono (reduce_any 1166 rfl z _ (HZ.out _ P4.out.1) (by have := HD.out; omega) most HMM.out.1 HMM.out.2) ?_
    rintro e w5 ⟨y, rfl, hzy, hwy, hty, hry, b5⟩
    have A5 : Below w5.heap.size w5 (w5.alloc (.cells #[.int .i64 0, .slice none 0 0, .slice none 0 0, .slice none 0 0, .slice none 0 0, .bool false] 26)) := (Below.refl _ w5).alloc (Nat.le_refl _) _
    go_upto_region 7 with (first
      | (refine wpList_store_row (by rfl) 26 _ _ (by rfl) w5 w5.heap.size w5.heap.size (zRow y) _ (by rfl) (by rfl) (heap_alloc_new w5 _) A5 (Nat.le_refl _) 6 Tryz.infoZ rfl rfl (oneR y) ?_; intro W6 e6 b6 s6 o6))
    have HXX : Hid (W6.heap[w.heap.size]? = some (.cells (zRow z) 26) ∧ W6.heap[w5.heap.size]? = some (.cells (zRow y) 26) ∧ ZR W6 y ∧ Below w.heap.size w W6) := ⟨kept b6 (kept b5 P4.out.2), e6, hzy.later b6, to_call (to_call P4.out.1 b5) b6⟩
    have HGO : Hid _ := RdC.good HGD.out.1 HGD.out.2.1 HGD.out.2.2 (HZ.out _ P4.out.1) hzy hry
    have HYW : Hid (ZW y) := hwy
    obtain ⟨D, hD⟩ : ∃ D, w5.heap.size = D := ⟨_, rfl⟩
    rw [hD] at HXX ⊢
    clear P4 A5 e6 b6 s6 o6 hzy hwy hty hry b5 hD
    have z0 : W6.cell? ⟨w.heap.size, 0, none⟩ = some (.int .i64 z.N) := cellAtJ HXX.out.1 0 _ rfl
    have z2 : W6.cell? ⟨w.heap.size, 2, none⟩ = some (.slice z.io z.dn z.dc) := cellAtJ HXX.out.1 2 _ rfl
    have y0 : W6.cell? ⟨D, 0, none⟩ = some (.int .i64 y.N) := cellAtJ HXX.out.2.1 0 _ rfl
    have y2 : W6.cell? ⟨D, 2, none⟩ = some (.slice y.io y.dn y.dc) := cellAtJ HXX.out.2.1 2 _ rfl
    have y5 : W6.cell? ⟨D, 5, none⟩ = some (.bool y.bad) := cellAtJ HXX.out.2.1 5 _ rfl
    have hnn : (z.N != z.N) = false := by simp
    have hmx1 := run_maxI most 0
    obtain ⟨mm, hmm⟩ : ∃ mm : Nat, max most 0 = (mm : Int) := ⟨(max most 0).toNat, by omega⟩
    rw [hmm] at hmx1
    rcases HGO.out with ⟨h1, h2⟩ | ⟨h1, h2, h3⟩
    · have e1 : y.N = z.N := by rw [h1]; rfl
      have e2 : y.bad = true := by rw [h1]; rfl
      rw [e1] at y0
      rw [e2] at y5
      rw [hmm] at h2
      have hgt : decide ((mm : Int) < (z.dn : Int)) = true := decide_eq_true h2
      have hgt2 : decide (mm < z.dn) = true := decide_eq_true (by omega)
      clear h1 h2 e1 e2 HGO
      go_wp2_with fail
      go_ret
      exact ⟨rfl, HXX.out.2.2.2⟩
    · have HLE : Hid (min z.gn (max most 0).toNat = min z.gn mm) := by unfold Hid; rw [hmm]; rfl
      rw [HLE.out] at h1 h3
      obtain ⟨low, hlow⟩ : ∃ low, min z.gn mm = low := ⟨_, rfl⟩
      rw [hlow] at h1 h3
      have HST : Hid (StR z y low ∧ y.cs = z.cs.map plainM ∧ ∀ i, i < low → y.gs[i]?.getD [] = (z.gs[((keptL (lsZ z) z.gn low)[i]?.getD 0)]?.getD []).map plainM) := ⟨h1, h2, h3⟩
      have HWY : Hid (WhF y) := WhF.of HXX.out.2.2.1 HYW.out.il h1.wh
      have e1 := h1.N
      have e2 := h1.bad
      have e3 := h1.dn
      rw [e1] at y0
      rw [e2] at y5
      rw [e3] at y2
      have hmn1 := run_minI (mm : Int) (z.dn : Int)
      have hml : min (mm : Int) (z.dn : Int) = (low : Int) := by have := HGD.out.2.2.dg; omega
      rw [hml] at hmn1
      have hgt : decide ((mm : Int) < (low : Int)) = false := decide_eq_false (by omega)
      have hgt2 : decide (mm < low) = false := decide_eq_false (by omega)
      have hll : ((low : Int) != (low : Int)) = false := by simp
      have HLZ : Hid (low ≤ z.gn) := by unfold Hid; omega
      clear h1 h2 h3 e1 e2 e3 hml hlow HLE HGO
      go_wp2_with (first | (refine wpList_load_rowG (by kernel_rfl) 26 _ (by rfl) D _ (by rfl) HXX.out.2.1 _ Tryz.underlying26 rfl 6 Tryz.infoZ (by rfl) ?_))
      refine Calls.mono (ofT_any y _ HXX.out.2.2.1 HYW.out) ?_
      rintro e w7 ⟨u2, rfl, hu2, hk2, b7⟩
      have HCk : Hid (Calls Tryz.prog 8 #[.agg #[.int .i64 u2.N, .slice u2.co u2.cn u2.cc, .slice u2.io u2.dn u2.dc, .slice u2.go u2.gn u2.gc, .slice u2.ro u2.rn u2.rc, .bool u2.bad]] w7 fun e w' => e = .returned (.int .i64 0) ∧ Below w7.heap.size w7 w') := by
        have h9 := refCheck_any u2 w7 hu2 (hk2.uw HXX.out.2.2.1 HYW.out hu2)
        have h8 : checkB u2 = true := by rw [hk2.check]; unfold checkB; rw [HST.out.1.bad]; simpa using HST.out.1.wh
        rw [h8] at h9
        simp only [if_true] at h9
        exact h9
      simp only [zRow]
      clear hu2 hk2
      go_wp2_with fail
      refine Calls.mono HCk.out ?_
      rintro e w8 ⟨rfl, b8⟩
      have HW8 : Hid (Below W6.heap.size W6 w8) := to_call b7 b8
      clear HCk b7 b8 z0 z2 y0 y2 y5 hnn hmx1 hmn1 hgt hgt2 hll
      obtain ⟨n, hn⟩ : ∃ n, z.rn = n := ⟨_, rfl⟩
      have HN : Hid (z.rn = n) := hn
      clear hn
      have hlow3 : low ≤ 9223372036854775807 := by have := HLZ.out; have := HZW.out.gl; omega
      have hdn3 : z.dn ≤ 1048576 := HD.out
      go_wp2_with fail
      go_loopg [9, 10] low (fun g v9 v10 wx => ∃ i k : Nat, v9 = .int .i64 k ∧ v10 = .int .i64 i ∧ i + g = low ∧ Hid (∀ j, i ≤ j → j < low → k ≤ ((keptL (lsZ z) z.gn low)[j]?.getD 0)) ∧ Hid (Below W6.heap.size W6 wx))
      case atStart => exact ⟨0, 0, rfl, rfl, by omega, fun j _ _ => Nat.zero_le _, HW8⟩
      case round =>
        clear HW8
        obtain ⟨i, k, rfl, rfl, hi, HK, HB⟩ := hrel
        have cy2 : wr.cell? ⟨D, 2, none⟩ = some (.slice y.io low y.dc) := by
          have h9 : wr.cell? ⟨D, 2, none⟩ = some (.slice y.io y.dn y.dc) := cellT (cellAtJ HXX.out.2.1 2 _ rfl) HB.out
          rw [HST.out.1.dn] at h9
          exact h9
        by_cases h1 : i < low
        · have he1 : decide ((i : Int) < (low : Int)) = true := decide_eq_true (by omega)
          obtain ⟨q, rfl⟩ : ∃ q, gk = q + 1 := ⟨gk - 1, by omega⟩
          have HIG : Hid (i + (q + 1) = low) := hi
          have h1' : (i : Int) < (low : Int) := by omega
          clear hi
          obtain ⟨kp, hkp⟩ : ∃ kp, ((keptL (lsZ z) z.gn low)[i]?.getD 0) = kp := ⟨_, rfl⟩
          have hkk : k ≤ kp := by rw [← hkp]; exact HK.out i (Nat.le_refl _) h1
          have hkz : kp < z.dn := by
            have hl : i < (keptL (lsZ z) z.gn low).length := by rw [keptL_len HLZ.out]; exact h1
            rw [← hkp, HGD.out.2.2.dg, List.getElem?_eq_getElem hl]
            exact keptL_lt (List.getElem_mem hl)
          have HIDY : Hid (y.ids[i]?.getD 0 = z.ids[kp]?.getD 0) := by unfold Hid; rw [← hkp]; exact HST.out.1.idx h1
          have HGY : Hid (y.gs[i]?.getD [] = (z.gs[kp]?.getD []).map plainM) := by unfold Hid; rw [← hkp]; exact HST.out.2.2 i h1
          have HKN : Hid (∀ j, i + 1 ≤ j → j < low → kp ≤ ((keptL (lsZ z) z.gn low)[j]?.getD 0)) := by
            intro j hj hjl
            rw [← hkp]
            exact Nat.le_of_lt (keptL_up HLZ.out hj hjl)
          clear hkp HK
          go_wp2_with fail
          clear cy2 he1
          obtain ⟨W7, hW7⟩ : ∃ W7, wr = W7 := ⟨_, rfl⟩
          rw [hW7] at HB ⊢
          clear hW7 wr
          go_loopg [9] (kp - k) (fun g v9 wx => ∃ k : Nat, v9 = .int .i64 k ∧ k + g = kp ∧ Hid (Below W6.heap.size W6 wx))
          case atStart => exact ⟨k, rfl, by omega, HB⟩
          case round =>
            clear HB hkk
            obtain ⟨k, rfl, hk, HB⟩ := hrel
            have zx := HZ.out _ (to_call HXX.out.2.2.2 HB.out)
            have zy := HXX.out.2.2.1.later HB.out
            rcases zx.i.cells with h0 | ⟨zib, zio, ezi, hzi⟩
            · omega
            rcases zy.i.cells with h0 | ⟨yib, yio, eyi, hyi⟩
            · rw [HST.out.1.dn] at h0; omega
            have cz2 : wr.cell? ⟨w.heap.size, 2, none⟩ = some (.slice (some ⟨zib, zio, none⟩) z.dn z.dc) := by rw [← ezi]; exact cellT (cellAtJ HXX.out.1 2 _ rfl) HB.out
            have cy2 : wr.cell? ⟨D, 2, none⟩ = some (.slice (some ⟨yib, yio, none⟩) low y.dc) := by
              have h9 : wr.cell? ⟨D, 2, none⟩ = some (.slice y.io y.dn y.dc) := cellT (cellAtJ HXX.out.2.1 2 _ rfl) HB.out
              rw [HST.out.1.dn, eyi] at h9
              exact h9
            have hkd : k < z.dn := by omega
            have gz := hzi k hkd
            have gy := hyi i (by rw [HST.out.1.dn]; exact h1)
            have hd1 : decide ((k : Int) < (z.dn : Int)) = true := decide_eq_true (by omega)
            have hkd' : (k : Int) < (z.dn : Int) := by omega
            rw [HIDY.out] at gy
            have HNE : Hid (k ≠ kp → z.ids[k]?.getD 0 ≠ z.ids[kp]?.getD 0) := fun h => ids_ne HGD.out.2.1 h hkd hkz
            obtain ⟨ia, hia⟩ : ∃ t, z.ids[k]?.getD 0 = t := ⟨_, rfl⟩
            by_cases h2 : k < kp
            · obtain ⟨ib, hib⟩ : ∃ t, z.ids[kp]?.getD 0 = t := ⟨_, rfl⟩
              have hne : (ia != ib) = true := by have h9 := HNE.out (by omega); rw [hia, hib] at h9; simpa using h9
              rw [hia] at gz
              rw [hib] at gy
              obtain ⟨r, rfl⟩ : ∃ r, gk = r + 1 := ⟨gk - 1, by omega⟩
              have HIH : Hid (k + (r + 1) = kp) := hk
              clear hk hia hib HNE zx zy hzi hyi ezi eyi
              go_upto_region 17 with fail
              have bX : Below wr.heap.size wr wr.drew := (Below.refl _ _).drew
              refine wp_region_noPanic ?_
              refine wp_region_held_drew (S := (fun V => Below wr.heap.size wr V)) (by kernel_rfl) bX (fun _ => ?_)
              refine takeH 66 (i := 0) (v := ?_) rfl rfl (by kernel_rfl) (by kernel_rfl) (by kernel_rfl) (fun _ _ _ h => h) (Or.inl ⟨by kernel_rfl, ?_⟩) bX ?_
              rotate_left
              · intro w' hSw; have s1 := cellT cz2 hSw; have s2 := cellT cy2 hSw; have s3 := cellT gz hSw; have s4 := cellT gy hSw; go_simp; try with_reducible rfl
              try simp only [Act.put, List.setIfInBounds_toArray, List.set_cons_zero, List.set_cons_succ]
              refine takeH 67 (i := 1) (v := ?_) rfl rfl (by kernel_rfl) (by kernel_rfl) (by kernel_rfl) (fun _ _ _ h => h) (Or.inl ⟨by kernel_rfl, ?_⟩) bX ?_
              rotate_left
              · intro w' hSw; have s1 := cellT cz2 hSw; have s2 := cellT cy2 hSw; have s3 := cellT gz hSw; have s4 := cellT gy hSw; go_simp; try with_reducible rfl
              try simp only [Act.put, List.setIfInBounds_toArray, List.set_cons_zero, List.set_cons_succ]
              refine takeH 68 (i := 2) (v := ?_) rfl rfl (by kernel_rfl) (by kernel_rfl) (by kernel_rfl) (fun _ _ _ h => h) (Or.inl ⟨by kernel_rfl, ?_⟩) bX ?_
              rotate_left
              · intro w' hSw; have s1 := cellT cz2 hSw; have s2 := cellT cy2 hSw; have s3 := cellT gz hSw; have s4 := cellT gy hSw; go_simp; try with_reducible rfl
              try simp only [Act.put, List.setIfInBounds_toArray, List.set_cons_zero, List.set_cons_succ]
              refine takeH 69 (i := 3) (v := ?_) rfl rfl (by kernel_rfl) (by kernel_rfl) (by kernel_rfl) (fun _ _ _ h => h) (Or.inl ⟨by kernel_rfl, ?_⟩) bX ?_
              rotate_left
              · intro w' hSw; have s1 := cellT cz2 hSw; have s2 := cellT cy2 hSw; have s3 := cellT gz hSw; have s4 := cellT gy hSw; go_simp; try with_reducible rfl
              try simp only [Act.put, List.setIfInBounds_toArray, List.set_cons_zero, List.set_cons_succ]
              refine takeH 70 (i := 4) (v := ?_) rfl rfl (by kernel_rfl) (by kernel_rfl) (by kernel_rfl) (fun _ _ _ h => h) (Or.inl ⟨by kernel_rfl, ?_⟩) bX ?_
              rotate_left
              · intro w' hSw; have s1 := cellT cz2 hSw; have s2 := cellT cy2 hSw; have s3 := cellT gz hSw; have s4 := cellT gy hSw; go_simp; try with_reducible rfl
              try simp only [Act.put, List.setIfInBounds_toArray, List.set_cons_zero, List.set_cons_succ]
              refine takeH 71 (i := 5) (v := ?_) rfl rfl (by kernel_rfl) (by kernel_rfl) (by kernel_rfl) (fun _ _ _ h => h) (Or.inl ⟨by kernel_rfl, ?_⟩) bX ?_
              rotate_left
              · intro w' hSw; have s1 := cellT cz2 hSw; have s2 := cellT cy2 hSw; have s3 := cellT gz hSw; have s4 := cellT gy hSw; go_simp; try with_reducible rfl
              try simp only [Act.put, List.setIfInBounds_toArray, List.set_cons_zero, List.set_cons_succ]
              refine takeH 72 (i := 6) (v := ?_) rfl rfl (by kernel_rfl) (by kernel_rfl) (by kernel_rfl) (fun _ _ _ h => h) (Or.inl ⟨by kernel_rfl, ?_⟩) bX ?_
              rotate_left
              · intro w' hSw; have s1 := cellT cz2 hSw; have s2 := cellT cy2 hSw; have s3 := cellT gz hSw; have s4 := cellT gy hSw; go_simp; try with_reducible rfl
              try simp only [Act.put, List.setIfInBounds_toArray, List.set_cons_zero, List.set_cons_succ]
              refine takeH 73 (i := 7) (v := ?_) rfl rfl (by kernel_rfl) (by kernel_rfl) (by kernel_rfl) (fun _ _ _ h => h) (Or.inl ⟨by kernel_rfl, ?_⟩) bX ?_
              rotate_left
              · intro w' hSw; have s1 := cellT cz2 hSw; have s2 := cellT cy2 hSw; have s3 := cellT gz hSw; have s4 := cellT gy hSw; go_simp; try with_reducible rfl
              try simp only [Act.put, List.setIfInBounds_toArray, List.set_cons_zero, List.set_cons_succ]
              refine takeH 74 (i := 8) (v := ?_) rfl rfl (by kernel_rfl) (by kernel_rfl) (by kernel_rfl) (fun _ _ _ h => h) (Or.inl ⟨by kernel_rfl, ?_⟩) bX ?_
              rotate_left
              · intro w' hSw; have s1 := cellT cz2 hSw; have s2 := cellT cy2 hSw; have s3 := cellT gz hSw; have s4 := cellT gy hSw; go_simp; try with_reducible rfl
              try simp only [Act.put, List.setIfInBounds_toArray, List.set_cons_zero, List.set_cons_succ]
              refine takeH 75 (i := 9) (v := ?_) rfl rfl (by kernel_rfl) (by kernel_rfl) (by kernel_rfl) (fun _ _ _ h => h) (Or.inl ⟨by kernel_rfl, ?_⟩) bX ?_
              rotate_left
              · intro w' hSw; have s1 := cellT cz2 hSw; have s2 := cellT cy2 hSw; have s3 := cellT gz hSw; have s4 := cellT gy hSw; go_simp; try with_reducible rfl
              try simp only [Act.put, List.setIfInBounds_toArray, List.set_cons_zero, List.set_cons_succ]
              refine takeH 76 (i := 10) (v := ?_) rfl rfl (by kernel_rfl) (by kernel_rfl) (by kernel_rfl) (fun _ _ _ h => h) (Or.inl ⟨by kernel_rfl, ?_⟩) bX ?_
              rotate_left
              · intro w' hSw; have s1 := cellT cz2 hSw; have s2 := cellT cy2 hSw; have s3 := cellT gz hSw; have s4 := cellT gy hSw; go_simp; try with_reducible rfl
              try simp only [Act.put, List.setIfInBounds_toArray, List.set_cons_zero, List.set_cons_succ]
              refine takeH 77 (i := 11) (v := ?_) rfl rfl (by kernel_rfl) (by kernel_rfl) (by kernel_rfl) (fun _ _ _ h => h) (Or.inl ⟨by kernel_rfl, ?_⟩) bX ?_
              rotate_left
              · intro w' hSw; have s1 := cellT cz2 hSw; have s2 := cellT cy2 hSw; have s3 := cellT gz hSw; have s4 := cellT gy hSw; go_simp; try with_reducible rfl
              try simp only [Act.put, List.setIfInBounds_toArray, List.set_cons_zero, List.set_cons_succ]
              refine takeH 78 (i := 12) (v := ?_) rfl rfl (by kernel_rfl) (by kernel_rfl) (by kernel_rfl) (fun _ _ _ h => h) (Or.inl ⟨by kernel_rfl, ?_⟩) bX ?_
              rotate_left
              · intro w' hSw; have s1 := cellT cz2 hSw; have s2 := cellT cy2 hSw; have s3 := cellT gz hSw; have s4 := cellT gy hSw; go_simp; try with_reducible rfl
              try simp only [Act.put, List.setIfInBounds_toArray, List.set_cons_zero, List.set_cons_succ]
              refine takeH 79 (i := 13) (v := ?_) rfl rfl (by kernel_rfl) (by kernel_rfl) (by kernel_rfl) (fun _ _ _ h => h) (Or.inl ⟨by kernel_rfl, ?_⟩) bX ?_
              rotate_left
              · intro w' hSw; have s1 := cellT cz2 hSw; have s2 := cellT cy2 hSw; have s3 := cellT gz hSw; have s4 := cellT gy hSw; go_simp; try with_reducible rfl
              try simp only [Act.put, List.setIfInBounds_toArray, List.set_cons_zero, List.set_cons_succ]
              refine takeH 80 (i := 14) (v := ?_) rfl rfl (by kernel_rfl) (by kernel_rfl) (by kernel_rfl) (fun _ _ _ h => h) (Or.inl ⟨by kernel_rfl, ?_⟩) bX ?_
              rotate_left
              · intro w' hSw; have s1 := cellT cz2 hSw; have s2 := cellT cy2 hSw; have s3 := cellT gz hSw; have s4 := cellT gy hSw; go_simp; try with_reducible rfl
              try simp only [Act.put, List.setIfInBounds_toArray, List.set_cons_zero, List.set_cons_succ]
              refine takeH 81 (i := 15) (v := ?_) rfl rfl (by kernel_rfl) (by kernel_rfl) (by kernel_rfl) (fun _ _ _ h => h) (Or.inl ⟨by kernel_rfl, ?_⟩) bX ?_
              rotate_left
              · intro w' hSw; have s1 := cellT cz2 hSw; have s2 := cellT cy2 hSw; have s3 := cellT gz hSw; have s4 := cellT gy hSw; go_simp; try with_reducible rfl
              try simp only [Act.put, List.setIfInBounds_toArray, List.set_cons_zero, List.set_cons_succ]
              refine takeH 82 (i := 16) (v := ?_) rfl rfl (by kernel_rfl) (by kernel_rfl) (by kernel_rfl) (fun _ _ _ h => h) (Or.inl ⟨by kernel_rfl, ?_⟩) bX ?_
              rotate_left
              · intro w' hSw; have s1 := cellT cz2 hSw; have s2 := cellT cy2 hSw; have s3 := cellT gz hSw; have s4 := cellT gy hSw; go_simp; try with_reducible rfl
              try simp only [Act.put, List.setIfInBounds_toArray, List.set_cons_zero, List.set_cons_succ]
              refine takeH 83 (i := 17) (v := ?_) rfl rfl (by kernel_rfl) (by kernel_rfl) (by kernel_rfl) (fun _ _ _ h => h) (Or.inl ⟨by kernel_rfl, ?_⟩) bX ?_
              rotate_left
              · intro w' hSw; have s1 := cellT cz2 hSw; have s2 := cellT cy2 hSw; have s3 := cellT gz hSw; have s4 := cellT gy hSw; go_simp; try with_reducible rfl
              try simp only [Act.put, List.setIfInBounds_toArray, List.set_cons_zero, List.set_cons_succ]
              refine wpAnyH_done (by kernel_rfl) ?_ _
              refine NoPanic.normal ?_
              try simp only [Act.put, List.setIfInBounds_toArray, List.set_cons_zero, List.set_cons_succ]
              have HB2 : Hid (Below W6.heap.size W6 wr.drew) := HB.out.drew
              clear bX cz2 cy2 gz gy hne hd1 HB
              go_wp2_with fail
              go_roundg r
              case measure => omega
              case rel => exact ⟨k + 1, by go_num, by have := HIH.out; omega, HB2⟩
            · have ek : k = kp := by omega
              subst ek
              rw [hia] at gz gy
              have hne : (ia != ia) = false := by simp
              clear hk hia HNE zx zy hzi hyi ezi eyi
              go_upto_region 17 with fail
              have bX : Below wr.heap.size wr wr.drew := (Below.refl _ _).drew
              refine wp_region_noPanic ?_
              refine wp_region_held_drew (S := (fun V => Below wr.heap.size wr V)) (by kernel_rfl) bX (fun _ => ?_)
              refine takeH 66 (i := 0) (v := ?_) rfl rfl (by kernel_rfl) (by kernel_rfl) (by kernel_rfl) (fun _ _ _ h => h) (Or.inl ⟨by kernel_rfl, ?_⟩) bX ?_
              rotate_left
              · intro w' hSw; have s1 := cellT cz2 hSw; have s2 := cellT cy2 hSw; have s3 := cellT gz hSw; have s4 := cellT gy hSw; go_simp; try with_reducible rfl
              try simp only [Act.put, List.setIfInBounds_toArray, List.set_cons_zero, List.set_cons_succ]
              refine takeH 67 (i := 1) (v := ?_) rfl rfl (by kernel_rfl) (by kernel_rfl) (by kernel_rfl) (fun _ _ _ h => h) (Or.inl ⟨by kernel_rfl, ?_⟩) bX ?_
              rotate_left
              · intro w' hSw; have s1 := cellT cz2 hSw; have s2 := cellT cy2 hSw; have s3 := cellT gz hSw; have s4 := cellT gy hSw; go_simp; try with_reducible rfl
              try simp only [Act.put, List.setIfInBounds_toArray, List.set_cons_zero, List.set_cons_succ]
              refine takeH 68 (i := 2) (v := ?_) rfl rfl (by kernel_rfl) (by kernel_rfl) (by kernel_rfl) (fun _ _ _ h => h) (Or.inl ⟨by kernel_rfl, ?_⟩) bX ?_
              rotate_left
              · intro w' hSw; have s1 := cellT cz2 hSw; have s2 := cellT cy2 hSw; have s3 := cellT gz hSw; have s4 := cellT gy hSw; go_simp; try with_reducible rfl
              try simp only [Act.put, List.setIfInBounds_toArray, List.set_cons_zero, List.set_cons_succ]
              refine takeH 69 (i := 3) (v := ?_) rfl rfl (by kernel_rfl) (by kernel_rfl) (by kernel_rfl) (fun _ _ _ h => h) (Or.inl ⟨by kernel_rfl, ?_⟩) bX ?_
              rotate_left
              · intro w' hSw; have s1 := cellT cz2 hSw; have s2 := cellT cy2 hSw; have s3 := cellT gz hSw; have s4 := cellT gy hSw; go_simp; try with_reducible rfl
              try simp only [Act.put, List.setIfInBounds_toArray, List.set_cons_zero, List.set_cons_succ]
              refine takeH 70 (i := 4) (v := ?_) rfl rfl (by kernel_rfl) (by kernel_rfl) (by kernel_rfl) (fun _ _ _ h => h) (Or.inl ⟨by kernel_rfl, ?_⟩) bX ?_
              rotate_left
              · intro w' hSw; have s1 := cellT cz2 hSw; have s2 := cellT cy2 hSw; have s3 := cellT gz hSw; have s4 := cellT gy hSw; go_simp; try with_reducible rfl
              try simp only [Act.put, List.setIfInBounds_toArray, List.set_cons_zero, List.set_cons_succ]
              refine takeH 71 (i := 5) (v := ?_) rfl rfl (by kernel_rfl) (by kernel_rfl) (by kernel_rfl) (fun _ _ _ h => h) (Or.inl ⟨by kernel_rfl, ?_⟩) bX ?_
              rotate_left
              · intro w' hSw; have s1 := cellT cz2 hSw; have s2 := cellT cy2 hSw; have s3 := cellT gz hSw; have s4 := cellT gy hSw; go_simp; try with_reducible rfl
              try simp only [Act.put, List.setIfInBounds_toArray, List.set_cons_zero, List.set_cons_succ]
              refine takeH 72 (i := 6) (v := ?_) rfl rfl (by kernel_rfl) (by kernel_rfl) (by kernel_rfl) (fun _ _ _ h => h) (Or.inl ⟨by kernel_rfl, ?_⟩) bX ?_
              rotate_left
              · intro w' hSw; have s1 := cellT cz2 hSw; have s2 := cellT cy2 hSw; have s3 := cellT gz hSw; have s4 := cellT gy hSw; go_simp; try with_reducible rfl
              try simp only [Act.put, List.setIfInBounds_toArray, List.set_cons_zero, List.set_cons_succ]
              refine takeH 73 (i := 7) (v := ?_) rfl rfl (by kernel_rfl) (by kernel_rfl) (by kernel_rfl) (fun _ _ _ h => h) (Or.inl ⟨by kernel_rfl, ?_⟩) bX ?_
              rotate_left
              · intro w' hSw; have s1 := cellT cz2 hSw; have s2 := cellT cy2 hSw; have s3 := cellT gz hSw; have s4 := cellT gy hSw; go_simp; try with_reducible rfl
              try simp only [Act.put, List.setIfInBounds_toArray, List.set_cons_zero, List.set_cons_succ]
              refine takeH 74 (i := 8) (v := ?_) rfl rfl (by kernel_rfl) (by kernel_rfl) (by kernel_rfl) (fun _ _ _ h => h) (Or.inl ⟨by kernel_rfl, ?_⟩) bX ?_
              rotate_left
              · intro w' hSw; have s1 := cellT cz2 hSw; have s2 := cellT cy2 hSw; have s3 := cellT gz hSw; have s4 := cellT gy hSw; go_simp; try with_reducible rfl
              try simp only [Act.put, List.setIfInBounds_toArray, List.set_cons_zero, List.set_cons_succ]
              refine takeH 75 (i := 9) (v := ?_) rfl rfl (by kernel_rfl) (by kernel_rfl) (by kernel_rfl) (fun _ _ _ h => h) (Or.inl ⟨by kernel_rfl, ?_⟩) bX ?_
              rotate_left
              · intro w' hSw; have s1 := cellT cz2 hSw; have s2 := cellT cy2 hSw; have s3 := cellT gz hSw; have s4 := cellT gy hSw; go_simp; try with_reducible rfl
              try simp only [Act.put, List.setIfInBounds_toArray, List.set_cons_zero, List.set_cons_succ]
              refine takeH 76 (i := 10) (v := ?_) rfl rfl (by kernel_rfl) (by kernel_rfl) (by kernel_rfl) (fun _ _ _ h => h) (Or.inl ⟨by kernel_rfl, ?_⟩) bX ?_
              rotate_left
              · intro w' hSw; have s1 := cellT cz2 hSw; have s2 := cellT cy2 hSw; have s3 := cellT gz hSw; have s4 := cellT gy hSw; go_simp; try with_reducible rfl
              try simp only [Act.put, List.setIfInBounds_toArray, List.set_cons_zero, List.set_cons_succ]
              refine takeH 77 (i := 11) (v := ?_) rfl rfl (by kernel_rfl) (by kernel_rfl) (by kernel_rfl) (fun _ _ _ h => h) (Or.inl ⟨by kernel_rfl, ?_⟩) bX ?_
              rotate_left
              · intro w' hSw; have s1 := cellT cz2 hSw; have s2 := cellT cy2 hSw; have s3 := cellT gz hSw; have s4 := cellT gy hSw; go_simp; try with_reducible rfl
              try simp only [Act.put, List.setIfInBounds_toArray, List.set_cons_zero, List.set_cons_succ]
              refine takeH 78 (i := 12) (v := ?_) rfl rfl (by kernel_rfl) (by kernel_rfl) (by kernel_rfl) (fun _ _ _ h => h) (Or.inl ⟨by kernel_rfl, ?_⟩) bX ?_
              rotate_left
              · intro w' hSw; have s1 := cellT cz2 hSw; have s2 := cellT cy2 hSw; have s3 := cellT gz hSw; have s4 := cellT gy hSw; go_simp; try with_reducible rfl
              try simp only [Act.put, List.setIfInBounds_toArray, List.set_cons_zero, List.set_cons_succ]
              refine takeH 79 (i := 13) (v := ?_) rfl rfl (by kernel_rfl) (by kernel_rfl) (by kernel_rfl) (fun _ _ _ h => h) (Or.inl ⟨by kernel_rfl, ?_⟩) bX ?_
              rotate_left
              · intro w' hSw; have s1 := cellT cz2 hSw; have s2 := cellT cy2 hSw; have s3 := cellT gz hSw; have s4 := cellT gy hSw; go_simp; try with_reducible rfl
              try simp only [Act.put, List.setIfInBounds_toArray, List.set_cons_zero, List.set_cons_succ]
              refine takeH 80 (i := 14) (v := ?_) rfl rfl (by kernel_rfl) (by kernel_rfl) (by kernel_rfl) (fun _ _ _ h => h) (Or.inl ⟨by kernel_rfl, ?_⟩) bX ?_
              rotate_left
              · intro w' hSw; have s1 := cellT cz2 hSw; have s2 := cellT cy2 hSw; have s3 := cellT gz hSw; have s4 := cellT gy hSw; go_simp; try with_reducible rfl
              try simp only [Act.put, List.setIfInBounds_toArray, List.set_cons_zero, List.set_cons_succ]
              refine takeH 81 (i := 15) (v := ?_) rfl rfl (by kernel_rfl) (by kernel_rfl) (by kernel_rfl) (fun _ _ _ h => h) (Or.inl ⟨by kernel_rfl, ?_⟩) bX ?_
              rotate_left
              · intro w' hSw; have s1 := cellT cz2 hSw; have s2 := cellT cy2 hSw; have s3 := cellT gz hSw; have s4 := cellT gy hSw; go_simp; try with_reducible rfl
              try simp only [Act.put, List.setIfInBounds_toArray, List.set_cons_zero, List.set_cons_succ]
              refine takeH 82 (i := 16) (v := ?_) rfl rfl (by kernel_rfl) (by kernel_rfl) (by kernel_rfl) (fun _ _ _ h => h) (Or.inl ⟨by kernel_rfl, ?_⟩) bX ?_
              rotate_left
              · intro w' hSw; have s1 := cellT cz2 hSw; have s2 := cellT cy2 hSw; have s3 := cellT gz hSw; have s4 := cellT gy hSw; go_simp; try with_reducible rfl
              try simp only [Act.put, List.setIfInBounds_toArray, List.set_cons_zero, List.set_cons_succ]
              refine takeH 83 (i := 17) (v := ?_) rfl rfl (by kernel_rfl) (by kernel_rfl) (by kernel_rfl) (fun _ _ _ h => h) (Or.inl ⟨by kernel_rfl, ?_⟩) bX ?_
              rotate_left
              · intro w' hSw; have s1 := cellT cz2 hSw; have s2 := cellT cy2 hSw; have s3 := cellT gz hSw; have s4 := cellT gy hSw; go_simp; try with_reducible rfl
              try simp only [Act.put, List.setIfInBounds_toArray, List.set_cons_zero, List.set_cons_succ]
              refine wpAnyH_done (by kernel_rfl) ?_ _
              refine NoPanic.normal ?_
              try simp only [Act.put, List.setIfInBounds_toArray, List.set_cons_zero, List.set_cons_succ]
              obtain ⟨V9, hV9⟩ : ∃ V9, wr.drew = V9 := ⟨_, rfl⟩
              have HB9 : Hid (Below W6.heap.size W6 V9) := hV9 ▸ HB.out.drew
              rw [hV9]
              clear bX cz2 cy2 gz gy hne hd1 HB hV9
              have zx := HZ.out _ (to_call HXX.out.2.2.2 HB9.out)
              have zy := HXX.out.2.2.1.later HB9.out
              have hkg : k < z.gn := by rw [← HGD.out.2.2.dg]; exact hkd
              have hig : i < y.gn := by rw [HST.out.1.gn]; exact h1
              rcases zx.g.cells with h0 | ⟨zgb, zgo, ezg, hzg⟩
              · omega
              rcases zy.g.cells with h0 | ⟨ygb, ygo, eyg, hyg⟩
              · omega
              have gzg := hzg k hkg
              have gyg := hyg i hig
              have rx := zx.g.each k hkg
              have ry := zy.g.each i hig
              rw [HGY.out] at ry
              have lx := rx.length
              have ly := ry.length
              rw [List.length_map] at ly
              have hfx := HGD.out.2.2.fin.g k
              have hln : (z.gs[k]?.getD []).length = n := by rw [HGD.out.2.2.gl k hkd]; exact HN.out
              rw [hln] at lx ly
              obtain ⟨us, hus⟩ : ∃ us, z.gs[k]?.getD [] = us := ⟨_, rfl⟩
              rw [hus] at rx ry hfx
              obtain ⟨x1, ex1⟩ : ∃ t, (z.gv k).1 = t := ⟨_, rfl⟩
              obtain ⟨x3, ex3⟩ : ∃ t, (z.gv k).2.2 = t := ⟨_, rfl⟩
              obtain ⟨y1, ey1⟩ : ∃ t, (y.gv i).1 = t := ⟨_, rfl⟩
              obtain ⟨y3, ey3⟩ : ∃ t, (y.gv i).2.2 = t := ⟨_, rfl⟩
              rw [ex1, ex3, ← lx] at rx gzg
              rw [ey1, ey3, ← ly] at ry gyg
              have HXG : Hid (RdF V9 x1 n x3 us ∧ RdF V9 y1 n y3 (us.map plainM) ∧ ∀ j : Nat, Fin (us[j]?.getD 0)) := ⟨rx, ry, hfx⟩
              have cz2 : V9.cell? ⟨w.heap.size, 2, none⟩ = some (.slice z.io z.dn z.dc) := cellT (cellAtJ HXX.out.1 2 _ rfl) HB9.out
              have cz3 : V9.cell? ⟨w.heap.size, 3, none⟩ = some (.slice (some ⟨zgb, zgo, none⟩) z.gn z.gc) := by rw [← ezg]; exact cellT (cellAtJ HXX.out.1 3 _ rfl) HB9.out
              have cy3 : V9.cell? ⟨D, 3, none⟩ = some (.slice (some ⟨ygb, ygo, none⟩) y.gn y.gc) := by rw [← eyg]; exact cellT (cellAtJ HXX.out.2.1 3 _ rfl) HB9.out
              have hkn : ((k : Int) == (z.dn : Int)) = false := by rw [beq_eq_false_iff_ne]; omega
              have hkg' : (k : Int) < (z.gn : Int) := by omega
              have hig' : (i : Int) < (y.gn : Int) := by omega
              clear hzg hyg zx zy rx ry lx ly hfx hus ex1 ex3 ey1 ey3 ezg eyg hln
              go_upto_region 19 with fail
              have bX : Below V9.heap.size V9 V9.drew := (Below.refl _ _).drew
              refine wp_region_noPanic ?_
              refine wp_region_held_drew (S := (fun V => Below V9.heap.size V9 V)) (by kernel_rfl) bX (fun _ => ?_)
              refine takeH 86 (i := 0) (v := ?_) rfl rfl (by kernel_rfl) (by kernel_rfl) (by kernel_rfl) (fun _ _ _ h => h) (Or.inl ⟨by kernel_rfl, ?_⟩) bX ?_
              rotate_left
              · intro w' hSw; have s1 := cellT cz2 hSw; have s2 := cellT cz3 hSw; have s3 := cellT cy3 hSw; have s4 := cellT gzg hSw; have s5 := cellT gyg hSw; go_simp; try with_reducible rfl
              try simp only [Act.put, List.setIfInBounds_toArray, List.set_cons_zero, List.set_cons_succ]
              refine takeH 87 (i := 1) (v := ?_) rfl rfl (by kernel_rfl) (by kernel_rfl) (by kernel_rfl) (fun _ _ _ h => h) (Or.inl ⟨by kernel_rfl, ?_⟩) bX ?_
              rotate_left
              · intro w' hSw; have s1 := cellT cz2 hSw; have s2 := cellT cz3 hSw; have s3 := cellT cy3 hSw; have s4 := cellT gzg hSw; have s5 := cellT gyg hSw; go_simp; try with_reducible rfl
              try simp only [Act.put, List.setIfInBounds_toArray, List.set_cons_zero, List.set_cons_succ]
              refine takeH 88 (i := 2) (v := ?_) rfl rfl (by kernel_rfl) (by kernel_rfl) (by kernel_rfl) (fun _ _ _ h => h) (Or.inl ⟨by kernel_rfl, ?_⟩) bX ?_
              rotate_left
              · intro w' hSw; have s1 := cellT cz2 hSw; have s2 := cellT cz3 hSw; have s3 := cellT cy3 hSw; have s4 := cellT gzg hSw; have s5 := cellT gyg hSw; go_simp; try with_reducible rfl
              try simp only [Act.put, List.setIfInBounds_toArray, List.set_cons_zero, List.set_cons_succ]
              refine takeH 89 (i := 3) (v := ?_) rfl rfl (by kernel_rfl) (by kernel_rfl) (by kernel_rfl) (fun _ _ _ h => h) (Or.inl ⟨by kernel_rfl, ?_⟩) bX ?_
              rotate_left
              · intro w' hSw; have s1 := cellT cz2 hSw; have s2 := cellT cz3 hSw; have s3 := cellT cy3 hSw; have s4 := cellT gzg hSw; have s5 := cellT gyg hSw; go_simp; try with_reducible rfl
              try simp only [Act.put, List.setIfInBounds_toArray, List.set_cons_zero, List.set_cons_succ]
              refine takeH 90 (i := 4) (v := ?_) rfl rfl (by kernel_rfl) (by kernel_rfl) (by kernel_rfl) (fun _ _ _ h => h) (Or.inl ⟨by kernel_rfl, ?_⟩) bX ?_
              rotate_left
              · intro w' hSw; have s1 := cellT cz2 hSw; have s2 := cellT cz3 hSw; have s3 := cellT cy3 hSw; have s4 := cellT gzg hSw; have s5 := cellT gyg hSw; go_simp; try with_reducible rfl
              try simp only [Act.put, List.setIfInBounds_toArray, List.set_cons_zero, List.set_cons_succ]
              refine takeH 91 (i := 5) (v := ?_) rfl rfl (by kernel_rfl) (by kernel_rfl) (by kernel_rfl) (fun _ _ _ h => h) (Or.inl ⟨by kernel_rfl, ?_⟩) bX ?_
              rotate_left
              · intro w' hSw; have s1 := cellT cz2 hSw; have s2 := cellT cz3 hSw; have s3 := cellT cy3 hSw; have s4 := cellT gzg hSw; have s5 := cellT gyg hSw; go_simp; try with_reducible rfl
              try simp only [Act.put, List.setIfInBounds_toArray, List.set_cons_zero, List.set_cons_succ]
              refine takeH 92 (i := 6) (v := ?_) rfl rfl (by kernel_rfl) (by kernel_rfl) (by kernel_rfl) (fun _ _ _ h => h) (Or.inl ⟨by kernel_rfl, ?_⟩) bX ?_
              rotate_left
              · intro w' hSw; have s1 := cellT cz2 hSw; have s2 := cellT cz3 hSw; have s3 := cellT cy3 hSw; have s4 := cellT gzg hSw; have s5 := cellT gyg hSw; go_simp; try with_reducible rfl
              try simp only [Act.put, List.setIfInBounds_toArray, List.set_cons_zero, List.set_cons_succ]
              refine takeH 93 (i := 7) (v := ?_) rfl rfl (by kernel_rfl) (by kernel_rfl) (by kernel_rfl) (fun _ _ _ h => h) (Or.inl ⟨by kernel_rfl, ?_⟩) bX ?_
              rotate_left
              · intro w' hSw; have s1 := cellT cz2 hSw; have s2 := cellT cz3 hSw; have s3 := cellT cy3 hSw; have s4 := cellT gzg hSw; have s5 := cellT gyg hSw; go_simp; try with_reducible rfl
              try simp only [Act.put, List.setIfInBounds_toArray, List.set_cons_zero, List.set_cons_succ]
              refine takeH 94 (i := 8) (v := ?_) rfl rfl (by kernel_rfl) (by kernel_rfl) (by kernel_rfl) (fun _ _ _ h => h) (Or.inl ⟨by kernel_rfl, ?_⟩) bX ?_
              rotate_left
              · intro w' hSw; have s1 := cellT cz2 hSw; have s2 := cellT cz3 hSw; have s3 := cellT cy3 hSw; have s4 := cellT gzg hSw; have s5 := cellT gyg hSw; go_simp; try with_reducible rfl
              try simp only [Act.put, List.setIfInBounds_toArray, List.set_cons_zero, List.set_cons_succ]
              refine takeH 95 (i := 9) (v := ?_) rfl rfl (by kernel_rfl) (by kernel_rfl) (by kernel_rfl) (fun _ _ _ h => h) (Or.inl ⟨by kernel_rfl, ?_⟩) bX ?_
              rotate_left
              · intro w' hSw; have s1 := cellT cz2 hSw; have s2 := cellT cz3 hSw; have s3 := cellT cy3 hSw; have s4 := cellT gzg hSw; have s5 := cellT gyg hSw; go_simp; try with_reducible rfl
              try simp only [Act.put, List.setIfInBounds_toArray, List.set_cons_zero, List.set_cons_succ]
              refine takeH 96 (i := 10) (v := ?_) rfl rfl (by kernel_rfl) (by kernel_rfl) (by kernel_rfl) (fun _ _ _ h => h) (Or.inl ⟨by kernel_rfl, ?_⟩) bX ?_
              rotate_left
              · intro w' hSw; have s1 := cellT cz2 hSw; have s2 := cellT cz3 hSw; have s3 := cellT cy3 hSw; have s4 := cellT gzg hSw; have s5 := cellT gyg hSw; go_simp; try with_reducible rfl
              try simp only [Act.put, List.setIfInBounds_toArray, List.set_cons_zero, List.set_cons_succ]
              refine takeH 97 (i := 11) (v := ?_) rfl rfl (by kernel_rfl) (by kernel_rfl) (by kernel_rfl) (fun _ _ _ h => h) (Or.inl ⟨by kernel_rfl, ?_⟩) bX ?_
              rotate_left
              · intro w' hSw; have s1 := cellT cz2 hSw; have s2 := cellT cz3 hSw; have s3 := cellT cy3 hSw; have s4 := cellT gzg hSw; have s5 := cellT gyg hSw; go_simp; try with_reducible rfl
              try simp only [Act.put, List.setIfInBounds_toArray, List.set_cons_zero, List.set_cons_succ]
              refine takeH 98 (i := 12) (v := ?_) rfl rfl (by kernel_rfl) (by kernel_rfl) (by kernel_rfl) (fun _ _ _ h => h) (Or.inl ⟨by kernel_rfl, ?_⟩) bX ?_
              rotate_left
              · intro w' hSw; have s1 := cellT cz2 hSw; have s2 := cellT cz3 hSw; have s3 := cellT cy3 hSw; have s4 := cellT gzg hSw; have s5 := cellT gyg hSw; go_simp; try with_reducible rfl
              try simp only [Act.put, List.setIfInBounds_toArray, List.set_cons_zero, List.set_cons_succ]
              refine takeH 99 (i := 13) (v := ?_) rfl rfl (by kernel_rfl) (by kernel_rfl) (by kernel_rfl) (fun _ _ _ h => h) (Or.inl ⟨by kernel_rfl, ?_⟩) bX ?_
              rotate_left
              · intro w' hSw; have s1 := cellT cz2 hSw; have s2 := cellT cz3 hSw; have s3 := cellT cy3 hSw; have s4 := cellT gzg hSw; have s5 := cellT gyg hSw; go_simp; try with_reducible rfl
              try simp only [Act.put, List.setIfInBounds_toArray, List.set_cons_zero, List.set_cons_succ]
              refine takeH 100 (i := 14) (v := ?_) rfl rfl (by kernel_rfl) (by kernel_rfl) (by kernel_rfl) (fun _ _ _ h => h) (Or.inl ⟨by kernel_rfl, ?_⟩) bX ?_
              rotate_left
              · intro w' hSw; have s1 := cellT cz2 hSw; have s2 := cellT cz3 hSw; have s3 := cellT cy3 hSw; have s4 := cellT gzg hSw; have s5 := cellT gyg hSw; go_simp; try with_reducible rfl
              try simp only [Act.put, List.setIfInBounds_toArray, List.set_cons_zero, List.set_cons_succ]
              refine takeH 101 (i := 15) (v := ?_) rfl rfl (by kernel_rfl) (by kernel_rfl) (by kernel_rfl) (fun _ _ _ h => h) (Or.inl ⟨by kernel_rfl, ?_⟩) bX ?_
              rotate_left
              · intro w' hSw; have s1 := cellT cz2 hSw; have s2 := cellT cz3 hSw; have s3 := cellT cy3 hSw; have s4 := cellT gzg hSw; have s5 := cellT gyg hSw; go_simp; try with_reducible rfl
              try simp only [Act.put, List.setIfInBounds_toArray, List.set_cons_zero, List.set_cons_succ]
              refine wpAnyH_ready (rs := [16]) (by kernel_rfl) (by simp) ?_
              refine consH _ rfl (hopCd 102 rfl (by kernel_rfl) rfl (by kernel_rfl) (Calls.mono (alikeT_any x1 y1 n x3 y3 us _ (HXG.out.1.later (Below.refl _ V9).drew) (HXG.out.2.1.later (Below.refl _ V9).drew) HXG.out.2.2) ?_)) AllReadyH.nil
              rintro e w7 ⟨rfl, b7⟩
              have bX7 : Below V9.heap.size V9 w7 := (Below.refl _ V9).drew.trans b7
              refine ⟨_, rfl, bX7, ?_⟩
              try simp only [Act.put, List.setIfInBounds_toArray, List.set_cons_zero, List.set_cons_succ]
              refine takeH 103 (i := 17) (v := .bool false) rfl rfl (by kernel_rfl) (by kernel_rfl) (by kernel_rfl) (fun _ _ _ h => h) (Or.inl ⟨by kernel_rfl, fun w' _ => by kernel_rfl⟩) bX7 ?_
              try simp only [Act.put, List.setIfInBounds_toArray, List.set_cons_zero, List.set_cons_succ]
              refine takeH 104 (i := 18) (v := .bool false) rfl rfl (by kernel_rfl) (by kernel_rfl) (by kernel_rfl) (fun _ _ _ h => h) (Or.inl ⟨by kernel_rfl, fun w' _ => by kernel_rfl⟩) bX7 ?_
              try simp only [Act.put, List.setIfInBounds_toArray, List.set_cons_zero, List.set_cons_succ]
              refine wpAnyH_done (by kernel_rfl) ?_ _
              refine NoPanic.normal ?_
              try simp only [Act.put, List.setIfInBounds_toArray, List.set_cons_zero, List.set_cons_succ]
              have HB2 : Hid (Below W6.heap.size W6 w7) := to_call HB9.out bX7
              clear bX bX7 b7 cz2 cz3 cy3 gzg gyg HXG hkn HB9
              go_wp2_with fail
              go_roundg q
              case measure => omega
              case rel => exact ⟨i + 1, k, rfl, by go_num, by have := HIG.out; omega, HKN, HB2⟩
        · have he1 : decide ((i : Int) < (low : Int)) = false := decide_eq_false (by omega)
          have he2 : decide (i < low) = false := decide_eq_false (by omega)
          clear hi HK
          have HZb : Hid (wr.heap[w.heap.size]? = some (.cells (zRow z) 26)) := kept HB.out HXX.out.1
          have HWB : Hid (Below w.heap.size w wr) := to_call HXX.out.2.2.2 HB.out
          have HDR : Hid _ := directionT_any z n (by rw [HGD.out.2.2.N, HN.out]) (by rw [← HN.out]; exact HGD.out.2.2.n2) ao l c ds 1074 rfl wr (HS.out _ HWB.out) HSB.out
          go_wp2_with (first | (refine wpList_load_row (by kernel_rfl) 26 _ (by rfl) w.heap.size _ (by rfl) HZb.out _ Tryz.underlying26 rfl 6 Tryz.infoZ (by rfl) ?_))
          refine Calls.mono HDR.out ?_
          rintro e wd ⟨v, Bd, rfl, hr, bd⟩
          have HB9 : Hid (Below W6.heap.size W6 wd) := to_call HB.out bd
          have HD9 : Hid (wd.heap[w.heap.size]? = some (.cells (zRow z) 26) ∧ wd.heap[D]? = some (.cells (zRow y) 26)) := ⟨kept HB9.out HXX.out.1, kept HB9.out HXX.out.2.1⟩
          have HZD : Hid (ZR wd z) := HZ.out _ (to_call HXX.out.2.2.2 HB9.out)
          have HYD : Hid (ZR wd y) := HXX.out.2.2.1.later HB9.out
          have ec : z.cn = n := by rw [HGD.out.2.2.cn]; exact HN.out
          have ey : y.cn = n := by rw [HWY.out.cn, HST.out.1.rn]; exact HN.out
          have HCC : Hid (RdF wd z.co n z.cc z.cs ∧ RdF wd y.co n y.cc (z.cs.map plainM) ∧ ∀ j : Nat, Fin (z.cs[j]?.getD 0)) := by
            have h8 := HZD.out.c
            have h9 := HYD.out.c
            rw [ec] at h8
            rw [ey, HST.out.2.1] at h9
            exact ⟨h8, h9, HGD.out.2.2.fin.c⟩
          have cz1 : wd.cell? ⟨w.heap.size, 1, none⟩ = some (.slice z.co n z.cc) := by rw [← ec]; exact cellAtJ HD9.out.1 1 _ rfl
          have cy1 : wd.cell? ⟨D, 1, none⟩ = some (.slice y.co n y.cc) := by rw [← ey]; exact cellAtJ HD9.out.2 1 _ rfl
          have HSZ : Hid (∀ W', Below wd.heap.size wd W' → Calls Tryz.prog 12 #[.agg (zRow z), v] W' fun e w' => ∃ v', e = .returned v' ∧ NumC w' v' (1074 + 1074) 2100 (supV (dirL ds n) z.cs z.rs z.gs z.rn) ∧ Below W'.heap.size W' w') := fun W' hb => supportT_any z W' (HZD.out.later hb) HGD.out.2.2 HZW.out.gl (dirL ds n) v Bd 1074 rfl (hr.later hb) (by rw [dirL_len]; exact HN.out.symm) (dirL_fin ds n)
          have HSY : Hid (∀ W', Below wd.heap.size wd W' → Calls Tryz.prog 12 #[.agg (zRow y), v] W' fun e w' => ∃ v', e = .returned v' ∧ NumC w' v' (1074 + 1074) 2100 (supV (dirL ds n) y.cs y.rs y.gs y.rn) ∧ Below W'.heap.size W' w') := fun W' hb => supportT_any y W' (HYD.out.later hb) HWY.out HYW.out.gl (dirL ds n) v Bd 1074 rfl (hr.later hb) (by rw [dirL_len, HST.out.1.rn]; exact HN.out.symm) (dirL_fin ds n)
          have hsp : supV (dirL ds n) z.cs z.rs z.gs z.rn ≤ supV (dirL ds n) y.cs y.rs y.gs y.rn := by
            rw [HST.out.1.rn]
            exact HST.out.1.more HST.out.2.1 HZD.out.g.length (by rw [HYD.out.g.length]; exact HST.out.1.gn) _
          obtain ⟨sg, hsg⟩ : ∃ sg, sgi (supV (dirL ds n) y.cs y.rs y.gs y.rn - supV (dirL ds n) z.cs z.rs z.gs z.rn) = sg := ⟨_, rfl⟩
          have hsg0 : 0 ≤ sg := by
            rw [← hsg]
            unfold sgi
            split
            · omega
            · split <;> omega
          have hsg1 : decide ((0 : Int) ≤ sg) = true := decide_eq_true hsg0
          clear hsp hr bd HDR HB he1 he2 cy2 HZb HWB
          go_upto_region 22 with fail
          have bX : Below wd.heap.size wd wd.drew := (Below.refl _ _).drew
          refine wp_region_noPanic ?_
          refine wp_region_held_drew (S := (fun V => Below wd.heap.size wd V)) (by kernel_rfl) bX (fun _ => ?_)
          refine takeH 108 (i := 0) (v := ?_) rfl rfl (by kernel_rfl) (by kernel_rfl) (by kernel_rfl) (fun _ _ _ h => h) (Or.inl ⟨by kernel_rfl, ?_⟩) bX ?_
          rotate_left
          · intro w' hSw; have s1 := cellT cz1 hSw; have s2 := cellT cy1 hSw; go_simp; try with_reducible rfl
          try simp only [Act.put, List.setIfInBounds_toArray, List.set_cons_zero, List.set_cons_succ]
          refine takeH 109 (i := 1) (v := ?_) rfl rfl (by kernel_rfl) (by kernel_rfl) (by kernel_rfl) (fun _ _ _ h => h) (Or.inl ⟨by kernel_rfl, ?_⟩) bX ?_
          rotate_left
          · intro w' hSw; have s1 := cellT cz1 hSw; have s2 := cellT cy1 hSw; go_simp; try with_reducible rfl
          try simp only [Act.put, List.setIfInBounds_toArray, List.set_cons_zero, List.set_cons_succ]
          refine takeH 110 (i := 2) (v := ?_) rfl rfl (by kernel_rfl) (by kernel_rfl) (by kernel_rfl) (fun _ _ _ h => h) (Or.inl ⟨by kernel_rfl, ?_⟩) bX ?_
          rotate_left
          · intro w' hSw; have s1 := cellT cz1 hSw; have s2 := cellT cy1 hSw; go_simp; try with_reducible rfl
          try simp only [Act.put, List.setIfInBounds_toArray, List.set_cons_zero, List.set_cons_succ]
          refine takeH 111 (i := 3) (v := ?_) rfl rfl (by kernel_rfl) (by kernel_rfl) (by kernel_rfl) (fun _ _ _ h => h) (Or.inl ⟨by kernel_rfl, ?_⟩) bX ?_
          rotate_left
          · intro w' hSw; have s1 := cellT cz1 hSw; have s2 := cellT cy1 hSw; go_simp; try with_reducible rfl
          try simp only [Act.put, List.setIfInBounds_toArray, List.set_cons_zero, List.set_cons_succ]
          refine wpAnyH_ready (rs := [4]) (by kernel_rfl) (by simp) ?_
          refine consH _ rfl (hopCd 112 rfl (by kernel_rfl) rfl (by kernel_rfl) (Calls.mono (alikeT_any z.co y.co n z.cc y.cc z.cs _ (HCC.out.1.later bX) (HCC.out.2.1.later bX) HCC.out.2.2) ?_)) AllReadyH.nil
          rintro e V1 ⟨rfl, hb⟩
          have bX1 : Below wd.heap.size wd V1 := to_call bX hb
          clear hb
          refine ⟨_, rfl, bX1, ?_⟩
          try simp only [Act.put, List.setIfInBounds_toArray, List.set_cons_zero, List.set_cons_succ]
          refine takeH 113 (i := 5) (v := .bool true) rfl rfl (by kernel_rfl) (by kernel_rfl) (by kernel_rfl) (fun _ _ _ h => h) (Or.inl ⟨by kernel_rfl, fun w' _ => by kernel_rfl⟩) bX1 ?_
          try simp only [Act.put, List.setIfInBounds_toArray, List.set_cons_zero, List.set_cons_succ]
          refine takeH 114 (i := 6) (v := .agg (zRow y)) rfl rfl (by kernel_rfl) (by kernel_rfl) (by kernel_rfl) (fun _ _ _ h => h) (Or.inl ⟨by kernel_rfl, fun w' hSw => ex_loadRT _ 26 _ rfl D (by kernel_rfl) w' _ (kept hSw HD9.out.2) _ Tryz.underlying26 rfl 6 Tryz.infoZ rfl⟩) bX1 ?_
          try simp only [Act.put, List.setIfInBounds_toArray, List.set_cons_zero, List.set_cons_succ]
          refine takeH 115 (i := 7) (v := ?_) rfl rfl (by kernel_rfl) (by kernel_rfl) (by kernel_rfl) (fun _ _ _ h => h) (Or.inl ⟨by kernel_rfl, ?_⟩) bX1 ?_
          rotate_left
          · intro w' hSw; have s1 := cellT cz1 hSw; have s2 := cellT cy1 hSw; go_simp; try with_reducible rfl
          try simp only [Act.put, List.setIfInBounds_toArray, List.set_cons_zero, List.set_cons_succ]
          refine takeH 117 (i := 9) (v := .agg (zRow z)) rfl rfl (by kernel_rfl) (by kernel_rfl) (by kernel_rfl) (fun _ _ _ h => h) (Or.inl ⟨by kernel_rfl, fun w' hSw => ex_loadRT _ 26 _ rfl w.heap.size (by kernel_rfl) w' _ (kept hSw HD9.out.1) _ Tryz.underlying26 rfl 6 Tryz.infoZ rfl⟩) bX1 ?_
          try simp only [Act.put, List.setIfInBounds_toArray, List.set_cons_zero, List.set_cons_succ]
          refine takeH 118 (i := 10) (v := ?_) rfl rfl (by kernel_rfl) (by kernel_rfl) (by kernel_rfl) (fun _ _ _ h => h) (Or.inl ⟨by kernel_rfl, ?_⟩) bX1 ?_
          rotate_left
          · intro w' hSw; have s1 := cellT cz1 hSw; have s2 := cellT cy1 hSw; go_simp; try with_reducible rfl
          try simp only [Act.put, List.setIfInBounds_toArray, List.set_cons_zero, List.set_cons_succ]
          refine wpAnyH_ready (rs := [8]) (by kernel_rfl) (by simp) ?_
          refine consH _ rfl (hopCd 116 rfl (by kernel_rfl) rfl (by kernel_rfl) (Calls.mono (HSY.out _ bX1) ?_)) AllReadyH.nil
          rintro e V2 ⟨v2, rfl, hz2, hb⟩
          obtain ⟨n2, o2, t2, p2, x2, hv2⟩ := hz2.form
          subst hv2
          have bX2 : Below wd.heap.size wd V2 := to_call bX1 hb
          clear hb
          refine ⟨_, rfl, bX2, ?_⟩
          try simp only [Act.put, List.setIfInBounds_toArray, List.set_cons_zero, List.set_cons_succ]
          refine wpAnyH_ready (rs := [11]) (by kernel_rfl) (by simp) ?_
          refine consH _ rfl (hopCd 119 rfl (by kernel_rfl) rfl (by kernel_rfl) (Calls.mono (HSZ.out _ bX2) ?_)) AllReadyH.nil
          rintro e V3 ⟨v3, rfl, hz3, hb⟩
          obtain ⟨n3, o3, t3, p3, x3, hv3⟩ := hz3.form
          subst hv3
          have hz2 := hz2.later hb
          have bX3 : Below wd.heap.size wd V3 := to_call bX2 hb
          clear hb
          refine ⟨_, rfl, bX3, ?_⟩
          try simp only [Act.put, List.setIfInBounds_toArray, List.set_cons_zero, List.set_cons_succ]
          refine wpAnyH_ready (rs := [12]) (by kernel_rfl) (by simp) ?_
          refine consH _ rfl (hopCd 120 rfl (by kernel_rfl) rfl (by kernel_rfl) (Calls.mono (cmpZ_any _ _ (1074 + 1074) 2100 _ _ _ hz2.toZ hz3.toZ (by omega) (by omega)) ?_)) AllReadyH.nil
          rintro e V4 ⟨rfl, hb⟩
          rw [hsg]
          have bX4 : Below wd.heap.size wd V4 := to_call bX3 hb
          clear hb
          refine ⟨_, rfl, bX4, ?_⟩
          try simp only [Act.put, List.setIfInBounds_toArray, List.set_cons_zero, List.set_cons_succ]
          refine takeH 121 (i := 13) (v := .bool true) rfl rfl (by kernel_rfl) (by kernel_rfl) (by kernel_rfl) (fun _ _ _ h => h) (Or.inl ⟨by kernel_rfl, ?_⟩) bX4 ?_
          · intro w' hSw; go_simp; try with_reducible rfl
          try simp only [Act.put, List.setIfInBounds_toArray, List.set_cons_zero, List.set_cons_succ]
          refine takeH 122 (i := 14) (v := .bool true) rfl rfl (by kernel_rfl) (by kernel_rfl) (by kernel_rfl) (fun _ _ _ h => h) (Or.inl ⟨by kernel_rfl, ?_⟩) bX4 ?_
          · intro w' hSw; go_simp; try with_reducible rfl
          try simp only [Act.put, List.setIfInBounds_toArray, List.set_cons_zero, List.set_cons_succ]
          refine takeH 6 (i := 15) (v := .bool true) rfl rfl (by kernel_rfl) (by kernel_rfl) (by kernel_rfl) (fun _ _ _ h => h) (Or.inl ⟨by kernel_rfl, ?_⟩) bX4 ?_
          · intro w' hSw; go_simp; try with_reducible rfl
          try simp only [Act.put, List.setIfInBounds_toArray, List.set_cons_zero, List.set_cons_succ]
          refine wpAnyH_done (by kernel_rfl) ?_ _
          refine NoPanic.normal ?_
          try simp only [Act.put, List.setIfInBounds_toArray, List.set_cons_zero, List.set_cons_succ]
          have HB4 : Hid (Below w.heap.size w V4) := to_call HXX.out.2.2.2 (to_call HB9.out bX4)
          go_wp2_with fail
          go_ret
          exact ⟨rfl, HB4.out⟩
end Go.Proofs.YtifdicafanglaaaGreat
