import Derived.Test.YthmhgpadinecfaaGreatRBf
set_option maxRecDepth 100000
set_option maxHeartbeats 8000000
set_option linter.unusedVariables false
set_option linter.unusedSimpArgs false
namespace Go.Proofs.YthmhgpadinecfaaGreat
open Go.RowKit Go.Shelf
theorem reduceF_any (a : Nat) (ha : a = 1166) (z : ZD) (w : World) (hz : ZR w z) (hd : z.dn <= 1050000) (most : Int) (hm1 : -9223372036854775808 <= most) (hm2 : most <= 9223372036854775807) :
  Calls Tryz.prog 11 #[.agg #[.int .i64 z.N, .slice z.co z.cn z.cc, .slice z.io z.dn z.dc, .slice z.go z.gn z.gc, .slice z.ro z.rn z.rc, .bool z.bad], .int .i64 most] w fun e w' => ∃ y : ZD, e = .returned (.agg (zRow y)) /\ ZR w' y /\ ZW y /\ TyG w' y /\ RdC z most y /\ (y.bad = false -> FrY w' w.heap.size y) /\ Below w.heap.size w w' := by
 have HZ : Hid (∀ W', Below w.heap.size w W' -> ZR W' z) := fun W' hb => hz.later hb
 have HCk : Hid (∀ W', Below w.heap.size w W' -> Calls Tryz.prog 31 #[.agg #[.int .i64 z.N, .slice z.co z.cn z.cc, .slice z.io z.dn z.dc, .slice z.go z.gn z.gc, .slice z.ro z.rn z.rc, .bool z.bad]] W' fun e w' => e = .returned (.int .i64 (if checkB z then 0 else 100)) /\ Below W'.heap.size W' w') := fun W' hb => check_any z W' (hz.later hb)
 have hWH : wholeB z = true -> WhF z := fun h => WhF.of hz hd h
 have HHA : Hid (a = 1166) := ha
 have X0 : Below w.heap.size w ((w.alloc (.cells #[.int .i64 z.N, .slice z.co z.cn z.cc, .slice z.io z.dn z.dc, .slice z.go z.gn z.gc, .slice z.ro z.rn z.rc, .bool z.bad] 26)).alloc (.cells #[.int .i64 0, .slice none 0 0, .slice none 0 0, .slice none 0 0, .slice none 0 0, .bool false] 26)) := ((Below.refl _ w).alloc (Nat.le_refl _) _).alloc (by simp only [alloc_size]; omega) _
 have Y0 : ((w.alloc (.cells #[.int .i64 z.N, .slice z.co z.cn z.cc, .slice z.io z.dn z.dc, .slice z.go z.gn z.gc, .slice z.ro z.rn z.rc, .bool z.bad] 26)).alloc (.cells #[.int .i64 0, .slice none 0 0, .slice none 0 0, .slice none 0 0, .slice none 0 0, .bool false] 26)).heap[w.heap.size]? = some (.cells #[.int .i64 z.N, .slice z.co z.cn z.cc, .slice z.io z.dn z.dc, .slice z.go z.gn z.gc, .slice z.ro z.rn z.rc, .bool z.bad] 26) := alloc_kept (heap_alloc_new w _) _
 have Y1 : ((w.alloc (.cells #[.int .i64 z.N, .slice z.co z.cn z.cc, .slice z.io z.dn z.dc, .slice z.go z.gn z.gc, .slice z.ro z.rn z.rc, .bool z.bad] 26)).alloc (.cells #[.int .i64 0, .slice none 0 0, .slice none 0 0, .slice none 0 0, .slice none 0 0, .bool false] 26)).heap[w.heap.size + 1]? = some (.cells #[.int .i64 0, .slice none 0 0, .slice none 0 0, .slice none 0 0, .slice none 0 0, .bool false] 26) := heap_at _ _ _ (by simp only [alloc_size])
 clear hz ha
 go_enter Tryz.func11, Tryz.ntmps11
 go_upto_region 1 with fail
 obtain ⟨X, hX⟩ : ∃ X, ((w.alloc (.cells #[.int .i64 z.N, .slice z.co z.cn z.cc, .slice z.io z.dn z.dc, .slice z.go z.gn z.gc, .slice z.ro z.rn z.rc, .bool z.bad] 26)).alloc (.cells #[.int .i64 0, .slice none 0 0, .slice none 0 0, .slice none 0 0, .slice none 0 0, .bool false] 26)) = X := ⟨_, rfl⟩
 rw [hX] at X0 Y0 Y1 ⊢
 have P0 : Hid (Below w.heap.size w X /\ X.heap[w.heap.size]? = some (.cells #[.int .i64 z.N, .slice z.co z.cn z.cc, .slice z.io z.dn z.dc, .slice z.go z.gn z.gc, .slice z.ro z.rn z.rc, .bool z.bad] 26) /\ X.heap[w.heap.size + 1]? = some (.cells #[.int .i64 0, .slice none 0 0, .slice none 0 0, .slice none 0 0, .slice none 0 0, .bool false] 26)) := ⟨X0, Y0, Y1⟩
 clear hX X0 Y0 Y1
 cases hck : checkB z with
 | false =>
  have HC2 : Hid (checkB z = false) := hck
  rw [hck] at HCk
  simp only [Bool.false_eq_true, if_false] at HCk
  clear hck
  go_wp2_with (first
   | (refine wpList_load_row (by rfl) 26 _ (by rfl) w.heap.size _ (by rfl) P0.out.2.1 _ Tryz.underlying26 rfl 6 Tryz.infoZ (by rfl) ?_)
   | (go_at_call 31; refine Calls.mono (HCk.out _ P0.out.1) ?_; rintro e w1 ⟨rfl, b1⟩)
   | (go_at_call 33; refine Calls.mono (badT_any _ _) ?_; rintro e w3 ⟨rfl, b3⟩)
   | (refine wpList_store_row (by rfl) 26 _ _ (by rfl) w w.heap.size (w.heap.size + 1) #[.int .i64 0, .slice none 0 0, .slice none 0 0, .slice none 0 0, .slice none 0 0, .bool true] _ (by rfl) (by rfl) (kept b3 (kept b1 P0.out.2.2)) (to_call (to_call P0.out.1 b1) b3) (by omega) 6 Tryz.infoZ (by rfl) (by rfl) (oneZ _ _ _ _ _ rfl rfl rfl rfl _) ?_; intro W9 e9 b9 s9 o9))
  refine bodyPost_ret (res_oneJ _ 4 26 (by kernel_rfl) _ _ (w.heap.size + 1) _ (by rfl) _ Tryz.underlying26 rfl 6 Tryz.infoZ rfl e9) rfl ?_
  exact ⟨badN 0, rfl, badN_ZR _ _, badN_ZW _, badN_Ty _ _, ⟨.inl ⟨HC2.out, rfl⟩⟩, (fun h => by cases h), b9⟩
 | true =>
  have HC2 : Hid (checkB z = true) := hck
  rw [hck] at HCk
  simp only [if_true] at HCk
  clear hck
  go_upto_region 3 with (first
   | (refine wpList_load_row (by rfl) 26 _ (by rfl) w.heap.size _ (by rfl) P0.out.2.1 _ Tryz.underlying26 rfl 6 Tryz.infoZ (by rfl) ?_)
   | (go_at_call 31; refine Calls.mono (HCk.out _ P0.out.1) ?_; rintro e w1 ⟨rfl, b1⟩))
  have P1 : Hid (Below w.heap.size w w1 /\ w1.heap[w.heap.size]? = some (.cells #[.int .i64 z.N, .slice z.co z.cn z.cc, .slice z.io z.dn z.dc, .slice z.go z.gn z.gc, .slice z.ro z.rn z.rc, .bool z.bad] 26) /\ w1.heap[w.heap.size + 1]? = some (.cells #[.int .i64 0, .slice none 0 0, .slice none 0 0, .slice none 0 0, .slice none 0 0, .bool false] 26)) := ⟨to_call P0.out.1 b1, kept b1 P0.out.2.1, kept b1 P0.out.2.2⟩
  clear P0 b1 HCk
  obtain ⟨c0, c1, c2, c3, c4, c5⟩ := cells6 P1.out.2.1
  cases hbd : z.bad with
  | true =>
   have HB2 : Hid (z.bad = true) := hbd
   rw [hbd] at c5
   clear hbd hWH
   go_wp2_with (first
    | (go_at_call 33; refine Calls.mono (badT_any _ _) ?_; rintro e w3 ⟨rfl, b3⟩)
    | (refine wpList_store_row (by rfl) 26 _ _ (by rfl) w w.heap.size (w.heap.size + 1) #[.int .i64 z.N, .slice none 0 0, .slice none 0 0, .slice none 0 0, .slice none 0 0, .bool true] _ (by rfl) (by rfl) (kept b3 P1.out.2.2) (to_call P1.out.1 b3) (by omega) 6 Tryz.infoZ (by rfl) (by rfl) (oneZ _ _ _ _ _ rfl rfl rfl rfl _) ?_; intro W9 e9 b9 s9 o9))
   refine bodyPost_ret (res_oneJ _ 4 26 (by kernel_rfl) _ _ (w.heap.size + 1) _ (by rfl) _ Tryz.underlying26 rfl 6 Tryz.infoZ rfl e9) rfl ?_
   exact ⟨badN z.N, rfl, badN_ZR _ _, badN_ZW _, badN_Ty _ _, ⟨.inr (.inl ⟨HC2.out, HB2.out, rfl⟩)⟩, (fun h => by cases h), b9⟩
  | false =>
   have HB2 : Hid (z.bad = false) := hbd
   rw [hbd] at c5
   have hwh : wholeB z = true := by have h9 := HC2.out; unfold checkB at h9; rw [hbd] at h9; simpa using h9
   have HWh : Hid (wholeB z = true) := hwh
   have HW : Hid (WhF z) := hWH hwh
   have hmn := run_maxI most 0
   obtain ⟨mm, hmm⟩ : ∃ mm, max most 0 = mm := ⟨_, rfl⟩
   have hmm1 : 0 <= mm := by omega
   have hmm2 : mm <= 9223372036854775807 := by omega
   rw [hmm] at hmn
   have hsw := sub_wrapT (d := (z.dn : Int)) (m := mm) (by omega) (by omega) hmm1 hmm2
   obtain ⟨mn, hmny⟩ : ∃ mn, (z.dn : Int) - mm = mn := ⟨_, rfl⟩
   rw [hmny] at hsw
   have HMN : Hid ((z.dn : Int) - max most 0 = mn) := by rw [hmm]; exact hmny
   have hdg : z.dn = z.gn := HW.out.dg
   obtain ⟨f, hff⟩ : ∃ f, f = goesF z mn := ⟨_, rfl⟩
   have HPt : Hid (∀ W', Below w.heap.size w W' -> _) := fun W' hb => parted_f a HHA.out z W' (HZ.out W' hb) hdg (by omega) (fun k j => HW.out.fin.g k j) (fun k hk => by rw [HW.out.gl k (by omega)]; have := HW.out.n2; omega) mn (by omega) f hff
   have HFF : Hid (f = goesF z mn) := hff
   clear hwh hWH hbd hmm hff hdg
   go_wp2_with (first | (refine wpList_load_row (by rfl) 26 _ (by rfl) w.heap.size _ (by rfl) P1.out.2.1 _ Tryz.underlying26 rfl 6 Tryz.infoZ (by rfl) ?_))
   refine Calls.mono (HPt.out _ P1.out.1) ?_
   rintro e w2 ⟨vi, vg, vj, vh, rfl, ⟨BG, BK, hG, hK⟩, b2⟩
   have HLT : Hid ((∀ j ∈ pickL f z.gn, j < z.gn) /\ (∀ j ∈ pickL (fun j => !f j) z.gn, j < z.gn) /\ List.Pairwise (· < ·) (pickL f z.gn) /\ (pickL f z.gn).length <= z.gn /\ (pickL (fun j => !f j) z.gn).length <= z.gn) := ⟨pick_lt _ _, pick_lt _ _, pick_rise _ _, pickL_len _ _, pickL_len _ _⟩
   have BW2 : Hid (Below w.heap.size w w2) := to_call P1.out.1 b2
   obtain ⟨io, dc, go, gc, evi, evg, hzG⟩ := hG.zr (HZ.out w2 BW2.out) HLT.out.1
   obtain ⟨jo, jc, ho, hc, evj, evh, hzK⟩ := hK.zr (HZ.out w2 BW2.out) HLT.out.2.1
   have HZG : Hid (∀ W', Below w2.heap.size w2 W' -> ZR W' (pkZ z io dc go gc (pickL f z.gn)) /\ ZR W' (pkZ z jo jc ho hc (pickL (fun j => !f j) z.gn))) := fun W' hb => ⟨hzG.later hb, hzK.later hb⟩
   have ho1 := one_cl hG
   have ho2 := one_cl hK
   rw [evi, evg] at ho1
   rw [evj, evh] at ho2
   rw [evi, evg, evj, evh]
   obtain ⟨lg, hlg⟩ : ∃ l, pickL f z.gn = l := ⟨_, rfl⟩
   obtain ⟨lk, hlk⟩ : ∃ l, pickL (fun j => !f j) z.gn = l := ⟨_, rfl⟩
   have HLG : Hid (pickL f z.gn = lg /\ pickL (fun j => !f j) z.gn = lk) := ⟨hlg, hlk⟩
   rw [hlg, hlk] at HLT HZG ⊢
   rw [hlg] at ho1
   rw [hlk] at ho2
   have P2 : Hid (w2.heap[w.heap.size]? = some (.cells #[.int .i64 z.N, .slice z.co z.cn z.cc, .slice z.io z.dn z.dc, .slice z.go z.gn z.gc, .slice z.ro z.rn z.rc, .bool z.bad] 26) /\ w2.heap[w.heap.size + 1]? = some (.cells #[.int .i64 0, .slice none 0 0, .slice none 0 0, .slice none 0 0, .slice none 0 0, .bool false] 26)) := ⟨kept b2 P1.out.2.1, kept b2 P1.out.2.2⟩
   have HKI : Hid (lk.length = 0 \/ ∀ b off, jo = some ⟨b, off, none⟩ -> b ≠ w.heap.size + 1) := by
    refine .inr fun b off hj hb => ?_
    obtain ⟨cur, hcur⟩ := owns_type hK.i (k := b) (by rw [evj, hj]; rfl)
    rw [hb, P2.out.2] at hcur
    exact absurd (ty_eq hcur) (by decide)
   have HKT : Hid (∀ b off, jo = some ⟨b, off, none⟩ -> ∃ cur, w2.heap[b]? = some (.cells cur 3)) := fun b off hj => owns_type hK.i (k := b) (by rw [evj, hj]; rfl)
   have HKN : Hid (jo = none -> lk.length = 0 /\ jc = 0) := by
    intro hj
    have h9 := hK.i.2
    rw [evj, hj] at h9
    rcases h9 with ⟨h91, h92⟩ | ⟨g, cap, cur, h91, -⟩
    ·injection h91 with _ h93 h94
     rw [hlk] at h93
     exact ⟨h93, h94⟩
    ·injection h91 with h93
     cases h93
   have HKO : Hid (w2.ownsRow w.heap.size 3 1 (.slice jo lk.length jc) (((lk.map fun j => z.ids[j]?.getD 0).map (Value.int .i64)).length) ((lk.map fun j => z.ids[j]?.getD 0).map (Value.int .i64))) := by
    have h9 := owns_monoJ hK.i P1.out.1.size
    rw [evj, hlk] at h9
    rw [List.map_map]
    exact h9
   clear hG hK hzG hzK evi evg evj evh b2 hlg hlk P1 c0 c1 c2 c3 c4 c5
   have Q1 : ((w2.alloc (.cells #[.slice none 0 0, .slice none 0 0] 75)).alloc (.cells #[.slice none 0 0, .slice none 0 0] 75)).heap[w2.heap.size]? = some (.cells #[.slice none 0 0, .slice none 0 0] 75) := alloc_kept (heap_alloc_new w2 _) _
   have Q2 : ((w2.alloc (.cells #[.slice none 0 0, .slice none 0 0] 75)).alloc (.cells #[.slice none 0 0, .slice none 0 0] 75)).heap[w2.heap.size + 1]? = some (.cells #[.slice none 0 0, .slice none 0 0] 75) := heap_at _ _ _ (by simp only [alloc_size])
   have QB : Below w2.heap.size w2 ((w2.alloc (.cells #[.slice none 0 0, .slice none 0 0] 75)).alloc (.cells #[.slice none 0 0, .slice none 0 0] 75)) := ((Below.refl _ w2).alloc (Nat.le_refl _) _).alloc (by simp only [alloc_size]; omega) _
   go_upto_region 6 with (first
    | (refine wpList_store_row (by rfl) 75 _ _ (by rfl) w2 w2.heap.size w2.heap.size #[.slice io lg.length dc, .slice go lg.length gc] _ (by rfl) (by rfl) Q1 QB (Nat.le_refl _) 2 Tryz.infoC2 rfl rfl ho1 ?_; intro W3 e3 b3 s3 o3)
    | (refine wpList_store_row (by rfl) 75 _ _ (by rfl) w2 w2.heap.size (w2.heap.size + 1) #[.slice jo lk.length jc, .slice ho lk.length hc] _ (by rfl) (by rfl) ((o3 _ (by omega)).trans Q2) b3 (by omega) 2 Tryz.infoC2 rfl rfl ho2 ?_; intro W4 e4 b4 s4 o4))
   have hBW := BW2.out.size
   have P4 : Hid (W4.heap[w2.heap.size]? = some (.cells #[.slice io lg.length dc, .slice go lg.length gc] 75) /\ W4.heap[w2.heap.size + 1]? = some (.cells #[.slice jo lk.length jc, .slice ho lk.length hc] 75) /\ W4.heap[w.heap.size]? = some (.cells #[.int .i64 z.N, .slice z.co z.cn z.cc, .slice z.io z.dn z.dc, .slice z.go z.gn z.gc, .slice z.ro z.rn z.rc, .bool z.bad] 26) /\ W4.heap[w.heap.size + 1]? = some (.cells #[.int .i64 0, .slice none 0 0, .slice none 0 0, .slice none 0 0, .slice none 0 0, .bool false] 26) /\ Below w.heap.size w W4 /\ Below w2.heap.size w2 W4) := ⟨(o4 _ (by omega)).trans e3, e4, kept b4 P2.out.1, kept b4 P2.out.2, to_call BW2.out b4, b4⟩
   clear e3 b3 s3 o3 e4 b4 s4 o4 Q1 Q2 QB P2 ho1 ho2
   obtain ⟨c0, c1, c2, c3, c4, c5⟩ := cells6 P4.out.2.2.1
   have k0 := cellAtJ P4.out.1 0 _ rfl
   have k1 := cellAtJ P4.out.1 1 _ rfl
   have HBx : Hid (Calls Tryz.prog 35 #[.agg #[.int .i64 z.N, .slice z.co z.cn z.cc, .slice io lg.length dc, .slice go lg.length gc, .slice z.ro z.rn z.rc, .bool false]] W4 fun e w' => ∃ y : ZD, e = .returned (.agg (zRow y)) /\ ZR w' y /\ ZW y /\ BxR (pkZ z io dc go gc lg) y /\ (y.bad = false -> ∃ br, y.ro = some ⟨br, 0, none⟩ /\ y.rc = y.rn /\ OwB w' W4.heap.size y.rn br y.rs) /\ Below W4.heap.size W4 w') := boxF_any (pkZ z io dc go gc lg) W4 (HZG.out W4 P4.out.2.2.2.2.2).1 (by have h9 := HLT.out.2.2.2.1; show lg.length <= _; have := HW.out.dg; omega)
   go_upto_region 7 with (first
    | (go_at_call 35; refine Calls.mono HBx.out ?_; rintro e w5 ⟨bx, rfl, hzb, -, hbx, hbo, b5⟩; have B5 : Below W4.heap.size W4 (w5.alloc (.cells #[.int .i64 0, .slice none 0 0, .slice none 0 0, .slice none 0 0, .slice none 0 0, .bool false] 26)) := b5.alloc b5.size _)
    | (refine wpList_store_row (by rfl) 26 _ _ (by rfl) W4 W4.heap.size w5.heap.size (zRow bx) _ (by rfl) (by rfl) (heap_alloc_new w5 _) B5 b5.size 6 Tryz.infoZ rfl rfl (oneZ _ _ _ _ _ rfl rfl rfl rfl _) ?_; intro W6 e6 b6 s6 o6))
   have h45 := b5.size
   have hs6 : W6.heap.size = w5.heap.size + 1 := by rw [s6, alloc_size]
   have hb56 : Below w5.heap.size w5 W6 := ⟨b6.os.trans b5.os.symm, b6.tape.trans b5.tape.symm, b6.output.trans b5.output.symm, by omega, fun k hk => (o6 k (by omega)).trans (Below.heap_alloc w5 _ k hk)⟩
   have P6 : Hid (W6.heap[w5.heap.size]? = some (.cells (zRow bx) 26) /\ W6.heap[w2.heap.size + 1]? = some (.cells #[.slice jo lk.length jc, .slice ho lk.length hc] 75) /\ W6.heap[w.heap.size]? = some (.cells #[.int .i64 z.N, .slice z.co z.cn z.cc, .slice z.io z.dn z.dc, .slice z.go z.gn z.gc, .slice z.ro z.rn z.rc, .bool z.bad] 26) /\ W6.heap[w.heap.size + 1]? = some (.cells #[.int .i64 0, .slice none 0 0, .slice none 0 0, .slice none 0 0, .slice none 0 0, .bool false] 26) /\ Below w.heap.size w W6 /\ Below w2.heap.size w2 W6 /\ ZR W6 bx /\ w2.heap.size + 1 < w5.heap.size) := ⟨e6, kept b6 P4.out.2.1, kept b6 P4.out.2.2.1, kept b6 P4.out.2.2.2.1, to_call P4.out.2.2.2.2.1 b6, to_call P4.out.2.2.2.2.2 b6, hzb.later hb56, Nat.lt_of_lt_of_le (blk_lt P4.out.2.1) h45⟩
   have HPW : Hid (wholeB (pkZ z io dc go gc lg) = true) := pk_whole HWh.out HLT.out.2.2.1 HLT.out.1 io dc go gc
   have HBI : Hid (BxR (pkZ z io dc go gc lg) bx) := hbx
   have HEQ : Hid (farZ (pkZ z io dc go gc lg) = farZ (pkZ z none 0 none 0 (pickL (goesF z ((z.dn : Int) - max most 0)) z.gn)) /\ lk = pickL (fun j => !goesF z ((z.dn : Int) - max most 0) j) z.gn) := by
    refine ⟨?_, ?_⟩
    ·rw [<- HLG.out.1, HFF.out, HMN.out]; rfl
    ·rw [<- HLG.out.2, HFF.out, HMN.out]
   have HBO : Hid (bx.bad = false -> ∃ br, bx.ro = some ⟨br, 0, none⟩ /\ bx.rc = bx.rn /\ OwB W6 W4.heap.size bx.rn br bx.rs /\ br < W6.heap.size) := fun h => by
    obtain ⟨br, e1, e2, o⟩ := hbo h
    have o2 := o.keep (w' := W6) fun k cur hc => hb56.block k (blk_lt hc)
    obtain ⟨cur, hc⟩ := o2.cur
    exact ⟨br, e1, e2, o2, blk_lt hc⟩
   have HW4 : Hid (w.heap.size <= W4.heap.size) := P4.out.2.2.2.2.1.size
   clear hbo hzb hbx b5 B5 e6 b6 s6 o6 hs6 hb56 h45 P4 c0 c1 c2 c3 c4 c5 k0 k1 HBx
   have hsz6 := blk_lt P6.out.1
   have hlt6 := P6.out.2.2.2.2.2.2.2
   obtain ⟨c0, c1, c2, c3, c4, c5⟩ := cells6 P6.out.2.2.1
   have d5 : W6.cell? ⟨w5.heap.size, 5, none⟩ = some (.bool bx.bad) := cellAtJ P6.out.1 5 _ rfl
   rcases HBI.out.is with ⟨h1, h2, h3, h4, h5, h6, h7, h8, h9, h10, h11, h12⟩ | ⟨h1, h2⟩
   ·have HBG : Hid (bx.rs.length = z.rn /\ (∀ j, j < z.rn -> RndO 1 (farZ (pkZ z io dc go gc lg) j) (bx.rs[j]?.getD 0) true) /\ bx.rn = z.rn) := ⟨h5, h6, h10⟩
    have HBR : Hid (∃ br, bx.ro = some ⟨br, 0, none⟩ /\ bx.rc = bx.rn /\ OwB W6 W4.heap.size bx.rn br bx.rs /\ br < W6.heap.size) := HBO.out h3
    rw [h3] at d5
    clear HBO h1 h2 h3 h4 h5 h6 h7 h8 h9 h10 h11 h12
    have k1 : W6.cell? ⟨w2.heap.size + 1, 1, none⟩ = some (.slice ho lk.length hc) := cellAtJ P6.out.2.1 1 _ rfl
    have HNw : Hid _ := newF_any z.co ho z.cn z.cc lk.length hc z.cs (fun j => z.gv (lk[j]?.getD 0)) (lk.map fun j => z.gs[j]?.getD []) W6 (HZ.out W6 P6.out.2.2.2.2.1).c (HZG.out W6 P6.out.2.2.2.2.2.1).2.g (by rw [HW.out.cn]; have := HW.out.n2; omega) (by have h9 := HLT.out.2.2.2.2; have := HW.out.dg; omega)
    have HNA : Hid (nwA z.cs (lk.map fun j => z.gs[j]?.getD []) = nwZ (z.cs.map plainM) ((lk.map fun j => z.gs[j]?.getD []).map (·.map plainM))) := by
     unfold Hid nwA
     rw [nw_check HWh.out HW.out.cl HW.out.N HLT.out.2.1 (by have h9 := HLT.out.2.2.2.2; have := HW.out.dg; omega), if_pos rfl]
    rw [HNA.out] at HNw
    go_upto_region 10 with (first
     | (go_at_call 36; refine Calls.mono HNw.out ?_; rintro e w7 ⟨y1, rfl, hzy, y2, y3, y4, y5, y6, y7, yt, yf, b7⟩; have B7 : Below W6.heap.size W6 (w7.alloc (.cells #[.int .i64 0, .slice none 0 0, .slice none 0 0, .slice none 0 0, .slice none 0 0, .bool false] 26)) := b7.alloc b7.size _)
     | (refine wpList_store_row (by rfl) 26 _ _ (by rfl) W6 W6.heap.size w7.heap.size (zRow y1) _ (by rfl) (by rfl) (heap_alloc_new w7 _) B7 b7.size 6 Tryz.infoZ rfl rfl (oneZ _ _ _ _ _ rfl rfl rfl rfl _) ?_; intro W8 e8 b8 s8 o8))
    have h67 := b7.size
    have hs8 : W8.heap.size = w7.heap.size + 1 := by rw [s8, alloc_size]
    have hb78 : Below w7.heap.size w7 W8 := ⟨b8.os.trans b7.os.symm, b8.tape.trans b7.tape.symm, b8.output.trans b7.output.symm, by omega, fun k hk => (o8 k (by omega)).trans (Below.heap_alloc w7 _ k hk)⟩
    have P8 : Hid (W8.heap[w7.heap.size]? = some (.cells (zRow y1) 26) /\ Below W6.heap.size W6 W8 /\ ZR w7 y1 /\ Below w7.heap.size w7 W8 /\ W6.heap.size <= w7.heap.size) := ⟨e8, b8, hzy, hb78, h67⟩
    have HYT : Hid (∀ b off, y1.go = some ⟨b, off, none⟩ -> ∃ cur, w7.heap[b]? = some (.cells cur 22)) := yt
    have HY1 : Hid (y1.N = z.N /\ y1.bad = false /\ y1.cs = z.cs.map plainM /\ y1.gs = lk.map fun j => (z.gs[j]?.getD []).map plainM) := by
     refine ⟨?_, y3, y4, ?_⟩
     ·rw [y2]
      show (((z.cs.map plainM).length : Nat) : Int) = _
      rw [List.length_map, HW.out.cl, HW.out.N]
     ·rw [y7]
      show (lk.map fun j => z.gs[j]?.getD []).map (·.map plainM) = _
      rw [List.map_map]
      rfl
    have HYF : Hid (FrY w7 W6.heap.size y1) := yf y3
    clear hzy y2 y3 y4 y5 y6 y7 yt yf b7 B7 e8 b8 s8 o8 hs8 hb78 k1 HNw HNA c0 c1 c2 c3 c4 c5 d5
    have SX : (fun V => V.cell? ⟨w2.heap.size + 1, 0, none⟩ = some (.slice jo lk.length jc) /\ V.cell? ⟨w5.heap.size, 4, none⟩ = some (.slice bx.ro bx.rn bx.rc)) W8.drew := ⟨cellAtJ (kept P8.out.2.1 P6.out.2.1) 0 _ rfl, cellAtJ (kept P8.out.2.1 P6.out.1) 4 _ rfl⟩
    refine wp_region_noPanic ?_
    refine wp_region_held_drew (S := (fun V => V.cell? ⟨w2.heap.size + 1, 0, none⟩ = some (.slice jo lk.length jc) /\ V.cell? ⟨w5.heap.size, 4, none⟩ = some (.slice bx.ro bx.rn bx.rc))) (by kernel_rfl) SX (fun _ => ?_)
    refine tzI 51 0 ?_ ?_ SX ?_
    rotate_left
    ·intro w' hSw; obtain ⟨s0, s1⟩ := hSw; go_simp; try with_reducible rfl
    try simp only [pA,pE,pB,pC,pD]
    refine tzI 52 1 ?_ ?_ SX ?_
    rotate_left
    ·intro w' hSw; obtain ⟨s0, s1⟩ := hSw; go_simp; try with_reducible rfl
    try simp only [pA,pE,pB,pC,pD]
    refine tzI 53 2 ?_ ?_ SX ?_
    rotate_left
    ·intro w' hSw; obtain ⟨s0, s1⟩ := hSw; go_simp; try with_reducible rfl
    try simp only [pA,pE,pB,pC,pD]
    refine tzI 54 3 ?_ ?_ SX ?_
    rotate_left
    ·intro w' hSw; obtain ⟨s0, s1⟩ := hSw; go_simp; try with_reducible rfl
    try simp only [pA,pE,pB,pC,pD]
    refine tzI 55 4 ?_ ?_ SX ?_
    rotate_left
    ·intro w' hSw; obtain ⟨s0, s1⟩ := hSw; go_simp; try with_reducible rfl
    try simp only [pA,pE,pB,pC,pD]
    refine rzH [5] ?_
    refine consH _ rfl (hopL rfl (wpList_store_at (by rfl) 23 _ _ (by rfl) W8.drew w7.heap.size w7.heap.size 2 (.slice jo lk.length jc) _ #[.int .i64 y1.N, .slice y1.co y1.cn y1.cc, .slice jo lk.length jc, .slice y1.go y1.gn y1.gc, .slice y1.ro y1.rn y1.rc, .bool y1.bad] 26 (by kernel_rfl) (by kernel_rfl) P8.out.1 (Below.refl _ _) (Nat.le_refl _) 1 Tryz.szIs rfl (Nat.le_of_ble_eq_true rfl) (one_sl _ _ _) rfl fun W9 e9 b9 s9 o9 => ?_)) AllReadyH.nil
    have SX9 : (fun V => V.cell? ⟨w2.heap.size + 1, 0, none⟩ = some (.slice jo lk.length jc) /\ V.cell? ⟨w5.heap.size, 4, none⟩ = some (.slice bx.ro bx.rn bx.rc)) W9 := ⟨(cell_heapJ (o9 _ (by omega)) 0).trans SX.1, (cell_heapJ (o9 _ (by omega)) 4).trans SX.2⟩
    refine (And.intro SX9 ?_ : _ /\ _)
    try simp only [pA,pE,pB,pC,pD]
    refine tzI 56 6 ?_ ?_ SX9 ?_
    rotate_left
    ·intro w' hSw; obtain ⟨s0, s1⟩ := hSw; go_simp; try with_reducible rfl
    try simp only [pA,pE,pB,pC,pD]
    refine rzH [7] ?_
    refine consH _ rfl (hopL rfl (wpList_store_at (by rfl) 22 _ _ (by rfl) W8.drew w7.heap.size w7.heap.size 4 (.slice bx.ro bx.rn bx.rc) _ #[.int .i64 y1.N, .slice y1.co y1.cn y1.cc, .slice jo lk.length jc, .slice y1.go y1.gn y1.gc, .slice bx.ro bx.rn bx.rc, .bool y1.bad] 26 (by kernel_rfl) (by kernel_rfl) e9 b9 (Nat.le_refl _) 1 Tryz.szFsT rfl (Nat.le_of_ble_eq_true rfl) (one_sl _ _ _) rfl fun W10 e10 b10 s10 o10 => ?_)) AllReadyH.nil
    have SX10 : (fun V => V.cell? ⟨w2.heap.size + 1, 0, none⟩ = some (.slice jo lk.length jc) /\ V.cell? ⟨w5.heap.size, 4, none⟩ = some (.slice bx.ro bx.rn bx.rc)) W10 := ⟨(cell_heapJ (o10 _ (by omega)) 0).trans SX9.1, (cell_heapJ (o10 _ (by omega)) 4).trans SX9.2⟩
    refine (And.intro SX10 ?_ : _ /\ _)
    try simp only [pA,pE,pB,pC,pD]
    refine wpAnyH_done (by kernel_rfl) ?_ _
    refine NoPanic.normal ?_
    try simp only [pA,pE,pB,pC,pD]
    have HZF : Hid (ZR W10 (⟨y1.N, y1.co, y1.cn, y1.cc, jo, lk.length, jc, y1.go, y1.gn, y1.gc, bx.ro, bx.rn, bx.rc, y1.bad, y1.cs, lk.map (fun j => z.ids[j]?.getD 0), y1.gv, y1.gs, bx.rs⟩ : ZD)) := by
     have hb8 : Below w7.heap.size W8 W10 := (Below.refl _ W8).drew.trans b10
     have hb7 : Below w7.heap.size w7 W10 := P8.out.2.2.2.1.trans hb8
     have hb6 : Below W6.heap.size W6 W10 := P8.out.2.1.trans (hb8.mono P8.out.2.2.2.2)
     have hz1 := P8.out.2.2.1.later hb7
     have hz2 := P6.out.2.2.2.2.2.2.1.later hb6
     have hz3 := (HZG.out W10 (to_call P6.out.2.2.2.2.2.1 hb6)).2
     exact ⟨hz1.c, hz3.i, hz1.g, hz2.r⟩
    have HTF : Hid (TyG W10 (⟨y1.N, y1.co, y1.cn, y1.cc, jo, lk.length, jc, y1.go, y1.gn, y1.gc, bx.ro, bx.rn, bx.rc, y1.bad, y1.cs, lk.map (fun j => z.ids[j]?.getD 0), y1.gv, y1.gs, bx.rs⟩ : ZD)) := by
     have hb8 : Below w7.heap.size W8 W10 := (Below.refl _ W8).drew.trans b10
     have hb7 : Below w7.heap.size w7 W10 := P8.out.2.2.2.1.trans hb8
     have hb6 : Below W6.heap.size W6 W10 := P8.out.2.1.trans (hb8.mono P8.out.2.2.2.2)
     have hb2 : Below w2.heap.size w2 W10 := to_call P6.out.2.2.2.2.2.1 hb6
     refine ⟨fun b off hb => ?_, fun b off hb => ?_⟩
     ·obtain ⟨cur, hc⟩ := HKT.out b off hb; exact ⟨cur, kept hb2 hc⟩
     ·obtain ⟨cur, hc⟩ := HYT.out b off hb; exact ⟨cur, kept hb7 hc⟩
    have P10 : Hid (W10.heap[w7.heap.size]? = some (.cells #[.int .i64 y1.N, .slice y1.co y1.cn y1.cc, .slice jo lk.length jc, .slice y1.go y1.gn y1.gc, .slice bx.ro bx.rn bx.rc, .bool y1.bad] 26) /\ W10.heap[w.heap.size + 1]? = some (.cells #[.int .i64 0, .slice none 0 0, .slice none 0 0, .slice none 0 0, .slice none 0 0, .bool false] 26) /\ Below w.heap.size w W10) := by
     have hb8 : Below w7.heap.size W8 W10 := (Below.refl _ W8).drew.trans b10
     have hb6 : Below W6.heap.size W6 W10 := P8.out.2.1.trans (hb8.mono P8.out.2.2.2.2)
     exact ⟨e10, kept hb6 P6.out.2.2.2.1, to_call P6.out.2.2.2.2.1 hb6⟩
    have HFR : Hid (FrY W10 w.heap.size (⟨y1.N, y1.co, y1.cn, y1.cc, jo, lk.length, jc, y1.go, y1.gn, y1.gc, bx.ro, bx.rn, bx.rc, y1.bad, y1.cs, lk.map (fun j => z.ids[j]?.getD 0), y1.gv, y1.gs, bx.rs⟩ : ZD)) := by
     have hb8 : Below w7.heap.size W8 W10 := (Below.refl _ W8).drew.trans b10
     have hb7 : Below w7.heap.size w7 W10 := P8.out.2.2.2.1.trans hb8
     have hb6 : Below W6.heap.size W6 W10 := P8.out.2.1.trans (hb8.mono P8.out.2.2.2.2)
     have hb2 : Below w2.heap.size w2 W10 := to_call P6.out.2.2.2.2.2.1 hb6
     obtain ⟨n, bc, br, vi, vg, gl, hrow, L⟩ := HYF.out
     obtain ⟨br2, r1, r2, ob, hlt⟩ := HBR.out
     have L10 := L.later hb7
     have o10 := ob.keep (w' := W10) fun k cur hc => hb6.block k (blk_lt hc)
     have hw6 := P6.out.2.2.2.2.1.size
     unfold zRow at hrow
     have q1 : slN n bc = .slice y1.co y1.cn y1.cc := by injection congrArg (fun (a : Array Value) => a[1]?) hrow.symm
     have q3 : vg = .slice y1.go y1.gn y1.gc := by injection congrArg (fun (a : Array Value) => a[3]?) hrow.symm
     have hn : n = bx.rn := by
      have h9 := P8.out.2.2.1.c.length
      rw [HY1.out.2.2.1, List.length_map, HW.out.cl] at h9
      have h8 : n = y1.cn := by injection q1
      rw [h8, <- h9, HBG.out.2.2]
     subst hn
     refine ⟨bx.rn, bc, br2, .slice jo lk.length jc, vg, gl, ?_, ⟨⟨Nat.le_trans hw6 L10.c.lo, L10.c.cur, L10.c.rd⟩, ⟨Nat.le_trans HW4.out o10.lo, o10.cur, o10.rd⟩, owns_keepT HKO.out fun k cur hc => hb2.block k (blk_lt hc), owns_monoJ L10.g hw6, ⟨L10.col.len, fun j hj => ⟨Nat.le_trans hw6 (L10.col.row j hj).lo, (L10.col.row j hj).cur, (L10.col.row j hj).rd⟩, L10.col.nodup⟩, fun e => ?_, L10.cg, fun hm => ?_⟩⟩
     ·unfold zRow; dsimp only; rw [q1, q3, r1, r2]; rfl
     ·have := L10.c.lo; omega
     ·obtain ⟨j, hj, e⟩ := List.getElem_of_mem hm
      have := (L10.col.row j hj).lo
      rw [List.getElem?_eq_getElem hj, Option.getD_some, e] at this
      omega
    clear SX SX9 SX10 e9 b9 s9 o9 e10 b10 s10 o10
    have hwl : w.heap.size + 1 < W6.heap.size := blk_lt P6.out.2.2.2.1
    have hwl2 := P8.out.2.2.2.2
    go_wp2_with (first
     | (refine wpList_load_row (by rfl) 26 _ (by rfl) w7.heap.size _ (by rfl) P10.out.1 _ Tryz.underlying26 rfl 6 Tryz.infoZ (by rfl) ?_)
     | (refine wpList_store_row (by rfl) 26 _ _ (by rfl) w w.heap.size (w.heap.size + 1) #[.int .i64 y1.N, .slice y1.co y1.cn y1.cc, .slice jo lk.length jc, .slice y1.go y1.gn y1.gc, .slice bx.ro bx.rn bx.rc, .bool y1.bad] _ (by rfl) (by rfl) P10.out.2.1 P10.out.2.2 (by omega) 6 Tryz.infoZ (by rfl) (by rfl) (oneZ _ _ _ _ _ rfl rfl rfl rfl _) ?_; intro W9 e9 b9 s9 o9))
    refine bodyPost_ret (res_oneJ _ 4 26 (by kernel_rfl) _ _ (w.heap.size + 1) _ (by rfl) _ Tryz.underlying26 rfl 6 Tryz.infoZ rfl e9) rfl ?_
    have hgl : ∀ j, j < y1.gn -> 0 < (y1.gv j).2.1 := by
     intro j hj
     have h1 := (HZF.out.g.each j hj).length
     dsimp only at h1
     have hgy : y1.gs.length = y1.gn := HZF.out.g.length
     rw [HY1.out.2.2.2, List.length_map] at hgy
     have hj' : j < lk.length := by omega
     rw [<- h1, HY1.out.2.2.2, List.getElem?_map, List.getElem?_eq_getElem hj']
     simp only [Option.map_some, Option.getD_some, List.length_map]
     rw [HW.out.gl _ (by rw [HW.out.dg]; exact HLT.out.2.1 _ (List.getElem_mem hj'))]
     exact HW.out.n1
    have hcl : y1.cs.length = z.rn := by rw [HY1.out.2.2.1, List.length_map, HW.out.cl]
    have hcn : y1.cn = z.rn := (HZF.out.c.length).symm.trans hcl
    have hgn1 : y1.gn = lk.length := by have h9 := HZF.out.g.length; rw [show (⟨y1.N, y1.co, y1.cn, y1.cc, jo, lk.length, jc, y1.go, y1.gn, y1.gc, bx.ro, bx.rn, bx.rc, y1.bad, y1.cs, lk.map (fun j => z.ids[j]?.getD 0), y1.gv, y1.gs, bx.rs⟩ : ZD).gs = y1.gs from rfl, HY1.out.2.2.2, List.length_map] at h9; exact h9.symm
    have hn1 := HW.out.n1
    have hn2 := HW.out.n2
    have hzw : ZW (⟨y1.N, y1.co, y1.cn, y1.cc, jo, lk.length, jc, y1.go, y1.gn, y1.gc, bx.ro, bx.rn, bx.rc, y1.bad, y1.cs, lk.map (fun j => z.ids[j]?.getD 0), y1.gv, y1.gs, bx.rs⟩ : ZD) := by
     have h4 := HLT.out.2.2.2.2
     have hdg := HW.out.dg
     refine ⟨fun h => ?_, HKN.out, fun h => ?_, fun k hk h => ?_, ?_, ?_, ?_, ?_, fun k hk => ?_⟩
     ·rcases HZF.out.c.cells with h0 | ⟨b, off, ha, _⟩
      ·dsimp only at h0; omega
      ·rw [h] at ha; cases ha
     ·rcases HZF.out.r.cells with h0 | ⟨b, off, ha, _⟩
      ·have h3 := HBG.out.2.2; dsimp only at h0; omega
      ·rw [h] at ha; cases ha
     ·rcases (HZF.out.g.each k hk).cells with h0 | ⟨b, off, ha, _⟩
      ·have h3 := hgl k hk; dsimp only at h0 h3; omega
      ·rw [h] at ha; cases ha
     ·show y1.cn <= 1050000; omega
     ·show lk.length <= 1050000; omega
     ·show y1.gn <= 1050000; omega
     ·show bx.rn <= 1050000; have := HBG.out.2.2; omega
     ·show (y1.gv k).2.1 <= 1050000
      have h1 := (HZF.out.g.each k hk).length
      dsimp only at h1
      have hk' : k < lk.length := by have : k < y1.gn := hk; omega
      rw [<- h1, HY1.out.2.2.2, List.getElem?_map, List.getElem?_eq_getElem hk']
      simp only [Option.map_some, Option.getD_some, List.length_map]
      rw [HW.out.gl _ (by rw [HW.out.dg]; exact HLT.out.2.1 _ (List.getElem_mem hk'))]
      omega
    refine ⟨_, rfl, HZF.out.store P10.out.2.1 o9 HKI.out hgl, hzw, HTF.out.keep (fun k cur t ht hc => o9 k (by rintro rfl; rw [P10.out.2.1] at hc; exact ht (ty_eq hc).symm)), ⟨.inr (.inr (.inr ⟨HB2.out, HWh.out, HY1.out.1, HY1.out.2.1, HY1.out.2.2.1, ?_, ?_, HBG.out.1, fun j hj => ?_⟩))⟩, (fun _ => by obtain ⟨n, bc, br, vi, vg, gl, hrow, L⟩ := HFR.out; exact ⟨n, bc, br, vi, vg, gl, hrow, L.keep fun k cur t ht hc => o9 k (by rintro rfl; rw [P10.out.2.1] at hc; exact ht (ty_eq hc).symm)⟩), b9⟩
    ·rw [<- HEQ.out.2]
    ·rw [<- HEQ.out.2]; exact HY1.out.2.2.2
    ·rw [<- HEQ.out.1]; exact HBG.out.2.1 j hj
   ·have HBG : Hid (∃ j u, j < z.rn /\ RndO 1 (farZ (pkZ z io dc go gc lg) j) u false) := by
     rcases h1 with h1 | h1
     ·rw [HPW.out, show (!(pkZ z io dc go gc lg).bad && true) = true from rfl] at h1; cases h1
     ·exact h1
    have hbb : bx.bad = true := by rw [h2]
    rw [hbb] at d5
    clear h1 h2 hbb
    go_wp2_with (first
     | (go_at_call 33; refine Calls.mono (badT_any _ _) ?_; rintro e w7 ⟨rfl, b7⟩)
     | (refine wpList_store_row (by rfl) 26 _ _ (by rfl) w w.heap.size (w.heap.size + 1) #[.int .i64 z.N, .slice none 0 0, .slice none 0 0, .slice none 0 0, .slice none 0 0, .bool true] _ (by rfl) (by rfl) (kept b7 P6.out.2.2.2.1) (to_call P6.out.2.2.2.2.1 b7) (by omega) 6 Tryz.infoZ (by rfl) (by rfl) (oneZ _ _ _ _ _ rfl rfl rfl rfl _) ?_; intro W9 e9 b9 s9 o9))
    refine bodyPost_ret (res_oneJ _ 4 26 (by kernel_rfl) _ _ (w.heap.size + 1) _ (by rfl) _ Tryz.underlying26 rfl 6 Tryz.infoZ rfl e9) rfl ?_
    obtain ⟨j, u, hj, hr⟩ := HBG.out
    rw [HEQ.out.1] at hr
    exact ⟨badN z.N, rfl, badN_ZR _ _, badN_ZW _, badN_Ty _ _, ⟨.inr (.inr (.inl ⟨HB2.out, HWh.out, ⟨j, u, hj, hr⟩, rfl⟩))⟩, (fun h => by cases h), b9⟩
end Go.Proofs.YthmhgpadinecfaaGreat
