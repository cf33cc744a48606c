import Derived.Test.YthmhgpadinecfaaGreatTEb6
set_option maxRecDepth 100000
set_option maxHeartbeats 4000000
set_option linter.unusedVariables false
set_option linter.unusedSimpArgs false
namespace Go.Proofs.YthmhgpadinecfaaGreat
open Go.RowKit Go.Shelf
theorem orderO_any (a : Nat) (ha : a = 1166) (z : ZD) (w : World) (hz : ZR w z) (hd : z.dn <= 1050000) :
  Calls Tryz.prog 10 #[.agg #[.int .i64 z.N, .slice z.co z.cn z.cc, .slice z.io z.dn z.dc, .slice z.go z.gn z.gc, .slice z.ro z.rn z.rc, .bool z.bad]] w fun e w' => ∃ v : Value, e = .returned v /\ w'.ownsRow w.heap.size 3 1 v (ordL z).length ((ordL z).map (Value.int .i64)) /\ Below w.heap.size w w' := by
 have HZ : Hid (∀ W', Below w.heap.size w W' -> ZR W' z) := fun W' hb => hz.later hb
 have HCk : Hid (∀ W', Below w.heap.size w W' -> Calls Tryz.prog 31 #[.agg #[.int .i64 z.N, .slice z.co z.cn z.cc, .slice z.io z.dn z.dc, .slice z.go z.gn z.gc, .slice z.ro z.rn z.rc, .bool z.bad]] W' fun e w' => e = .returned (.int .i64 (if checkB z then 0 else 100)) /\ Below W'.heap.size W' w') := fun W' hb => check_any z W' (hz.later hb)
 have X0 : Below w.heap.size w (w.alloc (.cells #[.int .i64 z.N, .slice z.co z.cn z.cc, .slice z.io z.dn z.dc, .slice z.go z.gn z.gc, .slice z.ro z.rn z.rc, .bool z.bad] 26)) := (Below.refl _ w).alloc (Nat.le_refl _) _
 have Y0 : (w.alloc (.cells #[.int .i64 z.N, .slice z.co z.cn z.cc, .slice z.io z.dn z.dc, .slice z.go z.gn z.gc, .slice z.ro z.rn z.rc, .bool z.bad] 26)).heap[w.heap.size]? = some (.cells #[.int .i64 z.N, .slice z.co z.cn z.cc, .slice z.io z.dn z.dc, .slice z.go z.gn z.gc, .slice z.ro z.rn z.rc, .bool z.bad] 26) := heap_alloc_new w _
 cases hck : checkB z with
 | false =>
  have HO : Hid (ordL z = []) := by unfold Hid ordL; rw [hck]; rfl
  rw [hck] at HCk
  simp only [Bool.false_eq_true, if_false] at HCk
  clear hck hz
  go_enter Tryz.func10, Tryz.ntmps10
  go_wp2_with (first
   | (refine wpList_load_row (by rfl) 26 _ (by rfl) w.heap.size _ (by rfl) Y0 _ Tryz.underlying26 rfl 6 Tryz.infoZ (by rfl) ?_)
   | (go_at_call 31; refine Calls.mono (HCk.out _ X0) ?_; rintro e w1 ⟨rfl, b1⟩))
  go_ret
  exact ⟨_, rfl, by rw [HO.out]; exact World.ownsRow_nil _ _ _ _, to_call X0 b1⟩
 | true =>
  have hck' := hck
  have hfin : (∀ k j : Nat, Fin ((z.gs[k]?.getD [])[j]?.getD 0)) /\ (∀ k, k < z.gn -> (z.gs[k]?.getD []).length <= 1050000) /\ z.dn = z.gn := by
   cases hb : z.bad with
   | true =>
    obtain ⟨h1, h2, h3⟩ := bare_none hz hck' hb
    refine ⟨fun k j => ?_, fun k hk => by omega, by omega⟩
    rw [h3]
    simp
    decide
   | false =>
    have hwh : wholeB z = true := by unfold checkB at hck'; rw [hb] at hck'; simpa using hck'
    have HW := WhF.of hz hd hwh
    exact ⟨fun k j => HW.fin.g k j, fun k hk => by rw [HW.gl k (by rw [HW.dg]; exact hk)]; have := HW.n2; omega, HW.dg⟩
  have HBy : Hid (∀ W', Below w.heap.size w W' -> Calls Tryz.prog 32 #[.agg #[.int .i64 z.N, .slice z.co z.cn z.cc, .slice z.io z.dn z.dc, .slice z.go z.gn z.gc, .slice z.ro z.rn z.rc, .bool z.bad]] W' fun e w' => ∃ P, e = .returned (.slice (some ⟨P, 0, none⟩) z.gn z.gn) /\ W'.heap.size <= P /\ RdIs w' (some ⟨P, 0, none⟩) z.gn z.gn ((plN (lsZ z) z.gn).map fun (k : Nat) => (k : Int)) /\ Below W'.heap.size W' w') := fun W' hb => byLoss_any a ha z W' (hz.later hb) (by have := hfin.2.2; omega) hfin.1 hfin.2.1
  have hdg := hfin.2.2
  obtain ⟨pl, hpl⟩ : ∃ pl, plN (lsZ z) z.gn = pl := ⟨_, rfl⟩
  have HO : Hid (ordL z = pl.map fun k => z.ids[k]?.getD 0) := by unfold Hid ordL; rw [hck, if_pos rfl, hpl]
  have HPL : Hid (pl.length = z.gn /\ ∀ x ∈ pl, x < z.gn) := ⟨by rw [<- hpl, plN_len], fun x hx => plN_lt (lsZ z) z.gn (by rw [hpl]; exact hx)⟩
  rw [hpl] at HBy
  rw [hck] at HCk
  simp only [if_true] at HCk
  clear hck hck' hz ha hfin hpl
  obtain ⟨N, co, cn, cc, io, dn, dc, go, gn, gc, ro, rn, rc, bad, cs, ids, gv, gs, rs⟩ := z
  dsimp only at hd hdg HBy HO HPL HCk X0 Y0 ⊢
  have hgd := hdg.symm
  clear hdg
  subst hgd
  have hgn : gn <= 4000000 := by omega
  have hmk := makeIT gn hgn
  go_enter Tryz.func10, Tryz.ntmps10
  go_upto_region 4 with (first
   | (refine wpList_load_row (by rfl) 26 _ (by rfl) w.heap.size _ (by rfl) Y0 _ Tryz.underlying26 rfl 6 Tryz.infoZ (by rfl) ?_)
   | (refine wpList_load_row (by rfl) 26 _ (by rfl) w.heap.size _ (by rfl) (kept b1 Y0) _ Tryz.underlying26 rfl 6 Tryz.infoZ (by rfl) ?_)
   | (go_at_call 31; refine Calls.mono (HCk.out _ X0) ?_; rintro e w1 ⟨rfl, b1⟩)
   | (go_at_call 32; refine Calls.mono (HBy.out _ (to_call X0 b1)) ?_; rintro e w2 ⟨P, rfl, hP, hr, b2⟩))
  have HX2 : Hid (Below w.heap.size w w2 /\ w2.heap[w.heap.size]? = some (.cells #[.int .i64 N, .slice co cn cc, .slice io gn dc, .slice go gn gc, .slice ro rn rc, .bool bad] 26)) := ⟨to_call (to_call X0 b1) b2, kept b2 (kept b1 Y0)⟩
  have HC0 : Hid (∀ j, j < gn -> w2.cell? ⟨P, j, none⟩ = some (.int .i64 ((pl[j]?.getD 0 : Nat) : Int))) := by
   intro j hj
   rcases hr.cells with h0 | ⟨b, off, hb9, hc9⟩
   ·omega
   ·injection hb9 with hb9
    injection hb9 with h91 h92
    have h93 := hc9 j hj
    rw [<- h91, <- h92, Nat.zero_add, List.getElem?_map] at h93
    rw [h93]
    rw [List.getElem?_eq_getElem (by rw [HPL.out.1]; exact hj)]
    rfl
  clear hr b1 b2 hP X0 Y0 HCk HBy
  go_wp2_with fail
  have H0 : Hid (∃ c : Array Value, (w2.alloc (.cells (izN gn) 3)).heap[w2.heap.size]? = some (.cells c 3) /\ c.size = gn /\ ∀ j, j < 0 -> c[j]? = some (.int .i64 (ids[pl[j]?.getD 0]?.getD 0))) := ⟨_, heap_alloc_new w2 _, by unfold izN madeCells; simp, fun j hj => by omega⟩
  have HB0 : Hid (Below w2.heap.size w2 (w2.alloc (.cells (izN gn) 3))) := (Below.refl _ w2).alloc (Nat.le_refl _) _
  go_loopg [17] gn (fun g iv wx => ∃ k : Nat, iv = .int .i64 k /\ k + g = gn /\ Hid (∃ c : Array Value, wx.heap[w2.heap.size]? = some (.cells c 3) /\ c.size = gn /\ ∀ j, j < k -> c[j]? = some (.int .i64 (ids[pl[j]?.getD 0]?.getD 0))) /\ Hid (Below w2.heap.size w2 wx))
  case atStart => exact ⟨0, rfl, by omega, H0, HB0⟩
  case round =>
   clear H0 HB0 hmk
   obtain ⟨k, rfl, hk, HI, HB⟩ := hrel
   by_cases h1 : k < gn
   ·have hd1 : decide ((k : Int) < (gn : Int)) = true := decide_eq_true (by omega)
    obtain ⟨q, rfl⟩ : ∃ q, gk = q + 1 := ⟨gk - 1, by omega⟩
    have HIG : Hid (k + (q + 1) = gn) := hk
    have h1' : (k : Int) < (gn : Int) := by omega
    clear hk
    have ga := cellT (HC0.out k h1) HB.out
    obtain ⟨x, hx⟩ : ∃ x, pl[k]?.getD 0 = x := ⟨_, rfl⟩
    rw [hx] at ga
    have hkl : k < pl.length := by rw [HPL.out.1]; exact h1
    have hxe : pl[k] = x := by rw [List.getElem?_eq_getElem hkl] at hx; exact hx
    have hxl : x < gn := by rw [<- hxe]; exact HPL.out.2 _ (List.getElem_mem hkl)
    have hxl' : (x : Int) < (gn : Int) := by omega
    have HXE : Hid (pl[k]?.getD 0 = x) := hx
    have hzz := HZ.out wr (to_call HX2.out.1 HB.out)
    rcases hzz.i.cells with h0 | ⟨ib, ioff, hio, hic⟩
    ·dsimp only at h0; omega
    dsimp only at hio
    have gi := hic x hxl
    dsimp only at gi
    have c2 : wr.cell? ⟨w.heap.size, 2, none⟩ = some (.slice io gn dc) := cellAtJ (kept HB.out HX2.out.2) 2 _ rfl
    subst hio
    obtain ⟨di, edi⟩ : ∃ y, ids[x]?.getD 0 = y := ⟨_, rfl⟩
    rw [edi] at gi
    have HDI : Hid (ids[x]?.getD 0 = di) := edi
    obtain ⟨c, hc1, hc2, hc3⟩ := HI.out
    obtain ⟨d, hd1', hd2, hd3, hd4⟩ := setP_cells (c := c) (k := k) (v := .int .i64 di) (by omega) rfl
    have HCC : Hid (wr.heap[w2.heap.size]? = some (.cells c 3) /\ c.size = gn /\ (∀ j, j < k -> c[j]? = some (.int .i64 (ids[pl[j]?.getD 0]?.getD 0))) /\ (c.toList.take k ++ (Value.int .i64 di).cells.toList ++ c.toList.drop (k + 1)).toArray = d /\ d.size = c.size /\ d[k]? = some (.int .i64 di) /\ ∀ j, j ≠ k -> d[j]? = c[j]?) := ⟨hc1, hc2, hc3, hd1', hd2, hd3, hd4⟩
    clear hx hkl hxe hic hzz edi hc1 hc2 hc3 hd1' hd2 hd3 hd4 HI
    go_wp2_with (first | (refine wpList_store_at (by rfl) 3 _ _ (by rfl) w2 w2.heap.size w2.heap.size k (.int .i64 di) _ d 3 (by rfl) (by rfl) HCC.out.1 HB.out (Nat.le_refl _) 1 Tryz.szI1 rfl (by rw [HCC.out.2.1]; omega) (one_in _) HCC.out.2.2.2.1 ?_; intro W3 e3 b3 s3 o3))
    have HI3 : Hid (∃ c : Array Value, W3.heap[w2.heap.size]? = some (.cells c 3) /\ c.size = gn /\ ∀ j, j < k + 1 -> c[j]? = some (.int .i64 (ids[pl[j]?.getD 0]?.getD 0))) := by
     refine ⟨d, e3, HCC.out.2.2.2.2.1.trans HCC.out.2.1, fun j hj => ?_⟩
     by_cases e : j = k
     ·rw [e, HXE.out, HDI.out]; exact HCC.out.2.2.2.2.2.1
     ·rw [HCC.out.2.2.2.2.2.2 j e]; exact HCC.out.2.2.1 j (by omega)
    have HB3 : Hid (Below w2.heap.size w2 W3) := b3
    clear e3 b3 s3 o3 ga gi c2 HCC HB
    go_roundg q
    case measure => omega
    case rel => exact ⟨k + 1, by go_num, by have := HIG.out; omega, HI3, HB3⟩
   ·have hd1 : decide ((k : Int) < (gn : Int)) = false := decide_eq_false (by omega)
    have hd2 : decide (k < gn) = false := decide_eq_false (by omega)
    have hkm : k = gn := by omega
    have HI2 : Hid (∃ c : Array Value, wr.heap[w2.heap.size]? = some (.cells c 3) /\ c.size = gn /\ ∀ j, j < gn -> c[j]? = some (.int .i64 (ids[pl[j]?.getD 0]?.getD 0))) := by
     have h9 := HI.out
     rw [hkm] at h9
     exact h9
    clear hkm HI
    go_wp2_with fail
    go_ret
    obtain ⟨c, hc1, hc2, hc3⟩ := HI2.out
    refine ⟨.slice (some ⟨w2.heap.size, 0, none⟩) gn gn, rfl, ?_, to_call HX2.out.1 HB.out⟩
    rw [HO.out]
    have hl : (pl.map fun k => ids[k]?.getD 0).length = gn := by rw [List.length_map]; exact HPL.out.1
    refine ⟨by rw [List.length_map, Nat.mul_one], .inr ⟨w2.heap.size, gn, c, by rw [hl], HX2.out.1.size, hc1, by omega, by unfold maxLen; omega, by omega, ?_⟩⟩
    rw [hl, Nat.mul_one]
    apply List.ext_getElem?
    intro j
    by_cases hj : j < gn
    ·have hjl : j < pl.length := by rw [HPL.out.1]; exact hj
     rw [List.getElem?_take, if_pos hj, Array.getElem?_toList, hc3 j hj, List.getElem?_map, List.getElem?_map, List.getElem?_eq_getElem hjl]
     rfl
    ·rw [List.getElem?_take, if_neg hj, List.getElem?_eq_none (by rw [List.length_map, hl]; omega)]
end Go.Proofs.YthmhgpadinecfaaGreat
