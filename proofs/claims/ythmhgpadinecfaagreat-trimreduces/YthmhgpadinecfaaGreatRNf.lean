import Derived.Test.YthmhgpadinecfaaGreatRHo
set_option maxRecDepth 100000
set_option maxHeartbeats 4000000
set_option linter.unusedVariables false
set_option linter.unusedSimpArgs false
namespace Go.Proofs.YthmhgpadinecfaaGreat
open Go.RowKit Go.Shelf
theorem FrL.monoF {w : World} {base b n bc br : Nat} {cs rs : List Nat} {ids : List Int} {gs : List (List Nat)} {vi vg : Value} {gl : List Nat} (h : FrL w base n bc br cs rs ids gs vi vg gl) (hb : b <= base) : FrL w b n bc br cs rs ids gs vi vg gl :=
 ⟨⟨Nat.le_trans hb h.c.lo, h.c.cur, h.c.rd⟩, ⟨Nat.le_trans hb h.r.lo, h.r.cur, h.r.rd⟩, owns_monoJ h.i hb, owns_monoJ h.g hb, ⟨h.col.len, fun j hj => ⟨Nat.le_trans hb (h.col.row j hj).lo, (h.col.row j hj).cur, (h.col.row j hj).rd⟩, h.col.nodup⟩, h.cr, h.cg, h.rg⟩
def FrY (w : World) (base : Nat) (y : ZD) : Prop := ∃ n bc br vi vg gl, zRow y = #[.int .i64 y.N, slN n bc, vi, vg, slN n br, .bool y.bad] /\ FrL w base n bc br y.cs y.rs y.ids y.gs vi vg gl
theorem newF_any (co go : Option Addr) (cn cc gn gc : Nat) (cs : List Nat) (gv : Nat -> Option Addr × Nat × Nat) (gs : List (List Nat)) (w : World) (hc : RdF w co cn cc cs) (hg : RdGs w go gn gc gv gs) (hcl : cn <= 1050000) (hgl : gn <= 1050000) :
  Calls Tryz.prog 36 #[.slice co cn cc, .slice go gn gc] w fun e w' => ∃ y : ZD, e = .returned (.agg (zRow y)) /\ ZR w' y /\ y.N = (nwA cs gs).N /\ y.bad = (nwA cs gs).bad /\ y.cs = (nwA cs gs).cs /\ y.rs = (nwA cs gs).rs /\ y.ids = (nwA cs gs).ids /\ y.gs = (nwA cs gs).gs /\ (∀ b off, y.go = some ⟨b, off, none⟩ -> ∃ cur, w'.heap[b]? = some (.cells cur 22)) /\ (y.bad = false -> FrY w' w.heap.size y) /\ Below w.heap.size w w' := by
 have HC : Hid (∀ W', Below w.heap.size w W' -> RdF W' co cn cc cs) := fun W' hb => hc.later hb
 have HG : Hid (∀ W', Below w.heap.size w W' -> RdGs W' go gn gc gv gs) := fun W' hb => hg.later hb
 have HLN : Hid (cs.length = cn /\ gs.length = gn) := ⟨hc.length, hg.length⟩
 clear hc hg
 have hmk := makeFJ4 cn (by omega)
 have X0 : Below w.heap.size w (((w.alloc (.cells #[.int .i64 0, .slice none 0 0, .slice none 0 0, .slice none 0 0, .slice none 0 0, .bool false] 26)).alloc (.cells (flN cn) 55)).alloc (.cells #[.int .i64 (cn : Int), .slice co cn cc, .slice none 0 0, .slice go gn gc, .slice (some ⟨w.heap.size + 1, 0, none⟩) cn cn, .bool false] 26)) := (((Below.refl _ w).alloc (Nat.le_refl _) _).alloc (by simp only [alloc_size]; omega) _).alloc (by simp only [alloc_size]; omega) _
 have Y0 : (((w.alloc (.cells #[.int .i64 0, .slice none 0 0, .slice none 0 0, .slice none 0 0, .slice none 0 0, .bool false] 26)).alloc (.cells (flN cn) 55)).alloc (.cells #[.int .i64 (cn : Int), .slice co cn cc, .slice none 0 0, .slice go gn gc, .slice (some ⟨w.heap.size + 1, 0, none⟩) cn cn, .bool false] 26)).heap[w.heap.size]? = some (.cells #[.int .i64 0, .slice none 0 0, .slice none 0 0, .slice none 0 0, .slice none 0 0, .bool false] 26) := alloc_kept (alloc_kept (heap_alloc_new w _) _) _
 have Y2 : (((w.alloc (.cells #[.int .i64 0, .slice none 0 0, .slice none 0 0, .slice none 0 0, .slice none 0 0, .bool false] 26)).alloc (.cells (flN cn) 55)).alloc (.cells #[.int .i64 (cn : Int), .slice co cn cc, .slice none 0 0, .slice go gn gc, .slice (some ⟨w.heap.size + 1, 0, none⟩) cn cn, .bool false] 26)).heap[w.heap.size + 1 + 1]? = some (.cells #[.int .i64 (cn : Int), .slice co cn cc, .slice none 0 0, .slice go gn gc, .slice (some ⟨w.heap.size + 1, 0, none⟩) cn cn, .bool false] 26) := heap_at _ _ (w.heap.size + 1 + 1) (by simp only [alloc_size])
 have O1 : OwB (((w.alloc (.cells #[.int .i64 0, .slice none 0 0, .slice none 0 0, .slice none 0 0, .slice none 0 0, .bool false] 26)).alloc (.cells (flN cn) 55)).alloc (.cells #[.int .i64 (cn : Int), .slice co cn cc, .slice none 0 0, .slice go gn gc, .slice (some ⟨w.heap.size + 1, 0, none⟩) cn cn, .bool false] 26)) w.heap.size cn (w.heap.size + 1) (List.replicate cn 0) := by
  have h := rdF_zero4 cn (w.alloc (.cells #[.int .i64 0, .slice none 0 0, .slice none 0 0, .slice none 0 0, .slice none 0 0, .bool false] 26)) (by omega)
  rw [alloc_size] at h
  exact ((h.mono (Nat.le_succ _)).later ((Below.refl _ _).alloc (Nat.le_refl _) _))
 go_enter Tryz.func36, Tryz.ntmps36
 go_upto_region 2 with fail
 clear hmk
 obtain ⟨X, hX⟩ : ∃ X, (((w.alloc (.cells #[.int .i64 0, .slice none 0 0, .slice none 0 0, .slice none 0 0, .slice none 0 0, .bool false] 26)).alloc (.cells (flN cn) 55)).alloc (.cells #[.int .i64 (cn : Int), .slice co cn cc, .slice none 0 0, .slice go gn gc, .slice (some ⟨w.heap.size + 1, 0, none⟩) cn cn, .bool false] 26)) = X := ⟨_, rfl⟩
 rw [hX] at X0 Y0 Y2 O1 ⊢
 clear hX
 obtain ⟨D, hD⟩ : ∃ D, w.heap.size + 1 + 1 = D := ⟨_, rfl⟩
 rw [hD] at Y2 ⊢
 have hDl : w.heap.size <= D := by omega
 have hDz : w.heap.size ≠ D := by omega
 clear hD
 obtain ⟨rb, hrb⟩ : ∃ rb, w.heap.size + 1 = rb := ⟨_, rfl⟩
 rw [hrb] at Y2 O1 ⊢
 clear hrb
 go_wp2_with fail
 go_loopg [17] gn (fun g iv wx => ∃ (k : Nat) (vi : Value), iv = .int .i64 k /\ k + g = gn /\ Hid (wx.heap[D]? = some (.cells #[.int .i64 (cn : Int), .slice co cn cc, vi, .slice go gn gc, .slice (some ⟨rb, 0, none⟩) cn cn, .bool false] 26) /\ wx.ownsRow w.heap.size 3 1 vi k ((rgI k).map (Value.int .i64)) /\ wx.heap[w.heap.size]? = some (.cells #[.int .i64 0, .slice none 0 0, .slice none 0 0, .slice none 0 0, .slice none 0 0, .bool false] 26) /\ OwB wx w.heap.size cn rb (List.replicate cn 0) /\ Below w.heap.size w wx))
 case atStart => exact ⟨0, .slice none 0 0, rfl, by omega, Y2, World.ownsRow_nil _ _ _ _, Y0, O1, X0⟩
 case round =>
  obtain ⟨k, vi, rfl, hk, HP⟩ := hrel
  clear X0 Y0 Y2 O1
  have hsr := HP.out.2.2.2.2.size
  by_cases hlt : k < gn
  ·have hd : decide ((k : Int) < (gn : Int)) = true := decide_eq_true (by omega)
   obtain ⟨g, rfl⟩ : ∃ g, gk = g + 1 := ⟨gk - 1, by omega⟩
   have HIG : Hid _ := hk
   obtain ⟨d0, d1, d2, d3, d4, d5⟩ := cells6 HP.out.1
   clear hk
   go_wp2_with (first
    | (at_builtin; refine append_gsJ Tryz.underlying23 Tryz.infoIJ rfl (by decide) (by decide) _ (by rfl) _ _ (by rfl) w.heap.size vi k _ (by rfl) (World.ownsRow.alloc HP.out.2.1 _) ⟨wr.heap.size, 0, none⟩ 1 1 [.int .i64 (k : Int)] (by rfl) rfl (news_oneJ (heap_alloc_new wr _)) (oneI _ rfl) (by omega) (by simp only [alloc_size]; omega) ?_; intro v5 w5 o5 g5; have s5D := (grw_types (World.ownsRow.alloc HP.out.2.1 _) g5 D _ _ (by decide) (alloc_kept HP.out.1 _)).trans (alloc_kept HP.out.1 _); have q5 := (HP.out.2.2.2.2.alloc hsr _).trans (g5.below (fun k hk => (World.ownsRow.lt HP.out.2.1 k hk).1) (by simp only [alloc_size]; omega)))
    | (refine wpList_store_at (by rfl) 23 _ _ (by rfl) w w.heap.size D 2 v5 _ #[.int .i64 (cn : Int), .slice co cn cc, v5, .slice go gn gc, .slice (some ⟨rb, 0, none⟩) cn cn, .bool false] 26 (by rfl) (by rfl) s5D q5 hDl 1 Tryz.szIs (by rw [(own_valJ o5).2]; rfl) (Nat.le_of_ble_eq_true rfl) (by intro u hu; rw [(own_valJ o5).2] at hu; simp only [List.mem_cons, List.not_mem_nil, or_false] at hu; subst hu; exact (own_valJ o5).1) (by rw [(own_valJ o5).2]; rfl) ?_; intro w6 e6 b6 s6 k6))
   have hk6 : ∀ (j : Nat) (cur : Array Value) (t : TypeId), t ≠ 26 -> t ≠ 3 -> wr.heap[j]? = some (.cells cur t) -> w6.heap[j]? = wr.heap[j]? := fun j cur t h1 h2 hc => (k6 j (by rintro rfl; rw [HP.out.1] at hc; cases hc; exact h1 rfl)).trans ((grw_types (World.ownsRow.alloc HP.out.2.1 _) g5 j cur t h2 (alloc_kept hc _)).trans (alloc_kept hc _ |>.trans hc.symm))
   have P6 : Hid (w6.heap[D]? = some (.cells #[.int .i64 (cn : Int), .slice co cn cc, v5, .slice go gn gc, .slice (some ⟨rb, 0, none⟩) cn cn, .bool false] 26) /\ w6.ownsRow w.heap.size 3 1 v5 (k + 1) ((rgI (k + 1)).map (Value.int .i64)) /\ w6.heap[w.heap.size]? = some (.cells #[.int .i64 0, .slice none 0 0, .slice none 0 0, .slice none 0 0, .slice none 0 0, .bool false] 26) /\ OwB w6 w.heap.size cn rb (List.replicate cn 0) /\ Below w.heap.size w w6) := ⟨e6, by rw [rgI_succ, List.map_append]; exact owns_keepT o5 fun j cur hc => k6 j (by rintro rfl; rw [s5D] at hc; cases hc), (k6 _ hDz).trans ((grw_types (World.ownsRow.alloc HP.out.2.1 _) g5 _ _ _ (by decide) (alloc_kept HP.out.2.2.1 _)).trans (alloc_kept HP.out.2.2.1 _)), HP.out.2.2.2.1.keep fun j cur hc => hk6 j cur _ (by decide) (by decide) hc, b6⟩
   clear o5 g5 s5D q5 e6 b6 s6 k6 hk6 d0 d1 d2 d3 d4 d5
   go_roundg g
   case measure => omega
   case rel => exact ⟨k + 1, v5, by go_num, by have := HIG.out; omega, P6⟩
  ·have hd : decide ((k : Int) < (gn : Int)) = false := decide_eq_false (by omega)
   have hkd : k = gn := by omega
   subst hkd
   obtain ⟨e1, o1, r1, ow1, b1⟩ := HP.out
   have HO1 : Hid _ := o1
   obtain ⟨ia, ic, hvi, hmx, hcells⟩ := owns_slice o1
   subst hvi
   have zr : ZR wr ⟨(cn : Int), co, cn, cc, ia, k, ic, go, k, gc, some ⟨rb, 0, none⟩, cn, cn, false, cs, rgI k, gv, gs, List.replicate cn 0⟩ := ⟨HC.out wr b1, ⟨rgI_len k, hmx, by
    rcases hcells with h0 | ⟨gq, rfl, hc⟩
    ·exact .inl h0
    ·refine .inr ⟨gq, 0, rfl, fun j hj => ?_⟩
     dsimp only at hj ⊢
     have hj' : j < (rgI k).length := by rw [rgI_len]; exact hj
     rw [Nat.zero_add, hc j hj, List.getElem?_map, List.getElem?_eq_getElem hj']
     rfl⟩, HG.out wr b1, ow1.rd⟩
   have hck : checkB ⟨(cn : Int), co, cn, cc, ia, k, ic, go, k, gc, some ⟨rb, 0, none⟩, cn, cn, false, cs, rgI k, gv, gs, List.replicate cn 0⟩ = checkB (nwZ cs gs) := checkB_eq _ _ (by dsimp only [nwZ]; rw [HLN.out.1]) rfl rfl (by dsimp only [nwZ]; rw [HLN.out.1]) (by dsimp only [nwZ]; rw [HLN.out.2]) rfl (by dsimp only [nwZ]; rw [HLN.out.1]) (by dsimp only [nwZ]; rw [HLN.out.2]) (by dsimp only [nwZ]; rw [HLN.out.2]) (by dsimp only [nwZ]; rw [HLN.out.1])
   have HTK : Hid _ := takenZ_any _ wr zr
   cases hcb : checkB (nwZ cs gs) with
   | false =>
    have htk : tkZ ⟨(cn : Int), co, cn, cc, ia, k, ic, go, k, gc, some ⟨rb, 0, none⟩, cn, cn, false, cs, rgI k, gv, gs, List.replicate cn 0⟩ = badZD := by unfold tkZ; rw [hck, hcb]; rfl
    rw [htk] at HTK
    have hA : nwA cs gs = badZD := by unfold nwA; rw [hcb]; rfl
    have HFB : Hid (∀ W, _) := fun W => fresh_bad badZD W rfl
    have HA : Hid _ := hA
    have E1 : Hid _ := And.intro e1 (And.intro r1 b1)
    unfold zRow at HTK HFB
    dsimp only [badZD] at HTK HFB
    clear zr hck htk hA hcells hcb HP o1 e1 r1 b1 ow1
    go_wp2_with (first
     | (refine wpList_load_row (by rfl) 26 _ (by rfl) D _ (by rfl) E1.out.1 _ Tryz.underlying26 rfl 6 Tryz.infoZ (by rfl) ?_)
     | (go_at_call 64; refine Calls.mono HTK.out ?_; rintro e w2 ⟨rfl, c2⟩)
     | (go_at_call 69; refine Calls.mono (HFB.out _) ?_; rintro e w3 ⟨rfl, c3⟩)
     | (refine wpList_store_row (by rfl) 26 _ _ (by rfl) w w.heap.size w.heap.size _ _ (by rfl) (by rfl) (kept c3 (kept c2 E1.out.2.1)) (to_call (to_call E1.out.2.2 c2) c3) (Nat.le_refl _) 6 Tryz.infoZ (by rfl) (by rfl) (oneZ _ _ _ _ _ rfl rfl rfl rfl _) ?_; intro W9 e9 b9 s9 o9))
    refine bodyPost_ret (res_oneJ _ 4 26 (by kernel_rfl) _ _ w.heap.size _ (by rfl) _ Tryz.underlying26 rfl 6 Tryz.infoZ rfl e9) rfl ?_
    rw [HA.out]
    exact ⟨badZD, rfl, badZD_ZR _, rfl, rfl, rfl, rfl, rfl, rfl, fun b off h => (by cases h), (fun h => by cases h), b9⟩
   | true =>
    have htk : tkZ ⟨(cn : Int), co, cn, cc, ia, k, ic, go, k, gc, some ⟨rb, 0, none⟩, cn, cn, false, cs, rgI k, gv, gs, List.replicate cn 0⟩ = ⟨(cn : Int), co, cn, cc, ia, k, ic, go, k, gc, some ⟨rb, 0, none⟩, cn, cn, false, cs, rgI k, gv, gs, List.replicate cn 0⟩ := by unfold tkZ; rw [hck, hcb]; rfl
    have hfin := tkZ_fin zr
    rw [htk] at HTK hfin
    obtain ⟨k256, kwid⟩ := nwZ_ok hcb
    have hA : nwA cs gs = nwZ (cs.map plainM) (gs.map (·.map plainM)) := by unfold nwA; rw [hcb]; rfl
    have HFO : Hid (∀ W, Below wr.heap.size wr W -> _) := fun W h => fresh_ok ⟨(cn : Int), co, cn, cc, ia, k, ic, go, k, gc, some ⟨rb, 0, none⟩, cn, cn, false, cs, rgI k, gv, gs, List.replicate cn 0⟩ W (zr.later h) rfl rfl rfl (by dsimp only; rw [<- HLN.out.1]; omega) (by dsimp only; omega) (fun j hj => by dsimp only at hj ⊢; rw [kwid j (by rw [HLN.out.2]; exact hj), HLN.out.1]) hfin
    have HA : Hid _ := hA
    have E1 : Hid _ := And.intro e1 (And.intro r1 b1)
    unfold zRow at HTK HFO
    dsimp only at HTK HFO
    clear zr hck htk hA hcells hcb HP o1 e1 r1 b1 ow1 hfin kwid
    go_wp2_with (first
     | (refine wpList_load_row (by rfl) 26 _ (by rfl) D _ (by rfl) E1.out.1 _ Tryz.underlying26 rfl 6 Tryz.infoZ (by rfl) ?_)
     | (go_at_call 64; refine Calls.mono HTK.out ?_; rintro e w2 ⟨rfl, c2⟩)
     | (go_at_call 69; refine Calls.mono (HFO.out _ c2) ?_; rintro e w3 ⟨bc, br, vi3, vg3, gl3, rfl, L3, c3⟩)
     | (refine wpList_store_row (by rfl) 26 _ _ (by rfl) w w.heap.size w.heap.size _ _ (by rfl) (by rfl) (kept c3 (kept c2 E1.out.2.1)) (to_call (to_call E1.out.2.2 c2) c3) (Nat.le_refl _) 6 Tryz.infoZ (by rfl) (by rfl) (oneZ _ _ _ _ _ rfl (own_valJ L3.i).1 (own_valJ L3.g).1 rfl _) ?_; intro W9 e9 b9 s9 o9))
    have HSZ : Hid (w.heap.size <= _) := Nat.le_trans (to_call E1.out.2.2 c2).size (Nat.le_refl _)
    have L9 := L3.keep (w' := W9) fun j cur t ht hc => o9 j (by rintro rfl; rw [kept c3 (kept c2 E1.out.2.1)] at hc; cases hc; exact ht rfl)
    obtain ⟨y, hy, h1, h2, h3, h4, h5, h6, h7, -⟩ := L9.zr (cn : Int) false
    refine bodyPost_ret (res_oneJ _ 4 26 (by kernel_rfl) _ _ w.heap.size _ (by rfl) _ Tryz.underlying26 rfl 6 Tryz.infoZ rfl e9) rfl ?_
    rw [HA.out]
    have hgo : ∀ b off, y.go = some ⟨b, off, none⟩ -> ∃ cur, W9.heap[b]? = some (.cells cur 22) := by
     intro b off hb
     unfold zRow at hy
     injection hy with hy
     have h8 := congrArg (fun (a : Array Value) => a[3]?) hy
     have h9 : vg3 = .slice y.go y.gn y.gc := by injection h8
     exact owns_type L9.g (k := b) (by rw [h9, hb]; rfl)
    have hfy : FrY W9 w.heap.size y := by
     refine ⟨_, bc, br, vi3, vg3, gl3, ?_, by rw [h4, h5, h6, h7]; exact L9.monoF (HSZ.out)⟩
     rw [h2, h3]
     injection hy with hy
     exact hy.symm
    refine ⟨y, congrArg Ending.returned hy, h1, ?_, h3, h4, ?_, ?_, h7, hgo, (fun _ => hfy), b9⟩
    ·rw [h2]; dsimp only [nwZ]; rw [List.length_map, HLN.out.1]
    ·rw [h5, map_rep0]; dsimp only [nwZ]; rw [List.length_map, HLN.out.1]
    ·rw [h6]; dsimp only [nwZ]; rw [List.length_map, HLN.out.2]
end Go.Proofs.YthmhgpadinecfaaGreat
