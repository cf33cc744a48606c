import Derived.Test.YthmhgpadinecfaaGreatRNf
set_option maxRecDepth 100000
set_option maxHeartbeats 4000000
set_option linter.unusedVariables false
set_option linter.unusedSimpArgs false
namespace Go.Proofs.YthmhgpadinecfaaGreat
open Go.RowKit Go.Shelf
theorem boxF_any (z : ZD) (w : World) (hz : ZR w z) (hd : z.dn <= 1050000) :
  Calls Tryz.prog 35 #[.agg (zRow z)] w fun e w' => ∃ y : ZD, e = .returned (.agg (zRow y)) /\ ZR w' y /\ ZW y /\ BxR z y /\ (y.bad = false -> ∃ br, y.ro = some ⟨br, 0, none⟩ /\ y.rc = y.rn /\ OwB w' w.heap.size y.rn br y.rs) /\ Below w.heap.size w w' := by
 have HT : Hid (∀ W', Below w.heap.size w W' -> _) := fun W' hb => takenZ_any z W' (hz.later hb)
 have HZ : Hid (ZR w z) := hz
 have X0 : Below w.heap.size w ((w.alloc (.cells #[.int .i64 z.N, .slice z.co z.cn z.cc, .slice z.io z.dn z.dc, .slice z.go z.gn z.gc, .slice z.ro z.rn z.rc, .bool z.bad] 26)).alloc (.cells #[.int .i64 0, .slice none 0 0, .slice none 0 0, .slice none 0 0, .slice none 0 0, .bool false] 26)) := ((Below.refl _ w).alloc (Nat.le_refl _) _).alloc (by simp only [alloc_size]; omega) _
 have Y0 : ((w.alloc (.cells #[.int .i64 z.N, .slice z.co z.cn z.cc, .slice z.io z.dn z.dc, .slice z.go z.gn z.gc, .slice z.ro z.rn z.rc, .bool z.bad] 26)).alloc (.cells #[.int .i64 0, .slice none 0 0, .slice none 0 0, .slice none 0 0, .slice none 0 0, .bool false] 26)).heap[w.heap.size]? = some (.cells #[.int .i64 z.N, .slice z.co z.cn z.cc, .slice z.io z.dn z.dc, .slice z.go z.gn z.gc, .slice z.ro z.rn z.rc, .bool z.bad] 26) := alloc_kept (heap_alloc_new w _) _
 have Y1 : ((w.alloc (.cells #[.int .i64 z.N, .slice z.co z.cn z.cc, .slice z.io z.dn z.dc, .slice z.go z.gn z.gc, .slice z.ro z.rn z.rc, .bool z.bad] 26)).alloc (.cells #[.int .i64 0, .slice none 0 0, .slice none 0 0, .slice none 0 0, .slice none 0 0, .bool false] 26)).heap[w.heap.size + 1]? = some (.cells #[.int .i64 0, .slice none 0 0, .slice none 0 0, .slice none 0 0, .slice none 0 0, .bool false] 26) := heap_at _ _ (w.heap.size + 1) (by simp only [alloc_size])
 obtain ⟨t, ht⟩ : ∃ t, tkZ z = t := ⟨_, rfl⟩
 have HTK : Hid (tkZ z = t) := ht
 rw [ht] at HT
 unfold zRow at HT ⊢
 clear hz ht
 go_enter Tryz.func35, Tryz.ntmps35
 go_upto_region 1 with fail
 obtain ⟨X, hX⟩ : ∃ X, ((w.alloc (.cells #[.int .i64 z.N, .slice z.co z.cn z.cc, .slice z.io z.dn z.dc, .slice z.go z.gn z.gc, .slice z.ro z.rn z.rc, .bool z.bad] 26)).alloc (.cells #[.int .i64 0, .slice none 0 0, .slice none 0 0, .slice none 0 0, .slice none 0 0, .bool false] 26)) = X := ⟨_, rfl⟩
 rw [hX] at X0 Y0 Y1 ⊢
 have P0 : Hid (Below w.heap.size w X /\ X.heap[w.heap.size]? = some (.cells #[.int .i64 z.N, .slice z.co z.cn z.cc, .slice z.io z.dn z.dc, .slice z.go z.gn z.gc, .slice z.ro z.rn z.rc, .bool z.bad] 26) /\ X.heap[w.heap.size + 1]? = some (.cells #[.int .i64 0, .slice none 0 0, .slice none 0 0, .slice none 0 0, .slice none 0 0, .bool false] 26)) := ⟨X0, Y0, Y1⟩
 clear hX X0 Y0 Y1
 go_upto_region 2 with (first
  | (refine wpList_load_row (by rfl) 26 _ (by rfl) w.heap.size _ (by rfl) P0.out.2.1 _ Tryz.underlying26 rfl 6 Tryz.infoZ (by rfl) ?_)
  | (go_at_call 64; refine Calls.mono (HT.out _ P0.out.1) ?_; rintro e w1 ⟨rfl, hb1⟩)
  | (refine wpList_store_row (by rfl) 26 _ _ (by rfl) w w.heap.size w.heap.size _ _ (by rfl) (by rfl) (kept hb1 P0.out.2.1) (to_call P0.out.1 hb1) (Nat.le_refl _) 6 Tryz.infoZ (by rfl) (by rfl) (oneZ _ _ _ _ _ rfl rfl rfl rfl _) ?_; intro W2 e2 b2 s2 o2))
 have P2 : Hid (Below w.heap.size w W2 /\ W2.heap[w.heap.size]? = some (.cells #[.int .i64 t.N, .slice t.co t.cn t.cc, .slice t.io t.dn t.dc, .slice t.go t.gn t.gc, .slice t.ro t.rn t.rc, .bool t.bad] 26) /\ W2.heap[w.heap.size + 1]? = some (.cells #[.int .i64 0, .slice none 0 0, .slice none 0 0, .slice none 0 0, .slice none 0 0, .bool false] 26)) := ⟨b2, e2, (o2 _ (by omega)).trans (kept hb1 P0.out.2.2)⟩
 clear hb1 e2 b2 s2 o2 P0 HT
 obtain ⟨c0, c1, c2, c3, c4, c5⟩ := cells6 P2.out.2.1
 have hbad : ∀ W', Below w.heap.size w W' -> ZR W' (⟨t.N, none, 0, 0, none, 0, 0, none, 0, 0, none, 0, 0, true, [], [], fun _ => (none, 0, 0), [], []⟩ : ZD) := fun W' _ => ⟨⟨rfl, Nat.zero_le _, fun u hu => (by cases hu), .inl rfl⟩, ⟨rfl, Nat.zero_le _, .inl rfl⟩, ⟨rfl, Nat.zero_le _, .inl rfl, fun j hj => absurd hj (Nat.not_lt_zero _)⟩, ⟨rfl, Nat.zero_le _, fun u hu => (by cases hu), .inl rfl⟩⟩
 have HBA : Hid _ := hbad
 have HBW : Hid (ZW (⟨t.N, none, 0, 0, none, 0, 0, none, 0, 0, none, 0, 0, true, [], [], fun _ => (none, 0, 0), [], []⟩ : ZD)) := ⟨fun _ => ⟨rfl, rfl⟩, fun _ => ⟨rfl, rfl⟩, fun _ => ⟨rfl, rfl⟩, fun k hk => absurd hk (Nat.not_lt_zero _), Nat.zero_le _, Nat.zero_le _, Nat.zero_le _, Nat.zero_le _, fun k hk => absurd hk (Nat.not_lt_zero _)⟩
 clear hbad
 cases hgd : (!z.bad && wholeB z) with
 | false =>
  have HG : Hid _ := hgd
  have htb : t.bad = true := by rw [<- HTK.out]; exact tk_bad hgd
  rw [htb] at c5
  clear hgd htb
  go_wp2_with (first
   | (go_at_call 65; refine Calls.mono (badZ_any _ _) ?_; rintro e w3 ⟨rfl, b3⟩)
   | (refine wpList_store_row (by rfl) 26 _ _ (by rfl) w w.heap.size (w.heap.size + 1) #[.int .i64 t.N, .slice none 0 0, .slice none 0 0, .slice none 0 0, .slice none 0 0, .bool true] _ (by rfl) (by rfl) (kept b3 P2.out.2.2) (to_call P2.out.1 b3) (by omega) 6 Tryz.infoZ (by rfl) (by rfl) (oneZ _ _ _ _ _ rfl rfl rfl rfl _) ?_; intro W9 e9 b9 s9 o9))
  refine bodyPost_ret (res_oneJ _ 2 26 (by kernel_rfl) _ _ (w.heap.size + 1) _ (by rfl) _ Tryz.underlying26 rfl 6 Tryz.infoZ rfl e9) rfl ?_
  exact ⟨⟨t.N, none, 0, 0, none, 0, 0, none, 0, 0, none, 0, 0, true, [], [], fun _ => (none, 0, 0), [], []⟩, rfl, HBA.out _ b9, HBW.out, ⟨.inr ⟨.inl HG.out, by rw [HTK.out]⟩⟩, (fun h => by cases h), b9⟩
 | true =>
  obtain ⟨hb0, hwh, hck⟩ := tk_good hgd
  have HG : Hid _ := hgd
  have hzt : z = t := (tk_self hck).symm.trans HTK.out
  subst hzt
  have HF : Hid (WhF z) := WhF.of HZ.out hd hwh
  rw [hb0] at c5
  have HRe : Hid (∀ W', Below w.heap.size w W' -> _) := fun W' hb => reaches_any z W' (HZ.out.later hb) (by have := HF.out.n2; omega) (Nat.le_of_eq HF.out.dg) HF.out.gl
  have HB0 : Hid (z.bad = false) := hb0
  clear hgd hwh hck hb0
  go_upto_region 5 with (first
   | (refine wpList_load_row (by rfl) 26 _ (by rfl) w.heap.size _ (by rfl) P2.out.2.1 _ Tryz.underlying26 rfl 6 Tryz.infoZ (by rfl) ?_)
   | (go_at_call 67; refine Calls.mono (HRe.out _ P2.out.1) ?_; rintro e w4 ⟨rfl, ⟨p, hp⟩, b4, s4⟩; have HP : Hid (AcL w4 (W2.heap.size + 1) z.rn p (farZ z)) := hp; clear hp)
   | (go_at_call 66; refine Calls.mono (roundedUp_any (W2.heap.size + 1) z.rn p (farZ z) _ HP.out s4 (by have := HF.out.n2; omega)) ?_; rintro e w5 ⟨h5, b5⟩; rcases h5 with ⟨br, us, rfl, ho, hu⟩ | ⟨j, uj, hj, hru, rfl⟩))
  ·have Q5 : Hid (Below w.heap.size w w5 /\ w5.heap[w.heap.size]? = some (.cells #[.int .i64 z.N, .slice z.co z.cn z.cc, .slice z.io z.dn z.dc, .slice z.go z.gn z.gc, .slice z.ro z.rn z.rc, .bool z.bad] 26) /\ w5.heap[w.heap.size + 1]? = some (.cells #[.int .i64 0, .slice none 0 0, .slice none 0 0, .slice none 0 0, .slice none 0 0, .bool false] 26) /\ OwB w5 w.heap.size z.rn br us /\ ∀ j, j < z.rn -> RndO 1 (farZ z j) (us[j]?.getD 0) true) := ⟨to_call (to_call P2.out.1 b4) b5, kept b5 (kept b4 P2.out.2.1), kept b5 (kept b4 P2.out.2.2), ho.mono (to_call P2.out.1 b4).size, hu⟩
   have HPL : Hid (∀ W', Below w.heap.size w W' -> _) := fun W' hb => plainOwn_any z.co z.cn z.cc z.cs (by rw [HF.out.cn]; have := HF.out.n2; omega) (fun x hx => by obtain ⟨j, hj, rfl⟩ := List.getElem_of_mem hx; have := HF.out.fin.c j; rw [List.getElem?_eq_getElem hj] at this; exact this) W' (HZ.out.later hb).c
   clear b4 b5 s4 ho hu HP HRe P2 c0 c1 c2 c3 c4 c5
   unfold slN
   go_upto_region 7 with fail
   have qV : Below w.heap.size w w5.drew := Q5.out.1.drew
   have SX : (fun V => V.heap[w.heap.size]? = some (.cells #[.int .i64 z.N, .slice z.co z.cn z.cc, .slice z.io z.dn z.dc, .slice z.go z.gn z.gc, .slice z.ro z.rn z.rc, .bool z.bad] 26)) w5.drew := Q5.out.2.1
   have or0 : OwB w5.drew w.heap.size z.rn br us := Q5.out.2.2.2.1.later (Below.refl _ w5).drew
   have RV : w5.drew.heap[w.heap.size + 1]? = some (.cells #[.int .i64 0, .slice none 0 0, .slice none 0 0, .slice none 0 0, .slice none 0 0, .bool false] 26) := Q5.out.2.2.1
   refine wp_region_noPanic ?_
   refine wp_region_P (S := (fun V => V.heap[w.heap.size]? = some (.cells #[.int .i64 z.N, .slice z.co z.cn z.cc, .slice z.io z.dn z.dc, .slice z.go z.gn z.gc, .slice z.ro z.rn z.rc, .bool z.bad] 26))) (s := 7) (by kernel_rfl) ?_
   refine tzP 23 0 ?_ (Or.inl ⟨by kernel_rfl, ?_⟩) SX ?_
   rotate_left
   ·intro w' hSw; obtain ⟨c0, c1, c2, c3, c4, c5⟩ := cells6 hSw; go_simp; try with_reducible rfl
   try simp only [pA,pE,pB,pC,pD]
   refine tzP 24 1 ?_ (Or.inl ⟨by kernel_rfl, ?_⟩) SX ?_
   rotate_left
   ·intro w' hSw; obtain ⟨c0, c1, c2, c3, c4, c5⟩ := cells6 hSw; go_simp; try with_reducible rfl
   try simp only [pA,pE,pB,pC,pD]
   refine tzP 25 2 ?_ (Or.inl ⟨by kernel_rfl, ?_⟩) SX ?_
   rotate_left
   ·intro w' hSw; obtain ⟨c0, c1, c2, c3, c4, c5⟩ := cells6 hSw; go_simp; try with_reducible rfl
   try simp only [pA,pE,pB,pC,pD]
   refine tzP 26 3 ?_ (Or.inl ⟨by kernel_rfl, ?_⟩) SX ?_
   rotate_left
   ·intro w' hSw; obtain ⟨c0, c1, c2, c3, c4, c5⟩ := cells6 hSw; go_simp; try with_reducible rfl
   try simp only [pA,pE,pB,pC,pD]
   refine tzP 28 5 ?_ (Or.inl ⟨by kernel_rfl, ?_⟩) SX ?_
   rotate_left
   ·intro w' hSw; obtain ⟨c0, c1, c2, c3, c4, c5⟩ := cells6 hSw; go_simp; try with_reducible rfl
   try simp only [pA,pE,pB,pC,pD]
   refine rzP [4] ?_
   refine consP _ rfl (hzC 27 (Calls.mono (HPL.out _ qV) ?_)) AllReadyP.nil
   rintro e V1 ⟨bc, rfl, oc, b1⟩
   have SX : (fun V => V.heap[w.heap.size]? = some (.cells #[.int .i64 z.N, .slice z.co z.cn z.cc, .slice z.io z.dn z.dc, .slice z.go z.gn z.gc, .slice z.ro z.rn z.rc, .bool z.bad] 26)) V1 := kept b1 SX
   have q1 : Below w.heap.size w V1 := to_call qV b1
   have or1 := or0.later b1
   have R1 := kept b1 RV
   unfold slN
   refine ⟨_, rfl, SX, ?_⟩
   try simp only [pA,pE,pB,pC,pD]
   refine tzP 29 6 (.agg #[.int .i64 z.N, .slice (some ⟨bc, 0, none⟩) z.cn z.cn, .slice none 0 0, .slice none 0 0, .slice (some ⟨br, 0, none⟩) z.rn z.rn, .bool false]) (Or.inl ⟨by kernel_rfl, fun w' _ => by kernel_rfl⟩) SX ?_
   try simp only [pA,pE,pB,pC,pD]
   refine rzP [7] ?_
   refine consPs _ rfl (by kernel_rfl) (hopL rfl (wpList_store_row (by rfl) 26 _ _ (by rfl) w w.heap.size (w.heap.size + 1) #[.int .i64 z.N, .slice (some ⟨bc, 0, none⟩) z.cn z.cn, .slice none 0 0, .slice none 0 0, .slice (some ⟨br, 0, none⟩) z.rn z.rn, .bool false] _ (by kernel_rfl) (by kernel_rfl) R1 q1 (by omega) 6 Tryz.infoZ rfl rfl (oneZ _ _ _ _ _ rfl rfl rfl rfl _) fun V3 e3 b3 s3 k3 => ?_)) AllReadyP.nil
   refine ⟨trivial, ?_⟩
   try simp only [pA,pE,pB,pC,pD]
   refine wpAnyP_done (by kernel_rfl) ?_ _
   refine NoPanic.normal ?_
   try simp only [pA,pE,pB,pC,pD]
   have HE : Hid (V3.heap[w.heap.size + 1]? = some (.cells #[.int .i64 z.N, .slice (some ⟨bc, 0, none⟩) z.cn z.cn, .slice none 0 0, .slice none 0 0, .slice (some ⟨br, 0, none⟩) z.rn z.rn, .bool false] 26) /\ Below w.heap.size w V3 /\ OwB V3 w.heap.size z.cn bc (z.cs.map plainM) /\ OwB V3 w.heap.size z.rn br us) := ⟨e3, b3, (oc.mono qV.size).keep fun k cur hc => k3 k (by rintro rfl; rw [R1] at hc; cases hc), or1.keep fun k cur hc => k3 k (by rintro rfl; rw [R1] at hc; cases hc)⟩
   clear SX or0 or1 RV R1 e3 b3 s3 k3 oc b1 q1 qV HPL
   go_wp2_with fail
   refine bodyPost_ret (res_oneJ _ 2 26 (by kernel_rfl) _ _ (w.heap.size + 1) _ (by rfl) _ Tryz.underlying26 rfl 6 Tryz.infoZ rfl HE.out.1) rfl ?_
   refine ⟨⟨z.N, some ⟨bc, 0, none⟩, z.cn, z.cn, none, 0, 0, none, 0, 0, some ⟨br, 0, none⟩, z.rn, z.rn, false, z.cs.map plainM, [], fun _ => (none, 0, 0), [], us⟩, rfl, ⟨HE.out.2.2.1.rd, ⟨rfl, Nat.zero_le _, .inl rfl⟩, ⟨rfl, Nat.zero_le _, .inl rfl, fun j hj => absurd hj (Nat.not_lt_zero _)⟩, HE.out.2.2.2.rd⟩, ⟨(fun h => by cases h), fun _ => ⟨rfl, rfl⟩, (fun h => by cases h), fun k hk => absurd hk (Nat.not_lt_zero _), by have := HF.out.n2; have := HF.out.cn; dsimp only; omega, Nat.zero_le _, Nat.zero_le _, by have := HF.out.n2; dsimp only; omega, fun k hk => absurd hk (Nat.not_lt_zero _)⟩, ⟨.inl ⟨HG.out, rfl, rfl, rfl, HE.out.2.2.2.rd.length, Q5.out.2.2.2.2, rfl, rfl, HF.out.cn, rfl, rfl, rfl⟩⟩, (fun _ => ⟨br, rfl, rfl, HE.out.2.2.2⟩), HE.out.2.1⟩
  ·have Q5 : Hid (Below w.heap.size w w5 /\ w5.heap[w.heap.size]? = some (.cells #[.int .i64 z.N, .slice z.co z.cn z.cc, .slice z.io z.dn z.dc, .slice z.go z.gn z.gc, .slice z.ro z.rn z.rc, .bool z.bad] 26) /\ w5.heap[w.heap.size + 1]? = some (.cells #[.int .i64 0, .slice none 0 0, .slice none 0 0, .slice none 0 0, .slice none 0 0, .bool false] 26)) := ⟨to_call (to_call P2.out.1 b4) b5, kept b5 (kept b4 P2.out.2.1), kept b5 (kept b4 P2.out.2.2)⟩
   have HRU : Hid (RndO 1 (farZ z j) uj false) := hru
   clear b4 b5 s4 HP HRe P2 c0 c1 c2 c3 c4 c5 hru
   obtain ⟨d0, d1, d2, d3, d4, d5⟩ := cells6 Q5.out.2.1
   go_wp2_with (first
    | (go_at_call 65; refine Calls.mono (badZ_any _ _) ?_; rintro e w6 ⟨rfl, b6⟩)
    | (refine wpList_store_row (by rfl) 26 _ _ (by rfl) w w.heap.size (w.heap.size + 1) #[.int .i64 z.N, .slice none 0 0, .slice none 0 0, .slice none 0 0, .slice none 0 0, .bool true] _ (by rfl) (by rfl) (kept b6 Q5.out.2.2) (to_call Q5.out.1 b6) (by omega) 6 Tryz.infoZ (by rfl) (by rfl) (oneZ _ _ _ _ _ rfl rfl rfl rfl _) ?_; intro W9 e9 b9 s9 o9))
   refine bodyPost_ret (res_oneJ _ 2 26 (by kernel_rfl) _ _ (w.heap.size + 1) _ (by rfl) _ Tryz.underlying26 rfl 6 Tryz.infoZ rfl e9) rfl ?_
   exact ⟨⟨z.N, none, 0, 0, none, 0, 0, none, 0, 0, none, 0, 0, true, [], [], fun _ => (none, 0, 0), [], []⟩, rfl, HBA.out _ b9, HBW.out, ⟨.inr ⟨.inr ⟨j, uj, hj, HRU.out⟩, by rw [HTK.out]⟩⟩, (fun h => by cases h), b9⟩
end Go.Proofs.YthmhgpadinecfaaGreat
