import Derived.Test.YtgialbaeekkkhaaGreatPPv
set_option maxRecDepth 100000
set_option maxHeartbeats 20000000
set_option linter.unusedVariables false
set_option linter.unusedSimpArgs false
namespace Go.Proofs.YtgialbaeekkkhaaGreat
open Go.RowKit Go.Shelf
theorem zonoAdds_walk (a b:ZD) (w:World) (ha:ZR w a) (hwa:ZW a) (hda:a.dn <= 1048576) (hb:ZR w b) (hwb:ZW b) (hdb:b.dn <= 1048576) :
  Calls Tryz.prog 3 #[.agg (zRow a),.agg (zRow b)] w fun e w'=>e = .returned (.bool true) /\ Below w.heap.size w w':=by
 have HOA:Hid (∀ W',Below w.heap.size w W' -> _):=fun W' h=>ofU a W' (ha.later h) hwa
 have HOB:Hid (∀ W',Below w.heap.size w W' -> _):=fun W' h=>ofU b W' (hb.later h) hwb
 have HLA:Hid (∀ W',Below w.heap.size w W' -> _):=fun W' h=>laid_any a W' (ha.later h) hwa
 have HLB:Hid (∀ W',Below w.heap.size w W' -> _):=fun W' h=>laid_any b W' (hb.later h) hwb
 have HA:Hid (ZR w a /\ ZW a /\ a.dn <= 1048576):=⟨ha,hwa,hda⟩
 have HB:Hid (ZR w b /\ ZW b /\ b.dn <= 1048576):=⟨hb,hwb,hdb⟩
 clear ha hwa hda hb hwb hdb
 have X0:Below w.heap.size w ((w.alloc (.cells (zRow a) 26)).alloc (.cells (zRow b) 26)):=((Below.refl _ w).alloc (Nat.le_refl _) _).alloc (by simp only [alloc_size];omega) _
 have Y0:((w.alloc (.cells (zRow a) 26)).alloc (.cells (zRow b) 26)).heap[w.heap.size]? = some (.cells (zRow a) 26):=alloc_kept (heap_alloc_new w _) _
 have Y1:((w.alloc (.cells (zRow a) 26)).alloc (.cells (zRow b) 26)).heap[w.heap.size + 1]? = some (.cells (zRow b) 26):=heap_at _ _ _ (by simp only [alloc_size])
 go_enter Tryz.func3,Tryz.ntmps3
 go_upto_region 1 with fail
 obtain ⟨X,hX⟩:∃ X,((w.alloc (.cells (zRow a) 26)).alloc (.cells (zRow b) 26)) = X:=⟨_,rfl⟩
 rw [hX] at X0 Y0 Y1 ⊢
 have HX:Hid (Below w.heap.size w X /\ X.heap[w.heap.size]? = some (.cells (zRow a) 26) /\ X.heap[w.heap.size + 1]? = some (.cells (zRow b) 26)):=⟨X0,Y0,Y1⟩
 clear hX X0 Y0 Y1
 go_upto_region 2 with (first
  | (refine wpList_load_row (by rfl) 26 _ (by rfl) w.heap.size _ (by rfl) HX.out.2.1 _ Tryz.underlying26 rfl 6 Tryz.infoZq (by rfl) ?_)
  | (go_at_call 4;refine Calls.mono (HOA.out _ HX.out.1) ?_;rintro e w1 ⟨u,rfl,hu,hsu,b1⟩)
  | (refine wpList_store_row (by rfl) 30 _ _ (by rfl) w1 w1.heap.size w1.heap.size (zRow u) _ (by rfl) (by rfl) (heap_alloc_new w1 _) ((Below.refl _ w1).alloc (Nat.le_refl _) _) (Nat.le_refl _) 6 Tryz.infoZu rfl rfl (oneZ _ _ _ _ _ rfl rfl rfl rfl _) ?_;intro W1 E1 b1' s1 o1))
 have a1:=to_call b1 b1'
 have H1:Hid (Below w.heap.size w W1 /\ W1.heap[w.heap.size]? = some (.cells (zRow a) 26) /\ W1.heap[(w.heap.size + 1)]? = some (.cells (zRow b) 26) /\ W1.heap[w1.heap.size]? = some (.cells (zRow u) 30) /\ ZU W1 u):=⟨to_call HX.out.1 a1,kept a1 HX.out.2.1,kept a1 HX.out.2.2,E1,hu.later b1'⟩
 have HSU:Hid (SmZ u a):=hsu
 obtain ⟨B5,hB5⟩:∃ x,w1.heap.size = x:=⟨_,rfl⟩
 rw [hB5] at H1
 rw [hB5]
 clear hB5 a1 b1 b1' s1 o1 E1 hu hsu HX
 go_upto_region 3 with (first
  | (refine wpList_load_row (by rfl) 26 _ (by rfl) (w.heap.size + 1) _ (by rfl) H1.out.2.2.1 _ Tryz.underlying26 rfl 6 Tryz.infoZq (by rfl) ?_)
  | (go_at_call 4;refine Calls.mono (HOB.out _ H1.out.1) ?_;rintro e w2 ⟨q,rfl,hq,hsq,b2⟩)
  | (refine wpList_store_row (by rfl) 30 _ _ (by rfl) w2 w2.heap.size w2.heap.size (zRow q) _ (by rfl) (by rfl) (heap_alloc_new w2 _) ((Below.refl _ w2).alloc (Nat.le_refl _) _) (Nat.le_refl _) 6 Tryz.infoZu rfl rfl (oneZ _ _ _ _ _ rfl rfl rfl rfl _) ?_;intro W2 E2 b2' s2 o2))
 have a2:=to_call b2 b2'
 have H2:Hid (Below w.heap.size w W2 /\ W2.heap[w.heap.size]? = some (.cells (zRow a) 26) /\ W2.heap[(w.heap.size + 1)]? = some (.cells (zRow b) 26) /\ W2.heap[B5]? = some (.cells (zRow u) 30) /\ W2.heap[w2.heap.size]? = some (.cells (zRow q) 30) /\ ZU W2 u /\ ZU W2 q):=⟨to_call H1.out.1 a2,kept a2 H1.out.2.1,kept a2 H1.out.2.2.1,kept a2 H1.out.2.2.2.1,E2,H1.out.2.2.2.2.later a2,hq.later b2'⟩
 have HSQ:Hid (SmZ q b):=hsq
 obtain ⟨B6,hB6⟩:∃ x,w2.heap.size = x:=⟨_,rfl⟩
 rw [hB6] at H2
 rw [hB6]
 clear hB6 a2 b2 b2' s2 o2 E2 hq hsq H1
 go_upto_region 4 with (first
  | (refine wpList_load_row (by rfl) 26 _ (by rfl) w.heap.size _ (by rfl) H2.out.2.1 _ Tryz.underlying26 rfl 6 Tryz.infoZq (by rfl) ?_)
  | (go_at_call 5;refine Calls.mono (HLA.out _ H2.out.1) ?_;rintro e w3 ⟨x,rfl,hx,b3⟩)
  | (refine wpList_store_row (by rfl) 26 _ _ (by rfl) w3 w3.heap.size w3.heap.size (zRow x) _ (by rfl) (by rfl) (heap_alloc_new w3 _) ((Below.refl _ w3).alloc (Nat.le_refl _) _) (Nat.le_refl _) 6 Tryz.infoZq rfl rfl (oneZ _ _ _ _ _ rfl rfl rfl rfl _) ?_;intro W3 E3 b3' s3 o3))
 have a3:=to_call b3 b3'
 have H3:Hid (Below w.heap.size w W3 /\ W3.heap[w.heap.size]? = some (.cells (zRow a) 26) /\ W3.heap[(w.heap.size + 1)]? = some (.cells (zRow b) 26) /\ W3.heap[B5]? = some (.cells (zRow u) 30) /\ W3.heap[B6]? = some (.cells (zRow q) 30) /\ W3.heap[w3.heap.size]? = some (.cells (zRow x) 26) /\ ZU W3 u /\ ZU W3 q /\ LdR W3 W2.heap.size a x):=⟨to_call H2.out.1 a3,kept a3 H2.out.2.1,kept a3 H2.out.2.2.1,kept a3 H2.out.2.2.2.1,kept a3 H2.out.2.2.2.2.1,E3,H2.out.2.2.2.2.2.1.later a3,H2.out.2.2.2.2.2.2.later a3,hx.later b3'⟩
 have HSX:Hid (SmZ x a):=hx.sm HA.out.1
 obtain ⟨B7,hB7⟩:∃ x,w3.heap.size = x:=⟨_,rfl⟩
 rw [hB7] at H3
 rw [hB7]
 clear hB7 a3 b3 b3' s3 o3 E3 hx H2
 go_upto_region 5 with (first
  | (refine wpList_load_row (by rfl) 26 _ (by rfl) (w.heap.size + 1) _ (by rfl) H3.out.2.2.1 _ Tryz.underlying26 rfl 6 Tryz.infoZq (by rfl) ?_)
  | (go_at_call 5;refine Calls.mono (HLB.out _ H3.out.1) ?_;rintro e w4 ⟨y,rfl,hy,b4⟩)
  | (refine wpList_store_row (by rfl) 26 _ _ (by rfl) w4 w4.heap.size w4.heap.size (zRow y) _ (by rfl) (by rfl) (heap_alloc_new w4 _) ((Below.refl _ w4).alloc (Nat.le_refl _) _) (Nat.le_refl _) 6 Tryz.infoZq rfl rfl (oneZ _ _ _ _ _ rfl rfl rfl rfl _) ?_;intro W4 E4 b4' s4 o4))
 have a4:=to_call b4 b4'
 have H4:Hid (Below w.heap.size w W4 /\ W4.heap[w.heap.size]? = some (.cells (zRow a) 26) /\ W4.heap[B5]? = some (.cells (zRow u) 30) /\ W4.heap[B6]? = some (.cells (zRow q) 30) /\ W4.heap[B7]? = some (.cells (zRow x) 26) /\ W4.heap[w4.heap.size]? = some (.cells (zRow y) 26) /\ ZU W4 u /\ ZU W4 q /\ LdR W4 W2.heap.size a x /\ LdR W4 W3.heap.size b y):=⟨to_call H3.out.1 a4,kept a4 H3.out.2.1,kept a4 H3.out.2.2.2.1,kept a4 H3.out.2.2.2.2.1,kept a4 H3.out.2.2.2.2.2.1,E4,H3.out.2.2.2.2.2.2.1.later a4,H3.out.2.2.2.2.2.2.2.1.later a4,H3.out.2.2.2.2.2.2.2.2.later a4,hy.later b4'⟩
 have HSY:Hid (SmZ y b):=hy.sm HB.out.1
 obtain ⟨B8,hB8⟩:∃ x,w4.heap.size = x:=⟨_,rfl⟩
 rw [hB8] at H4
 rw [hB8]
 clear hB8 a4 b4 b4' s4 o4 E4 hy H3
 have HDX:Hid (x.dn <= 1050000 /\ y.dn <= 1050000):=⟨by rw [HSX.out.dn];have:=HA.out.2.2;omega,by rw [HSY.out.dn];have:=HB.out.2.2;omega⟩
 have HPL:Hid _:=plusP_any x y W4 H4.out.2.2.2.2.2.2.2.2.1.zr H4.out.2.2.2.2.2.2.2.2.2.zr HDX.out.1 HDX.out.2
 go_upto_region 6 with (first
  | (refine wpList_load_row (by rfl) 26 _ (by rfl) B7 _ (by rfl) H4.out.2.2.2.2.1 _ Tryz.underlying26 rfl 6 Tryz.infoZq (by rfl) ?_)
  | (refine wpList_load_row (by rfl) 26 _ (by rfl) B8 _ (by rfl) H4.out.2.2.2.2.2.1 _ Tryz.underlying26 rfl 6 Tryz.infoZq (by rfl) ?_)
  | (go_at_call 6;refine Calls.mono HPL.out ?_;rintro e w5 ⟨⟨c,rfl,hp⟩,b5⟩)
  | (refine wpList_store_row (by rfl) 26 _ _ (by rfl) w5 w5.heap.size w5.heap.size c _ (by rfl) (by rfl) (heap_alloc_new w5 _) ((Below.refl _ w5).alloc (Nat.le_refl _) _) (Nat.le_refl _) 6 Tryz.infoZq hp.sz.1 rfl hp.sz.2 ?_;intro W5 E5 b5' s5 o5))
 have a5:=to_call b5 b5'
 have H5:Hid (Below w.heap.size w W5 /\ W5.heap[w.heap.size]? = some (.cells (zRow a) 26) /\ W5.heap[B5]? = some (.cells (zRow u) 30) /\ W5.heap[B6]? = some (.cells (zRow q) 30) /\ W5.heap[B7]? = some (.cells (zRow x) 26) /\ W5.heap[B8]? = some (.cells (zRow y) 26) /\ W5.heap[w5.heap.size]? = some (.cells c 26) /\ ZU W5 u /\ ZU W5 q /\ LdR W5 W2.heap.size a x /\ LdR W5 W3.heap.size b y):=⟨to_call H4.out.1 a5,kept a5 H4.out.2.1,kept a5 H4.out.2.2.1,kept a5 H4.out.2.2.2.1,kept a5 H4.out.2.2.2.2.1,kept a5 H4.out.2.2.2.2.2.1,E5,H4.out.2.2.2.2.2.2.1.later a5,H4.out.2.2.2.2.2.2.2.1.later a5,H4.out.2.2.2.2.2.2.2.2.1.later a5,H4.out.2.2.2.2.2.2.2.2.2.later a5⟩
 have HPR:Hid (PlR (tkZ x) (tkZ y) W4.heap.size w5 c /\ Below w5.heap.size w5 W5):=⟨hp,b5'⟩
 have HCS:Hid (c.size = 6):=hp.sz.1
 obtain ⟨B9,hB9⟩:∃ x,w5.heap.size = x:=⟨_,rfl⟩
 rw [hB9] at H5
 rw [hB9]
 clear hB9 a5 b5 b5' s5 o5 E5 hp HPL H4
 have HUX:Hid (SmZ u x /\ SmZ q y):=⟨HSU.out.trans HSX.out.symm,HSQ.out.trans HSY.out.symm⟩
 have HUW:Hid (UW u /\ UW q):=⟨SmZ.uw HSU.out HA.out.1 HA.out.2.1 H5.out.2.2.2.2.2.2.2.1,SmZ.uw HSQ.out HB.out.1 HB.out.2.1 H5.out.2.2.2.2.2.2.2.2.1⟩
 obtain ⟨sx,hsx⟩:∃ s,sameZ (tkZ x) (tkZ y) = s:=⟨_,rfl⟩
 have HSS:Hid (sameZ (tkZ x) (tkZ y) = sx):=hsx
 have HST:Hid (sameZ (tkZ u) (tkZ q) = sx):=by rw [<- hsx];exact same_sm HUX.out.1 HUX.out.2
 have HSA:Hid (sameZ (tkZ x) (tkZ a) = true):=by
  have h:=same_sm HSX.out (⟨rfl,rfl,rfl,rfl,rfl,rfl,rfl,rfl,rfl,rfl⟩:SmZ a a)
  unfold Hid
  rw [h]
  exact sameZ_self _
 have dss:(sx != sx) = false:=by simp
 clear hsx
 refine wp_region_noPanic ?_
 have SV0:(fun V=>Below W5.heap.size W5 V) W5.drew:=(Below.refl _ W5).drew
 refine wp_region_held_drew (S:=(fun V=>Below W5.heap.size W5 V)) (by kernel_rfl) SV0 (fun _=>?_)
 refine tzH 21 0 (.agg c) (Or.inl ⟨by kernel_rfl,fun w' hSw=>ex_loadRN _ 26 _ rfl B9 (by kernel_rfl) w' _ (kept hSw H5.out.2.2.2.2.2.2.1) _ Tryz.underlying26 rfl 6 Tryz.infoZq HCS.out⟩) SV0 ?_
 (try simp only [pA,pE,pB,pC,pD])
 refine tzH 22 1 (.agg (zRow u)) (Or.inl ⟨by kernel_rfl,fun w' hSw=>ex_loadRN _ 30 _ rfl B5 (by kernel_rfl) w' _ (kept hSw H5.out.2.2.1) _ Tryz.underlying30 rfl 6 Tryz.infoZu rfl⟩) SV0 ?_
 (try simp only [pA,pE,pB,pC,pD])
 refine tzH 23 2 (.agg (zRow q)) (Or.inl ⟨by kernel_rfl,fun w' hSw=>ex_loadRN _ 30 _ rfl B6 (by kernel_rfl) w' _ (kept hSw H5.out.2.2.2.1) _ Tryz.underlying30 rfl 6 Tryz.infoZu rfl⟩) SV0 ?_
 (try simp only [pA,pE,pB,pC,pD])
 refine rzH [3] ?_
 refine consH _ rfl (hzC 24 (Calls.mono (refPlus_any u q _ (H5.out.2.2.2.2.2.2.2.1.later SV0) (H5.out.2.2.2.2.2.2.2.2.1.later SV0) HUW.out.1 HUW.out.2) ?_)) AllReadyH.nil
 rintro e V1 ⟨v,rfl,hzv,hpd,c1⟩
 have SV1:(fun V=>Below W5.heap.size W5 V) V1:=to_call SV0 c1
 obtain ⟨z,hzc,hzr,hbit⟩:=PlR.doc HPR.out.1 hpd H5.out.2.2.2.2.2.2.2.2.2.1.zr H5.out.2.2.2.2.2.2.2.2.2.2.zr HDX.out.1 HDX.out.2 HUX.out.1 HUX.out.2
 injection hzc with hzc
 subst hzc
 refine ⟨_,rfl,SV1,?_⟩
 (try simp only [pA,pE,pB,pC,pD])
 refine rzH [4] ?_
 refine consH _ rfl (hzC 25 (Calls.mono (refSameZ_any z v _ (hzr.later (to_call HPR.out.2 SV1)) hzv) ?_)) AllReadyH.nil
 rintro e V2 ⟨rfl,c2⟩
 have SV2:(fun V=>Below W5.heap.size W5 V) V2:=to_call SV1 c2
 rw [hbit]
 refine ⟨_,rfl,SV2,?_⟩
 (try simp only [pA,pE,pB,pC,pD])
 refine tzI 26 5 ?_ ?_ SV2 ?_
 rotate_left
 ·intro w' hSw;go_simp;try with_reducible rfl
 (try simp only [pA,pE,pB,pC,pD])
 refine tzI 27 6 ?_ ?_ SV2 ?_
 rotate_left
 ·intro w' hSw;go_simp;try with_reducible rfl
 (try simp only [pA,pE,pB,pC,pD])
 refine tzH 28 7 (.agg (zRow x)) (Or.inl ⟨by kernel_rfl,fun w' hSw=>ex_loadRN _ 26 _ rfl B7 (by kernel_rfl) w' _ (kept hSw H5.out.2.2.2.2.1) _ Tryz.underlying26 rfl 6 Tryz.infoZq rfl⟩) SV2 ?_
 (try simp only [pA,pE,pB,pC,pD])
 refine tzH 29 8 (.agg (zRow y)) (Or.inl ⟨by kernel_rfl,fun w' hSw=>ex_loadRN _ 26 _ rfl B8 (by kernel_rfl) w' _ (kept hSw H5.out.2.2.2.2.2.1) _ Tryz.underlying26 rfl 6 Tryz.infoZq rfl⟩) SV2 ?_
 (try simp only [pA,pE,pB,pC,pD])
 refine tzH 31 10 (.agg (zRow u)) (Or.inl ⟨by kernel_rfl,fun w' hSw=>ex_loadRN _ 30 _ rfl B5 (by kernel_rfl) w' _ (kept hSw H5.out.2.2.1) _ Tryz.underlying30 rfl 6 Tryz.infoZu rfl⟩) SV2 ?_
 (try simp only [pA,pE,pB,pC,pD])
 refine tzH 32 11 (.agg (zRow q)) (Or.inl ⟨by kernel_rfl,fun w' hSw=>ex_loadRN _ 30 _ rfl B6 (by kernel_rfl) w' _ (kept hSw H5.out.2.2.2.1) _ Tryz.underlying30 rfl 6 Tryz.infoZu rfl⟩) SV2 ?_
 (try simp only [pA,pE,pB,pC,pD])
 refine rzH [9] ?_
 refine consH _ rfl (hzC 30 (Calls.mono (samZ_row x y _ (H5.out.2.2.2.2.2.2.2.2.2.1.zr.later SV2) (H5.out.2.2.2.2.2.2.2.2.2.2.zr.later SV2)) ?_)) AllReadyH.nil
 rintro e V3 ⟨rfl,c3⟩
 have SV3:(fun V=>Below W5.heap.size W5 V) V3:=to_call SV2 c3
 rw [HSS.out]
 refine ⟨_,rfl,SV3,?_⟩
 (try simp only [pA,pE,pB,pC,pD])
 refine rzH [12] ?_
 refine consH _ rfl (hzC 33 (Calls.mono (refAlike_any u q _ (H5.out.2.2.2.2.2.2.2.1.later SV3) (H5.out.2.2.2.2.2.2.2.2.1.later SV3) HUW.out.1 HUW.out.2) ?_)) AllReadyH.nil
 rintro e V4 ⟨rfl,c4⟩
 have SV4:(fun V=>Below W5.heap.size W5 V) V4:=to_call SV3 c4
 rw [HST.out]
 refine ⟨_,rfl,SV4,?_⟩
 (try simp only [pA,pE,pB,pC,pD])
 refine tzI 34 13 ?_ ?_ SV4 ?_
 rotate_left
 ·intro w' hSw;go_simp;try with_reducible rfl
 (try simp only [pA,pE,pB,pC,pD])
 refine tzI 35 14 ?_ ?_ SV4 ?_
 rotate_left
 ·intro w' hSw;go_simp;try with_reducible rfl
 (try simp only [pA,pE,pB,pC,pD])
 refine tzI 36 15 ?_ ?_ SV4 ?_
 rotate_left
 ·intro w' hSw;go_simp;try with_reducible rfl
 (try simp only [pA,pE,pB,pC,pD])
 refine tzH 37 16 (.agg (zRow x)) (Or.inl ⟨by kernel_rfl,fun w' hSw=>ex_loadRN _ 26 _ rfl B7 (by kernel_rfl) w' _ (kept hSw H5.out.2.2.2.2.1) _ Tryz.underlying26 rfl 6 Tryz.infoZq rfl⟩) SV4 ?_
 (try simp only [pA,pE,pB,pC,pD])
 refine tzH 38 17 (.agg (zRow a)) (Or.inl ⟨by kernel_rfl,fun w' hSw=>ex_loadRN _ 26 _ rfl w.heap.size (by kernel_rfl) w' _ (kept hSw H5.out.2.1) _ Tryz.underlying26 rfl 6 Tryz.infoZq rfl⟩) SV4 ?_
 (try simp only [pA,pE,pB,pC,pD])
 refine rzH [18] ?_
 refine consH _ rfl (hzC 39 (Calls.mono (samZ_row x a _ (H5.out.2.2.2.2.2.2.2.2.2.1.zr.later SV4) (HA.out.1.later (to_call H5.out.1 SV4))) ?_)) AllReadyH.nil
 rintro e V5 ⟨rfl,c5⟩
 have SV5:(fun V=>Below W5.heap.size W5 V) V5:=to_call SV4 c5
 rw [HSA.out]
 refine ⟨_,rfl,SV5,?_⟩
 (try simp only [pA,pE,pB,pC,pD])
 refine tzI 40 19 ?_ ?_ SV5 ?_
 rotate_left
 ·intro w' hSw;go_simp;try with_reducible rfl
 (try simp only [pA,pE,pB,pC,pD])
 refine tzI 41 20 ?_ ?_ SV5 ?_
 rotate_left
 ·intro w' hSw;go_simp;try with_reducible rfl
 (try simp only [pA,pE,pB,pC,pD])
 refine wpAnyH_done (by kernel_rfl) ?_ _
 refine NoPanic.normal ?_
 (try simp only [pA,pE,pB,pC,pD])
 have HE:Hid (Below W5.heap.size W5 V5):=SV5
 clear SV0 SV1 SV2 SV3 SV4 SV5 c1 c2 c3 c4 c5 hzv hpd hzr hbit
 go_wp2_with (first
  | (refine wpList_load_row (by rfl) 26 _ (by rfl) B7 _ (by rfl) (kept HE.out H5.out.2.2.2.2.1) _ Tryz.underlying26 rfl 6 Tryz.infoZq (by rfl) ?_)
  | (refine wpList_load_row (by rfl) 30 _ (by rfl) B5 _ (by rfl) (kept HE.out H5.out.2.2.1) _ Tryz.underlying30 rfl 6 Tryz.infoZu (by rfl) ?_)
  | (go_at_call 11;refine Calls.mono (held_of (H5.out.2.2.2.2.2.2.2.2.2.1.later HE.out) (H5.out.2.2.2.2.2.2.2.1.later HE.out) HA.out.1 HA.out.2.1 HSX.out HSU.out) ?_;rintro e w6 ⟨rfl,b6⟩;have HF:Hid (Below W5.heap.size W5 w6):=to_call HE.out b6;clear b6)
  | (refine wpList_load_rowG (by rfl) 26 _ (by rfl) B8 _ (by rfl) (kept HF.out H5.out.2.2.2.2.2.1) _ Tryz.underlying26 rfl 6 Tryz.infoZq (by rfl) ?_)
  | (refine wpList_load_rowG (by rfl) 30 _ (by rfl) B6 _ (by rfl) (kept HF.out H5.out.2.2.2.1) _ Tryz.underlying30 rfl 6 Tryz.infoZu (by rfl) ?_)
  | (go_at_call 11;refine Calls.mono (held_of (H5.out.2.2.2.2.2.2.2.2.2.2.later HF.out) (H5.out.2.2.2.2.2.2.2.2.1.later HF.out) HB.out.1 HB.out.2.1 HSY.out HSQ.out) ?_;rintro e w7 ⟨rfl,b7⟩)
  | (go_at_call 12;refine Calls.mono (started_any _) ?_;rintro e w8 ⟨rfl,b8⟩))
 go_ret
 exact ⟨rfl,to_call H5.out.1 (to_call (to_call HF.out b7) b8)⟩
end Go.Proofs.YtgialbaeekkkhaaGreat
