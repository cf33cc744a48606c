import Derived.Test.YtmdjoaipkbnelaaGreatPYh
set_option maxRecDepth 100000
set_option maxHeartbeats 4000000
set_option linter.unusedVariables false
set_option linter.unusedSimpArgs false
namespace Go.Proofs.YtmdjoaipkbnelaaGreat
open Go.RowKit Go.Shelf
theorem fry_box {W:World} {base n m bc br:Nat} {cs rs:List Nat} (N:Int) (hm:n = m) (hc:OwB W base n bc cs) (hr:OwB W base m br rs) (hne:bc ≠ br):OwnY W base (⟨N,some ⟨bc,0,none⟩,n,n,none,0,0,none,0,0,some ⟨br,0,none⟩,m,m,false,cs,[],fun _=>(none,0,0),[],rs⟩:ZD):=by
 subst hm
 exact .inr ⟨n,bc,br,.slice none 0 0,.slice none 0 0,[],rfl,hc,hr,World.ownsRow_nil _ _ _ _,World.ownsRow_nil _ _ _ _,ColL.nil _ _ _,hne,by simp,by simp⟩
theorem boxO_any (z:ZD) (w:World) (hz:ZR w z) (hd:z.dn <= 1050000) :
  Calls Tryz.prog 6 #[.agg (zRow z)] w fun e w'=>∃ y:ZD,e = .returned (.agg (zRow y)) /\ ZR w' y /\ ZW y /\ BxR z y /\ OwnY w' w.heap.size y /\ Below w.heap.size w w':=by
 have HT:Hid (∀ W',Below w.heap.size w W' -> _):=fun W' hb=>takenZ_any z W' (hz.later hb)
 have HZ:Hid (ZR w z):=hz
 have X0:Below w.heap.size w ((w.alloc (.cells #[.int .i64 z.N,.slice z.co z.cn z.cc,.slice z.io z.dn z.dc,.slice z.go z.gn z.gc,.slice z.ro z.rn z.rc,.bool z.bad] 26)).alloc (.cells #[.int .i64 0,.slice none 0 0,.slice none 0 0,.slice none 0 0,.slice none 0 0,.bool false] 26)):=((Below.refl _ w).alloc (Nat.le_refl _) _).alloc (by simp only [alloc_size];omega) _
 have Y0:((w.alloc (.cells #[.int .i64 z.N,.slice z.co z.cn z.cc,.slice z.io z.dn z.dc,.slice z.go z.gn z.gc,.slice z.ro z.rn z.rc,.bool z.bad] 26)).alloc (.cells #[.int .i64 0,.slice none 0 0,.slice none 0 0,.slice none 0 0,.slice none 0 0,.bool false] 26)).heap[w.heap.size]? = some (.cells #[.int .i64 z.N,.slice z.co z.cn z.cc,.slice z.io z.dn z.dc,.slice z.go z.gn z.gc,.slice z.ro z.rn z.rc,.bool z.bad] 26):=alloc_kept (heap_alloc_new w _) _
 have Y1:((w.alloc (.cells #[.int .i64 z.N,.slice z.co z.cn z.cc,.slice z.io z.dn z.dc,.slice z.go z.gn z.gc,.slice z.ro z.rn z.rc,.bool z.bad] 26)).alloc (.cells #[.int .i64 0,.slice none 0 0,.slice none 0 0,.slice none 0 0,.slice none 0 0,.bool false] 26)).heap[w.heap.size + 1]? = some (.cells #[.int .i64 0,.slice none 0 0,.slice none 0 0,.slice none 0 0,.slice none 0 0,.bool false] 26):=heap_at _ _ (w.heap.size + 1) (by simp only [alloc_size])
 obtain ⟨t,ht⟩:∃ t,tkZ z = t:=⟨_,rfl⟩
 have HTK:Hid (tkZ z = t):=ht
 rw [ht] at HT
 unfold zRow at HT ⊢
 clear hz ht
 go_enter Tryz.func6,Tryz.ntmps6
 go_upto_region 1 with fail
 obtain ⟨X,hX⟩:∃ X,((w.alloc (.cells #[.int .i64 z.N,.slice z.co z.cn z.cc,.slice z.io z.dn z.dc,.slice z.go z.gn z.gc,.slice z.ro z.rn z.rc,.bool z.bad] 26)).alloc (.cells #[.int .i64 0,.slice none 0 0,.slice none 0 0,.slice none 0 0,.slice none 0 0,.bool false] 26)) = X:=⟨_,rfl⟩
 rw [hX] at X0 Y0 Y1 ⊢
 have P0:Hid (Below w.heap.size w X /\ X.heap[w.heap.size]? = some (.cells #[.int .i64 z.N,.slice z.co z.cn z.cc,.slice z.io z.dn z.dc,.slice z.go z.gn z.gc,.slice z.ro z.rn z.rc,.bool z.bad] 26) /\ X.heap[w.heap.size + 1]? = some (.cells #[.int .i64 0,.slice none 0 0,.slice none 0 0,.slice none 0 0,.slice none 0 0,.bool false] 26)):=⟨X0,Y0,Y1⟩
 clear hX X0 Y0 Y1
 go_upto_region 2 with (first
  | (refine wpList_load_row (by rfl) 26 _ (by rfl) w.heap.size _ (by rfl) P0.out.2.1 _ Tryz.underlying26 rfl 6 Tryz.infoZ (by rfl) ?_)
  | (go_at_call 16;refine Calls.mono (HT.out _ P0.out.1) ?_;rintro e w1 ⟨rfl,hb1⟩)
  | (refine wpList_store_row (by rfl) 26 _ _ (by rfl) w w.heap.size w.heap.size _ _ (by rfl) (by rfl) (kept hb1 P0.out.2.1) (to_call P0.out.1 hb1) (Nat.le_refl _) 6 Tryz.infoZ (by rfl) (by rfl) (oneZ _ _ _ _ _ rfl rfl rfl rfl _) ?_;intro W2 e2 b2 s2 o2))
 have P2:Hid (Below w.heap.size w W2 /\ W2.heap[w.heap.size]? = some (.cells #[.int .i64 t.N,.slice t.co t.cn t.cc,.slice t.io t.dn t.dc,.slice t.go t.gn t.gc,.slice t.ro t.rn t.rc,.bool t.bad] 26) /\ W2.heap[w.heap.size + 1]? = some (.cells #[.int .i64 0,.slice none 0 0,.slice none 0 0,.slice none 0 0,.slice none 0 0,.bool false] 26)):=⟨b2,e2,(o2 _ (by omega)).trans (kept hb1 P0.out.2.2)⟩
 clear hb1 e2 b2 s2 o2 P0 HT
 obtain ⟨c0,c1,c2,c3,c4,c5⟩:=cells6 P2.out.2.1
 have hbad:∀ W',Below w.heap.size w W' -> ZR W' (⟨t.N,none,0,0,none,0,0,none,0,0,none,0,0,true,[],[],fun _=>(none,0,0),[],[]⟩:ZD):=fun W' _=>⟨⟨rfl,Nat.zero_le _,fun u hu=>(by cases hu),.inl rfl⟩,⟨rfl,Nat.zero_le _,.inl rfl⟩,⟨rfl,Nat.zero_le _,.inl rfl,fun j hj=>absurd hj (Nat.not_lt_zero _)⟩,⟨rfl,Nat.zero_le _,fun u hu=>(by cases hu),.inl rfl⟩⟩
 have HBA:Hid _:=hbad
 have HBW:Hid (ZW (⟨t.N,none,0,0,none,0,0,none,0,0,none,0,0,true,[],[],fun _=>(none,0,0),[],[]⟩:ZD)):=⟨fun _=>⟨rfl,rfl⟩,fun _=>⟨rfl,rfl⟩,fun _=>⟨rfl,rfl⟩,fun k hk=>absurd hk (Nat.not_lt_zero _),Nat.zero_le _,Nat.zero_le _,Nat.zero_le _,Nat.zero_le _,fun k hk=>absurd hk (Nat.not_lt_zero _)⟩
 clear hbad
 cases hgd:(!z.bad && wholeB z) with
 | false=>
  have HG:Hid _:=hgd
  have htb:t.bad = true:=by rw [<- HTK.out];exact tk_bad hgd
  rw [htb] at c5
  clear hgd htb
  go_wp2_with (first
   | (go_at_call 18;refine Calls.mono (badZ_any _ _) ?_;rintro e w3 ⟨rfl,b3⟩)
   | (refine wpList_store_row (by rfl) 26 _ _ (by rfl) w w.heap.size (w.heap.size + 1) #[.int .i64 t.N,.slice none 0 0,.slice none 0 0,.slice none 0 0,.slice none 0 0,.bool true] _ (by rfl) (by rfl) (kept b3 P2.out.2.2) (to_call P2.out.1 b3) (by omega) 6 Tryz.infoZ (by rfl) (by rfl) (oneZ _ _ _ _ _ rfl rfl rfl rfl _) ?_;intro W9 e9 b9 s9 o9))
  refine bodyPost_ret (res_oneJ _ 2 26 (by kernel_rfl) _ _ (w.heap.size + 1) _ (by rfl) _ Tryz.underlying26 rfl 6 Tryz.infoZ rfl e9) rfl ?_
  exact ⟨⟨t.N,none,0,0,none,0,0,none,0,0,none,0,0,true,[],[],fun _=>(none,0,0),[],[]⟩,rfl,HBA.out _ b9,HBW.out,⟨.inr ⟨.inl HG.out,by rw [HTK.out]⟩⟩,badZ0_own _ _ _,b9⟩
 | true=>
  obtain ⟨hb0,hwh,hck⟩:=tk_good hgd
  have HG:Hid _:=hgd
  have hzt:z = t:=(tk_self hck).symm.trans HTK.out
  subst hzt
  have HF:Hid (WhF z):=WhF.of HZ.out hd hwh
  rw [hb0] at c5
  have HRe:Hid (∀ W',Below w.heap.size w W' -> _):=fun W' hb=>reaches_any z W' (HZ.out.later hb) (by have:=HF.out.n2;omega) (Nat.le_of_eq HF.out.dg) HF.out.gl
  have HB0:Hid (z.bad = false):=hb0
  clear hgd hwh hck hb0
  go_upto_region 5 with (first
   | (refine wpList_load_row (by rfl) 26 _ (by rfl) w.heap.size _ (by rfl) P2.out.2.1 _ Tryz.underlying26 rfl 6 Tryz.infoZ (by rfl) ?_)
   | (go_at_call 21;refine Calls.mono (HRe.out _ P2.out.1) ?_;rintro e w4 ⟨rfl,⟨p,hp⟩,b4,s4⟩;have HP:Hid (AcL w4 (W2.heap.size + 1) z.rn p (farZ z)):=hp;clear hp)
   | (go_at_call 20;refine Calls.mono (roundedUp_any (W2.heap.size + 1) z.rn p (farZ z) _ HP.out s4 (by have:=HF.out.n2;omega)) ?_;rintro e w5 ⟨h5,b5⟩;rcases h5 with ⟨br,us,rfl,ho,hu⟩ | ⟨j,uj,hj,hru,rfl⟩))
  ·have Q5:Hid (Below w.heap.size w w5 /\ w5.heap[w.heap.size]? = some (.cells #[.int .i64 z.N,.slice z.co z.cn z.cc,.slice z.io z.dn z.dc,.slice z.go z.gn z.gc,.slice z.ro z.rn z.rc,.bool z.bad] 26) /\ w5.heap[w.heap.size + 1]? = some (.cells #[.int .i64 0,.slice none 0 0,.slice none 0 0,.slice none 0 0,.slice none 0 0,.bool false] 26) /\ OwB w5 w.heap.size z.rn br us /\ ∀ j,j < z.rn -> RndO 1 (farZ z j) (us[j]?.getD 0) true):=⟨to_call (to_call P2.out.1 b4) b5,kept b5 (kept b4 P2.out.2.1),kept b5 (kept b4 P2.out.2.2),ho.mono (to_call P2.out.1 b4).size,hu⟩
   have HPL:Hid (∀ W',Below w.heap.size w W' -> _):=fun W' hb=>plainOwn_any z.co z.cn z.cc z.cs (by rw [HF.out.cn];have:=HF.out.n2;omega) (fun x hx=>by obtain ⟨j,hj,rfl⟩:=List.getElem_of_mem hx;have:=HF.out.fin.c j;rw [List.getElem?_eq_getElem hj] at this;exact this) W' (HZ.out.later hb).c
   clear b4 b5 s4 ho hu HP HRe P2 c0 c1 c2 c3 c4 c5
   unfold slN
   go_upto_region 7 with fail
   have qV:Below w.heap.size w w5.drew:=Q5.out.1.drew
   have SX:(fun V=>V.heap[w.heap.size]? = some (.cells #[.int .i64 z.N,.slice z.co z.cn z.cc,.slice z.io z.dn z.dc,.slice z.go z.gn z.gc,.slice z.ro z.rn z.rc,.bool z.bad] 26)) w5.drew:=Q5.out.2.1
   have or0:OwB w5.drew w.heap.size z.rn br us:=Q5.out.2.2.2.1.later (Below.refl _ w5).drew
   have RV:w5.drew.heap[w.heap.size + 1]? = some (.cells #[.int .i64 0,.slice none 0 0,.slice none 0 0,.slice none 0 0,.slice none 0 0,.bool false] 26):=Q5.out.2.2.1
   refine wp_region_noPanic ?_
   refine wp_region_P (S:=(fun V=>V.heap[w.heap.size]? = some (.cells #[.int .i64 z.N,.slice z.co z.cn z.cc,.slice z.io z.dn z.dc,.slice z.go z.gn z.gc,.slice z.ro z.rn z.rc,.bool z.bad] 26))) (s:=7) (by kernel_rfl) ?_
   refine tzP 23 0 ?_ (Or.inl ⟨by kernel_rfl,?_⟩) SX ?_
   rotate_left
   ·intro w' hSw;obtain ⟨c0,c1,c2,c3,c4,c5⟩:=cells6 hSw;go_simp;try with_reducible rfl
   try simp only [pA,pE,pB,pC,pD]
   refine tzP 24 1 ?_ (Or.inl ⟨by kernel_rfl,?_⟩) SX ?_
   rotate_left
   ·intro w' hSw;obtain ⟨c0,c1,c2,c3,c4,c5⟩:=cells6 hSw;go_simp;try with_reducible rfl
   try simp only [pA,pE,pB,pC,pD]
   refine tzP 25 2 ?_ (Or.inl ⟨by kernel_rfl,?_⟩) SX ?_
   rotate_left
   ·intro w' hSw;obtain ⟨c0,c1,c2,c3,c4,c5⟩:=cells6 hSw;go_simp;try with_reducible rfl
   try simp only [pA,pE,pB,pC,pD]
   refine tzP 26 3 ?_ (Or.inl ⟨by kernel_rfl,?_⟩) SX ?_
   rotate_left
   ·intro w' hSw;obtain ⟨c0,c1,c2,c3,c4,c5⟩:=cells6 hSw;go_simp;try with_reducible rfl
   try simp only [pA,pE,pB,pC,pD]
   refine tzP 28 5 ?_ (Or.inl ⟨by kernel_rfl,?_⟩) SX ?_
   rotate_left
   ·intro w' hSw;obtain ⟨c0,c1,c2,c3,c4,c5⟩:=cells6 hSw;go_simp;try with_reducible rfl
   try simp only [pA,pE,pB,pC,pD]
   refine rzP [4] ?_
   refine consP _ rfl (hzC 27 (Calls.mono (HPL.out _ qV) ?_)) AllReadyP.nil
   rintro e V1 ⟨bc,rfl,oc,b1⟩
   have hbr:bc ≠ br:=by obtain ⟨cur,hcur⟩:=or0.cur;have h8:=blk_lt hcur;have h9:=oc.lo;omega
   have SX:(fun V=>V.heap[w.heap.size]? = some (.cells #[.int .i64 z.N,.slice z.co z.cn z.cc,.slice z.io z.dn z.dc,.slice z.go z.gn z.gc,.slice z.ro z.rn z.rc,.bool z.bad] 26)) V1:=kept b1 SX
   have q1:Below w.heap.size w V1:=to_call qV b1
   have or1:=or0.later b1
   have R1:=kept b1 RV
   unfold slN
   refine ⟨_,rfl,SX,?_⟩
   try simp only [pA,pE,pB,pC,pD]
   refine tzP 29 6 (.agg #[.int .i64 z.N,.slice (some ⟨bc,0,none⟩) z.cn z.cn,.slice none 0 0,.slice none 0 0,.slice (some ⟨br,0,none⟩) z.rn z.rn,.bool false]) (Or.inl ⟨by kernel_rfl,fun w' _=>by kernel_rfl⟩) SX ?_
   try simp only [pA,pE,pB,pC,pD]
   refine rzP [7] ?_
   refine consPs _ rfl (by kernel_rfl) (hopL rfl (wpList_store_row (by rfl) 26 _ _ (by rfl) w w.heap.size (w.heap.size + 1) #[.int .i64 z.N,.slice (some ⟨bc,0,none⟩) z.cn z.cn,.slice none 0 0,.slice none 0 0,.slice (some ⟨br,0,none⟩) z.rn z.rn,.bool false] _ (by kernel_rfl) (by kernel_rfl) R1 q1 (by omega) 6 Tryz.infoZ rfl rfl (oneZ _ _ _ _ _ rfl rfl rfl rfl _) fun V3 e3 b3 s3 k3=>?_)) AllReadyP.nil
   refine ⟨trivial,?_⟩
   try simp only [pA,pE,pB,pC,pD]
   refine wpAnyP_done (by kernel_rfl) ?_ _
   refine NoPanic.normal ?_
   try simp only [pA,pE,pB,pC,pD]
   have HE:Hid (V3.heap[w.heap.size + 1]? = some (.cells #[.int .i64 z.N,.slice (some ⟨bc,0,none⟩) z.cn z.cn,.slice none 0 0,.slice none 0 0,.slice (some ⟨br,0,none⟩) z.rn z.rn,.bool false] 26) /\ Below w.heap.size w V3 /\ OwB V3 w.heap.size z.cn bc (z.cs.map plainM) /\ OwB V3 w.heap.size z.rn br us /\ bc ≠ br):=⟨e3,b3,(oc.mono qV.size).keep fun k cur hc=>k3 k (by rintro rfl;rw [R1] at hc;cases hc),or1.keep fun k cur hc=>k3 k (by rintro rfl;rw [R1] at hc;cases hc),hbr⟩
   clear SX or0 or1 RV R1 e3 b3 s3 k3 oc b1 q1 qV HPL
   go_wp2_with fail
   refine bodyPost_ret (res_oneJ _ 2 26 (by kernel_rfl) _ _ (w.heap.size + 1) _ (by rfl) _ Tryz.underlying26 rfl 6 Tryz.infoZ rfl HE.out.1) rfl ?_
   refine ⟨⟨z.N,some ⟨bc,0,none⟩,z.cn,z.cn,none,0,0,none,0,0,some ⟨br,0,none⟩,z.rn,z.rn,false,z.cs.map plainM,[],fun _=>(none,0,0),[],us⟩,rfl,⟨HE.out.2.2.1.rd,⟨rfl,Nat.zero_le _,.inl rfl⟩,⟨rfl,Nat.zero_le _,.inl rfl,fun j hj=>absurd hj (Nat.not_lt_zero _)⟩,HE.out.2.2.2.1.rd⟩,⟨(fun h=>by cases h),fun _=>⟨rfl,rfl⟩,(fun h=>by cases h),fun k hk=>absurd hk (Nat.not_lt_zero _),by have:=HF.out.n2;have:=HF.out.cn;dsimp only;omega,Nat.zero_le _,Nat.zero_le _,by have:=HF.out.n2;dsimp only;omega,fun k hk=>absurd hk (Nat.not_lt_zero _)⟩,⟨.inl ⟨HG.out,rfl,rfl,rfl,HE.out.2.2.2.1.rd.length,Q5.out.2.2.2.2,rfl,rfl,HF.out.cn,rfl,rfl,rfl⟩⟩,fry_box z.N HF.out.cn HE.out.2.2.1 HE.out.2.2.2.1 HE.out.2.2.2.2,HE.out.2.1⟩
  ·have Q5:Hid (Below w.heap.size w w5 /\ w5.heap[w.heap.size]? = some (.cells #[.int .i64 z.N,.slice z.co z.cn z.cc,.slice z.io z.dn z.dc,.slice z.go z.gn z.gc,.slice z.ro z.rn z.rc,.bool z.bad] 26) /\ w5.heap[w.heap.size + 1]? = some (.cells #[.int .i64 0,.slice none 0 0,.slice none 0 0,.slice none 0 0,.slice none 0 0,.bool false] 26)):=⟨to_call (to_call P2.out.1 b4) b5,kept b5 (kept b4 P2.out.2.1),kept b5 (kept b4 P2.out.2.2)⟩
   have HRU:Hid (RndO 1 (farZ z j) uj false):=hru
   clear b4 b5 s4 HP HRe P2 c0 c1 c2 c3 c4 c5 hru
   obtain ⟨d0,d1,d2,d3,d4,d5⟩:=cells6 Q5.out.2.1
   go_wp2_with (first
    | (go_at_call 18;refine Calls.mono (badZ_any _ _) ?_;rintro e w6 ⟨rfl,b6⟩)
    | (refine wpList_store_row (by rfl) 26 _ _ (by rfl) w w.heap.size (w.heap.size + 1) #[.int .i64 z.N,.slice none 0 0,.slice none 0 0,.slice none 0 0,.slice none 0 0,.bool true] _ (by rfl) (by rfl) (kept b6 Q5.out.2.2) (to_call Q5.out.1 b6) (by omega) 6 Tryz.infoZ (by rfl) (by rfl) (oneZ _ _ _ _ _ rfl rfl rfl rfl _) ?_;intro W9 e9 b9 s9 o9))
   refine bodyPost_ret (res_oneJ _ 2 26 (by kernel_rfl) _ _ (w.heap.size + 1) _ (by rfl) _ Tryz.underlying26 rfl 6 Tryz.infoZ rfl e9) rfl ?_
   exact ⟨⟨z.N,none,0,0,none,0,0,none,0,0,none,0,0,true,[],[],fun _=>(none,0,0),[],[]⟩,rfl,HBA.out _ b9,HBW.out,⟨.inr ⟨.inr ⟨j,uj,hj,HRU.out⟩,by rw [HTK.out]⟩⟩,badZ0_own _ _ _,b9⟩
theorem newO_any (co go:Option Addr) (cn cc gn gc:Nat) (cs:List Nat) (gv:Nat -> Option Addr × Nat × Nat) (gs:List (List Nat)) (w:World) (hc:RdF w co cn cc cs) (hg:RdGs w go gn gc gv gs) (hcl:cn <= 1050000) (hgl:gn <= 1050000) :
  Calls Tryz.prog 8 #[.slice co cn cc,.slice go gn gc] w fun e w'=>∃ y:ZD,e = .returned (.agg (zRow y)) /\ ZR w' y /\ y.N = (nwA cs gs).N /\ y.bad = (nwA cs gs).bad /\ y.cs = (nwA cs gs).cs /\ y.rs = (nwA cs gs).rs /\ y.ids = (nwA cs gs).ids /\ y.gs = (nwA cs gs).gs /\ (∀ b off,y.go = some ⟨b,off,none⟩ -> ∃ cur,w'.heap[b]? = some (.cells cur 22)) /\ OwnY w' w.heap.size y /\ Below w.heap.size w w':=by
 have HC:Hid (∀ W',Below w.heap.size w W' -> RdF W' co cn cc cs):=fun W' hb=>hc.later hb
 have HG:Hid (∀ W',Below w.heap.size w W' -> RdGs W' go gn gc gv gs):=fun W' hb=>hg.later hb
 have HLN:Hid (cs.length = cn /\ gs.length = gn):=⟨hc.length,hg.length⟩
 clear hc hg
 have hmk:=makeFJ4 cn (by omega)
 have X0:Below w.heap.size w (((w.alloc (.cells #[.int .i64 0,.slice none 0 0,.slice none 0 0,.slice none 0 0,.slice none 0 0,.bool false] 26)).alloc (.cells (flN cn) 45)).alloc (.cells #[.int .i64 (cn:Int),.slice co cn cc,.slice none 0 0,.slice go gn gc,.slice (some ⟨w.heap.size + 1,0,none⟩) cn cn,.bool false] 26)):=(((Below.refl _ w).alloc (Nat.le_refl _) _).alloc (by simp only [alloc_size];omega) _).alloc (by simp only [alloc_size];omega) _
 have Y0:(((w.alloc (.cells #[.int .i64 0,.slice none 0 0,.slice none 0 0,.slice none 0 0,.slice none 0 0,.bool false] 26)).alloc (.cells (flN cn) 45)).alloc (.cells #[.int .i64 (cn:Int),.slice co cn cc,.slice none 0 0,.slice go gn gc,.slice (some ⟨w.heap.size + 1,0,none⟩) cn cn,.bool false] 26)).heap[w.heap.size]? = some (.cells #[.int .i64 0,.slice none 0 0,.slice none 0 0,.slice none 0 0,.slice none 0 0,.bool false] 26):=alloc_kept (alloc_kept (heap_alloc_new w _) _) _
 have Y2:(((w.alloc (.cells #[.int .i64 0,.slice none 0 0,.slice none 0 0,.slice none 0 0,.slice none 0 0,.bool false] 26)).alloc (.cells (flN cn) 45)).alloc (.cells #[.int .i64 (cn:Int),.slice co cn cc,.slice none 0 0,.slice go gn gc,.slice (some ⟨w.heap.size + 1,0,none⟩) cn cn,.bool false] 26)).heap[w.heap.size + 1 + 1]? = some (.cells #[.int .i64 (cn:Int),.slice co cn cc,.slice none 0 0,.slice go gn gc,.slice (some ⟨w.heap.size + 1,0,none⟩) cn cn,.bool false] 26):=heap_at _ _ (w.heap.size + 1 + 1) (by simp only [alloc_size])
 have O1:OwB (((w.alloc (.cells #[.int .i64 0,.slice none 0 0,.slice none 0 0,.slice none 0 0,.slice none 0 0,.bool false] 26)).alloc (.cells (flN cn) 45)).alloc (.cells #[.int .i64 (cn:Int),.slice co cn cc,.slice none 0 0,.slice go gn gc,.slice (some ⟨w.heap.size + 1,0,none⟩) cn cn,.bool false] 26)) w.heap.size cn (w.heap.size + 1) (List.replicate cn 0):=by
  have h:=rdF_zero4 cn (w.alloc (.cells #[.int .i64 0,.slice none 0 0,.slice none 0 0,.slice none 0 0,.slice none 0 0,.bool false] 26)) (by omega)
  rw [alloc_size] at h
  exact ((h.mono (Nat.le_succ _)).later ((Below.refl _ _).alloc (Nat.le_refl _) _))
 go_enter Tryz.func8,Tryz.ntmps8
 go_upto_region 2 with fail
 clear hmk
 obtain ⟨X,hX⟩:∃ X,(((w.alloc (.cells #[.int .i64 0,.slice none 0 0,.slice none 0 0,.slice none 0 0,.slice none 0 0,.bool false] 26)).alloc (.cells (flN cn) 45)).alloc (.cells #[.int .i64 (cn:Int),.slice co cn cc,.slice none 0 0,.slice go gn gc,.slice (some ⟨w.heap.size + 1,0,none⟩) cn cn,.bool false] 26)) = X:=⟨_,rfl⟩
 rw [hX] at X0 Y0 Y2 O1 ⊢
 clear hX
 obtain ⟨D,hD⟩:∃ D,w.heap.size + 1 + 1 = D:=⟨_,rfl⟩
 rw [hD] at Y2 ⊢
 have hDl:w.heap.size <= D:=by omega
 have hDz:w.heap.size ≠ D:=by omega
 clear hD
 obtain ⟨rb,hrb⟩:∃ rb,w.heap.size + 1 = rb:=⟨_,rfl⟩
 rw [hrb] at Y2 O1 ⊢
 clear hrb
 go_wp2_with fail
 go_loopg [17] gn (fun g iv wx=>∃ (k:Nat) (vi:Value),iv = .int .i64 k /\ k + g = gn /\ Hid (wx.heap[D]? = some (.cells #[.int .i64 (cn:Int),.slice co cn cc,vi,.slice go gn gc,.slice (some ⟨rb,0,none⟩) cn cn,.bool false] 26) /\ wx.ownsRow w.heap.size 3 1 vi k ((rgI k).map (Value.int .i64)) /\ wx.heap[w.heap.size]? = some (.cells #[.int .i64 0,.slice none 0 0,.slice none 0 0,.slice none 0 0,.slice none 0 0,.bool false] 26) /\ OwB wx w.heap.size cn rb (List.replicate cn 0) /\ Below w.heap.size w wx))
 case atStart=>exact ⟨0,.slice none 0 0,rfl,by omega,Y2,World.ownsRow_nil _ _ _ _,Y0,O1,X0⟩
 case round=>
  obtain ⟨k,vi,rfl,hk,HP⟩:=hrel
  clear X0 Y0 Y2 O1
  have hsr:=HP.out.2.2.2.2.size
  by_cases hlt:k < gn
  ·have hd:decide ((k:Int) < (gn:Int)) = true:=decide_eq_true (by omega)
   obtain ⟨g,rfl⟩:∃ g,gk = g + 1:=⟨gk - 1,by omega⟩
   have HIG:Hid _:=hk
   obtain ⟨d0,d1,d2,d3,d4,d5⟩:=cells6 HP.out.1
   clear hk
   go_wp2_with (first
    | (at_builtin;refine append_gsJ Tryz.underlying23 Tryz.infoIJ rfl (by decide) (by decide) _ (by rfl) _ _ (by rfl) w.heap.size vi k _ (by rfl) (World.ownsRow.alloc HP.out.2.1 _) ⟨wr.heap.size,0,none⟩ 1 1 [.int .i64 (k:Int)] (by rfl) rfl (news_oneJ (heap_alloc_new wr _)) (oneI _ rfl) (by omega) (by simp only [alloc_size];omega) ?_;intro v5 w5 o5 g5;have s5D:=(grw_types (World.ownsRow.alloc HP.out.2.1 _) g5 D _ _ (by decide) (alloc_kept HP.out.1 _)).trans (alloc_kept HP.out.1 _);have q5:=(HP.out.2.2.2.2.alloc hsr _).trans (g5.below (fun k hk=>(World.ownsRow.lt HP.out.2.1 k hk).1) (by simp only [alloc_size];omega)))
    | (refine wpList_store_at (by rfl) 23 _ _ (by rfl) w w.heap.size D 2 v5 _ #[.int .i64 (cn:Int),.slice co cn cc,v5,.slice go gn gc,.slice (some ⟨rb,0,none⟩) cn cn,.bool false] 26 (by rfl) (by rfl) s5D q5 hDl 1 Tryz.szIs (by rw [(own_valJ o5).2];rfl) (Nat.le_of_ble_eq_true rfl) (by intro u hu;rw [(own_valJ o5).2] at hu;simp only [List.mem_cons,List.not_mem_nil,or_false] at hu;subst hu;exact (own_valJ o5).1) (by rw [(own_valJ o5).2];rfl) ?_;intro w6 e6 b6 s6 k6))
   have hk6:∀ (j:Nat) (cur:Array Value) (t:TypeId),t ≠ 26 -> t ≠ 3 -> wr.heap[j]? = some (.cells cur t) -> w6.heap[j]? = wr.heap[j]?:=fun j cur t h1 h2 hc=>(k6 j (by rintro rfl;rw [HP.out.1] at hc;cases hc;exact h1 rfl)).trans ((grw_types (World.ownsRow.alloc HP.out.2.1 _) g5 j cur t h2 (alloc_kept hc _)).trans (alloc_kept hc _ |>.trans hc.symm))
   have P6:Hid (w6.heap[D]? = some (.cells #[.int .i64 (cn:Int),.slice co cn cc,v5,.slice go gn gc,.slice (some ⟨rb,0,none⟩) cn cn,.bool false] 26) /\ w6.ownsRow w.heap.size 3 1 v5 (k + 1) ((rgI (k + 1)).map (Value.int .i64)) /\ w6.heap[w.heap.size]? = some (.cells #[.int .i64 0,.slice none 0 0,.slice none 0 0,.slice none 0 0,.slice none 0 0,.bool false] 26) /\ OwB w6 w.heap.size cn rb (List.replicate cn 0) /\ Below w.heap.size w w6):=⟨e6,by rw [rgI_succ,List.map_append];exact owns_keepT o5 fun j cur hc=>k6 j (by rintro rfl;rw [s5D] at hc;cases hc),(k6 _ hDz).trans ((grw_types (World.ownsRow.alloc HP.out.2.1 _) g5 _ _ _ (by decide) (alloc_kept HP.out.2.2.1 _)).trans (alloc_kept HP.out.2.2.1 _)),HP.out.2.2.2.1.keep fun j cur hc=>hk6 j cur _ (by decide) (by decide) hc,b6⟩
   clear o5 g5 s5D q5 e6 b6 s6 k6 hk6 d0 d1 d2 d3 d4 d5
   go_roundg g
   case measure=>omega
   case rel=>exact ⟨k + 1,v5,by go_num,by have:=HIG.out;omega,P6⟩
  ·have hd:decide ((k:Int) < (gn:Int)) = false:=decide_eq_false (by omega)
   have hkd:k = gn:=by omega
   subst hkd
   obtain ⟨e1,o1,r1,ow1,b1⟩:=HP.out
   have HO1:Hid _:=o1
   obtain ⟨ia,ic,hvi,hmx,hcells⟩:=owns_slice o1
   subst hvi
   have zr:ZR wr ⟨(cn:Int),co,cn,cc,ia,k,ic,go,k,gc,some ⟨rb,0,none⟩,cn,cn,false,cs,rgI k,gv,gs,List.replicate cn 0⟩:=⟨HC.out wr b1,⟨rgI_len k,hmx,by
    rcases hcells with h0 | ⟨gq,rfl,hc⟩
    ·exact .inl h0
    ·refine .inr ⟨gq,0,rfl,fun j hj=>?_⟩
     dsimp only at hj ⊢
     have hj':j < (rgI k).length:=by rw [rgI_len];exact hj
     rw [Nat.zero_add,hc j hj,List.getElem?_map,List.getElem?_eq_getElem hj']
     rfl⟩,HG.out wr b1,ow1.rd⟩
   have hck:checkB ⟨(cn:Int),co,cn,cc,ia,k,ic,go,k,gc,some ⟨rb,0,none⟩,cn,cn,false,cs,rgI k,gv,gs,List.replicate cn 0⟩ = checkB (nwZ cs gs):=checkB_eq _ _ (by dsimp only [nwZ];rw [HLN.out.1]) rfl rfl (by dsimp only [nwZ];rw [HLN.out.1]) (by dsimp only [nwZ];rw [HLN.out.2]) rfl (by dsimp only [nwZ];rw [HLN.out.1]) (by dsimp only [nwZ];rw [HLN.out.2]) (by dsimp only [nwZ];rw [HLN.out.2]) (by dsimp only [nwZ];rw [HLN.out.1])
   have HTK:Hid _:=takenZ_any _ wr zr
   cases hcb:checkB (nwZ cs gs) with
   | false=>
    have htk:tkZ ⟨(cn:Int),co,cn,cc,ia,k,ic,go,k,gc,some ⟨rb,0,none⟩,cn,cn,false,cs,rgI k,gv,gs,List.replicate cn 0⟩ = badZD:=by unfold tkZ;rw [hck,hcb];rfl
    rw [htk] at HTK
    have hA:nwA cs gs = badZD:=by unfold nwA;rw [hcb];rfl
    have HFB:Hid (∀ W,_):=fun W=>fresh_bad badZD W rfl
    have HA:Hid _:=hA
    have E1:Hid _:=And.intro e1 (And.intro r1 b1)
    unfold zRow at HTK HFB
    dsimp only [badZD] at HTK HFB
    clear zr hck htk hA hcells hcb HP o1 e1 r1 b1 ow1
    go_wp2_with (first
     | (refine wpList_load_row (by rfl) 26 _ (by rfl) D _ (by rfl) E1.out.1 _ Tryz.underlying26 rfl 6 Tryz.infoZ (by rfl) ?_)
     | (go_at_call 16;refine Calls.mono HTK.out ?_;rintro e w2 ⟨rfl,c2⟩)
     | (go_at_call 19;refine Calls.mono (HFB.out _) ?_;rintro e w3 ⟨rfl,c3⟩)
     | (refine wpList_store_row (by rfl) 26 _ _ (by rfl) w w.heap.size w.heap.size _ _ (by rfl) (by rfl) (kept c3 (kept c2 E1.out.2.1)) (to_call (to_call E1.out.2.2 c2) c3) (Nat.le_refl _) 6 Tryz.infoZ (by rfl) (by rfl) (oneZ _ _ _ _ _ rfl rfl rfl rfl _) ?_;intro W9 e9 b9 s9 o9))
    refine bodyPost_ret (res_oneJ _ 4 26 (by kernel_rfl) _ _ w.heap.size _ (by rfl) _ Tryz.underlying26 rfl 6 Tryz.infoZ rfl e9) rfl ?_
    rw [HA.out]
    exact ⟨badZD,rfl,badZD_ZR _,rfl,rfl,rfl,rfl,rfl,rfl,fun b off h=>(by cases h),badZ0_own 0 _ _,b9⟩
   | true=>
    have htk:tkZ ⟨(cn:Int),co,cn,cc,ia,k,ic,go,k,gc,some ⟨rb,0,none⟩,cn,cn,false,cs,rgI k,gv,gs,List.replicate cn 0⟩ = ⟨(cn:Int),co,cn,cc,ia,k,ic,go,k,gc,some ⟨rb,0,none⟩,cn,cn,false,cs,rgI k,gv,gs,List.replicate cn 0⟩:=by unfold tkZ;rw [hck,hcb];rfl
    have hfin:=tkZ_fin zr
    rw [htk] at HTK hfin
    obtain ⟨k256,kwid⟩:=nwZ_ok hcb
    have hA:nwA cs gs = nwZ (cs.map plainM) (gs.map (·.map plainM)):=by unfold nwA;rw [hcb];rfl
    have HFO:Hid (∀ W,Below wr.heap.size wr W -> _):=fun W h=>fresh_ok ⟨(cn:Int),co,cn,cc,ia,k,ic,go,k,gc,some ⟨rb,0,none⟩,cn,cn,false,cs,rgI k,gv,gs,List.replicate cn 0⟩ W (zr.later h) rfl rfl rfl (by dsimp only;rw [<- HLN.out.1];omega) (by dsimp only;omega) (fun j hj=>by dsimp only at hj ⊢;rw [kwid j (by rw [HLN.out.2];exact hj),HLN.out.1]) hfin
    have HA:Hid _:=hA
    have E1:Hid _:=And.intro e1 (And.intro r1 b1)
    unfold zRow at HTK HFO
    dsimp only at HTK HFO
    clear zr hck htk hA hcells hcb HP o1 e1 r1 b1 ow1 hfin kwid
    go_wp2_with (first
     | (refine wpList_load_row (by rfl) 26 _ (by rfl) D _ (by rfl) E1.out.1 _ Tryz.underlying26 rfl 6 Tryz.infoZ (by rfl) ?_)
     | (go_at_call 16;refine Calls.mono HTK.out ?_;rintro e w2 ⟨rfl,c2⟩)
     | (go_at_call 19;refine Calls.mono (HFO.out _ c2) ?_;rintro e w3 ⟨bc,br,vi3,vg3,gl3,rfl,L3,c3⟩)
     | (refine wpList_store_row (by rfl) 26 _ _ (by rfl) w w.heap.size w.heap.size _ _ (by rfl) (by rfl) (kept c3 (kept c2 E1.out.2.1)) (to_call (to_call E1.out.2.2 c2) c3) (Nat.le_refl _) 6 Tryz.infoZ (by rfl) (by rfl) (oneZ _ _ _ _ _ rfl (own_valJ L3.i).1 (own_valJ L3.g).1 rfl _) ?_;intro W9 e9 b9 s9 o9))
    have HSZ:Hid (w.heap.size <= _):=Nat.le_trans (to_call E1.out.2.2 c2).size (Nat.le_refl _)
    have L9:=L3.keep (w':=W9) fun j cur t ht hc=>o9 j (by rintro rfl;rw [kept c3 (kept c2 E1.out.2.1)] at hc;cases hc;exact ht rfl)
    obtain ⟨y,hy,h1,h2,h3,h4,h5,h6,h7,-⟩:=L9.zr (cn:Int) false
    refine bodyPost_ret (res_oneJ _ 4 26 (by kernel_rfl) _ _ w.heap.size _ (by rfl) _ Tryz.underlying26 rfl 6 Tryz.infoZ rfl e9) rfl ?_
    rw [HA.out]
    have hgo:∀ b off,y.go = some ⟨b,off,none⟩ -> ∃ cur,W9.heap[b]? = some (.cells cur 22):=by
     intro b off hb
     unfold zRow at hy
     injection hy with hy
     have h8:=congrArg (fun (a:Array Value)=>a[3]?) hy
     have h9:vg3 = .slice y.go y.gn y.gc:=by injection h8
     exact owns_type L9.g (k:=b) (by rw [h9,hb];rfl)
    have hfy:FrY W9 w.heap.size y:=by
     refine ⟨_,bc,br,vi3,vg3,gl3,?_,by rw [h4,h5,h6,h7];exact L9.monoF (HSZ.out)⟩
     rw [h2,h3]
     injection hy with hy
     exact hy.symm
    refine ⟨y,congrArg Ending.returned hy,h1,?_,h3,h4,?_,?_,h7,hgo,.inr hfy,b9⟩
    ·rw [h2];dsimp only [nwZ];rw [List.length_map,HLN.out.1]
    ·rw [h5,map_rep0];dsimp only [nwZ];rw [List.length_map,HLN.out.1]
    ·rw [h6];dsimp only [nwZ];rw [List.length_map,HLN.out.2]
end Go.Proofs.YtmdjoaipkbnelaaGreat
