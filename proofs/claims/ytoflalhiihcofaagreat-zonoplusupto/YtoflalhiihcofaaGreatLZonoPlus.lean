import Derived.Test.YtoflalhiihcofaaGreatPWf
set_option maxRecDepth 100000
set_option maxHeartbeats 20000000
set_option linter.unusedVariables false
set_option linter.unusedSimpArgs false
namespace Go.Proofs.YtoflalhiihcofaaGreat
open Go.RowKit Go.Shelf
theorem samZ_rowP (a b:ZD) (w:World) (ha:ZR w a) (hb:ZR w b):Calls Tryz.prog 7 #[.agg (zRow a),.agg (zRow b)] w fun e w'=>e = .returned (.bool (sameZ (tkZ a) (tkZ b))) /\ Below w.heap.size w w':=same_anyJ a b w ha hb
theorem sgi_leP {x y:Int} (h:x <= y):decide (0 < sgi (x - y)) = false:=by
 unfold sgi
 split
 ·rfl
 ·split
  ·rfl
  ·omega
theorem RlS.rd {W:World} {B E:Nat} {cs rs:List Nat} {ids:List Int} {gs:List (List Nat)} {a1 a2 a3 a4:Option Addr} {l1 c1 l2 c2 l3 c3 l4 c4:Nat} {gl:List Value} (h:RlS W B E cs rs ids gs (.slice a1 l1 c1) (.slice a4 l4 c4) (.slice a2 l2 c2) (.slice a3 l3 c3) gl):l2 = ids.length /\ RdIs W a2 ids.length c2 ids:=by
 obtain ⟨ao,cap,e,hr⟩:=rdI_ownB h.i
 obtain ⟨e1,e2,e3⟩:=Value.slice.inj e
 subst e1
 subst e3
 exact ⟨e2,hr⟩
theorem zonoPlus_walk (a b:ZD) (eo:Option Addr) (el ec:Nat) (es:List Int) (ro:Option Addr) (rl rc:Nat) (rs:List Int) (bits:Int) (w:World) (ha:ZR w a) (hwa:ZW a) (hda:a.dn <= 1048576) (hb:ZR w b) (hwb:ZW b) (hdb:b.dn <= 1048576) (hab:a.dn + b.dn <= 1048576) (he:RdIs w eo el ec es) (hel:el <= 1050000) (hr:RdIs w ro rl rc rs) (hrl:rl <= 1050000) (hbt:-9223372036854775808 <= bits /\ bits < 9223372036854775808) :
  Calls Tryz.prog 3 #[.agg (zRow a),.agg (zRow b),.slice eo el ec,.slice ro rl rc,.int .i64 bits] w fun e w'=>e = .returned (.bool true) /\ Below w.heap.size w w':=by
 obtain ⟨E,hE⟩:∃ E:Nat,E = 1074:=⟨_,rfl⟩
 have HE:Hid (E = 1074):=hE
 have HOA:Hid (∀ W',Below w.heap.size w W' -> _):=fun W' h=>ofU a W' (ha.later h) hwa
 have HOB:Hid (∀ W',Below w.heap.size w W' -> _):=fun W' h=>ofU b W' (hb.later h) hwb
 have HA:Hid (ZR w a /\ ZW a /\ a.dn <= 1048576):=⟨ha,hwa,hda⟩
 have HB:Hid (ZR w b /\ ZW b /\ b.dn <= 1048576):=⟨hb,hwb,hdb⟩
 have HAB:Hid (a.dn + b.dn <= 1048576):=hab
 obtain ⟨val,hval⟩:∃ f:Int -> Int,(fun id:Int=>partV E es bits (id.toNat % 97)) = f:=⟨_,rfl⟩
 have HVL:Hid (∀ id,(val id).natAbs <= 2 ^ E):=fun id=>by rw [<- hval];exact partV_le hE es bits _
 have HVA:Hid (∀ (io:Option Addr) (il ic:Nat) (L:List Int) W',Below w.heap.size w W' -> RdIs W' io il ic L -> il <= 2200000 -> (∀ x ∈ L,0 <= x /\ x <= 1073741824) -> Calls Tryz.prog 10 #[.slice io il ic,.slice eo el ec,.int .i64 bits] W' fun e w'=>∃ v,e = .returned v /\ RowZ w' W'.heap.size v E 1024 (L.map val) /\ Below W'.heap.size W' w'):=fun io il ic L W' h hi hl hx=>by
  have h2:=values_any io il ic L eo el ec es bits E hE W' hi (he.later h) hl hel hx hbt
  rw [hval] at h2
  exact h2
 have HPA:Hid (∀ (f n:Nat) W',Below w.heap.size w W' -> f <= 1050000 -> n <= 1050000 -> _):=fun f n W' h hf hn=>partsJ_any ro rl rc rs f n bits E hE W' (hr.later h) hrl hf hn hbt
 obtain ⟨ou,hou⟩:∃ x,(!a.bad && wholeB a) = x:=⟨_,rfl⟩
 obtain ⟨oq,hoq⟩:∃ x,(!b.bad && wholeB b) = x:=⟨_,rfl⟩
 have HO:Hid ((!a.bad && wholeB a) = ou /\ (!b.bad && wholeB b) = oq):=⟨hou,hoq⟩
 clear ha hwa hda hb hwb hdb hab he hel hr hrl hbt hE hou hoq hval
 have X0:Below w.heap.size w ((w.alloc (.cells (zRow a) 26)).alloc (.cells (zRow b) 26)):=((Below.refl _ w).alloc (Nat.le_refl _) _).alloc (by simp only [alloc_size];omega) _
 have Y0:((w.alloc (.cells (zRow a) 26)).alloc (.cells (zRow b) 26)).heap[w.heap.size]? = some (.cells (zRow a) 26):=alloc_kept (heap_alloc_new w _) _
 have Y1:((w.alloc (.cells (zRow a) 26)).alloc (.cells (zRow b) 26)).heap[w.heap.size + 1]? = some (.cells (zRow b) 26):=heap_at _ _ _ (by simp only [alloc_size])
 go_enter Tryz.func3,Tryz.ntmps3
 go_upto_region 1 with fail
 obtain ⟨X,hX⟩:∃ X,((w.alloc (.cells (zRow a) 26)).alloc (.cells (zRow b) 26)) = X:=⟨_,rfl⟩
 rw [hX] at X0 Y0 Y1 ⊢
 have HX:Hid (Below w.heap.size w X /\ X.heap[w.heap.size]? = some (.cells (zRow a) 26) /\ X.heap[w.heap.size + 1]? = some (.cells (zRow b) 26)):=⟨X0,Y0,Y1⟩
 clear hX X0 Y0 Y1
 go_upto_region 2 with (first
  | (refine wpList_load_row (by rfl) 26 _ (by rfl) w.heap.size _ (by rfl) HX.out.2.1 _ Tryz.underlying26 rfl 6 Tryz.infoZq (by rfl) ?_)
  | (go_at_call 5;refine Calls.mono (HOA.out _ HX.out.1) ?_;rintro e v1 ⟨u,rfl,hu1,hs1,y1⟩)
  | (go_at_call 4;refine Calls.mono (realsQ HE.out hu1 hs1 HA.out.1 HA.out.2.1 HO.out.1) ?_;rintro e w1 ⟨⟨N1,a1,l1,c1,d1,m1,e1,f1,o1,g1,h1,p1,r1,rfl,hr1⟩,b1⟩;have HRR1:Hid _:=hr1;clear hr1))
 have A1:Below w1.heap.size w1 (w1.alloc (.cells #[.int .i64 N1,.slice a1 l1 c1,.slice d1 m1 e1,.slice f1 o1 g1,.slice h1 p1 r1] 30)):=(Below.refl _ w1).alloc (Nat.le_refl _) _
 have E1:=heap_alloc_new w1 (.cells #[.int .i64 N1,.slice a1 l1 c1,.slice d1 m1 e1,.slice f1 o1 g1,.slice h1 p1 r1] 30)
 obtain ⟨X1,hX1⟩:∃ x,(w1.alloc (.cells #[.int .i64 N1,.slice a1 l1 c1,.slice d1 m1 e1,.slice f1 o1 g1,.slice h1 p1 r1] 30)) = x:=⟨_,rfl⟩
 rw [hX1] at A1 E1 ⊢
 have q1:=to_call (to_call y1 b1) A1
 have H1:Hid (Below w.heap.size w X1 /\ X1.heap[w.heap.size]? = some (.cells (zRow a) 26) /\ X1.heap[(w.heap.size + 1)]? = some (.cells (zRow b) 26) /\ X1.heap[w1.heap.size]? = some (.cells #[.int .i64 N1,.slice a1 l1 c1,.slice d1 m1 e1,.slice f1 o1 g1,.slice h1 p1 r1] 30)):=⟨to_call HX.out.1 q1,kept q1 HX.out.2.1,kept q1 HX.out.2.2,E1⟩
 have G1:Hid (RlQ ou X1 E a N1 (.slice a1 l1 c1) (.slice h1 p1 r1) (.slice d1 m1 e1) (.slice f1 o1 g1)):=RlQ.mk (fun h=>HRR1.out h) A1
 obtain ⟨B6,hB6⟩:∃ x,w1.heap.size = x:=⟨_,rfl⟩
 rw [hB6] at H1 ⊢
 clear hX1 hB6 A1 E1 y1 b1 q1 hu1 hs1 HRR1 HX
 go_upto_region 3 with (first
  | (refine wpList_load_row (by rfl) 26 _ (by rfl) (w.heap.size + 1) _ (by rfl) H1.out.2.2.1 _ Tryz.underlying26 rfl 6 Tryz.infoZq (by rfl) ?_)
  | (go_at_call 5;refine Calls.mono (HOB.out _ H1.out.1) ?_;rintro e v2 ⟨q,rfl,hu2,hs2,y2⟩)
  | (go_at_call 4;refine Calls.mono (realsQ HE.out hu2 hs2 HB.out.1 HB.out.2.1 HO.out.2) ?_;rintro e w2 ⟨⟨N2,a2,l2,c2,d2,m2,e2,f2,o2,g2,h2,p2,r2,rfl,hr2⟩,b2⟩;have HRR2:Hid _:=hr2;clear hr2))
 have A2:Below w2.heap.size w2 (w2.alloc (.cells #[.int .i64 N2,.slice a2 l2 c2,.slice d2 m2 e2,.slice f2 o2 g2,.slice h2 p2 r2] 30)):=(Below.refl _ w2).alloc (Nat.le_refl _) _
 have E2:=heap_alloc_new w2 (.cells #[.int .i64 N2,.slice a2 l2 c2,.slice d2 m2 e2,.slice f2 o2 g2,.slice h2 p2 r2] 30)
 obtain ⟨X2,hX2⟩:∃ x,(w2.alloc (.cells #[.int .i64 N2,.slice a2 l2 c2,.slice d2 m2 e2,.slice f2 o2 g2,.slice h2 p2 r2] 30)) = x:=⟨_,rfl⟩
 rw [hX2] at A2 E2 ⊢
 have q2:=to_call (to_call y2 b2) A2
 have H2:Hid (Below w.heap.size w X2 /\ X2.heap[w.heap.size]? = some (.cells (zRow a) 26) /\ X2.heap[(w.heap.size + 1)]? = some (.cells (zRow b) 26) /\ X2.heap[B6]? = some (.cells #[.int .i64 N1,.slice a1 l1 c1,.slice d1 m1 e1,.slice f1 o1 g1,.slice h1 p1 r1] 30) /\ X2.heap[w2.heap.size]? = some (.cells #[.int .i64 N2,.slice a2 l2 c2,.slice d2 m2 e2,.slice f2 o2 g2,.slice h2 p2 r2] 30)):=⟨to_call H1.out.1 q2,kept q2 H1.out.2.1,kept q2 H1.out.2.2.1,kept q2 H1.out.2.2.2,E2⟩
 have G2:Hid (RlQ oq X2 E b N2 (.slice a2 l2 c2) (.slice h2 p2 r2) (.slice d2 m2 e2) (.slice f2 o2 g2)):=RlQ.mk (fun h=>HRR2.out h) A2
 have G1:Hid (RlQ ou X2 E a N1 (.slice a1 l1 c1) (.slice h1 p1 r1) (.slice d1 m1 e1) (.slice f1 o1 g1)):=G1.out.later q2
 obtain ⟨B8,hB8⟩:∃ x,w2.heap.size = x:=⟨_,rfl⟩
 rw [hB8] at H2 ⊢
 clear hX2 hB8 A2 E2 y2 b2 q2 hu2 hs2 HRR2 H1
 have HPL:Hid _:=plusP_any a b X2 (HA.out.1.later H2.out.1) (HB.out.1.later H2.out.1) (by have:=HA.out.2.2;omega) (by have:=HB.out.2.2;omega)
 go_upto_region 4 with (first
  | (refine wpList_load_row (by rfl) 26 _ (by rfl) w.heap.size _ (by rfl) H2.out.2.1 _ Tryz.underlying26 rfl 6 Tryz.infoZq (by rfl) ?_)
  | (refine wpList_load_row (by rfl) 26 _ (by rfl) (w.heap.size + 1) _ (by rfl) H2.out.2.2.1 _ Tryz.underlying26 rfl 6 Tryz.infoZq (by rfl) ?_)
  | (go_at_call 6;refine Calls.mono HPL.out ?_;rintro e w3 ⟨⟨c,rfl,hp⟩,b3⟩;obtain ⟨s,hsc,hzs,hps,hws⟩:=PlR.toW hp HA.out.1 HB.out.1 (by have:=HA.out.2.2;omega) (by have:=HB.out.2.2;omega) (by have:=HAB.out;omega);injection hsc with hsc;subst hsc)
  | (refine wpList_store_row (by rfl) 26 _ _ (by rfl) w3 w3.heap.size w3.heap.size (zRow s) _ (by rfl) (by rfl) (heap_alloc_new w3 _) ((Below.refl _ w3).alloc (Nat.le_refl _) _) (Nat.le_refl _) 6 Tryz.infoZq rfl rfl (oneZ _ _ _ _ _ rfl rfl rfl rfl _) ?_;intro W3 E3 b3' s3 o3))
 have q3:=to_call b3 b3'
 have H3:Hid (Below w.heap.size w W3 /\ W3.heap[w.heap.size]? = some (.cells (zRow a) 26) /\ W3.heap[(w.heap.size + 1)]? = some (.cells (zRow b) 26) /\ W3.heap[B6]? = some (.cells #[.int .i64 N1,.slice a1 l1 c1,.slice d1 m1 e1,.slice f1 o1 g1,.slice h1 p1 r1] 30) /\ W3.heap[B8]? = some (.cells #[.int .i64 N2,.slice a2 l2 c2,.slice d2 m2 e2,.slice f2 o2 g2,.slice h2 p2 r2] 30) /\ W3.heap[w3.heap.size]? = some (.cells (zRow s) 26) /\ Below X2.heap.size X2 W3):=⟨to_call H2.out.1 q3,kept q3 H2.out.2.1,kept q3 H2.out.2.2.1,kept q3 H2.out.2.2.2.1,kept q3 H2.out.2.2.2.2,E3,q3⟩
 have HS:Hid (ZR W3 s /\ PlP a b s /\ ZW s):=⟨hzs.later b3',hps,hws⟩
 obtain ⟨B9,hB9⟩:∃ x,w3.heap.size = x:=⟨_,rfl⟩
 rw [hB9] at H3 ⊢
 clear hB9 b3 b3' q3 E3 s3 o3 hp hzs hps hws HPL H2
 refine wp_region_noPanic ?_
 have SV0:(fun V=>Below W3.heap.size W3 V) W3.drew:=(Below.refl _ W3).drew
 refine wp_region_held_drew (S:=(fun V=>Below W3.heap.size W3 V)) (by kernel_rfl) SV0 (fun _=>?_)
 refine tzH 38 0 (.agg (zRow s)) (Or.inl ⟨by kernel_rfl,fun w' hSw=>ex_loadRN _ 26 _ rfl B9 (by kernel_rfl) w' _ (kept hSw H3.out.2.2.2.2.2.1) _ Tryz.underlying26 rfl 6 Tryz.infoZq rfl⟩) SV0 ?_
 (try simp only [pA,pE,pB,pC,pD])
 refine tzH 39 1 (.agg (zRow b)) (Or.inl ⟨by kernel_rfl,fun w' hSw=>ex_loadRN _ 26 _ rfl (w.heap.size + 1) (by kernel_rfl) w' _ (kept hSw H3.out.2.2.1) _ Tryz.underlying26 rfl 6 Tryz.infoZq rfl⟩) SV0 ?_
 (try simp only [pA,pE,pB,pC,pD])
 refine tzH 40 2 (.agg (zRow a)) (Or.inl ⟨by kernel_rfl,fun w' hSw=>ex_loadRN _ 26 _ rfl w.heap.size (by kernel_rfl) w' _ (kept hSw H3.out.2.1) _ Tryz.underlying26 rfl 6 Tryz.infoZq rfl⟩) SV0 ?_
 (try simp only [pA,pE,pB,pC,pD])
 refine rzH [3] ?_
 refine consH _ rfl (hzC 41 (Calls.mono (plusP_any b a _ (HB.out.1.later (to_call H3.out.1 SV0)) (HA.out.1.later (to_call H3.out.1 SV0)) (by have:=HB.out.2.2;omega) (by have:=HA.out.2.2;omega)) ?_)) AllReadyH.nil
 rintro e V1 ⟨⟨c,rfl,hp⟩,c1⟩
 have SV1:(fun V=>Below W3.heap.size W3 V) V1:=to_call SV0 c1
 obtain ⟨t,htc,hzt,hpt,-⟩:=PlR.toW hp HB.out.1 HA.out.1 (by have:=HB.out.2.2;omega) (by have:=HA.out.2.2;omega) (by have:=HAB.out;omega)
 injection htc with htc
 subst htc
 refine ⟨_,rfl,SV1,?_⟩
 (try simp only [pA,pE,pB,pC,pD])
 refine rzH [4] ?_
 refine consH _ rfl (hzC 42 (Calls.mono (samZ_rowP s t _ (HS.out.1.later SV1) hzt) ?_)) AllReadyH.nil
 rintro e V2 ⟨rfl,c2⟩
 have SV2:(fun V=>Below W3.heap.size W3 V) V2:=to_call SV1 c2
 rw [HS.out.2.1.same hpt HS.out.1 hzt]
 refine ⟨_,rfl,SV2,?_⟩
 (try simp only [pA,pE,pB,pC,pD])
 refine tzI 43 5 ?_ ?_ SV2 ?_
 rotate_left
 ·intro w' hSw;go_simp;try with_reducible rfl
 (try simp only [pA,pE,pB,pC,pD])
 refine tzI 44 6 ?_ ?_ SV2 ?_
 rotate_left
 ·intro w' hSw;go_simp;try with_reducible rfl
 (try simp only [pA,pE,pB,pC,pD])
 refine tzH 45 7 (undef) (Or.inr ⟨by kernel_rfl,rfl⟩) SV2 ?_
 (try simp only [pA,pE,pB,pC,pD])
 refine tzI 46 8 ?_ ?_ SV2 ?_
 rotate_left
 ·intro w' hSw;go_simp;try with_reducible rfl
 (try simp only [pA,pE,pB,pC,pD])
 refine tzI 47 9 ?_ ?_ SV2 ?_
 rotate_left
 ·intro w' hSw;go_simp;try with_reducible rfl
 (try simp only [pA,pE,pB,pC,pD])
 refine tzH 48 10 (undef) (Or.inr ⟨by kernel_rfl,rfl⟩) SV2 ?_
 (try simp only [pA,pE,pB,pC,pD])
 refine tzI 49 11 ?_ ?_ SV2 ?_
 rotate_left
 ·intro w' hSw;go_simp;try with_reducible rfl
 (try simp only [pA,pE,pB,pC,pD])
 refine tzI 50 12 ?_ ?_ SV2 ?_
 rotate_left
 ·intro w' hSw;go_simp;try with_reducible rfl
 (try simp only [pA,pE,pB,pC,pD])
 refine tzH 51 13 (undef) (Or.inr ⟨by kernel_rfl,rfl⟩) SV2 ?_
 (try simp only [pA,pE,pB,pC,pD])
 refine tzH 52 14 (undef) (Or.inr ⟨by kernel_rfl,rfl⟩) SV2 ?_
 (try simp only [pA,pE,pB,pC,pD])
 refine tzH 53 15 (undef) (Or.inr ⟨by kernel_rfl,rfl⟩) SV2 ?_
 (try simp only [pA,pE,pB,pC,pD])
 refine tzH 54 16 (undef) (Or.inr ⟨by kernel_rfl,rfl⟩) SV2 ?_
 (try simp only [pA,pE,pB,pC,pD])
 refine tzH 55 17 (undef) (Or.inr ⟨by kernel_rfl,rfl⟩) SV2 ?_
 (try simp only [pA,pE,pB,pC,pD])
 refine tzI 56 18 ?_ ?_ SV2 ?_
 rotate_left
 ·intro w' hSw;go_simp;try with_reducible rfl
 (try simp only [pA,pE,pB,pC,pD])
 refine wpAnyH_done (by kernel_rfl) ?_ _
 refine NoPanic.normal ?_
 (try simp only [pA,pE,pB,pC,pD])
 have H4:Hid (Below W3.heap.size W3 V2):=SV2
 clear SV0 SV1 SV2 c1 c2 hp hzt hpt
 cases ou with
 | false=>
  have HBD:Hid (PlB s (if (tkZ a).N = (tkZ b).N then (tkZ a).N else 0)):=by
   rcases HS.out.2.1.is with ⟨h1,_⟩ | ⟨_,h1⟩
   ·rw [HO.out.1] at h1;cases h1
   ·exact h1
  obtain ⟨-,-,-,-,-,z5⟩:=cells6 (kept H4.out H3.out.2.2.2.2.2.1)
  rw [HBD.out.bad] at z5
  go_wp2_with (go_at_call 8;refine Calls.mono (started_any _) ?_;rintro e w8 ⟨rfl,b8⟩)
  go_ret
  exact ⟨rfl,to_call (to_call H3.out.1 H4.out) b8⟩
 | true=>
 cases oq with
 | false=>
  have HBD:Hid (PlB s (if (tkZ a).N = (tkZ b).N then (tkZ a).N else 0)):=by
   rcases HS.out.2.1.is with ⟨_,h1,_⟩ | ⟨_,h1⟩
   ·rw [HO.out.2] at h1;cases h1
   ·exact h1
  obtain ⟨-,-,-,-,-,z5⟩:=cells6 (kept H4.out H3.out.2.2.2.2.2.1)
  rw [HBD.out.bad] at z5
  go_wp2_with (go_at_call 8;refine Calls.mono (started_any _) ?_;rintro e w8 ⟨rfl,b8⟩)
  go_ret
  exact ⟨rfl,to_call (to_call H3.out.1 H4.out) b8⟩
 | true=>
 obtain ⟨e1n,gl1,BL1,HL1⟩:=G1.out rfl
 obtain ⟨e2n,gl2,BL2,HL2⟩:=G2.out rfl
 subst e1n
 subst e2n
 have x0:=cellAtJ (kept H4.out H3.out.2.2.2.1) 0 _ rfl
 have y0:=cellAtJ (kept H4.out H3.out.2.2.2.2.1) 0 _ rfl
 by_cases eN:a.N = b.N
 case neg=>
  have dn:(a.N == b.N) = false:=by simpa using eN
  have dn2:(a.N != b.N) = true:=by simpa using eN
  have HBD:Hid (PlB s (if (tkZ a).N = (tkZ b).N then (tkZ a).N else 0)):=by
   rcases HS.out.2.1.is with ⟨_,_,h1,_⟩ | ⟨_,h1⟩
   ·exact absurd h1 eN
   ·exact h1
  clear eN
  obtain ⟨-,-,-,-,-,z5⟩:=cells6 (kept H4.out H3.out.2.2.2.2.2.1)
  rw [HBD.out.bad] at z5
  go_wp2_with (go_at_call 8;refine Calls.mono (started_any _) ?_;rintro e w8 ⟨rfl,b8⟩)
  go_ret
  exact ⟨rfl,to_call (to_call H3.out.1 H4.out) b8⟩
 have dn:(a.N == b.N) = true:=by simpa using eN
 have dn2:(a.N != b.N) = false:=by simpa using eN
 have HEN:Hid (a.N = b.N):=eN
 have hfa:=WhF.of HA.out.1 (by have:=HA.out.2.2;omega) (tk_good HO.out.1).2.1
 have hfb:=WhF.of HB.out.1 (by have:=HB.out.2.2;omega) (tk_good HO.out.2).2.1
 have HFA:Hid (WhF a /\ WhF b):=⟨hfa,hfb⟩
 obtain ⟨t0,-,-,-,-,-⟩:=cells6 (kept H4.out H3.out.2.2.2.2.2.1)
 clear eN hfa hfb
 rcases HS.out.2.1.is with ⟨-,-,-,hrn,us,UL,hpg⟩ | ⟨-,hbd⟩
 case inr=>
  have HBD:Hid (PlB s (if (tkZ a).N = (tkZ b).N then (tkZ a).N else 0)):=hbd
  clear hbd t0
  obtain ⟨z0,z1,z2,z3,z4,z5⟩:=cells6 (kept H4.out H3.out.2.2.2.2.2.1)
  have hN:s.N = a.N:=by rw [HBD.out.N,tk_self (tk_good HO.out.1).2.2,tk_self (tk_good HO.out.2).2.2,if_pos HEN.out]
  have c0:s.cn = 0:=by rw [<- HS.out.1.c.length,HBD.out.cs];rfl
  have r0:s.rn = 0:=by rw [<- HS.out.1.r.length,HBD.out.rs];rfl
  have i0:s.dn = 0:=by rw [<- HS.out.1.i.length,HBD.out.ids];rfl
  have g0:s.gn = 0:=by rw [<- HS.out.1.g.length,HBD.out.gs];rfl
  rw [HBD.out.bad] at z5
  rw [hN] at z0
  rw [c0] at z1
  rw [r0] at z4
  rw [i0] at z2
  rw [g0] at z3
  have dnn:(a.N == a.N) = true:=by simp
  clear hN c0 r0 i0 g0
  go_wp2_with (go_at_call 8;refine Calls.mono (started_any _) ?_;rintro e w8 ⟨rfl,b8⟩)
  go_ret
  exact ⟨rfl,to_call (to_call H3.out.1 H4.out) b8⟩
 obtain ⟨-,-,-,-,-,t5⟩:=cells6 (kept H4.out H3.out.2.2.2.2.2.1)
 rw [hpg.bad] at t5
 have HPG:Hid (PlG a b s a.rn us UL):=hpg
 have HRN:Hid (a.rn = b.rn):=hrn
 have HGS:Hid ((!s.bad && wholeB s) = true):=by
  unfold Hid
  rw [hpg.bad,hpg.whole HS.out.1 HA.out.1 HB.out.1 (tk_good HO.out.1).2.1 (tk_good HO.out.2).2.1 HFA.out.1 HFA.out.2]
  rfl
 have HOS:Hid (∀ W',Below V2.heap.size V2 W' -> _):=fun W' h=>ofU s W' (HS.out.1.later (to_call H4.out h)) HS.out.2.2
 have HSZ:Hid (ZR V2 s /\ ZW s /\ True):=⟨HS.out.1.later H4.out,HS.out.2.2,trivial⟩
 clear hpg hrn
 go_upto_region 11 with (first
  | (refine wpList_load_row (by rfl) 26 _ (by rfl) B9 _ (by rfl) (kept H4.out H3.out.2.2.2.2.2.1) _ Tryz.underlying26 rfl 6 Tryz.infoZq (by rfl) ?_)
  | (go_at_call 5;refine Calls.mono (HOS.out _ (Below.refl _ _)) ?_;rintro e v3 ⟨us0,rfl,hu3,hs3,y3⟩)
  | (go_at_call 4;refine Calls.mono (realsQ HE.out hu3 hs3 HSZ.out.1 HSZ.out.2.1 HGS.out) ?_;rintro e w3 ⟨⟨N3,a3,l3,c3,d3,m3,e3,f3,o3,g3,h3,p3,r3,rfl,hr3⟩,b3⟩;have HRR3:Hid _:=hr3;clear hr3))
 have A3:Below w3.heap.size w3 (w3.alloc (.cells #[.int .i64 N3,.slice a3 l3 c3,.slice d3 m3 e3,.slice f3 o3 g3,.slice h3 p3 r3] 30)):=(Below.refl _ w3).alloc (Nat.le_refl _) _
 have E3:=heap_alloc_new w3 (.cells #[.int .i64 N3,.slice a3 l3 c3,.slice d3 m3 e3,.slice f3 o3 g3,.slice h3 p3 r3] 30)
 obtain ⟨X3,hX3⟩:∃ x,(w3.alloc (.cells #[.int .i64 N3,.slice a3 l3 c3,.slice d3 m3 e3,.slice f3 o3 g3,.slice h3 p3 r3] 30)) = x:=⟨_,rfl⟩
 rw [hX3] at A3 E3 ⊢
 have q3:=to_call (to_call y3 b3) A3
 have H5:Hid (Below W3.heap.size W3 X3 /\ X3.heap[w3.heap.size]? = some (.cells #[.int .i64 N3,.slice a3 l3 c3,.slice d3 m3 e3,.slice f3 o3 g3,.slice h3 p3 r3] 30)):=⟨to_call H4.out q3,E3⟩
 have GS:Hid (RlQ true X3 E s N3 (.slice a3 l3 c3) (.slice h3 p3 r3) (.slice d3 m3 e3) (.slice f3 o3 g3)):=RlQ.mk (fun h=>HRR3.out (by trivial)) A3
 obtain ⟨B11,hB11⟩:∃ x,w3.heap.size = x:=⟨_,rfl⟩
 rw [hB11] at H5 ⊢
 obtain ⟨e3n,gl3,BL3,HL3⟩:=GS.out rfl
 subst e3n
 obtain ⟨g5,HI1⟩:=HL1.rd
 subst g5
 obtain ⟨g5,HI2⟩:=HL2.rd
 subst g5
 obtain ⟨g5,HI3⟩:=HL3.rd
 subst g5
 have qX:=to_call H3.out.2.2.2.2.2.2 H5.out.1
 have HY:Hid (Below w.heap.size w X3):=to_call H3.out.1 H5.out.1
 obtain ⟨n,hnn⟩:∃ n,a.rn = n:=⟨_,rfl⟩
 have haN:a.N = (n:Int):=by rw [<- hnn];exact HFA.out.1.N
 have hsN:s.N = (n:Int):=by rw [<- hnn];exact HPG.out.N
 have HL:Hid (RlS X3 BL1 E a.cs a.rs a.ids a.gs _ _ _ _ gl1 /\ RlS X3 BL2 E b.cs b.rs b.ids b.gs _ _ _ _ gl2 /\ RlS X3 BL3 E s.cs s.rs s.ids s.gs _ _ _ _ gl3):=⟨HL1.later qX,HL2.later qX,HL3⟩
 have HII:Hid (RdIs X3 d1 a.ids.length e1 a.ids /\ RdIs X3 d2 b.ids.length e2 b.ids /\ RdIs X3 d3 s.ids.length e3 s.ids):=⟨HI1.later qX,HI2.later qX,HI3⟩
 have HC1:Hid (∀ V,Below X3.heap.size X3 V -> _ /\ _ /\ _ /\ _ /\ _):=fun V hV=>⟨cellAtJ (kept hV (kept H5.out.1 H3.out.2.2.2.1)) 0 _ rfl,cellAtJ (kept hV (kept H5.out.1 H3.out.2.2.2.1)) 1 _ rfl,cellAtJ (kept hV (kept H5.out.1 H3.out.2.2.2.1)) 2 _ rfl,cellAtJ (kept hV (kept H5.out.1 H3.out.2.2.2.1)) 3 _ rfl,cellAtJ (kept hV (kept H5.out.1 H3.out.2.2.2.1)) 4 _ rfl⟩
 have HC2:Hid (∀ V,Below X3.heap.size X3 V -> _ /\ _ /\ _ /\ _ /\ _):=fun V hV=>⟨cellAtJ (kept hV (kept H5.out.1 H3.out.2.2.2.2.1)) 0 _ rfl,cellAtJ (kept hV (kept H5.out.1 H3.out.2.2.2.2.1)) 1 _ rfl,cellAtJ (kept hV (kept H5.out.1 H3.out.2.2.2.2.1)) 2 _ rfl,cellAtJ (kept hV (kept H5.out.1 H3.out.2.2.2.2.1)) 3 _ rfl,cellAtJ (kept hV (kept H5.out.1 H3.out.2.2.2.2.1)) 4 _ rfl⟩
 have HC3:Hid (∀ V,Below X3.heap.size X3 V -> _ /\ _ /\ _ /\ _ /\ _):=fun V hV=>⟨cellAtJ (kept hV H5.out.2) 0 _ rfl,cellAtJ (kept hV H5.out.2) 1 _ rfl,cellAtJ (kept hV H5.out.2) 2 _ rfl,cellAtJ (kept hV H5.out.2) 3 _ rfl,cellAtJ (kept hV H5.out.2) 4 _ rfl⟩
 have HR1:Hid (∀ V,Below X3.heap.size X3 V -> V.heap[B6]? = _):=fun V hV=>kept hV (kept H5.out.1 H3.out.2.2.2.1)
 have HR2:Hid (∀ V,Below X3.heap.size X3 V -> V.heap[B8]? = _):=fun V hV=>kept hV (kept H5.out.1 H3.out.2.2.2.2.1)
 have HR3:Hid (∀ V,Below X3.heap.size X3 V -> V.heap[B11]? = _):=fun V hV=>kept hV H5.out.2
 rw [haN] at HC1 HR1
 rw [hsN] at HC3 HR3
 have hbN:b.N = (n:Int):=by rw [<- HEN.out];exact haN
 rw [hbN] at HC2 HR2
 rw [hnn] at HPG
 have hn1:1 <= n:=by rw [<- hnn];exact HFA.out.1.n1
 have hn2:n <= 256:=by rw [<- hnn];exact HFA.out.1.n2
 have HNN:Hid (a.rn = n /\ b.rn = n /\ s.rn = n):=⟨hnn,by rw [<- HRN.out];exact hnn,by rw [<- HS.out.1.r.length,HPG.out.rl]⟩
 have hfs:=WhF.of HS.out.1 (by have:=HS.out.2.2.il;omega) (tk_good HGS.out).2.1
 have HIA:=whole_ids (tk_good HO.out.1).2.1 HA.out.1.i.length
 have HIB:=whole_ids (tk_good HO.out.2).2.1 HB.out.1.i.length
 have HIS:=whole_ids (tk_good HGS.out).2.1 HS.out.1.i.length
 have HIX:Hid ((a.ids.Pairwise (· < ·) /\ ∀ x ∈ a.ids,0 <= x /\ x <= 1073741824) /\ (b.ids.Pairwise (· < ·) /\ ∀ x ∈ b.ids,0 <= x /\ x <= 1073741824) /\ (s.ids.Pairwise (· < ·) /\ ∀ x ∈ s.ids,0 <= x /\ x <= 1073741824)):=⟨HIA,HIB,HIS⟩
 have HDN:Hid (a.ids.length <= 1050000 /\ b.ids.length <= 1050000 /\ s.ids.length <= 1050000):=⟨by rw [HA.out.1.i.length];have:=HA.out.2.2;omega,by rw [HB.out.1.i.length];have:=HB.out.2.2;omega,by rw [HS.out.1.i.length];exact HS.out.2.2.il⟩
 have lens:∀ z:ZD,∀ W,ZR W z -> WhF z -> z.rn = n -> z.ids.length = z.gs.length /\ z.cs.length = n /\ z.rs.length = n /\ ∀ k,k < z.gs.length -> (z.gs[k]?.getD []).length = n:=fun z W hz hf hn=>⟨by rw [hz.i.length,hz.g.length];exact hf.dg,by rw [hf.cl,hn],by rw [hf.rl,hn],fun k hk=>by rw [hf.gl k (by rw [hf.dg,<- hz.g.length];exact hk),hn]⟩
 have HLA:=lens a _ HA.out.1 HFA.out.1 HNN.out.1
 have HLB:=lens b _ HB.out.1 HFA.out.2 HNN.out.2.1
 have HLS:=lens s _ HS.out.1 hfs HNN.out.2.2
 have HLN:Hid _:=And.intro HLA (And.intro HLB HLS)
 have HFS:Hid (FnZ a /\ FnZ b /\ FnZ s):=⟨HFA.out.1.fin,HFA.out.2.fin,hfs.fin⟩
 have dnn:((n:Int) != (n:Int)) = false:=by simp
 obtain ⟨x0,-,-,-,-⟩:=HC1.out X3 (Below.refl _ _)
 obtain ⟨z0,-,-,-,-⟩:=HC3.out X3 (Below.refl _ _)
 clear hnn haN hsN hbN hfs HIA HIB HIS lens HLA HLB HLS HL1 HL2 HL3 HI1 HI2 HI3 qX dn dn2 y0 t0 t5 hX3 hB11 A3 E3 y3 b3 q3 hu3 hs3 HRR3 GS G1 G2
 go_upto_region 13 with fail
 clear x0 z0
 refine wp_region_noPanic ?_
 have SW130:(fun V=>Below X3.heap.size X3 V) X3.drew:=(Below.refl _ X3).drew
 refine wp_region_held_drew (S:=(fun V=>Below X3.heap.size X3 V)) (by kernel_rfl) SW130 (fun _=>?_)
 refine tzH 118 0 (.agg _) (Or.inl ⟨by kernel_rfl,fun w' hSw=>ex_loadRN _ 30 _ rfl B6 (by kernel_rfl) w' _ (HR1.out w' (id hSw)) _ Tryz.underlying30 rfl 5 Tryz.infoRl rfl⟩) SW130 ?_
 (try simp only [pA,pE,pB,pC,pD])
 refine tzI 119 1 ?_ ?_ SW130 ?_
 rotate_left
 ·intro w' hSw;go_simp;try with_reducible rfl
 (try simp only [pA,pE,pB,pC,pD])
 refine tzI 120 2 ?_ ?_ SW130 ?_
 rotate_left
 ·intro w' hSw;obtain ⟨k0,k1,k2,k3,k4⟩:=HC1.out w' hSw;go_simp;try with_reducible rfl
 (try simp only [pA,pE,pB,pC,pD])
 refine tzI 121 3 ?_ ?_ SW130 ?_
 rotate_left
 ·intro w' hSw;go_simp;try with_reducible rfl
 (try simp only [pA,pE,pB,pC,pD])
 refine tzI 122 4 ?_ ?_ SW130 ?_
 rotate_left
 ·intro w' hSw;go_simp;try with_reducible rfl
 (try simp only [pA,pE,pB,pC,pD])
 refine tzI 124 6 ?_ ?_ SW130 ?_
 rotate_left
 ·intro w' hSw;go_simp;try with_reducible rfl
 (try simp only [pA,pE,pB,pC,pD])
 refine tzI 125 7 ?_ ?_ SW130 ?_
 rotate_left
 ·intro w' hSw;go_simp;try with_reducible rfl
 (try simp only [pA,pE,pB,pC,pD])
 refine tzI 126 8 ?_ ?_ SW130 ?_
 rotate_left
 ·intro w' hSw;obtain ⟨k0,k1,k2,k3,k4⟩:=HC1.out w' hSw;go_simp;try with_reducible rfl
 (try simp only [pA,pE,pB,pC,pD])
 refine tzI 127 9 ?_ ?_ SW130 ?_
 rotate_left
 ·intro w' hSw;go_simp;try with_reducible rfl
 (try simp only [pA,pE,pB,pC,pD])
 refine rzH [5] ?_
 refine consH _ rfl (hzC 123 (Calls.mono (HVA.out _ _ _ _ _ (to_call HY.out SW130) (HII.out.1.later SW130) (by have:=HDN.out.1;omega) HIX.out.1.2) ?_)) AllReadyH.nil
 rintro e V1 ⟨ve,rfl,hve,c1⟩
 have SV1:(fun V=>Below X3.heap.size X3 V) V1:=to_call SW130 c1
 refine ⟨_,rfl,SV1,?_⟩
 (try simp only [pA,pE,pB,pC,pD])
 refine rzH [10] ?_
 refine consH _ rfl (hzC 128 (Calls.mono (HPA.out 0 n _ (to_call HY.out SV1) (by omega) (by omega)) ?_)) AllReadyH.nil
 rintro e V2 ⟨vb,bx,rfl,hvb,hbl,hbb,c2⟩
 have SV2:(fun V=>Below X3.heap.size X3 V) V2:=to_call SV1 c2
 have hbx:bx.length = n /\ ∀ z ∈ bx,z.natAbs <= 2 ^ E:=⟨hbl,hbb⟩
 refine ⟨_,rfl,SV2,?_⟩
 (try simp only [pA,pE,pB,pC,pD])
 refine rzH [11] ?_
 refine consH _ rfl (hzC 129 (Calls.mono (point_any n _ _ _ _ _ _ _ _ _ _ _ _ a.cs a.rs a.ids a.gs _ ve vb (a.ids.map val) _ _ _ _ E HE.out _ (HL.out.1.later SV2) (hve.later c2) hvb (by rw [List.length_map];exact HLN.out.1.1) hbx.1 (fun x hx=>by obtain ⟨id,-,rfl⟩:=List.mem_map.1 hx;exact HVL.out id) hbx.2 HLN.out.1.2.1 HLN.out.1.2.2.1 HLN.out.1.2.2.2 (fun i=>HFS.out.1.c i) (fun i=>HFS.out.1.r i) (fun k i=>HFS.out.1.g k i) (by rw [<- HLN.out.1.1];exact HDN.out.1) hn2) ?_)) AllReadyH.nil
 rintro e W13 ⟨v13,rfl,hp13,c13⟩
 have SW13:(fun V=>Below X3.heap.size X3 V) W13:=to_call SV2 c13
 refine ⟨_,rfl,SW13,?_⟩
 (try simp only [pA,pE,pB,pC,pD])
 refine tzI 18 12 ?_ ?_ SW13 ?_
 rotate_left
 ·intro w' hSw;go_simp;try with_reducible rfl
 (try simp only [pA,pE,pB,pC,pD])
 refine wpAnyH_done (by kernel_rfl) ?_ _
 refine NoPanic.normal ?_
 (try simp only [pA,pE,pB,pC,pD])
 obtain ⟨Q13,hQ13⟩:∃ m,V2.heap.size = m:=⟨_,rfl⟩
 rw [hQ13] at hp13
 clear hQ13 hve hvb hbl hbb c1 c2 SV1 SV2 c13
 have HP:Hid (RowZ W13 Q13 v13 (E + E) 1060 (ptV (2 ^ E) a.cs a.rs a.gs (a.ids.map val) bx n)):=hp13
 have HBX:Hid (bx.length = n /\ ∀ z ∈ bx,z.natAbs <= 2 ^ E):=hbx
 have HW13:Hid (Below X3.heap.size X3 W13):=SW13
 clear hp13 hbx SW13 SW130
 go_upto_region 14 with fail
 refine wp_region_noPanic ?_
 have SW140:(fun V=>Below W13.heap.size W13 V) W13.drew:=(Below.refl _ W13).drew
 refine wp_region_held_drew (S:=(fun V=>Below W13.heap.size W13 V)) (by kernel_rfl) SW140 (fun _=>?_)
 refine tzH 130 0 (.agg _) (Or.inl ⟨by kernel_rfl,fun w' hSw=>ex_loadRN _ 30 _ rfl B8 (by kernel_rfl) w' _ (HR2.out w' (to_call HW13.out hSw)) _ Tryz.underlying30 rfl 5 Tryz.infoRl rfl⟩) SW140 ?_
 (try simp only [pA,pE,pB,pC,pD])
 refine tzI 131 1 ?_ ?_ SW140 ?_
 rotate_left
 ·intro w' hSw;go_simp;try with_reducible rfl
 (try simp only [pA,pE,pB,pC,pD])
 refine tzI 132 2 ?_ ?_ SW140 ?_
 rotate_left
 ·intro w' hSw;obtain ⟨k0,k1,k2,k3,k4⟩:=HC2.out w' (to_call HW13.out hSw);go_simp;try with_reducible rfl
 (try simp only [pA,pE,pB,pC,pD])
 refine tzI 133 3 ?_ ?_ SW140 ?_
 rotate_left
 ·intro w' hSw;go_simp;try with_reducible rfl
 (try simp only [pA,pE,pB,pC,pD])
 refine tzI 134 4 ?_ ?_ SW140 ?_
 rotate_left
 ·intro w' hSw;go_simp;try with_reducible rfl
 (try simp only [pA,pE,pB,pC,pD])
 refine tzI 136 6 ?_ ?_ SW140 ?_
 rotate_left
 ·intro w' hSw;go_simp;try with_reducible rfl
 (try simp only [pA,pE,pB,pC,pD])
 refine tzI 137 7 ?_ ?_ SW140 ?_
 rotate_left
 ·intro w' hSw;go_simp;try with_reducible rfl
 (try simp only [pA,pE,pB,pC,pD])
 refine tzI 138 8 ?_ ?_ SW140 ?_
 rotate_left
 ·intro w' hSw;obtain ⟨k0,k1,k2,k3,k4⟩:=HC1.out w' (to_call HW13.out hSw);go_simp;try with_reducible rfl
 (try simp only [pA,pE,pB,pC,pD])
 refine tzI 139 9 ?_ ?_ SW140 ?_
 rotate_left
 ·intro w' hSw;go_simp;try with_reducible rfl
 (try simp only [pA,pE,pB,pC,pD])
 refine tzI 140 10 ?_ ?_ SW140 ?_
 rotate_left
 ·intro w' hSw;obtain ⟨k0,k1,k2,k3,k4⟩:=HC1.out w' (to_call HW13.out hSw);go_simp;try with_reducible rfl
 (try simp only [pA,pE,pB,pC,pD])
 refine tzI 141 11 ?_ ?_ SW140 ?_
 rotate_left
 ·intro w' hSw;go_simp;try with_reducible rfl
 (try simp only [pA,pE,pB,pC,pD])
 refine rzH [5] ?_
 refine consH _ rfl (hzC 135 (Calls.mono (HVA.out _ _ _ _ _ (to_call HY.out (to_call HW13.out SW140)) (HII.out.2.1.later (to_call HW13.out SW140)) (by have:=HDN.out.2.1;omega) HIX.out.2.1.2) ?_)) AllReadyH.nil
 rintro e V1 ⟨ve,rfl,hve,c1⟩
 have SV1:(fun V=>Below W13.heap.size W13 V) V1:=to_call SW140 c1
 refine ⟨_,rfl,SV1,?_⟩
 (try simp only [pA,pE,pB,pC,pD])
 refine rzH [12] ?_
 refine consH _ rfl (hzC 142 (Calls.mono (HPA.out n n _ (to_call HY.out (to_call HW13.out SV1)) (by omega) (by omega)) ?_)) AllReadyH.nil
 rintro e V2 ⟨vb,bY,rfl,hvb,hbl,hbb,c2⟩
 have SV2:(fun V=>Below W13.heap.size W13 V) V2:=to_call SV1 c2
 have hbx:bY.length = n /\ ∀ z ∈ bY,z.natAbs <= 2 ^ E:=⟨hbl,hbb⟩
 refine ⟨_,rfl,SV2,?_⟩
 (try simp only [pA,pE,pB,pC,pD])
 refine rzH [13] ?_
 refine consH _ rfl (hzC 143 (Calls.mono (point_any n _ _ _ _ _ _ _ _ _ _ _ _ b.cs b.rs b.ids b.gs _ ve vb (b.ids.map val) _ _ _ _ E HE.out _ (HL.out.2.1.later (to_call HW13.out SV2)) (hve.later c2) hvb (by rw [List.length_map];exact HLN.out.2.1.1) hbx.1 (fun x hx=>by obtain ⟨id,-,rfl⟩:=List.mem_map.1 hx;exact HVL.out id) hbx.2 HLN.out.2.1.2.1 HLN.out.2.1.2.2.1 HLN.out.2.1.2.2.2 (fun i=>HFS.out.2.1.c i) (fun i=>HFS.out.2.1.r i) (fun k i=>HFS.out.2.1.g k i) (by rw [<- HLN.out.2.1.1];exact HDN.out.2.1) hn2) ?_)) AllReadyH.nil
 rintro e W14 ⟨v14,rfl,hp14,c14⟩
 have SW14:(fun V=>Below W13.heap.size W13 V) W14:=to_call SV2 c14
 refine ⟨_,rfl,SW14,?_⟩
 (try simp only [pA,pE,pB,pC,pD])
 refine tzI 19 14 ?_ ?_ SW14 ?_
 rotate_left
 ·intro w' hSw;go_simp;try with_reducible rfl
 (try simp only [pA,pE,pB,pC,pD])
 refine wpAnyH_done (by kernel_rfl) ?_ _
 refine NoPanic.normal ?_
 (try simp only [pA,pE,pB,pC,pD])
 obtain ⟨Q14,hQ14⟩:∃ m,V2.heap.size = m:=⟨_,rfl⟩
 rw [hQ14] at hp14
 clear hQ14 hve hvb hbl hbb c1 c2 SV1 SV2 c14
 have HQ:Hid (RowZ W14 Q14 v14 (E + E) 1060 (ptV (2 ^ E) b.cs b.rs b.gs (b.ids.map val) bY n)):=hp14
 have HBY:Hid (bY.length = n /\ ∀ z ∈ bY,z.natAbs <= 2 ^ E):=hbx
 have HP2:Hid (RowZ W14 Q13 v13 (E + E) 1060 (ptV (2 ^ E) a.cs a.rs a.gs (a.ids.map val) bx n)):=HP.out.later SW14
 have HW14:Hid (Below X3.heap.size X3 W14):=to_call HW13.out SW14
 clear hp14 hbx SW14 SW140 HP
 go_upto_region 15 with fail
 apply by_key4 (F:=(fun _ _ v V=>(∃ Q,RowZ V Q v (E + E) 1060 (ptV (2 ^ E) s.cs s.rs s.gs (s.ids.map val) (List.replicate n 0) n)) /\ Below W14.heap.size W14 V))
 case main=>
  intro key
  refine wp_region_noPanic ?_
  have SW150:(fun V=>Below W14.heap.size W14 V) W14.drew:=(Below.refl _ W14).drew
  refine wp_region_held_drew (S:=(fun V=>Below W14.heap.size W14 V)) (by kernel_rfl) SW150 (fun _=>?_)
  refine tzH 144 0 (.agg _) (Or.inl ⟨by kernel_rfl,fun w' hSw=>ex_loadRN _ 30 _ rfl B11 (by kernel_rfl) w' _ (HR3.out w' (to_call HW14.out hSw)) _ Tryz.underlying30 rfl 5 Tryz.infoRl rfl⟩) SW150 ?_
  (try simp only [pA,pE,pB,pC,pD])
  refine tzI 145 1 ?_ ?_ SW150 ?_
  rotate_left
  ·intro w' hSw;go_simp;try with_reducible rfl
  (try simp only [pA,pE,pB,pC,pD])
  refine tzI 146 2 ?_ ?_ SW150 ?_
  rotate_left
  ·intro w' hSw;obtain ⟨k0,k1,k2,k3,k4⟩:=HC3.out w' (to_call HW14.out hSw);go_simp;try with_reducible rfl
  (try simp only [pA,pE,pB,pC,pD])
  refine tzI 147 3 ?_ ?_ SW150 ?_
  rotate_left
  ·intro w' hSw;go_simp;try with_reducible rfl
  (try simp only [pA,pE,pB,pC,pD])
  refine tzI 148 4 ?_ ?_ SW150 ?_
  rotate_left
  ·intro w' hSw;go_simp;try with_reducible rfl
  (try simp only [pA,pE,pB,pC,pD])
  refine tzI 150 6 ?_ ?_ SW150 ?_
  rotate_left
  ·intro w' hSw;go_simp;try with_reducible rfl
  (try simp only [pA,pE,pB,pC,pD])
  refine tzI 151 7 ?_ ?_ SW150 ?_
  rotate_left
  ·intro w' hSw;obtain ⟨k0,k1,k2,k3,k4⟩:=HC1.out w' (to_call HW14.out hSw);go_simp;try with_reducible rfl
  (try simp only [pA,pE,pB,pC,pD])
  refine rzH [5,8] ?_
  refine consH _ rfl ?_ (consH _ rfl ?_ AllReadyH.nil)
  ·refine hzC 149 (Calls.mono (HVA.out _ _ _ _ _ (to_call HY.out (to_call HW14.out SW150)) (HII.out.2.2.later (to_call HW14.out SW150)) (by have:=HDN.out.2.2;omega) HIX.out.2.2.2) ?_)
   rintro e V1 ⟨ve,rfl,hve,c1⟩
   have SV1:(fun V=>Below W14.heap.size W14 V) V1:=to_call SW150 c1
   refine ⟨_,rfl,SV1,?_⟩
   (try simp only [pA,pE,pB,pC,pD])
   refine rzH [8] ?_
   refine consH _ rfl (hopMN 152 rfl rfl rfl _ _ n E 1024 (by omega) (by omega) rfl (by kernel_rfl) (by kernel_rfl) fun D V2 hmk d1b=>?_) AllReadyH.nil
   have SV2:(fun V=>Below W14.heap.size W14 V) V2:=to_call SV1 d1b
   refine ⟨SV2,?_⟩
   (try simp only [pA,pE,pB,pC,pD])
   refine rzH [9] ?_
   refine consH _ rfl (hzC 153 (Calls.mono (point_any n _ _ _ _ _ _ _ _ _ _ _ _ s.cs s.rs s.ids s.gs _ ve _ (s.ids.map val) _ _ _ _ E HE.out _ (HL.out.2.2.later (to_call HW14.out SV2)) (hve.later d1b) hmk (by rw [List.length_map];exact HLN.out.2.2.1) List.length_replicate (fun x hx=>by obtain ⟨id,-,rfl⟩:=List.mem_map.1 hx;exact HVL.out id) (fun z hz=>by rw [(List.mem_replicate.1 hz).2];exact Nat.zero_le _) HLN.out.2.2.2.1 HLN.out.2.2.2.2.1 HLN.out.2.2.2.2.2 (fun i=>HFS.out.2.2.c i) (fun i=>HFS.out.2.2.r i) (fun k i=>HFS.out.2.2.g k i) (by rw [<- HLN.out.2.2.1];exact HDN.out.2.2) hn2) ?_)) AllReadyH.nil
   rintro e W15 ⟨v15,rfl,hp15,c15⟩
   have SW15:(fun V=>Below W14.heap.size W14 V) W15:=to_call SV2 c15
   refine ⟨_,rfl,SW15,?_⟩
   (try simp only [pA,pE,pB,pC,pD])
   refine tzI 20 10 ?_ ?_ SW15 ?_
   rotate_left
   ·intro w' hSw;go_simp;try with_reducible rfl
   (try simp only [pA,pE,pB,pC,pD])
   refine wpAnyH_done (by kernel_rfl) ?_ _
   refine NoPanic.normal ?_
   (try simp only [pA,pE,pB,pC,pD])
   exact key ve D v15 W15 ⟨⟨_,hp15⟩,SW15⟩
  ·refine hopMN 152 rfl rfl rfl _ _ n E 1024 (by omega) (by omega) rfl (by kernel_rfl) (by kernel_rfl) fun D V1 hmk d1b=>?_
   have SV1:(fun V=>Below W14.heap.size W14 V) V1:=to_call SW150 d1b
   refine ⟨SV1,?_⟩
   (try simp only [pA,pE,pB,pC,pD])
   refine rzH [5] ?_
   refine consH _ rfl (hzC 149 (Calls.mono (HVA.out _ _ _ _ _ (to_call HY.out (to_call HW14.out SV1)) (HII.out.2.2.later (to_call HW14.out SV1)) (by have:=HDN.out.2.2;omega) HIX.out.2.2.2) ?_)) AllReadyH.nil
   rintro e V2 ⟨ve,rfl,hve,c1⟩
   have SV2:(fun V=>Below W14.heap.size W14 V) V2:=to_call SV1 c1
   refine ⟨_,rfl,SV2,?_⟩
   (try simp only [pA,pE,pB,pC,pD])
   refine rzH [9] ?_
   refine consH _ rfl (hzC 153 (Calls.mono (point_any n _ _ _ _ _ _ _ _ _ _ _ _ s.cs s.rs s.ids s.gs _ ve _ (s.ids.map val) _ _ _ _ E HE.out _ (HL.out.2.2.later (to_call HW14.out SV2)) hve (hmk.later c1) (by rw [List.length_map];exact HLN.out.2.2.1) List.length_replicate (fun x hx=>by obtain ⟨id,-,rfl⟩:=List.mem_map.1 hx;exact HVL.out id) (fun z hz=>by rw [(List.mem_replicate.1 hz).2];exact Nat.zero_le _) HLN.out.2.2.2.1 HLN.out.2.2.2.2.1 HLN.out.2.2.2.2.2 (fun i=>HFS.out.2.2.c i) (fun i=>HFS.out.2.2.r i) (fun k i=>HFS.out.2.2.g k i) (by rw [<- HLN.out.2.2.1];exact HDN.out.2.2) hn2) ?_)) AllReadyH.nil
   rintro e W15 ⟨v15,rfl,hp15,c15⟩
   have SW15:(fun V=>Below W14.heap.size W14 V) W15:=to_call SV2 c15
   refine ⟨_,rfl,SW15,?_⟩
   (try simp only [pA,pE,pB,pC,pD])
   refine tzI 20 10 ?_ ?_ SW15 ?_
   rotate_left
   ·intro w' hSw;go_simp;try with_reducible rfl
   (try simp only [pA,pE,pB,pC,pD])
   refine wpAnyH_done (by kernel_rfl) ?_ _
   refine NoPanic.normal ?_
   (try simp only [pA,pE,pB,pC,pD])
   exact key ve D v15 W15 ⟨⟨_,hp15⟩,SW15⟩
 case pf=>
 intro v15a D15 v15 W15 hk15
 obtain ⟨⟨Q15,hp15⟩,SW15⟩:=hk15
 obtain ⟨xt,ct,hvt,HT⟩:=RowZ.rd hp15 (ptV_len _ _ _ _ _ _ _) hn1
 obtain ⟨xp,cp,hvp,HPR⟩:=RowZ.rd (HP2.out.later SW15) (ptV_len _ _ _ _ _ _ _) hn1
 obtain ⟨xq,cq,hvq,HQR⟩:=RowZ.rd (HQ.out.later SW15) (ptV_len _ _ _ _ _ _ _) hn1
 subst hvt
 subst hvp
 subst hvq
 have HW15:Hid (Below X3.heap.size X3 W15):=to_call HW14.out SW15
 obtain ⟨xr,cr,hvr,HRR⟩:=HL.out.2.2.r.rd HLN.out.2.2.2.2.1 hn1
 rw [hvr] at HC3
 have HPR:Hid _:=HPR
 have HQR:Hid _:=HQR
 have HT:Hid _:=HT
 have HRZ:Hid _:=HRR
 clear hp15 SW15 HP2 HQ hvr HRR
 go_wp2_with fail
 go_loopg [21] n (fun g iv wx=>∃ i:Nat,iv = .int .i64 i /\ i + g = n /\ Hid (Below W15.heap.size W15 wx))
 case atStart=>exact ⟨0,rfl,by omega,Below.refl _ _⟩
 case round=>
  obtain ⟨i,rfl,hi,HBW⟩:=hrel
  obtain ⟨k0,-,-,-,-⟩:=HC1.out wr (to_call HW15.out HBW.out)
  by_cases h1:i < n
  ·have hd1:decide ((i:Int) < (n:Int)) = true:=decide_eq_true (by omega)
   have h1':(i:Int) < (n:Int):=by omega
   obtain ⟨k,rfl⟩:∃ k,gk = k + 1:=⟨gk - 1,by omega⟩
   have HIG:Hid (i + (k + 1) = n):=hi
   obtain ⟨nx,ox,lx,cx,ex,hrx,hnx⟩:=HPR.out i h1
   obtain ⟨ny,oy,ly,cy,ey,hry,hny⟩:=HQR.out i h1
   obtain ⟨nt,ot,lt,ct2,et,hrt,hnt⟩:=HT.out i h1
   obtain ⟨nr,or,lr,cr2,er,hrr,hnr⟩:=HRZ.out i h1
   rw [ptV_at h1] at hnx hny hnt
   have hpb:=plus_bound HPG.out h1 HLN.out.1.1 HLN.out.2.1.1 HIX.out.1.1 HIX.out.2.1.1 bx bY (mem_getD (P:=fun z=>z.natAbs <= 2 ^ E) (Nat.zero_le _) HBX.out.2 i) (mem_getD (P:=fun z=>z.natAbs <= 2 ^ E) (Nat.zero_le _) HBY.out.2 i) (HFA.out.1.pos i) (HFA.out.2.pos i) val HVL.out
   obtain ⟨px,hpx⟩:∃ z,ptK (2 ^ E) a.cs a.rs a.gs (a.ids.map val) bx i a.gs.length = z:=⟨_,rfl⟩
   obtain ⟨qx,hqx⟩:∃ z,ptK (2 ^ E) b.cs b.rs b.gs (b.ids.map val) bY i b.gs.length = z:=⟨_,rfl⟩
   obtain ⟨tx,htx⟩:∃ z,ptK (2 ^ E) s.cs s.rs s.gs (s.ids.map val) (List.replicate n 0) i s.gs.length = z:=⟨_,rfl⟩
   rw [hpx,hqx,htx] at hpb
   rw [hpx] at hnx
   rw [hqx] at hny
   rw [htx] at hnt
   have HNX:Hid _:=And.intro (range_later hrx HBW.out) (hnx.later HBW.out)
   have HNY:Hid _:=And.intro (range_later hry HBW.out) (hny.later HBW.out)
   have HNT:Hid _:=And.intro (range_later hrt HBW.out) (hnt.later HBW.out)
   have HNR:Hid _:=And.intro (range_later (range_later hrr HW15.out) HBW.out) ((hnr.later HW15.out).later HBW.out)
   have HPB:Hid (((px + qx - tx).natAbs:Int) <= fval (s.rs[i]?.getD 0) * ((2 ^ E:Nat):Int)):=hpb
   clear hi hrx hnx hry hny hrt hnt hrr hnr hpx hqx htx hpb k0
   obtain ⟨k0,-,-,-,-⟩:=HC1.out wr (to_call HW15.out HBW.out)
   go_upto_region 19 with fail
   clear k0
   apply by_key9 (F:=fun _ _ n o l c e B V=>V.heap[B]? = some (.cells #[.bool n,.slice o l c,.int .i64 e] 46) /\ NumC V (.agg #[.bool n,.slice o l c,.int .i64 e]) (E + E) 1062 ((px + qx - tx).natAbs:Int) /\ Below wr.heap.size wr V)
   case main=>
    intro key
    refine wp_region_noPanic ?_
    have SW19:(fun V=>Below wr.heap.size wr V) wr.drew:=(Below.refl _ wr).drew
    refine wp_region_held_drew (S:=(fun V=>Below wr.heap.size wr V)) (by kernel_rfl) SW19 (fun _=>?_)
    refine tzI 160 0 ?_ ?_ SW19 ?_
    rotate_left
    ·intro w' hSw;go_simp;try with_reducible rfl
    (try simp only [pA,pE,pB,pC,pD])
    refine tzI 161 1 ?_ ?_ SW19 ?_
    rotate_left
    ·intro w' hSw;go_simp;try with_reducible rfl
    (try simp only [pA,pE,pB,pC,pD])
    refine tzI 162 2 ?_ ?_ SW19 ?_
    rotate_left
    ·intro w' hSw;go_simp;try with_reducible rfl
    (try simp only [pA,pE,pB,pC,pD])
    refine tzH 163 3 (.agg #[.bool nx,.slice ox lx cx,.int .i64 ex]) (yieldsIf_load_mid (by kernel_rfl) 46 _ rfl xp (i * 3) (by kernel_rfl) #[.bool nx,.slice ox lx cx,.int .i64 ex].toList _ (fun V hS=>range_later HNX.out.1 hS) Tryz.underlying46 rfl (by kernel_rfl)) SW19 ?_
    (try simp only [pA,pE,pB,pC,pD])
    refine tzI 164 4 ?_ ?_ SW19 ?_
    rotate_left
    ·intro w' hSw;go_simp;try with_reducible rfl
    (try simp only [pA,pE,pB,pC,pD])
    refine tzI 165 5 ?_ ?_ SW19 ?_
    rotate_left
    ·intro w' hSw;go_simp;try with_reducible rfl
    (try simp only [pA,pE,pB,pC,pD])
    refine tzI 166 6 ?_ ?_ SW19 ?_
    rotate_left
    ·intro w' hSw;go_simp;try with_reducible rfl
    (try simp only [pA,pE,pB,pC,pD])
    refine tzH 167 7 (.agg #[.bool ny,.slice oy ly cy,.int .i64 ey]) (yieldsIf_load_mid (by kernel_rfl) 46 _ rfl xq (i * 3) (by kernel_rfl) #[.bool ny,.slice oy ly cy,.int .i64 ey].toList _ (fun V hS=>range_later HNY.out.1 hS) Tryz.underlying46 rfl (by kernel_rfl)) SW19 ?_
    (try simp only [pA,pE,pB,pC,pD])
    refine tzI 169 9 ?_ ?_ SW19 ?_
    rotate_left
    ·intro w' hSw;go_simp;try with_reducible rfl
    (try simp only [pA,pE,pB,pC,pD])
    refine tzI 170 10 ?_ ?_ SW19 ?_
    rotate_left
    ·intro w' hSw;go_simp;try with_reducible rfl
    (try simp only [pA,pE,pB,pC,pD])
    refine tzI 171 11 ?_ ?_ SW19 ?_
    rotate_left
    ·intro w' hSw;go_simp;try with_reducible rfl
    (try simp only [pA,pE,pB,pC,pD])
    refine tzH 172 12 (.agg #[.bool nt,.slice ot lt ct2,.int .i64 et]) (yieldsIf_load_mid (by kernel_rfl) 46 _ rfl xt (i * 3) (by kernel_rfl) #[.bool nt,.slice ot lt ct2,.int .i64 et].toList _ (fun V hS=>range_later HNT.out.1 hS) Tryz.underlying46 rfl (by kernel_rfl)) SW19 ?_
    (try simp only [pA,pE,pB,pC,pD])
    refine rzH [8,15] ?_
    refine consH _ rfl ?_ (consH _ rfl ?_ AllReadyH.nil)
    ·refine hzC 168 (Calls.mono (plusC_any _ _ (E + E) 1060 _ _ _ (HNX.out.2.later SW19) (HNY.out.2.later SW19) (by have:=HE.out;omega) (by omega)) ?_)
     rintro e Vc ⟨va,rfl,h1Vc,cVc⟩
     have SVc:(fun V=>Below wr.heap.size wr V) Vc:=to_call SW19 cVc
     refine ⟨_,rfl,SVc,?_⟩
     (try simp only [pA,pE,pB,pC,pD])
     refine rzH [13,15] ?_
     refine consH _ rfl ?_ (consH _ rfl ?_ AllReadyH.nil)
     ·refine hzC 173 (Calls.mono (minusC_any _ _ (E + E) 1061 _ _ _ h1Vc ((HNT.out.2.later SVc).mono (by omega)) (by have:=HE.out;omega) (by omega)) ?_)
      rintro e Vcc ⟨vb,rfl,h2Vcc,cVcc⟩
      have SVcc:(fun V=>Below wr.heap.size wr V) Vcc:=to_call SVc cVcc
      refine ⟨_,rfl,SVcc,?_⟩
      (try simp only [pA,pE,pB,pC,pD])
      refine rzH [14,15] ?_
      refine consH _ rfl ?_ (consH _ rfl ?_ AllReadyH.nil)
      ·refine hzC 174 (Calls.mono (sizeC_any _ (E + E) 1062 _ _ h2Vcc) ?_)
       rintro e Vccc ⟨vc,rfl,h3Vccc,cVccc⟩
       have SVccc:(fun V=>Below wr.heap.size wr V) Vccc:=to_call SVcc cVccc
       obtain ⟨n4,o4,l4x,c4x,e4x,hv4⟩:=h3Vccc.form
       subst hv4
       refine ⟨_,rfl,SVccc,?_⟩
       (try simp only [pA,pE,pB,pC,pD])
       refine rzH [15] ?_
       refine consH _ rfl ?_ AllReadyH.nil
       refine hopAJ 22 rfl rfl rfl 46 rfl #[.bool false,.slice none 0 0,.int .i64 0] allocNP fun D Vcccd hbVcccd hDl cVcccd=>?_
       have SVcccd:(fun V=>Below wr.heap.size wr V) Vcccd:=to_call SVccc cVcccd
       have hD:wr.heap.size <= D:=Nat.le_trans SVccc.size hDl
       have h3Vcccd:=h3Vccc.later cVcccd
       refine ⟨SVcccd,?_⟩
       (try simp only [pA,pE,pB,pC,pD])
       refine rzH [16] ?_
       refine consH _ rfl (hopL rfl (wpList_store_row (by rfl) 46 _ _ (by rfl) wr wr.heap.size D #[.bool n4,.slice o4 l4x c4x,.int .i64 e4x] _ (by kernel_rfl) (by kernel_rfl) hbVcccd SVcccd hD 3 Tryz.infoN3 rfl rfl (oneN _ _ _ _ _) fun W19 e9 b9 s9 o9=>put_noneL rfl ?_)) AllReadyH.nil
       refine ⟨b9,?_⟩
       (try simp only [pA,pE,pB,pC,pD])
       refine wpAnyH_done (by kernel_rfl) ?_ _
       refine NoPanic.normal ?_
       (try simp only [pA,pE,pB,pC,pD])
       exact key va vb n4 o4 l4x c4x e4x D W19 ⟨e9,h3Vcccd.cl (num_cl hbVcccd) (fun b hb _=>o9 b hb),b9⟩
      ·refine hopAJ 22 rfl rfl rfl 46 rfl #[.bool false,.slice none 0 0,.int .i64 0] allocNP fun D Vccd hbVccd hDl cVccd=>?_
       have SVccd:(fun V=>Below wr.heap.size wr V) Vccd:=to_call SVcc cVccd
       have hD:wr.heap.size <= D:=Nat.le_trans SVcc.size hDl
       have h2Vccd:=h2Vcc.later cVccd
       refine ⟨SVccd,?_⟩
       (try simp only [pA,pE,pB,pC,pD])
       refine rzH [14] ?_
       refine consH _ rfl ?_ AllReadyH.nil
       refine hzC 174 (Calls.mono (sizeC_any _ (E + E) 1062 _ _ h2Vccd) ?_)
       rintro e Vccdc ⟨vc,rfl,h3Vccdc,cVccdc⟩
       have SVccdc:(fun V=>Below wr.heap.size wr V) Vccdc:=to_call SVccd cVccdc
       obtain ⟨n4,o4,l4x,c4x,e4x,hv4⟩:=h3Vccdc.form
       subst hv4
       have hbVccdc:=kept cVccdc hbVccd
       refine ⟨_,rfl,SVccdc,?_⟩
       (try simp only [pA,pE,pB,pC,pD])
       refine rzH [16] ?_
       refine consH _ rfl (hopL rfl (wpList_store_row (by rfl) 46 _ _ (by rfl) wr wr.heap.size D #[.bool n4,.slice o4 l4x c4x,.int .i64 e4x] _ (by kernel_rfl) (by kernel_rfl) hbVccdc SVccdc hD 3 Tryz.infoN3 rfl rfl (oneN _ _ _ _ _) fun W19 e9 b9 s9 o9=>put_noneL rfl ?_)) AllReadyH.nil
       refine ⟨b9,?_⟩
       (try simp only [pA,pE,pB,pC,pD])
       refine wpAnyH_done (by kernel_rfl) ?_ _
       refine NoPanic.normal ?_
       (try simp only [pA,pE,pB,pC,pD])
       exact key va vb n4 o4 l4x c4x e4x D W19 ⟨e9,h3Vccdc.cl (num_cl hbVccdc) (fun b hb _=>o9 b hb),b9⟩
     ·refine hopAJ 22 rfl rfl rfl 46 rfl #[.bool false,.slice none 0 0,.int .i64 0] allocNP fun D Vcd hbVcd hDl cVcd=>?_
      have SVcd:(fun V=>Below wr.heap.size wr V) Vcd:=to_call SVc cVcd
      have hD:wr.heap.size <= D:=Nat.le_trans SVc.size hDl
      have h1Vcd:=h1Vc.later cVcd
      refine ⟨SVcd,?_⟩
      (try simp only [pA,pE,pB,pC,pD])
      refine rzH [13] ?_
      refine consH _ rfl ?_ AllReadyH.nil
      refine hzC 173 (Calls.mono (minusC_any _ _ (E + E) 1061 _ _ _ h1Vcd ((HNT.out.2.later SVcd).mono (by omega)) (by have:=HE.out;omega) (by omega)) ?_)
      rintro e Vcdc ⟨vb,rfl,h2Vcdc,cVcdc⟩
      have SVcdc:(fun V=>Below wr.heap.size wr V) Vcdc:=to_call SVcd cVcdc
      have hbVcdc:=kept cVcdc hbVcd
      refine ⟨_,rfl,SVcdc,?_⟩
      (try simp only [pA,pE,pB,pC,pD])
      refine rzH [14] ?_
      refine consH _ rfl ?_ AllReadyH.nil
      refine hzC 174 (Calls.mono (sizeC_any _ (E + E) 1062 _ _ h2Vcdc) ?_)
      rintro e Vcdcc ⟨vc,rfl,h3Vcdcc,cVcdcc⟩
      have SVcdcc:(fun V=>Below wr.heap.size wr V) Vcdcc:=to_call SVcdc cVcdcc
      obtain ⟨n4,o4,l4x,c4x,e4x,hv4⟩:=h3Vcdcc.form
      subst hv4
      have hbVcdcc:=kept cVcdcc hbVcdc
      refine ⟨_,rfl,SVcdcc,?_⟩
      (try simp only [pA,pE,pB,pC,pD])
      refine rzH [16] ?_
      refine consH _ rfl (hopL rfl (wpList_store_row (by rfl) 46 _ _ (by rfl) wr wr.heap.size D #[.bool n4,.slice o4 l4x c4x,.int .i64 e4x] _ (by kernel_rfl) (by kernel_rfl) hbVcdcc SVcdcc hD 3 Tryz.infoN3 rfl rfl (oneN _ _ _ _ _) fun W19 e9 b9 s9 o9=>put_noneL rfl ?_)) AllReadyH.nil
      refine ⟨b9,?_⟩
      (try simp only [pA,pE,pB,pC,pD])
      refine wpAnyH_done (by kernel_rfl) ?_ _
      refine NoPanic.normal ?_
      (try simp only [pA,pE,pB,pC,pD])
      exact key va vb n4 o4 l4x c4x e4x D W19 ⟨e9,h3Vcdcc.cl (num_cl hbVcdcc) (fun b hb _=>o9 b hb),b9⟩
    ·refine hopAJ 22 rfl rfl rfl 46 rfl #[.bool false,.slice none 0 0,.int .i64 0] allocNP fun D Vd hbVd hDl cVd=>?_
     have SVd:(fun V=>Below wr.heap.size wr V) Vd:=to_call SW19 cVd
     have hD:wr.heap.size <= D:=Nat.le_trans SW19.size hDl
     refine ⟨SVd,?_⟩
     (try simp only [pA,pE,pB,pC,pD])
     refine rzH [8] ?_
     refine consH _ rfl ?_ AllReadyH.nil
     refine hzC 168 (Calls.mono (plusC_any _ _ (E + E) 1060 _ _ _ (HNX.out.2.later SVd) (HNY.out.2.later SVd) (by have:=HE.out;omega) (by omega)) ?_)
     rintro e Vdc ⟨va,rfl,h1Vdc,cVdc⟩
     have SVdc:(fun V=>Below wr.heap.size wr V) Vdc:=to_call SVd cVdc
     have hbVdc:=kept cVdc hbVd
     refine ⟨_,rfl,SVdc,?_⟩
     (try simp only [pA,pE,pB,pC,pD])
     refine rzH [13] ?_
     refine consH _ rfl ?_ AllReadyH.nil
     refine hzC 173 (Calls.mono (minusC_any _ _ (E + E) 1061 _ _ _ h1Vdc ((HNT.out.2.later SVdc).mono (by omega)) (by have:=HE.out;omega) (by omega)) ?_)
     rintro e Vdcc ⟨vb,rfl,h2Vdcc,cVdcc⟩
     have SVdcc:(fun V=>Below wr.heap.size wr V) Vdcc:=to_call SVdc cVdcc
     have hbVdcc:=kept cVdcc hbVdc
     refine ⟨_,rfl,SVdcc,?_⟩
     (try simp only [pA,pE,pB,pC,pD])
     refine rzH [14] ?_
     refine consH _ rfl ?_ AllReadyH.nil
     refine hzC 174 (Calls.mono (sizeC_any _ (E + E) 1062 _ _ h2Vdcc) ?_)
     rintro e Vdccc ⟨vc,rfl,h3Vdccc,cVdccc⟩
     have SVdccc:(fun V=>Below wr.heap.size wr V) Vdccc:=to_call SVdcc cVdccc
     obtain ⟨n4,o4,l4x,c4x,e4x,hv4⟩:=h3Vdccc.form
     subst hv4
     have hbVdccc:=kept cVdccc hbVdcc
     refine ⟨_,rfl,SVdccc,?_⟩
     (try simp only [pA,pE,pB,pC,pD])
     refine rzH [16] ?_
     refine consH _ rfl (hopL rfl (wpList_store_row (by rfl) 46 _ _ (by rfl) wr wr.heap.size D #[.bool n4,.slice o4 l4x c4x,.int .i64 e4x] _ (by kernel_rfl) (by kernel_rfl) hbVdccc SVdccc hD 3 Tryz.infoN3 rfl rfl (oneN _ _ _ _ _) fun W19 e9 b9 s9 o9=>put_noneL rfl ?_)) AllReadyH.nil
     refine ⟨b9,?_⟩
     (try simp only [pA,pE,pB,pC,pD])
     refine wpAnyH_done (by kernel_rfl) ?_ _
     refine NoPanic.normal ?_
     (try simp only [pA,pE,pB,pC,pD])
     exact key va vb n4 o4 l4x c4x e4x D W19 ⟨e9,h3Vdccc.cl (num_cl hbVdccc) (fun b hb _=>o9 b hb),b9⟩
   case pf=>
   intro va vb n4 o4 l4x c4x e4x B22 W19 hk19
   obtain ⟨hb19,hn19,S19⟩:=hk19
   have HB19:Hid _:=hb19
   have HN19:Hid (NumC W19 (.agg #[.bool n4,.slice o4 l4x c4x,.int .i64 e4x]) (E + E) 1062 ((px + qx - tx).natAbs:Int)):=hn19
   have HS19:Hid (Below wr.heap.size wr W19):=S19
   obtain ⟨sc,hsc⟩:∃ c,sgi (((px + qx - tx).natAbs:Int) - fval (s.rs[i]?.getD 0) * ((2 ^ E:Nat):Int)) = c:=⟨_,rfl⟩
   have hsl:decide (0 < sc) = false:=by rw [<- hsc];exact sgi_leP HPB.out
   have hsl2:decide (sc > 0) = false:=hsl
   have HCC:Hid (∀ V,Below W19.heap.size W19 V -> _):=fun V hV=>cmpZ_any (.agg #[.bool n4,.slice o4 l4x c4x,.int .i64 e4x]) (.agg #[.bool nr,.slice or lr cr2,.int .i64 er]) (E + E) 1062 _ _ V (NumC.toZ (HN19.out.later hV)) (NumC.toZ ((((HNR.out.2.moreJ E).mono (by omega)).later HS19.out).later hV)) (by have:=HE.out;omega) (by omega)
   rw [hsc] at HCC
   clear hb19 hn19 S19 hsc
   go_upto_region 20 with fail
   refine wp_region_noPanic ?_
   have SV200:(fun V=>Below W19.heap.size W19 V) W19.drew:=(Below.refl _ W19).drew
   refine wp_region_held_drew (S:=(fun V=>Below W19.heap.size W19 V)) (by kernel_rfl) SV200 (fun _=>?_)
   refine tzH 175 0 (.agg #[.bool n4,.slice o4 l4x c4x,.int .i64 e4x]) (Or.inl ⟨by kernel_rfl,fun w' hSw=>ex_loadRN _ 46 _ rfl B22 (by kernel_rfl) w' _ (kept hSw HB19.out) _ Tryz.underlying46 rfl 3 Tryz.infoN3 rfl⟩) SV200 ?_
   (try simp only [pA,pE,pB,pC,pD])
   refine tzI 176 1 ?_ ?_ SV200 ?_
   rotate_left
   ·intro w' hSw;go_simp;try with_reducible rfl
   (try simp only [pA,pE,pB,pC,pD])
   refine tzI 177 2 ?_ ?_ SV200 ?_
   rotate_left
   ·intro w' hSw;obtain ⟨k0,k1,k2,k3,k4⟩:=HC3.out w' (to_call (to_call HW15.out (to_call HBW.out HS19.out)) hSw);go_simp;try with_reducible rfl
   (try simp only [pA,pE,pB,pC,pD])
   refine tzI 178 3 ?_ ?_ SV200 ?_
   rotate_left
   ·intro w' hSw;go_simp;try with_reducible rfl
   (try simp only [pA,pE,pB,pC,pD])
   refine tzI 179 4 ?_ ?_ SV200 ?_
   rotate_left
   ·intro w' hSw;go_simp;try with_reducible rfl
   (try simp only [pA,pE,pB,pC,pD])
   refine tzH 180 5 (.agg #[.bool nr,.slice or lr cr2,.int .i64 er]) (yieldsIf_load_mid (by kernel_rfl) 46 _ rfl xr (i * 3) (by kernel_rfl) #[.bool nr,.slice or lr cr2,.int .i64 er].toList _ (fun V hS=>range_later (range_later HNR.out.1 HS19.out) hS) Tryz.underlying46 rfl (by kernel_rfl)) SV200 ?_
   (try simp only [pA,pE,pB,pC,pD])
   refine rzH [6] ?_
   refine consH _ rfl (hzC 181 (Calls.mono (HCC.out _ SV200) ?_)) AllReadyH.nil
   rintro e V20 ⟨rfl,c20⟩
   have SV20:(fun V=>Below W19.heap.size W19 V) V20:=to_call SV200 c20
   refine ⟨_,rfl,SV20,?_⟩
   (try simp only [pA,pE,pB,pC,pD])
   refine tzI 182 7 ?_ ?_ SV20 ?_
   rotate_left
   ·intro w' hSw;go_simp;try with_reducible rfl
   (try simp only [pA,pE,pB,pC,pD])
   refine wpAnyH_done (by kernel_rfl) ?_ _
   refine NoPanic.normal ?_
   (try simp only [pA,pE,pB,pC,pD])
   have HB20:Hid (Below W15.heap.size W15 _):=to_call (to_call HBW.out HS19.out) SV20
   clear SV20 SV200 c20 HCC HN19 HB19
   go_wp2_with fail
   go_roundg k
   case measure=>omega
   case rel=>exact ⟨i + 1,by go_num,by have:=HIG.out;omega,HB20⟩
  ·have hd1:decide ((i:Int) < (n:Int)) = false:=decide_eq_false (by omega)
   have hd2:decide (i < n) = false:=decide_eq_false (by omega)
   clear hi
   go_wp2_with (go_at_call 8;refine Calls.mono (started_any _) ?_;rintro e w8 ⟨rfl,b8⟩)
   go_ret
   exact ⟨rfl,to_call HY.out (to_call (to_call HW15.out HBW.out) b8)⟩
end Go.Proofs.YtoflalhiihcofaaGreat
