import Derived.Test.YtgialbaeekkkhaaGreatPPo
set_option maxRecDepth 100000
set_option maxHeartbeats 20000000
set_option linter.unusedVariables false
set_option linter.unusedSimpArgs false
namespace Go.Proofs.YtgialbaeekkkhaaGreat
open Go.RowKit Go.Shelf
theorem refPlus_any (u q:ZD) (w:World) (hu:ZU w u) (hq:ZU w q) (wu:UW u) (wq:UW q) :
  Calls Tryz.prog 8 #[.agg (zRow u),.agg (zRow q)] w fun e w'=>∃ v:ZD,e = .returned (.agg (zRow v)) /\ ZU w' v /\ PlD u q v /\ Below w.heap.size w w':=by
 obtain ⟨E,hE⟩:∃ E:Nat,E = 1074:=⟨_,rfl⟩
 have HE:Hid (E = 1074):=hE
 have HSZU:Hid (∀ W',Below w.heap.size w W' -> _):=fun W' hb=>refSizeZ_any u W' (hu.later hb) wu
 have HSZQ:Hid (∀ W',Below w.heap.size w W' -> _):=fun W' hb=>refSizeZ_any q W' (hq.later hb) wq
 have HRU:Hid (∀ W',Below w.heap.size w W' -> _):=fun W' hb=>reals_any u E hE W' (hu.later hb) wu
 have HRQ:Hid (∀ W',Below w.heap.size w W' -> _):=fun W' hb=>reals_any q E hE W' (hq.later hb) wq
 rw [tk_N] at HSZU HSZQ
 obtain ⟨su,hsu⟩:∃ x,(tkZ u).N = x:=⟨_,rfl⟩
 obtain ⟨sq,hsq⟩:∃ x,(tkZ q).N = x:=⟨_,rfl⟩
 rw [hsu] at HSZU
 rw [hsq] at HSZQ
 have HSU:Hid ((tkZ u).N = su /\ (tkZ q).N = sq):=⟨hsu,hsq⟩
 have GU0:Hid (_ -> GdU u u.rn):=GdU.of hu wu
 have GQ0:Hid (_ -> GdU q q.rn):=GdU.of hq wq
 obtain ⟨ou,hou⟩:∃ b,(!u.bad && wholeB u) = b:=⟨_,rfl⟩
 obtain ⟨oq,hoq⟩:∃ b,(!q.bad && wholeB q) = b:=⟨_,rfl⟩
 have HO:Hid ((!u.bad && wholeB u) = ou /\ (!q.bad && wholeB q) = oq):=⟨hou,hoq⟩
 rw [hou] at HRU
 rw [hoq] at HRQ
 clear hsu hsq hou hoq hu hq wu wq hE
 have X0:Below w.heap.size w (((w.alloc (.cells (zRow u) 30)).alloc (.cells (zRow q) 30)).alloc (.cells #[.int .i64 0,.slice none 0 0,.slice none 0 0,.slice none 0 0,.slice none 0 0,.bool false] 30)):=(((Below.refl _ w).alloc (Nat.le_refl _) _).alloc (by simp only [alloc_size];omega) _).alloc (by simp only [alloc_size];omega) _
 have Y0:(((w.alloc (.cells (zRow u) 30)).alloc (.cells (zRow q) 30)).alloc (.cells #[.int .i64 0,.slice none 0 0,.slice none 0 0,.slice none 0 0,.slice none 0 0,.bool false] 30)).heap[w.heap.size]? = some (.cells (zRow u) 30):=alloc_kept (alloc_kept (heap_alloc_new w _) _) _
 have Y1:(((w.alloc (.cells (zRow u) 30)).alloc (.cells (zRow q) 30)).alloc (.cells #[.int .i64 0,.slice none 0 0,.slice none 0 0,.slice none 0 0,.slice none 0 0,.bool false] 30)).heap[w.heap.size + 1]? = some (.cells (zRow q) 30):=alloc_kept (heap_at _ _ _ (by simp only [alloc_size])) _
 have Y2:(((w.alloc (.cells (zRow u) 30)).alloc (.cells (zRow q) 30)).alloc (.cells #[.int .i64 0,.slice none 0 0,.slice none 0 0,.slice none 0 0,.slice none 0 0,.bool false] 30)).heap[w.heap.size + 2]? = some (.cells #[.int .i64 0,.slice none 0 0,.slice none 0 0,.slice none 0 0,.slice none 0 0,.bool false] 30):=heap_at _ _ _ (by simp only [alloc_size])
 go_enter Tryz.func8,Tryz.ntmps8
 go_upto_region 2 with fail
 obtain ⟨X,hX⟩:∃ X,(((w.alloc (.cells (zRow u) 30)).alloc (.cells (zRow q) 30)).alloc (.cells #[.int .i64 0,.slice none 0 0,.slice none 0 0,.slice none 0 0,.slice none 0 0,.bool false] 30)) = X:=⟨_,rfl⟩
 rw [hX] at X0 Y0 Y1 Y2 ⊢
 have HX:Hid (Below w.heap.size w X /\ X.heap[w.heap.size]? = some (.cells (zRow u) 30) /\ X.heap[w.heap.size + 1]? = some (.cells (zRow q) 30) /\ X.heap[w.heap.size + 2]? = some (.cells #[.int .i64 0,.slice none 0 0,.slice none 0 0,.slice none 0 0,.slice none 0 0,.bool false] 30)):=⟨X0,Y0,Y1,Y2⟩
 clear hX X0 Y0 Y1 Y2
 refine wp_region_noPanic ?_
 have SX:(fun V=>Below X.heap.size X V) X.drew:=(Below.refl _ X).drew
 refine wp_region_held_drew (S:=(fun V=>Below X.heap.size X V)) (by kernel_rfl) SX (fun _=>?_)
 refine tzH 22 0 (.agg (zRow u)) (Or.inl ⟨by kernel_rfl,fun w' hSw=>ex_loadRN _ 30 _ rfl w.heap.size (by kernel_rfl) w' _ (kept hSw HX.out.2.1) _ Tryz.underlying30 rfl 6 Tryz.infoZu rfl⟩) SX ?_
 (try simp only [pA,pE,pB,pC,pD])
 refine tzH 24 2 (.agg (zRow q)) (Or.inl ⟨by kernel_rfl,fun w' hSw=>ex_loadRN _ 30 _ rfl (w.heap.size + 1) (by kernel_rfl) w' _ (kept hSw HX.out.2.2.1) _ Tryz.underlying30 rfl 6 Tryz.infoZu rfl⟩) SX ?_
 (try simp only [pA,pE,pB,pC,pD])
 refine rzH [1] ?_
 refine consH _ rfl (hzC 23 (Calls.mono (HSZU.out _ (to_call HX.out.1 SX)) ?_)) AllReadyH.nil
 rintro e V1 ⟨rfl,b1⟩
 have S1:(fun V=>Below X.heap.size X V) V1:=to_call SX b1
 refine ⟨_,rfl,S1,?_⟩
 (try simp only [pA,pE,pB,pC,pD])
 refine rzH [3] ?_
 refine consH _ rfl (hzC 25 (Calls.mono (HSZQ.out _ (to_call HX.out.1 S1)) ?_)) AllReadyH.nil
 rintro e V2 ⟨rfl,b2⟩
 have S2:(fun V=>Below X.heap.size X V) V2:=to_call S1 b2
 refine ⟨_,rfl,S2,?_⟩
 (try simp only [pA,pE,pB,pC,pD])
 refine tzI 26 4 ?_ ?_ S2 ?_
 rotate_left
 ·intro w' hSw;go_simp;try with_reducible rfl
 (try simp only [pA,pE,pB,pC,pD])
 refine wpAnyH_done (by kernel_rfl) ?_ _
 refine NoPanic.normal ?_
 (try simp only [pA,pE,pB,pC,pD])
 have HP:Hid (Below w.heap.size w V2 /\ V2.heap[w.heap.size]? = some (.cells (zRow u) 30) /\ V2.heap[w.heap.size + 1]? = some (.cells (zRow q) 30) /\ V2.heap[w.heap.size + 2]? = some (.cells #[.int .i64 0,.slice none 0 0,.slice none 0 0,.slice none 0 0,.slice none 0 0,.bool false] 30)):=⟨to_call HX.out.1 S2,kept S2 HX.out.2.1,kept S2 HX.out.2.2.1,kept S2 HX.out.2.2.2⟩
 clear S2 S1 SX b1 b2 HX
 by_cases q0:su = sq
 case neg=>
  have dq:(su == sq) = false:=by simpa using q0
  have HQ0:Hid (¬ su = sq):=q0
  clear q0
  go_upto_region 5 with (first
   | (refine wpList_load_row (by rfl) 30 _ (by rfl) w.heap.size _ (by rfl) HP.out.2.1 _ Tryz.underlying30 rfl 6 Tryz.infoZu (by rfl) ?_)
   | (go_at_call 20;refine Calls.mono (HRU.out _ HP.out.1) ?_;rintro e w1 ⟨⟨N1,a1,l1,c1,d1,m1,e1,f1,o1,g1,h1,p1,r1,rfl,hr1⟩,b1⟩;have HRR1:Hid _:=hr1;clear hr1))
  have A1:Below w1.heap.size w1 (w1.alloc (.cells #[.int .i64 N1,.slice a1 l1 c1,.slice d1 m1 e1,.slice f1 o1 g1,.slice h1 p1 r1] 50)):=(Below.refl _ w1).alloc (Nat.le_refl _) _
  have E1:=heap_alloc_new w1 (.cells #[.int .i64 N1,.slice a1 l1 c1,.slice d1 m1 e1,.slice f1 o1 g1,.slice h1 p1 r1] 50)
  obtain ⟨X1,hX1⟩:∃ x,(w1.alloc (.cells #[.int .i64 N1,.slice a1 l1 c1,.slice d1 m1 e1,.slice f1 o1 g1,.slice h1 p1 r1] 50)) = x:=⟨_,rfl⟩
  rw [hX1] at A1 E1 ⊢
  have H1:Hid (Below w.heap.size w X1 /\ X1.heap[w.heap.size + 1]? = some (.cells (zRow q) 30) /\ X1.heap[w.heap.size + 2]? = some (.cells #[.int .i64 0,.slice none 0 0,.slice none 0 0,.slice none 0 0,.slice none 0 0,.bool false] 30) /\ X1.heap[w1.heap.size]? = some (.cells #[.int .i64 N1,.slice a1 l1 c1,.slice d1 m1 e1,.slice f1 o1 g1,.slice h1 p1 r1] 50)):=⟨to_call (to_call HP.out.1 b1) A1,kept A1 (kept b1 HP.out.2.2.1),kept A1 (kept b1 HP.out.2.2.2),E1⟩
  have G1:Hid (RlQ ou X1 E u N1 (.slice a1 l1 c1) (.slice h1 p1 r1) (.slice d1 m1 e1) (.slice f1 o1 g1)):=RlQ.mk (fun h=>HRR1.out h) A1
  obtain ⟨B6,hB6⟩:∃ x,w1.heap.size = x:=⟨_,rfl⟩
  rw [hB6] at H1 ⊢
  clear hX1 hB6 A1 E1 b1 HRR1 HP
  go_upto_region 6 with (first
   | (refine wpList_load_row (by rfl) 30 _ (by rfl) (w.heap.size + 1) _ (by rfl) H1.out.2.1 _ Tryz.underlying30 rfl 6 Tryz.infoZu (by rfl) ?_)
   | (go_at_call 20;refine Calls.mono (HRQ.out _ H1.out.1) ?_;rintro e w2 ⟨⟨N2,a2,l2,c2,d2,m2,e2,f2,o2,g2,h2,p2,r2,rfl,hr2⟩,b2⟩;have HRR2:Hid _:=hr2;clear hr2))
  have A2:Below w2.heap.size w2 (w2.alloc (.cells #[.int .i64 N2,.slice a2 l2 c2,.slice d2 m2 e2,.slice f2 o2 g2,.slice h2 p2 r2] 50)):=(Below.refl _ w2).alloc (Nat.le_refl _) _
  have E2:=heap_alloc_new w2 (.cells #[.int .i64 N2,.slice a2 l2 c2,.slice d2 m2 e2,.slice f2 o2 g2,.slice h2 p2 r2] 50)
  obtain ⟨X2,hX2⟩:∃ x,(w2.alloc (.cells #[.int .i64 N2,.slice a2 l2 c2,.slice d2 m2 e2,.slice f2 o2 g2,.slice h2 p2 r2] 50)) = x:=⟨_,rfl⟩
  rw [hX2] at A2 E2 ⊢
  have H2:Hid (Below w.heap.size w X2 /\ X2.heap[w.heap.size + 2]? = some (.cells #[.int .i64 0,.slice none 0 0,.slice none 0 0,.slice none 0 0,.slice none 0 0,.bool false] 30) /\ X2.heap[B6]? = some (.cells #[.int .i64 N1,.slice a1 l1 c1,.slice d1 m1 e1,.slice f1 o1 g1,.slice h1 p1 r1] 50) /\ X2.heap[w2.heap.size]? = some (.cells #[.int .i64 N2,.slice a2 l2 c2,.slice d2 m2 e2,.slice f2 o2 g2,.slice h2 p2 r2] 50)):=⟨to_call (to_call H1.out.1 b2) A2,kept A2 (kept b2 H1.out.2.2.1),kept A2 (kept b2 H1.out.2.2.2),E2⟩
  have G2:Hid (RlQ oq X2 E q N2 (.slice a2 l2 c2) (.slice h2 p2 r2) (.slice d2 m2 e2) (.slice f2 o2 g2)):=RlQ.mk (fun h=>HRR2.out h) A2
  have G1:Hid (RlQ ou X2 E u N1 (.slice a1 l1 c1) (.slice h1 p1 r1) (.slice d1 m1 e1) (.slice f1 o1 g1)):=(G1.out.later b2).later A2
  obtain ⟨B8,hB8⟩:∃ x,w2.heap.size = x:=⟨_,rfl⟩
  rw [hB8] at H2 ⊢
  clear hX2 hB8 A2 E2 b2 HRR2 H1
  cases ou with
  | false=>
   go_wp2_with (first
    | (go_at_call 21;refine Calls.mono (lost_any 0 _) ?_;rintro e w7 ⟨rfl,b7⟩)
    | (refine wpList_store_row (by rfl) 30 _ _ (by rfl) w w.heap.size (w.heap.size + 2) #[.int .i64 0,.slice none 0 0,.slice none 0 0,.slice none 0 0,.slice none 0 0,.bool true] _ (by rfl) (by rfl) (kept b7 H2.out.2.1) (to_call H2.out.1 b7) (by omega) 6 Tryz.infoZu (by rfl) (by rfl) (oneZ _ _ _ _ _ rfl rfl rfl rfl _) ?_;intro W9 e9 b9 s9 o9))
   refine bodyPost_ret (res_oneJ _ 4 30 (by kernel_rfl) _ _ (w.heap.size + 2) #[.int .i64 0,.slice none 0 0,.slice none 0 0,.slice none 0 0,.slice none 0 0,.bool true] (by rfl) _ Tryz.underlying30 rfl 6 Tryz.infoZu rfl e9) rfl ?_
   exact ⟨(⟨0,none,0,0,none,0,0,none,0,0,none,0,0,true,[],[],fun _=>(none,0,0),[],[]⟩:ZD),rfl,badU _ _,⟨.inr ⟨(.inl HO.out.1),by rw [HSU.out.1,HSU.out.2];exact (if_neg HQ0.out).symm,rfl,rfl,rfl,rfl,rfl⟩⟩,b9⟩
  | true=>
   cases oq with
   | false=>
    go_wp2_with (first
     | (go_at_call 21;refine Calls.mono (lost_any 0 _) ?_;rintro e w7 ⟨rfl,b7⟩)
     | (refine wpList_store_row (by rfl) 30 _ _ (by rfl) w w.heap.size (w.heap.size + 2) #[.int .i64 0,.slice none 0 0,.slice none 0 0,.slice none 0 0,.slice none 0 0,.bool true] _ (by rfl) (by rfl) (kept b7 H2.out.2.1) (to_call H2.out.1 b7) (by omega) 6 Tryz.infoZu (by rfl) (by rfl) (oneZ _ _ _ _ _ rfl rfl rfl rfl _) ?_;intro W9 e9 b9 s9 o9))
    refine bodyPost_ret (res_oneJ _ 4 30 (by kernel_rfl) _ _ (w.heap.size + 2) #[.int .i64 0,.slice none 0 0,.slice none 0 0,.slice none 0 0,.slice none 0 0,.bool true] (by rfl) _ Tryz.underlying30 rfl 6 Tryz.infoZu rfl e9) rfl ?_
    exact ⟨(⟨0,none,0,0,none,0,0,none,0,0,none,0,0,true,[],[],fun _=>(none,0,0),[],[]⟩:ZD),rfl,badU _ _,⟨.inr ⟨(.inr (.inl HO.out.2)),by rw [HSU.out.1,HSU.out.2];exact (if_neg HQ0.out).symm,rfl,rfl,rfl,rfl,rfl⟩⟩,b9⟩
   | true=>
    obtain ⟨e1n,-⟩:=G1.out rfl
    obtain ⟨e2n,-⟩:=G2.out rfl
    subst e1n
    subst e2n
    have HN:Hid (u.N ≠ q.N):=fun h=>HQ0.out (by rw [<- HSU.out.1,<- HSU.out.2,(GU0.out HO.out.1).tk,(GQ0.out HO.out.2).tk,<- (GU0.out HO.out.1).N,<- (GQ0.out HO.out.2).N,h])
    have dn:(u.N == q.N) = false:=by simpa using HN.out
    have x0:=cellAtJ H2.out.2.2.1 0 _ rfl
    have y0:=cellAtJ H2.out.2.2.2 0 _ rfl
    go_wp2_with (first
     | (go_at_call 21;refine Calls.mono (lost_any 0 _) ?_;rintro e w7 ⟨rfl,b7⟩)
     | (refine wpList_store_row (by rfl) 30 _ _ (by rfl) w w.heap.size (w.heap.size + 2) #[.int .i64 0,.slice none 0 0,.slice none 0 0,.slice none 0 0,.slice none 0 0,.bool true] _ (by rfl) (by rfl) (kept b7 H2.out.2.1) (to_call H2.out.1 b7) (by omega) 6 Tryz.infoZu (by rfl) (by rfl) (oneZ _ _ _ _ _ rfl rfl rfl rfl _) ?_;intro W9 e9 b9 s9 o9))
    refine bodyPost_ret (res_oneJ _ 4 30 (by kernel_rfl) _ _ (w.heap.size + 2) #[.int .i64 0,.slice none 0 0,.slice none 0 0,.slice none 0 0,.slice none 0 0,.bool true] (by rfl) _ Tryz.underlying30 rfl 6 Tryz.infoZu rfl e9) rfl ?_
    exact ⟨(⟨0,none,0,0,none,0,0,none,0,0,none,0,0,true,[],[],fun _=>(none,0,0),[],[]⟩:ZD),rfl,badU _ _,⟨.inr ⟨(.inr (.inr (.inl HN.out))),by rw [HSU.out.1,HSU.out.2];exact (if_neg HQ0.out).symm,rfl,rfl,rfl,rfl,rfl⟩⟩,b9⟩
 have dq:(su == sq) = true:=by simpa using q0
 have HQ0:Hid (su = sq):=q0
 clear q0
 go_upto_region 4 with (first
  | (refine wpList_load_row (by rfl) 30 _ (by rfl) w.heap.size _ (by rfl) HP.out.2.1 _ Tryz.underlying30 rfl 6 Tryz.infoZu (by rfl) ?_)
  | (go_at_call 19;refine Calls.mono (HSZU.out _ HP.out.1) ?_;rintro e w0 ⟨rfl,b0⟩))
 have HQ:Hid (Below w.heap.size w w0 /\ w0.heap[w.heap.size]? = some (.cells (zRow u) 30) /\ w0.heap[w.heap.size + 1]? = some (.cells (zRow q) 30) /\ w0.heap[w.heap.size + 2]? = some (.cells #[.int .i64 0,.slice none 0 0,.slice none 0 0,.slice none 0 0,.slice none 0 0,.bool false] 30)):=⟨to_call HP.out.1 b0,kept b0 HP.out.2.1,kept b0 HP.out.2.2.1,kept b0 HP.out.2.2.2⟩
 clear b0 HP
 go_upto_region 5 with (first
  | (refine wpList_load_row (by rfl) 30 _ (by rfl) w.heap.size _ (by rfl) HQ.out.2.1 _ Tryz.underlying30 rfl 6 Tryz.infoZu (by rfl) ?_)
  | (go_at_call 20;refine Calls.mono (HRU.out _ HQ.out.1) ?_;rintro e w1 ⟨⟨N1,a1,l1,c1,d1,m1,e1,f1,o1,g1,h1,p1,r1,rfl,hr1⟩,b1⟩;have HRR1:Hid _:=hr1;clear hr1))
 have A1:Below w1.heap.size w1 (w1.alloc (.cells #[.int .i64 N1,.slice a1 l1 c1,.slice d1 m1 e1,.slice f1 o1 g1,.slice h1 p1 r1] 50)):=(Below.refl _ w1).alloc (Nat.le_refl _) _
 have E1:=heap_alloc_new w1 (.cells #[.int .i64 N1,.slice a1 l1 c1,.slice d1 m1 e1,.slice f1 o1 g1,.slice h1 p1 r1] 50)
 obtain ⟨X1,hX1⟩:∃ x,(w1.alloc (.cells #[.int .i64 N1,.slice a1 l1 c1,.slice d1 m1 e1,.slice f1 o1 g1,.slice h1 p1 r1] 50)) = x:=⟨_,rfl⟩
 rw [hX1] at A1 E1 ⊢
 have H1:Hid (Below w.heap.size w X1 /\ X1.heap[w.heap.size + 1]? = some (.cells (zRow q) 30) /\ X1.heap[w.heap.size + 2]? = some (.cells #[.int .i64 0,.slice none 0 0,.slice none 0 0,.slice none 0 0,.slice none 0 0,.bool false] 30) /\ X1.heap[w1.heap.size]? = some (.cells #[.int .i64 N1,.slice a1 l1 c1,.slice d1 m1 e1,.slice f1 o1 g1,.slice h1 p1 r1] 50)):=⟨to_call (to_call HQ.out.1 b1) A1,kept A1 (kept b1 HQ.out.2.2.1),kept A1 (kept b1 HQ.out.2.2.2),E1⟩
 have G1:Hid (RlQ ou X1 E u N1 (.slice a1 l1 c1) (.slice h1 p1 r1) (.slice d1 m1 e1) (.slice f1 o1 g1)):=RlQ.mk (fun h=>HRR1.out h) A1
 obtain ⟨B6,hB6⟩:∃ x,w1.heap.size = x:=⟨_,rfl⟩
 rw [hB6] at H1 ⊢
 clear hX1 hB6 A1 E1 b1 HRR1 HQ
 go_upto_region 6 with (first
  | (refine wpList_load_row (by rfl) 30 _ (by rfl) (w.heap.size + 1) _ (by rfl) H1.out.2.1 _ Tryz.underlying30 rfl 6 Tryz.infoZu (by rfl) ?_)
  | (go_at_call 20;refine Calls.mono (HRQ.out _ H1.out.1) ?_;rintro e w2 ⟨⟨N2,a2,l2,c2,d2,m2,e2,f2,o2,g2,h2,p2,r2,rfl,hr2⟩,b2⟩;have HRR2:Hid _:=hr2;clear hr2))
 have A2:Below w2.heap.size w2 (w2.alloc (.cells #[.int .i64 N2,.slice a2 l2 c2,.slice d2 m2 e2,.slice f2 o2 g2,.slice h2 p2 r2] 50)):=(Below.refl _ w2).alloc (Nat.le_refl _) _
 have E2:=heap_alloc_new w2 (.cells #[.int .i64 N2,.slice a2 l2 c2,.slice d2 m2 e2,.slice f2 o2 g2,.slice h2 p2 r2] 50)
 obtain ⟨X2,hX2⟩:∃ x,(w2.alloc (.cells #[.int .i64 N2,.slice a2 l2 c2,.slice d2 m2 e2,.slice f2 o2 g2,.slice h2 p2 r2] 50)) = x:=⟨_,rfl⟩
 rw [hX2] at A2 E2 ⊢
 have H2:Hid (Below w.heap.size w X2 /\ X2.heap[w.heap.size + 2]? = some (.cells #[.int .i64 0,.slice none 0 0,.slice none 0 0,.slice none 0 0,.slice none 0 0,.bool false] 30) /\ X2.heap[B6]? = some (.cells #[.int .i64 N1,.slice a1 l1 c1,.slice d1 m1 e1,.slice f1 o1 g1,.slice h1 p1 r1] 50) /\ X2.heap[w2.heap.size]? = some (.cells #[.int .i64 N2,.slice a2 l2 c2,.slice d2 m2 e2,.slice f2 o2 g2,.slice h2 p2 r2] 50)):=⟨to_call (to_call H1.out.1 b2) A2,kept A2 (kept b2 H1.out.2.2.1),kept A2 (kept b2 H1.out.2.2.2),E2⟩
 have G2:Hid (RlQ oq X2 E q N2 (.slice a2 l2 c2) (.slice h2 p2 r2) (.slice d2 m2 e2) (.slice f2 o2 g2)):=RlQ.mk (fun h=>HRR2.out h) A2
 have G1:Hid (RlQ ou X2 E u N1 (.slice a1 l1 c1) (.slice h1 p1 r1) (.slice d1 m1 e1) (.slice f1 o1 g1)):=(G1.out.later b2).later A2
 obtain ⟨B8,hB8⟩:∃ x,w2.heap.size = x:=⟨_,rfl⟩
 rw [hB8] at H2 ⊢
 clear hX2 hB8 A2 E2 b2 HRR2 H1
 cases ou with
 | false=>
  go_wp2_with (first
   | (go_at_call 21;refine Calls.mono (lost_any su _) ?_;rintro e w7 ⟨rfl,b7⟩)
   | (refine wpList_store_row (by rfl) 30 _ _ (by rfl) w w.heap.size (w.heap.size + 2) #[.int .i64 su,.slice none 0 0,.slice none 0 0,.slice none 0 0,.slice none 0 0,.bool true] _ (by rfl) (by rfl) (kept b7 H2.out.2.1) (to_call H2.out.1 b7) (by omega) 6 Tryz.infoZu (by rfl) (by rfl) (oneZ _ _ _ _ _ rfl rfl rfl rfl _) ?_;intro W9 e9 b9 s9 o9))
  refine bodyPost_ret (res_oneJ _ 4 30 (by kernel_rfl) _ _ (w.heap.size + 2) #[.int .i64 su,.slice none 0 0,.slice none 0 0,.slice none 0 0,.slice none 0 0,.bool true] (by rfl) _ Tryz.underlying30 rfl 6 Tryz.infoZu rfl e9) rfl ?_
  exact ⟨(⟨su,none,0,0,none,0,0,none,0,0,none,0,0,true,[],[],fun _=>(none,0,0),[],[]⟩:ZD),rfl,badU _ _,⟨.inr ⟨(.inl HO.out.1),by rw [HSU.out.1,HSU.out.2];exact (if_pos HQ0.out).symm,rfl,rfl,rfl,rfl,rfl⟩⟩,b9⟩
 | true=>
 cases oq with
 | false=>
  go_wp2_with (first
   | (go_at_call 21;refine Calls.mono (lost_any su _) ?_;rintro e w7 ⟨rfl,b7⟩)
   | (refine wpList_store_row (by rfl) 30 _ _ (by rfl) w w.heap.size (w.heap.size + 2) #[.int .i64 su,.slice none 0 0,.slice none 0 0,.slice none 0 0,.slice none 0 0,.bool true] _ (by rfl) (by rfl) (kept b7 H2.out.2.1) (to_call H2.out.1 b7) (by omega) 6 Tryz.infoZu (by rfl) (by rfl) (oneZ _ _ _ _ _ rfl rfl rfl rfl _) ?_;intro W9 e9 b9 s9 o9))
  refine bodyPost_ret (res_oneJ _ 4 30 (by kernel_rfl) _ _ (w.heap.size + 2) #[.int .i64 su,.slice none 0 0,.slice none 0 0,.slice none 0 0,.slice none 0 0,.bool true] (by rfl) _ Tryz.underlying30 rfl 6 Tryz.infoZu rfl e9) rfl ?_
  exact ⟨(⟨su,none,0,0,none,0,0,none,0,0,none,0,0,true,[],[],fun _=>(none,0,0),[],[]⟩:ZD),rfl,badU _ _,⟨.inr ⟨(.inr (.inl HO.out.2)),by rw [HSU.out.1,HSU.out.2];exact (if_pos HQ0.out).symm,rfl,rfl,rfl,rfl,rfl⟩⟩,b9⟩
 | true=>
 obtain ⟨e1n,gl1,BL1,HL1⟩:=G1.out rfl
 obtain ⟨e2n,gl2,BL2,HL2⟩:=G2.out rfl
 have GU:=GU0.out HO.out.1
 have GQ:=GQ0.out HO.out.2
 have hqn:q.rn = u.rn:=by have h1:=GU.tk;have h2:=GQ.tk;have h3:=HSU.out;have h4:=HQ0.out;omega
 rw [hqn] at GQ
 obtain ⟨n,hnn⟩:∃ n,u.rn = n:=⟨_,rfl⟩
 have HNN:Hid (u.rn = n):=hnn
 rw [hnn] at GU GQ
 rw [GU.N] at e1n
 rw [GQ.N] at e2n
 subst e1n
 subst e2n
 have hsn:su = (n:Int):=by rw [<- HSU.out.1];exact GU.tk
 subst hsn
 have GU:Hid _:=GU
 have GQ:Hid _:=GQ
 have HO:Hid ((!u.bad && wholeB u) = true /\ (!q.bad && wholeB q) = true /\ u.N = q.N):=⟨HO.out.1,HO.out.2,by rw [GU.out.N,GQ.out.N]⟩
 have hn1:=GU.out.n1
 have hn2:=GU.out.n2
 have dq:((n:Int) == (n:Int)) = true:=by simp
 clear hqn hnn GU0 GQ0 HQ0 HSU
 obtain ⟨x1,y1,hv1,HX1⟩:=HL1.c.rd GU.out.c hn1
 obtain ⟨x4,y4,hv4,HX4⟩:=HL1.r.rd GU.out.r hn1
 obtain ⟨z1,t1,hv5,HZ1⟩:=HL2.c.rd GQ.out.c hn1
 obtain ⟨z4,t4,hv6,HZ4⟩:=HL2.r.rd GQ.out.r hn1
 obtain ⟨g5,g6,g7⟩:=Value.slice.inj hv1
 subst a1 l1 c1
 obtain ⟨g5,g6,g7⟩:=Value.slice.inj hv4
 subst h1 p1 r1
 obtain ⟨g5,g6,g7⟩:=Value.slice.inj hv5
 subst a2 l2 c2
 obtain ⟨g5,g6,g7⟩:=Value.slice.inj hv6
 subst h2 p2 r2
 clear hv1 hv4 hv5 hv6
 obtain ⟨ai,ci,hvi,hri⟩:=rdI_ownB HL1.i
 obtain ⟨g5,g6,g7⟩:=Value.slice.inj hvi
 subst d1 m1 e1
 obtain ⟨bi,di,hvj,hrj⟩:=rdI_ownB HL2.i
 obtain ⟨g5,g6,g7⟩:=Value.slice.inj hvj
 subst d2 m2 e2
 clear hvi hvj
 have HR1:Hid (RlS X2 BL1 E u.cs u.rs u.ids u.gs _ _ _ _ gl1):=HL1
 have HR2:Hid (RlS X2 BL2 E q.cs q.rs q.ids q.gs _ _ _ _ gl2):=HL2
 have HI12:Hid _:=And.intro hri hrj
 have HXX:Hid _:=And.intro HX1 HX4
 have HZZ:Hid _:=And.intro HZ1 HZ4
 have HC6:Hid (∀ V,Below X2.heap.size X2 V -> _ /\ _ /\ _ /\ _ /\ _):=fun V hV=>⟨cellAtJ (kept hV H2.out.2.2.1) 0 _ rfl,cellAtJ (kept hV H2.out.2.2.1) 1 _ rfl,cellAtJ (kept hV H2.out.2.2.1) 2 _ rfl,cellAtJ (kept hV H2.out.2.2.1) 3 _ rfl,cellAtJ (kept hV H2.out.2.2.1) 4 _ rfl⟩
 have HC8:Hid (∀ V,Below X2.heap.size X2 V -> _ /\ _ /\ _ /\ _ /\ _):=fun V hV=>⟨cellAtJ (kept hV H2.out.2.2.2) 0 _ rfl,cellAtJ (kept hV H2.out.2.2.2) 1 _ rfl,cellAtJ (kept hV H2.out.2.2.2) 2 _ rfl,cellAtJ (kept hV H2.out.2.2.2) 3 _ rfl,cellAtJ (kept hV H2.out.2.2.2) 4 _ rfl⟩
 clear G1 G2 HL1 HL2 hri hrj HX1 HX4 HZ1 HZ4 HRU HRQ HSZU HSZQ
 obtain ⟨x0,-,-,-,-⟩:=HC6.out X2 (Below.refl _ _)
 obtain ⟨y0,-,-,-,-⟩:=HC8.out X2 (Below.refl _ _)
 obtain ⟨L,hL⟩:∃ L,mg u.ids q.ids = L:=⟨_,rfl⟩
 have HL:Hid (mg u.ids q.ids = L):=hL
 have HLL:Hid (L.length <= 2100000):=by
  have h1:=mg_len u.ids q.ids
  have h2:=GU.out.few
  have h3:=GQ.out.few
  have h4:=GU.out.ig
  have h5:=GQ.out.ig
  unfold Hid
  rw [<- hL]
  omega
 clear hL
 obtain ⟨fc,hfc⟩:∃ f:Nat -> Int,(fun j=>fval (u.cs[j]?.getD 0) + fval (q.cs[j]?.getD 0)) = f:=⟨_,rfl⟩
 obtain ⟨fr,hfr⟩:∃ f:Nat -> Int,(fun j=>fval (u.rs[j]?.getD 0) + fval (q.rs[j]?.getD 0)) = f:=⟨_,rfl⟩
 have HFC:Hid (∀ j,fval (u.cs[j]?.getD 0) + fval (q.cs[j]?.getD 0) = fc j):=fun j=>by rw [<- hfc]
 have HFR:Hid (∀ j,fval (u.rs[j]?.getD 0) + fval (q.rs[j]?.getD 0) = fr j):=fun j=>by rw [<- hfr]
 have HFS:Hid (sumF n u.cs q.cs = fnL n fc /\ sumF n u.rs q.rs = fnL n fr):=by
  unfold Hid sumF
  rw [hfc,hfr]
  exact ⟨rfl,rfl⟩
 clear hfc hfr
 go_wp2_with fail
 clear x0 y0
 go_loopg [10,11,12] n (fun g v10 v11 iv wx=>∃ (i:Nat) (vc vr:Value),vc = v10 /\ vr = v11 /\ iv = .int .i64 i /\ i + g = n /\ Hid (PcI X2 wx E vc vr (fnL i fc) (fnL i fr)))
 case atStart=>exact ⟨0,_,_,rfl,rfl,rfl,by omega,⟨Below.refl _ _,RowZ.nil _ _ _ _,RowZ.nil _ _ _ _,fun g hg=>by cases hg⟩⟩
 case round=>
  obtain ⟨i,vc,vr,rfl,rfl,rfl,hi,HPC⟩:=hrel
  by_cases h1:i < n
  ·have hd1:decide ((i:Int) < (n:Int)) = true:=decide_eq_true (by omega)
   have h1':(i:Int) < (n:Int):=by omega
   obtain ⟨k,rfl⟩:∃ k,gk = k + 1:=⟨gk - 1,by omega⟩
   have HIG:Hid (i + (k + 1) = n):=hi
   obtain ⟨nx,ox,lx,cx,ex,hrx,hnx⟩:=HXX.out.1 i h1
   obtain ⟨ny,oy,ly,cy,ey,hry,hny⟩:=HZZ.out.1 i h1
   obtain ⟨nx2,ox2,lx2,cx2,ex2,hrx2,hnx2⟩:=HXX.out.2 i h1
   obtain ⟨ny2,oy2,ly2,cy2,ey2,hry2,hny2⟩:=HZZ.out.2 i h1
   have HNX:Hid _:=And.intro hrx hnx
   have HNY:Hid _:=And.intro hry hny
   have HRX:Hid _:=And.intro hrx2 hnx2
   have HRY:Hid _:=And.intro hry2 hny2
   have HW1:Hid (Value.int .i64 (wrap64 ((i:Int) + 1)) = .int .i64 ((i + 1:Nat):Int)):=by
    unfold Hid
    refine congrArg _ ?_
    unfold wrap64
    omega
   clear hi hrx hnx hry hny hrx2 hnx2 hry2 hny2
   go_upto_region 12 with fail
   refine wp_region_noPanic ?_
   have PD:PcI X2 wr.drew E vc vr (fnL i fc) (fnL i fr):=HPC.out.later (Below.refl _ wr).drew
   have SX:(fun V=>Below X2.heap.size X2 V) wr.drew:=PD.b
   refine wp_region_held_drew (S:=(fun V=>Below X2.heap.size X2 V)) (by kernel_rfl) SX (fun _=>?_)
   refine tzI 59 0 ?_ ?_ SX ?_
   rotate_left
   ·intro w' hSw;go_simp;try with_reducible rfl
   (try simp only [pA,pE,pB,pC,pD])
   refine tzI 60 1 ?_ ?_ SX ?_
   rotate_left
   ·intro w' hSw;obtain ⟨_,k1,_,_,k4⟩:=HC6.out w' hSw;obtain ⟨_,j1,_,_,j4⟩:=HC8.out w' hSw;go_simp;try with_reducible rfl
   (try simp only [pA,pE,pB,pC,pD])
   refine tzI 61 2 ?_ ?_ SX ?_
   rotate_left
   ·intro w' hSw;obtain ⟨_,k1,_,_,k4⟩:=HC6.out w' hSw;obtain ⟨_,j1,_,_,j4⟩:=HC8.out w' hSw;go_simp;try with_reducible rfl
   (try simp only [pA,pE,pB,pC,pD])
   refine tzI 62 3 ?_ ?_ SX ?_
   rotate_left
   ·intro w' hSw;go_simp;try with_reducible rfl
   (try simp only [pA,pE,pB,pC,pD])
   refine tzI 63 4 ?_ ?_ SX ?_
   rotate_left
   ·intro w' hSw;go_simp;try with_reducible rfl
   (try simp only [pA,pE,pB,pC,pD])
   refine tzH 64 5 (.agg #[.bool nx,.slice ox lx cx,.int .i64 ex]) (yieldsIf_load_mid (by kernel_rfl) 56 _ rfl x1 (i * 3) (by kernel_rfl) #[.bool nx,.slice ox lx cx,.int .i64 ex].toList _ (fun V hS=>range_later HNX.out.1 hS) Tryz.underlying56 rfl (by kernel_rfl)) SX ?_
   (try simp only [pA,pE,pB,pC,pD])
   refine tzI 65 6 ?_ ?_ SX ?_
   rotate_left
   ·intro w' hSw;obtain ⟨_,k1,_,_,k4⟩:=HC6.out w' hSw;obtain ⟨_,j1,_,_,j4⟩:=HC8.out w' hSw;go_simp;try with_reducible rfl
   (try simp only [pA,pE,pB,pC,pD])
   refine tzI 66 7 ?_ ?_ SX ?_
   rotate_left
   ·intro w' hSw;obtain ⟨_,k1,_,_,k4⟩:=HC6.out w' hSw;obtain ⟨_,j1,_,_,j4⟩:=HC8.out w' hSw;go_simp;try with_reducible rfl
   (try simp only [pA,pE,pB,pC,pD])
   refine tzI 67 8 ?_ ?_ SX ?_
   rotate_left
   ·intro w' hSw;go_simp;try with_reducible rfl
   (try simp only [pA,pE,pB,pC,pD])
   refine tzI 68 9 ?_ ?_ SX ?_
   rotate_left
   ·intro w' hSw;go_simp;try with_reducible rfl
   (try simp only [pA,pE,pB,pC,pD])
   refine tzH 69 10 (.agg #[.bool ny,.slice oy ly cy,.int .i64 ey]) (yieldsIf_load_mid (by kernel_rfl) 56 _ rfl z1 (i * 3) (by kernel_rfl) #[.bool ny,.slice oy ly cy,.int .i64 ey].toList _ (fun V hS=>range_later HNY.out.1 hS) Tryz.underlying56 rfl (by kernel_rfl)) SX ?_
   (try simp only [pA,pE,pB,pC,pD])
   refine rzH [11] ?_
   refine consH _ rfl (hzC 70 (Calls.mono (plusC_any _ _ E 1024 _ _ _ (HNX.out.2.later SX) (HNY.out.2.later SX) (by have:=HE.out;omega) (by omega)) ?_)) AllReadyH.nil
   rintro e V1 ⟨v1,rfl,hz1,b1⟩
   rw [HFC.out] at hz1
   obtain ⟨n1,o1,l1,c1,e1,hv1⟩:=hz1.form
   subst hv1
   have S1:(fun V=>Below X2.heap.size X2 V) V1:=to_call SX b1
   refine ⟨_,rfl,S1,?_⟩
   (try simp only [pA,pE,pB,pC,pD])
   refine rzH [12] ?_
   refine consH _ rfl (hopB3 71 (.bool n1) (.slice o1 l1 c1) (.int .i64 e1) 56 rfl rfl rfl (by kernel_rfl) fun I V2 hI b2=>?_) AllReadyH.nil
   have S2:(fun V=>Below X2.heap.size X2 V) V2:=to_call S1 b2
   refine ⟨S2,?_⟩
   (try simp only [pA,pE,pB,pC,pD])
   have PD2:=(PD.later b1).later b2
   obtain ⟨xs,hxo,hxj⟩:=PD2.c.own
   rw [fnL_len] at hxo hxj
   refine rzH [13] ?_
   refine consH _ rfl (hopL rfl (append_clJ noU Tryz.underlying47 Tryz.infoNumJ rfl (by decide) (by decide) zero_noU V2 (by rfl) _ _ (by rfl) X2.heap.size vc i xs (by kernel_rfl) hxo PD2.c.cl ⟨I,0,none⟩ 1 1 [.bool n1,.slice o1 l1 c1,.int .i64 e1] (by kernel_rfl) (by decide) rfl (news_threeJ hI) (three_one n1 o1 l1 c1 e1) (three_noU n1 o1 l1 c1 e1) (by omega) S2.size fun v5 V3 o5 g5 cl5=>?_)) AllReadyH.nil
   change QK _ _ Exit.normal (Act.put _ (some 72) v5) V3
   have R5:RowZ V3 X2.heap.size v5 E 1025 (fnL i fc ++ [fc i]):=RowZ.push (xs:=xs) (by rw [fnL_len];exact hxo) (fun j hj=>hxj j (by rwa [fnL_len] at hj)) PD2.c.cl ((hz1.later b2).mono (by omega)) (by rw [fnL_len];exact o5) g5 cl5
   have PE:=PD2.appC R5 g5
   have S3:(fun V=>Below X2.heap.size X2 V) V3:=PE.b
   refine (And.intro S3 ?_:_ /\ _)
   (try simp only [pA,pE,pB,pC,pD])
   refine tzI 10 14 ?_ ?_ S3 ?_
   rotate_left
   ·intro w' hSw;go_simp;try with_reducible rfl
   (try simp only [pA,pE,pB,pC,pD])
   refine wpAnyH_done (by kernel_rfl) ?_ _
   refine NoPanic.normal ?_
   (try simp only [pA,pE,pB,pC,pD])
   have HPC2:Hid (PcI X2 V3 E v5 vr (fnL (i + 1) fc) (fnL i fr)):=by
    unfold Hid
    rw [fnL_snoc]
    exact PE
   clear PE R5 S3 S2 S1 SX PD PD2 hxo hxj o5 g5 cl5 hI b2 hz1 b1 HPC
   go_upto_region 13 with fail
   refine wp_region_noPanic ?_
   have PD:PcI X2 V3.drew E v5 vr (fnL (i + 1) fc) (fnL i fr):=HPC2.out.later (Below.refl _ V3).drew
   have SX:(fun V=>Below X2.heap.size X2 V) V3.drew:=PD.b
   refine wp_region_held_drew (S:=(fun V=>Below X2.heap.size X2 V)) (by kernel_rfl) SX (fun _=>?_)
   refine tzI 73 0 ?_ ?_ SX ?_
   rotate_left
   ·intro w' hSw;go_simp;try with_reducible rfl
   (try simp only [pA,pE,pB,pC,pD])
   refine tzI 74 1 ?_ ?_ SX ?_
   rotate_left
   ·intro w' hSw;obtain ⟨_,k1,_,_,k4⟩:=HC6.out w' hSw;obtain ⟨_,j1,_,_,j4⟩:=HC8.out w' hSw;go_simp;try with_reducible rfl
   (try simp only [pA,pE,pB,pC,pD])
   refine tzI 75 2 ?_ ?_ SX ?_
   rotate_left
   ·intro w' hSw;obtain ⟨_,k1,_,_,k4⟩:=HC6.out w' hSw;obtain ⟨_,j1,_,_,j4⟩:=HC8.out w' hSw;go_simp;try with_reducible rfl
   (try simp only [pA,pE,pB,pC,pD])
   refine tzI 76 3 ?_ ?_ SX ?_
   rotate_left
   ·intro w' hSw;go_simp;try with_reducible rfl
   (try simp only [pA,pE,pB,pC,pD])
   refine tzI 77 4 ?_ ?_ SX ?_
   rotate_left
   ·intro w' hSw;go_simp;try with_reducible rfl
   (try simp only [pA,pE,pB,pC,pD])
   refine tzH 78 5 (.agg #[.bool nx2,.slice ox2 lx2 cx2,.int .i64 ex2]) (yieldsIf_load_mid (by kernel_rfl) 56 _ rfl x4 (i * 3) (by kernel_rfl) #[.bool nx2,.slice ox2 lx2 cx2,.int .i64 ex2].toList _ (fun V hS=>range_later HRX.out.1 hS) Tryz.underlying56 rfl (by kernel_rfl)) SX ?_
   (try simp only [pA,pE,pB,pC,pD])
   refine tzI 79 6 ?_ ?_ SX ?_
   rotate_left
   ·intro w' hSw;obtain ⟨_,k1,_,_,k4⟩:=HC6.out w' hSw;obtain ⟨_,j1,_,_,j4⟩:=HC8.out w' hSw;go_simp;try with_reducible rfl
   (try simp only [pA,pE,pB,pC,pD])
   refine tzI 80 7 ?_ ?_ SX ?_
   rotate_left
   ·intro w' hSw;obtain ⟨_,k1,_,_,k4⟩:=HC6.out w' hSw;obtain ⟨_,j1,_,_,j4⟩:=HC8.out w' hSw;go_simp;try with_reducible rfl
   (try simp only [pA,pE,pB,pC,pD])
   refine tzI 81 8 ?_ ?_ SX ?_
   rotate_left
   ·intro w' hSw;go_simp;try with_reducible rfl
   (try simp only [pA,pE,pB,pC,pD])
   refine tzI 82 9 ?_ ?_ SX ?_
   rotate_left
   ·intro w' hSw;go_simp;try with_reducible rfl
   (try simp only [pA,pE,pB,pC,pD])
   refine tzH 83 10 (.agg #[.bool ny2,.slice oy2 ly2 cy2,.int .i64 ey2]) (yieldsIf_load_mid (by kernel_rfl) 56 _ rfl z4 (i * 3) (by kernel_rfl) #[.bool ny2,.slice oy2 ly2 cy2,.int .i64 ey2].toList _ (fun V hS=>range_later HRY.out.1 hS) Tryz.underlying56 rfl (by kernel_rfl)) SX ?_
   (try simp only [pA,pE,pB,pC,pD])
   refine rzH [11] ?_
   refine consH _ rfl (hzC 84 (Calls.mono (plusC_any _ _ E 1024 _ _ _ (HRX.out.2.later SX) (HRY.out.2.later SX) (by have:=HE.out;omega) (by omega)) ?_)) AllReadyH.nil
   rintro e V1 ⟨v1,rfl,hz1,b1⟩
   rw [HFR.out] at hz1
   obtain ⟨n1,o1,l1,c1,e1,hv1⟩:=hz1.form
   subst hv1
   have S1:(fun V=>Below X2.heap.size X2 V) V1:=to_call SX b1
   refine ⟨_,rfl,S1,?_⟩
   (try simp only [pA,pE,pB,pC,pD])
   refine rzH [12] ?_
   refine consH _ rfl (hopB3 85 (.bool n1) (.slice o1 l1 c1) (.int .i64 e1) 56 rfl rfl rfl (by kernel_rfl) fun I V2 hI b2=>?_) AllReadyH.nil
   have S2:(fun V=>Below X2.heap.size X2 V) V2:=to_call S1 b2
   refine ⟨S2,?_⟩
   (try simp only [pA,pE,pB,pC,pD])
   have PD2:=(PD.later b1).later b2
   obtain ⟨xs,hxo,hxj⟩:=PD2.r.own
   rw [fnL_len] at hxo hxj
   refine rzH [13] ?_
   refine consH _ rfl (hopL rfl (append_clJ noU Tryz.underlying47 Tryz.infoNumJ rfl (by decide) (by decide) zero_noU V2 (by rfl) _ _ (by rfl) X2.heap.size vr i xs (by kernel_rfl) hxo PD2.r.cl ⟨I,0,none⟩ 1 1 [.bool n1,.slice o1 l1 c1,.int .i64 e1] (by kernel_rfl) (by decide) rfl (news_threeJ hI) (three_one n1 o1 l1 c1 e1) (three_noU n1 o1 l1 c1 e1) (by omega) S2.size fun v8 V6 o5 g5 cl5=>?_)) AllReadyH.nil
   change QK _ _ Exit.normal (Act.put _ (some 86) v8) V6
   have R5:RowZ V6 X2.heap.size v8 E 1025 (fnL i fr ++ [fr i]):=RowZ.push (xs:=xs) (by rw [fnL_len];exact hxo) (fun j hj=>hxj j (by rwa [fnL_len] at hj)) PD2.r.cl ((hz1.later b2).mono (by omega)) (by rw [fnL_len];exact o5) g5 cl5
   have PE:=PD2.appR R5 g5
   have S3:(fun V=>Below X2.heap.size X2 V) V6:=PE.b
   refine (And.intro S3 ?_:_ /\ _)
   (try simp only [pA,pE,pB,pC,pD])
   refine tzI 11 14 ?_ ?_ S3 ?_
   rotate_left
   ·intro w' hSw;go_simp;try with_reducible rfl
   (try simp only [pA,pE,pB,pC,pD])
   refine wpAnyH_done (by kernel_rfl) ?_ _
   refine NoPanic.normal ?_
   (try simp only [pA,pE,pB,pC,pD])
   have HPC3:Hid (PcI X2 V6 E v5 v8 (fnL (i + 1) fc) (fnL (i + 1) fr)):=by
    unfold Hid
    rw [fnL_snoc i fr]
    exact PE
   clear PE R5 S3 S2 S1 SX PD PD2 hxo hxj o5 g5 cl5 hI b2 hz1 b1 HPC2
   go_wp2_with fail
   go_roundg k
   case measure=>omega
   case rel=>exact ⟨i + 1,v5,v8,rfl,rfl,by go_num,by have:=HIG.out;omega,HPC3⟩
  ·have hd1:decide ((i:Int) < (n:Int)) = false:=decide_eq_false (by omega)
   have hd2:decide (i < n) = false:=decide_eq_false (by omega)
   have hE9:n = i:=by omega
   subst hE9
   clear hi
   obtain ⟨-,-,k2,-,-⟩:=HC6.out wr HPC.out.b
   obtain ⟨-,-,j2,-,-⟩:=HC8.out wr HPC.out.b
   have HMG:Hid _:=merged_any _ _ _ _ _ _ _ _ wr (HI12.out.1.later HPC.out.b) (HI12.out.2.later HPC.out.b) (by have h3:=GU.out.few;have h4:=GU.out.ig;omega) (by have h3:=GQ.out.few;have h4:=GQ.out.ig;omega)
   rw [HL.out] at HMG
   go_upto_region 15 with (go_at_call 23;refine Calls.mono HMG.out ?_;rintro e W1 ⟨vi,rfl,hi1,hc1,b1⟩)
   obtain ⟨io,ic,hvi,hri⟩:=rdI_ownB hi1
   subst hvi
   have HRI:Hid (RdIs W1 io L.length ic L):=hri
   have P1:Hid (PcI X2 W1 E vc vr (fnL n fc) (fnL n fr)):=HPC.out.later b1
   clear hri hi1 hc1 b1 HMG HPC k2 j2
   obtain ⟨co,cc,hvc⟩:=P1.out.c.form
   obtain ⟨ro,rc,hvr⟩:=P1.out.r.form
   rw [fnL_len] at hvc hvr
   subst hvc
   subst hvr
   go_wp2_with fail
   go_loopg [14,15] L.length (fun g v14 iv wx=>∃ (k:Nat) (vg:Value),vg = v14 /\ iv = .int .i64 k /\ k + g = L.length /\ Hid (Below W1.heap.size W1 wx) /\ Hid (CoZ wx W1.heap.size vg E 1025 ((L.take k).map (sumC n u q))))
   case atStart=>exact ⟨0,_,rfl,rfl,by omega,Below.refl _ _,by rw [List.take_zero];exact CoZ.nil _ _ _ _⟩
   case round=>
    obtain ⟨k,vg,rfl,rfl,hk,HBW,HCZ⟩:=hrel
    by_cases h2:k < L.length
    ·have hd1':decide ((k:Int) < (L.length:Int)) = true:=decide_eq_true (by omega)
     have h2':(k:Int) < (L.length:Int):=by omega
     obtain ⟨q1,rfl⟩:∃ q1,gk = q1 + 1:=⟨gk - 1,by omega⟩
     have HKG:Hid (k + (q1 + 1) = L.length):=hk
     obtain ⟨id,hid⟩:∃ x:Int,L[k] = x:=⟨_,rfl⟩
     rcases HRI.out.cells with h0 | ⟨gi,oi,hio,hci⟩
     ·omega
     subst hio
     have HID:Hid (∀ V,Below W1.heap.size W1 V -> V.cell? ⟨gi,oi + k,none⟩ = some (.int .i64 id)):=fun V hb=>by
      have h3:=hci k h2
      rw [List.getElem?_eq_getElem h2,Option.getD_some,hid] at h3
      exact (hb.cell (World.block_lt_of_cell? _ _ h3)).trans h3
     have HIX:Hid (L[k] = id):=hid
     have HW2:Hid (Value.int .i64 (wrap64 ((k:Int) + 1)) = .int .i64 ((k + 1:Nat):Int)):=by
      have h3:=HLL.out
      unfold Hid
      refine congrArg _ ?_
      unfold wrap64
      omega
     clear hk hci hid
     go_upto_region 19 with fail
     refine wp_region_noPanic ?_
     have SX:(fun V=>Below W1.heap.size W1 V) wr.drew:=HBW.out.drew
     refine wp_region_held_drew (S:=(fun V=>Below W1.heap.size W1 V)) (by kernel_rfl) SX (fun _=>?_)
     refine tzH 98 0 (.agg _) (Or.inl ⟨by kernel_rfl,fun w' hSw=>ex_loadRN _ 50 _ rfl B6 (by kernel_rfl) w' _ (kept (to_call P1.out.b hSw) H2.out.2.2.1) _ Tryz.underlying50 rfl 5 Tryz.infoRl rfl⟩) SX ?_
     (try simp only [pA,pE,pB,pC,pD])
     refine tzI 99 1 ?_ ?_ SX ?_
     rotate_left
     ·intro w' hSw;go_simp;try with_reducible rfl
     (try simp only [pA,pE,pB,pC,pD])
     refine tzI 100 2 ?_ ?_ SX ?_
     rotate_left
     ·intro w' hSw;go_simp;try with_reducible rfl
     (try simp only [pA,pE,pB,pC,pD])
     refine tzI 101 3 ?_ ?_ SX ?_
     rotate_left
     ·intro w' hSw;go_simp;try with_reducible rfl
     (try simp only [pA,pE,pB,pC,pD])
     refine tzI 102 4 ?_ ?_ SX ?_
     rotate_left
     ·intro w' hSw;have c9:=HID.out w' hSw;go_simp;try with_reducible rfl
     (try simp only [pA,pE,pB,pC,pD])
     refine rzH [5] ?_
     refine consH _ rfl (hzC 103 (Calls.mono (column_any n _ _ _ _ _ _ _ _ _ _ _ _ _ _ _ _ _ id _ E _ (HR1.out.later (to_call P1.out.b SX)) GU.out.ig GU.out.few hn2) ?_)) AllReadyH.nil
     rintro e V1 ⟨vp,Bp,rfl,hp1,b1⟩
     obtain ⟨xp,cp,hvp,hxp⟩:=hp1.rd (colZ_len GU.out id) hn1
     subst hvp
     have S1:(fun V=>Below W1.heap.size W1 V) V1:=to_call SX b1
     refine ⟨_,rfl,S1,?_⟩
     (try simp only [pA,pE,pB,pC,pD])
     refine tzI 16 6 ?_ ?_ S1 ?_
     rotate_left
     ·intro w' hSw;go_simp;try with_reducible rfl
     (try simp only [pA,pE,pB,pC,pD])
     refine wpAnyH_done (by kernel_rfl) ?_ _
     refine NoPanic.normal ?_
     (try simp only [pA,pE,pB,pC,pD])
     have HXp:Hid _:=hxp
     have HBp:Hid (Below wr.heap.size wr V1):=to_call (Below.refl _ wr).drew b1
     have HSp:Hid (Below W1.heap.size W1 V1):=S1
     clear hxp hp1 b1 S1 SX
     go_upto_region 20 with fail
     refine wp_region_noPanic ?_
     have SX:(fun V=>Below W1.heap.size W1 V) V1.drew:=HSp.out.drew
     refine wp_region_held_drew (S:=(fun V=>Below W1.heap.size W1 V)) (by kernel_rfl) SX (fun _=>?_)
     refine tzH 104 0 (.agg _) (Or.inl ⟨by kernel_rfl,fun w' hSw=>ex_loadRN _ 50 _ rfl B8 (by kernel_rfl) w' _ (kept (to_call P1.out.b hSw) H2.out.2.2.2) _ Tryz.underlying50 rfl 5 Tryz.infoRl rfl⟩) SX ?_
     (try simp only [pA,pE,pB,pC,pD])
     refine tzI 105 1 ?_ ?_ SX ?_
     rotate_left
     ·intro w' hSw;go_simp;try with_reducible rfl
     (try simp only [pA,pE,pB,pC,pD])
     refine tzI 106 2 ?_ ?_ SX ?_
     rotate_left
     ·intro w' hSw;go_simp;try with_reducible rfl
     (try simp only [pA,pE,pB,pC,pD])
     refine tzI 107 3 ?_ ?_ SX ?_
     rotate_left
     ·intro w' hSw;go_simp;try with_reducible rfl
     (try simp only [pA,pE,pB,pC,pD])
     refine tzI 108 4 ?_ ?_ SX ?_
     rotate_left
     ·intro w' hSw;have c9:=HID.out w' hSw;go_simp;try with_reducible rfl
     (try simp only [pA,pE,pB,pC,pD])
     refine rzH [5] ?_
     refine consH _ rfl (hzC 109 (Calls.mono (column_any n _ _ _ _ _ _ _ _ _ _ _ _ _ _ _ _ _ id _ E _ (HR2.out.later (to_call P1.out.b SX)) GQ.out.ig GQ.out.few hn2) ?_)) AllReadyH.nil
     rintro e W2 ⟨vr,Br,rfl,hp1,b1⟩
     obtain ⟨xr,cr,hvr,hxr⟩:=hp1.rd (colZ_len GQ.out id) hn1
     subst hvr
     have S1:(fun V=>Below W1.heap.size W1 V) W2:=to_call SX b1
     refine ⟨_,rfl,S1,?_⟩
     (try simp only [pA,pE,pB,pC,pD])
     refine tzI 17 6 ?_ ?_ S1 ?_
     rotate_left
     ·intro w' hSw;go_simp;try with_reducible rfl
     (try simp only [pA,pE,pB,pC,pD])
     refine wpAnyH_done (by kernel_rfl) ?_ _
     refine NoPanic.normal ?_
     (try simp only [pA,pE,pB,pC,pD])
     have HXr:Hid _:=hxr
     have HBr:Hid (Below V1.heap.size V1 W2):=to_call (Below.refl _ V1).drew b1
     have HSr:Hid (Below W1.heap.size W1 W2):=S1
     clear hxr hp1 b1 S1 SX
     have HP1:Hid (∀ j,j < n -> ∃ nx ox lx cx ex,W2.rangeAt xp (j * 3) [.bool nx,.slice ox lx cx,.int .i64 ex] /\ NumC W2 (.agg #[.bool nx,.slice ox lx cx,.int .i64 ex]) E 1024 ((colZ n id u.ids u.gs)[j]?.getD 0)):=fun j hj=>by
      obtain ⟨nx,ox,lx,cx,ex,h3,h4⟩:=HXp.out j hj
      exact ⟨nx,ox,lx,cx,ex,range_later h3 HBr.out,h4.later HBr.out⟩
     have HP2:Hid (∀ j,j < n -> ∃ nx ox lx cx ex,W2.rangeAt xr (j * 3) [.bool nx,.slice ox lx cx,.int .i64 ex] /\ NumC W2 (.agg #[.bool nx,.slice ox lx cx,.int .i64 ex]) E 1024 ((colZ n id q.ids q.gs)[j]?.getD 0)):=HXr.out
     have HB2:Hid (Below W1.heap.size W1 W2):=HSr.out
     have HG2:Hid (CoZ W2 W1.heap.size vg E 1025 ((L.take k).map (sumC n u q))):=(HCZ.out.later HBp.out).later HBr.out
     clear HXp HXr HBp HBr HSp HSr HCZ HBW
     obtain ⟨fk,hfk⟩:∃ f:Nat -> Int,(fun j=>(colZ n id u.ids u.gs)[j]?.getD 0 + (colZ n id q.ids q.gs)[j]?.getD 0) = f:=⟨_,rfl⟩
     have HFK:Hid (∀ j,(colZ n id u.ids u.gs)[j]?.getD 0 + (colZ n id q.ids q.gs)[j]?.getD 0 = fk j):=fun j=>by rw [<- hfk]
     have HFQ:Hid (sumC n u q id = fnL n fk):=by
      unfold Hid sumC
      rw [hfk]
     clear hfk
     go_wp2_with fail
     go_loopg [18,19] n (fun g v18 iv wx=>∃ (j:Nat) (vk:Value),vk = v18 /\ iv = .int .i64 j /\ j + g = n /\ Hid (Below W2.heap.size W2 wx) /\ Hid (RowZ wx W2.heap.size vk E 1025 (fnL j fk)))
     case atStart=>exact ⟨0,_,rfl,rfl,by omega,Below.refl _ _,RowZ.nil _ _ _ _⟩
     case round=>
      obtain ⟨j,vk,rfl,rfl,hj,HB3,HZK⟩:=hrel
      by_cases h3:j < n
      ·have hd3:decide ((j:Int) < (n:Int)) = true:=decide_eq_true (by omega)
       have h3':(j:Int) < (n:Int):=by omega
       obtain ⟨q2,rfl⟩:∃ q2,gk = q2 + 1:=⟨gk - 1,by omega⟩
       have HJG:Hid (j + (q2 + 1) = n):=hj
       obtain ⟨nx,ox,lx,cx,ex,hrx,hnx⟩:=HP1.out j h3
       obtain ⟨ny,oy,ly,cy,ey,hry,hny⟩:=HP2.out j h3
       have HNX:Hid _:=And.intro hrx hnx
       have HNY:Hid _:=And.intro hry hny
       have HW3:Hid (Value.int .i64 (wrap64 ((j:Int) + 1)) = .int .i64 ((j + 1:Nat):Int)):=by
        unfold Hid
        refine congrArg _ ?_
        unfold wrap64
        omega
       clear hj hrx hnx hry hny
       go_upto_region 25 with fail
       refine wp_region_noPanic ?_
       have PD:RowZ wr.drew W2.heap.size vk E 1025 (fnL j fk):=HZK.out.later (Below.refl _ wr).drew
       have SX:(fun V=>Below W2.heap.size W2 V) wr.drew:=HB3.out.drew
       refine wp_region_held_drew (S:=(fun V=>Below W2.heap.size W2 V)) (by kernel_rfl) SX (fun _=>?_)
       refine tzI 115 0 ?_ ?_ SX ?_
       rotate_left
       ·intro w' hSw;go_simp;try with_reducible rfl
       (try simp only [pA,pE,pB,pC,pD])
       refine tzI 116 1 ?_ ?_ SX ?_
       rotate_left
       ·intro w' hSw;go_simp;try with_reducible rfl
       (try simp only [pA,pE,pB,pC,pD])
       refine tzI 117 2 ?_ ?_ SX ?_
       rotate_left
       ·intro w' hSw;go_simp;try with_reducible rfl
       (try simp only [pA,pE,pB,pC,pD])
       refine tzI 118 3 ?_ ?_ SX ?_
       rotate_left
       ·intro w' hSw;go_simp;try with_reducible rfl
       (try simp only [pA,pE,pB,pC,pD])
       refine tzH 119 4 (.agg #[.bool nx,.slice ox lx cx,.int .i64 ex]) (yieldsIf_load_mid (by kernel_rfl) 56 _ rfl xp (j * 3) (by kernel_rfl) #[.bool nx,.slice ox lx cx,.int .i64 ex].toList _ (fun V hS=>range_later HNX.out.1 hS) Tryz.underlying56 rfl (by kernel_rfl)) SX ?_
       (try simp only [pA,pE,pB,pC,pD])
       refine tzI 120 5 ?_ ?_ SX ?_
       rotate_left
       ·intro w' hSw;go_simp;try with_reducible rfl
       (try simp only [pA,pE,pB,pC,pD])
       refine tzI 121 6 ?_ ?_ SX ?_
       rotate_left
       ·intro w' hSw;go_simp;try with_reducible rfl
       (try simp only [pA,pE,pB,pC,pD])
       refine tzI 122 7 ?_ ?_ SX ?_
       rotate_left
       ·intro w' hSw;go_simp;try with_reducible rfl
       (try simp only [pA,pE,pB,pC,pD])
       refine tzH 123 8 (.agg #[.bool ny,.slice oy ly cy,.int .i64 ey]) (yieldsIf_load_mid (by kernel_rfl) 56 _ rfl xr (j * 3) (by kernel_rfl) #[.bool ny,.slice oy ly cy,.int .i64 ey].toList _ (fun V hS=>range_later HNY.out.1 hS) Tryz.underlying56 rfl (by kernel_rfl)) SX ?_
       (try simp only [pA,pE,pB,pC,pD])
       refine rzH [9] ?_
       refine consH _ rfl (hzC 124 (Calls.mono (plusC_any _ _ E 1024 _ _ _ (HNX.out.2.later SX) (HNY.out.2.later SX) (by have:=HE.out;omega) (by omega)) ?_)) AllReadyH.nil
       rintro e V1 ⟨v1,rfl,hz1,b1⟩
       rw [HFK.out] at hz1
       obtain ⟨n1,o1,l1,c1,e1,hv1⟩:=hz1.form
       subst hv1
       have S1:(fun V=>Below W2.heap.size W2 V) V1:=to_call SX b1
       refine ⟨_,rfl,S1,?_⟩
       (try simp only [pA,pE,pB,pC,pD])
       refine rzH [10] ?_
       refine consH _ rfl (hopB3 125 (.bool n1) (.slice o1 l1 c1) (.int .i64 e1) 56 rfl rfl rfl (by kernel_rfl) fun I V2 hI b2=>?_) AllReadyH.nil
       have S2:(fun V=>Below W2.heap.size W2 V) V2:=to_call S1 b2
       refine ⟨S2,?_⟩
       (try simp only [pA,pE,pB,pC,pD])
       have PD2:=(PD.later b1).later b2
       obtain ⟨xs,hxo,hxj⟩:=PD2.own
       rw [fnL_len] at hxo hxj
       refine rzH [11] ?_
       refine consH _ rfl (hopL rfl (append_clJ noU Tryz.underlying47 Tryz.infoNumJ rfl (by decide) (by decide) zero_noU V2 (by rfl) _ _ (by rfl) W2.heap.size vk j xs (by kernel_rfl) hxo PD2.cl ⟨I,0,none⟩ 1 1 [.bool n1,.slice o1 l1 c1,.int .i64 e1] (by kernel_rfl) (by decide) rfl (news_threeJ hI) (three_one n1 o1 l1 c1 e1) (three_noU n1 o1 l1 c1 e1) (by omega) S2.size fun v5 V3 o5 g5 cl5=>?_)) AllReadyH.nil
       change QK _ _ Exit.normal (Act.put _ (some 126) v5) V3
       have R5:RowZ V3 W2.heap.size v5 E 1025 (fnL j fk ++ [fk j]):=RowZ.push (xs:=xs) (by rw [fnL_len];exact hxo) (fun i hi=>hxj i (by rwa [fnL_len] at hi)) PD2.cl ((hz1.later b2).mono (by omega)) (by rw [fnL_len];exact o5) g5 cl5
       have S3:(fun V=>Below W2.heap.size W2 V) V3:=S2.trans (g5.below (fun k hk=>(World.ownsRow.lt hxo k hk).1) S2.size)
       refine (And.intro S3 ?_:_ /\ _)
       (try simp only [pA,pE,pB,pC,pD])
       refine tzI 18 12 ?_ ?_ S3 ?_
       rotate_left
       ·intro w' hSw;go_simp;try with_reducible rfl
       (try simp only [pA,pE,pB,pC,pD])
       refine wpAnyH_done (by kernel_rfl) ?_ _
       refine NoPanic.normal ?_
       (try simp only [pA,pE,pB,pC,pD])
       have HZ2:Hid (RowZ V3 W2.heap.size v5 E 1025 (fnL (j + 1) fk)):=by
        unfold Hid
        rw [fnL_snoc]
        exact R5
       have HB4:Hid (Below W2.heap.size W2 V3):=S3
       clear R5 S3 S2 S1 SX PD PD2 hxo hxj o5 g5 cl5 hI b2 hz1 b1 HB3 HZK
       go_wp2_with fail
       go_roundg q2
       case measure=>omega
       case rel=>exact ⟨j + 1,v5,rfl,by go_num,by have:=HJG.out;omega,HB4,HZ2⟩
      ·have hd3:decide ((j:Int) < (n:Int)) = false:=decide_eq_false (by omega)
       have hd4:decide (j < n) = false:=decide_eq_false (by omega)
       have hE8:n = j:=by omega
       subst hE8
       clear hj
       obtain ⟨ak,ck,hvk⟩:=HZK.out.form
       rw [fnL_len] at hvk
       subst hvk
       have hlen:((L.take k).map (sumC n u q)).length = k:=by rw [List.length_map,List.length_take];omega
       obtain ⟨gl,hgl,hgo,hgc,hgr⟩:=(HG2.out.later HB3.out).own
       have A3:Below wr.heap.size wr (wr.alloc (.cells #[.slice ak n ck] 47)):=(Below.refl _ wr).alloc (Nat.le_refl _) _
       rw [hlen] at hgl hgo hgr
       have HGO:Hid _:=And.intro hgo (And.intro hgc (And.intro hgl hgr))
       have HA3:Hid _:=A3
       have HSZ:Hid (W1.heap.size <= wr.heap.size):=(to_call HB2.out HB3.out).size
       have hk4:k + 1 <= 4000000:=by have:=HLL.out;omega
       clear hgo hgc hgl hgr A3
       go_wp2_with (at_builtin;refine append_clJ noU Tryz.underlying48 Tryz.infoNsJ rfl (by decide) (by decide) zeroS_noU _ (by rfl) _ _ (by rfl) W1.heap.size vg k gl (by rfl) (World.ownsRow.alloc HGO.out.1 _) (fun g hg=>(HGO.out.2.1 g hg).later HA3.out) ⟨wr.heap.size,0,none⟩ 1 1 [.slice ak n ck] (by rfl) (by decide) rfl (news_oneJ (heap_alloc_new _ _)) (oneI _ rfl) (oneS_noU _ n ck) hk4 (by simp only [alloc_size];have:=HSZ.out;omega) ?_;intro v9 w9 o9 g9 cl9)
       have HB9:Hid (Below W1.heap.size W1 w9):=(to_call (to_call HB2.out HB3.out) HA3.out).trans (g9.below (fun k hk=>(World.ownsRow.lt HGO.out.1 k hk).1) (to_call (to_call HB2.out HB3.out) HA3.out).size)
       have HC9:Hid (CoZ w9 W1.heap.size v9 E 1025 ((L.take (k + 1)).map (sumC n u q))):=by
        unfold Hid
        rw [List.take_succ_eq_append_getElem h2,List.map_append,List.map_cons,List.map_nil,HIX.out,HFQ.out]
        refine CoZ.push (by rw [hlen];exact HGO.out.2.2.1) (by rw [hlen];exact World.ownsRow.alloc HGO.out.1 _) (fun g hg=>(HGO.out.2.1 g hg).later HA3.out) (fun k2 hk2=>?_) (HZK.out.later HA3.out) (by rw [hlen];exact o9) g9 cl9
        rw [hlen] at hk2
        obtain ⟨B,hB⟩:=HGO.out.2.2.2 k2 hk2
        exact ⟨B,hB.later HA3.out⟩
       clear o9 g9 cl9 HGO HA3 HSZ HZK HB3 HG2 HB2 HP1 HP2
       go_roundg q1
       case measure=>omega
       case rel=>exact ⟨k + 1,v9,rfl,by go_num,by have:=HKG.out;omega,HB9,HC9⟩
    ·have hd3:decide ((k:Int) < (L.length:Int)) = false:=decide_eq_false (by omega)
     have hd4:decide (k < L.length) = false:=decide_eq_false (by omega)
     have hE8:k = L.length:=by omega
     subst hE8
     clear hk
     rw [List.take_length] at HCZ
     obtain ⟨go,gc,hvg⟩:=HCZ.out.form
     rw [List.length_map] at hvg
     subst hvg
     have HLD:Hid _:=laid10_any E n HE.out co io go ro cc ic gc rc (fnL n fc) (fnL n fr) L (L.map (sumC n u q)) wr _ _ _ (P1.out.c.later HBW.out) (fnL_len _ _) (HRI.out.later HBW.out) HCZ.out (List.length_map _) (fun k hk=>by rw [List.getElem?_map,List.getElem?_eq_getElem hk];exact fnL_len _ _) (P1.out.r.later HBW.out) (fnL_len _ _) ⟨hn1,hn2⟩ HLL.out
     have q4:Below w.heap.size w wr:=to_call (to_call H2.out.1 P1.out.b) HBW.out
     have n4:wr.heap[w.heap.size + 2]? = some (.cells #[.int .i64 0,.slice none 0 0,.slice none 0 0,.slice none 0 0,.slice none 0 0,.bool false] 30):=kept HBW.out (kept P1.out.b H2.out.2.1)
     have HQ4:Hid _:=And.intro q4 n4
     clear q4 n4
     go_upto_region 28 with (first
      | (go_at_call 25;refine Calls.mono HLD.out ?_;rintro e w5 ⟨⟨c,ok,rfl,hp⟩,b5⟩)
      | (refine wpList_store_row (by rfl) 30 _ _ (by rfl) w w.heap.size w5.heap.size c _ (by rfl) (by rfl) (heap_alloc_new w5 _) ((to_call HQ4.out.1 b5).alloc (to_call HQ4.out.1 b5).size _) (to_call HQ4.out.1 b5).size 6 Tryz.infoZu hp.sz rfl hp.one ?_;intro W6 e6 b6 s6 o6))
     have K6:∀ k,k < w5.heap.size -> W6.heap[k]? = w5.heap[k]?:=fun k hk=>(o6 k (by omega)).trans (by first | exact heap_alloc_old w5 _ hk | exact heap_alloc_old w5 _ _ hk)
     have g4:=blk_lt HQ4.out.2
     have s5:=b5.size
     have n6:W6.heap[w.heap.size + 2]? = some (.cells #[.int .i64 0,.slice none 0 0,.slice none 0 0,.slice none 0 0,.slice none 0 0,.bool false] 30):=(K6 _ (by omega)).trans (kept b5 HQ4.out.2)
     have HK:Hid ((∀ k,k < w5.heap.size -> W6.heap[k]? = w5.heap[k]?) /\ w.heap.size <= wr.heap.size /\ w.heap.size + 2 < w5.heap.size):=⟨K6,HQ4.out.1.size,by omega⟩
     have HP5:Hid (LdPost (fnL n fc) (fnL n fr) L (L.map (sumC n u q)) n wr.heap.size w5 c ok):=hp
     have hsz:=hp.sz
     have hone:=hp.one
     have HGZ:Hid (gzD n u q = L.map (sumC n u q)):=by
      unfold Hid gzD
      rw [HL.out]
     clear K6 hp o6 s6 b5 s5 g4 HLD
     cases ok with
     | false=>
      go_wp2_with (first
       | (go_at_call 21;refine Calls.mono (lost_any (n:Int) _) ?_;rintro e w7 ⟨rfl,b7⟩)
       | (refine wpList_store_row (by rfl) 30 _ _ (by rfl) w w.heap.size (w.heap.size + 2) #[.int .i64 (n:Int),.slice none 0 0,.slice none 0 0,.slice none 0 0,.slice none 0 0,.bool true] _ (by rfl) (by rfl) (kept b7 n6) (to_call b6 b7) (by omega) 6 Tryz.infoZu (by rfl) (by rfl) (oneZ _ _ _ _ _ rfl rfl rfl rfl _) ?_;intro W9 e9 b9 s9 o9))
      refine bodyPost_ret (res_oneJ _ 4 30 (by kernel_rfl) _ _ (w.heap.size + 2) #[.int .i64 (n:Int),.slice none 0 0,.slice none 0 0,.slice none 0 0,.slice none 0 0,.bool true] (by rfl) _ Tryz.underlying30 rfl 6 Tryz.infoZu rfl e9) rfl ?_
      refine ⟨(⟨(n:Int),none,0,0,none,0,0,none,0,0,none,0,0,true,[],[],fun _=>(none,0,0),[],[]⟩:ZD),rfl,badU _ _,⟨.inr ⟨.inr (.inr (.inr ?_)),?_,rfl,rfl,rfl,rfl,rfl⟩⟩,b9⟩
      ·rw [HNN.out,HFS.out.1,HFS.out.2,HGZ.out,HL.out]
       exact HP5.out.no rfl
      ·rw [GU.out.tk,GQ.out.tk]
       exact (if_pos rfl).symm
     | true=>
      go_wp2_with (first
       | (refine wpList_load_row (by rfl) 30 _ (by rfl) w5.heap.size _ (by rfl) e6 _ Tryz.underlying30 rfl 6 Tryz.infoZu hsz ?_)
       | (refine wpList_store_row (by rfl) 30 _ _ (by rfl) w w.heap.size (w.heap.size + 2) c _ (by rfl) (by rfl) n6 b6 (by omega) 6 Tryz.infoZu hsz rfl hone ?_;intro W9 e9 b9 s9 o9))
      refine bodyPost_ret (res_oneJ _ 4 30 (by kernel_rfl) _ _ (w.heap.size + 2) c (by rfl) _ Tryz.underlying30 rfl 6 Tryz.infoZu hsz e9) rfl ?_
      obtain ⟨vc,vi,vg,vr,gl,us,UL,rs,hc,hof,hne,hco,hrl,hrs⟩:=HP5.out.yes rfl
      have hof9:OfL W9 wr.heap.size us rs ((kpP L UL).map (·.1)) ((kpP L UL).map (·.2)) vc vr vi vg gl:=hof.keep fun k cur t ht hc=>(o9 k (by
       rintro rfl
       have h3:=HK.out.1 _ HK.out.2.2
       rw [n6,hc] at h3
       cases h3
       exact ht rfl)).trans (HK.out.1 k (blk_lt hc))
      obtain ⟨v,hv,hzu,f1,f2,f3,f4,f5,f6,_⟩:=hof9.zu (n:Int) false
      refine ⟨v,by rw [hc,hv],hzu,⟨.inl ⟨HO.out.1,HO.out.2.1,HO.out.2.2,by rw [f1,GU.out.N],f2,us,UL,?_,f3,by rw [f4,HNN.out];exact hrl,?_,by rw [f5,HL.out],by rw [f6,HL.out]⟩⟩,b9⟩
      ·rw [HNN.out]
       exact ⟨by rw [HFS.out.1];exact hne,by rw [HGZ.out,HL.out];exact hco⟩
      ·intro j hj
       rw [HNN.out] at hj ⊢
       rw [f4]
       unfold fsD
       rw [HFS.out.1,HFS.out.2,HGZ.out]
       exact hrs j hj
end Go.Proofs.YtgialbaeekkkhaaGreat
