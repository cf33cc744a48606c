import Derived.Test.YtgialbaeekkkhaaGreatPPt
set_option maxRecDepth 100000
set_option maxHeartbeats 20000000
set_option linter.unusedVariables false
set_option linter.unusedSimpArgs false
namespace Go.Proofs.YtgialbaeekkkhaaGreat
open Go.RowKit Go.Shelf
theorem sgi_ne {x y:Int} (h:¬ x = y):(sgi (x - y) != 0) = true:=by
 unfold sgi
 split
 ·rfl
 ·split
  ·omega
  ·rfl
theorem srung_fval (a b:Nat):srung a = srung b ↔ fval a = fval b:=by
 have h:=fval_srung a b
 constructor
 ·intro e
  rw [e,Int.compare_eq_eq.2 rfl] at h
  exact Int.compare_eq_eq.1 h
 ·intro e
  rw [e,Int.compare_eq_eq.2 rfl] at h
  exact Int.compare_eq_eq.1 h.symm
theorem sameL_iff {us vs:List Nat} {n:Nat} (h1:us.length = n) (h2:vs.length = n):sameL us vs = true ↔ ∀ j,j < n -> fval (us[j]?.getD 0) = fval (vs[j]?.getD 0):=by
 unfold sameL
 rw [decide_eq_true_eq]
 constructor
 ·intro h j hj
  have h3:(us.map srung)[j]? = (vs.map srung)[j]?:=by rw [h]
  rw [List.getElem?_map,List.getElem?_map,List.getElem?_eq_getElem (by omega),List.getElem?_eq_getElem (by omega)] at h3
  rw [List.getElem?_eq_getElem (by omega),List.getElem?_eq_getElem (by omega)]
  simp only [Option.map_some,Option.some.injEq] at h3
  exact (srung_fval _ _).1 h3
 ·intro h
  apply List.ext_getElem
  ·rw [List.length_map,List.length_map,h1,h2]
  ·intro j p1 p2
   rw [List.length_map] at p1
   have h3:=h j (by omega)
   rw [List.getElem?_eq_getElem (by omega),List.getElem?_eq_getElem (by omega)] at h3
   rw [List.getElem_map,List.getElem_map]
   exact (srung_fval _ _).2 h3
theorem sameG_iff {us vs:List (List Nat)} {m n:Nat} (h1:us.length = m) (h2:vs.length = m) (k1:∀ k,k < m -> (us[k]?.getD []).length = n) (k2:∀ k,k < m -> (vs[k]?.getD []).length = n):sameG us vs = true ↔ ∀ k,k < m -> ∀ j,j < n -> fval ((us[k]?.getD [])[j]?.getD 0) = fval ((vs[k]?.getD [])[j]?.getD 0):=by
 have hs:sameG us vs = true ↔ ∀ k,k < m -> sameL (us[k]?.getD []) (vs[k]?.getD []) = true:=by
  unfold sameG
  rw [decide_eq_true_eq]
  constructor
  ·intro h k hk
   have h3:(us.map (·.map srung))[k]? = (vs.map (·.map srung))[k]?:=by rw [h]
   rw [List.getElem?_map,List.getElem?_map,List.getElem?_eq_getElem (by omega),List.getElem?_eq_getElem (by omega)] at h3
   rw [List.getElem?_eq_getElem (by omega),List.getElem?_eq_getElem (by omega)]
   simp only [Option.map_some,Option.some.injEq] at h3
   unfold sameL
   rw [decide_eq_true_eq]
   exact h3
  ·intro h
   apply List.ext_getElem
   ·rw [List.length_map,List.length_map,h1,h2]
   ·intro k p1 p2
    rw [List.length_map] at p1
    have h3:=h k (by omega)
    rw [List.getElem?_eq_getElem (by omega),List.getElem?_eq_getElem (by omega)] at h3
    unfold sameL at h3
    rw [decide_eq_true_eq] at h3
    rw [List.getElem_map,List.getElem_map]
    exact h3
 rw [hs]
 exact ⟨fun h k hk=>(sameL_iff (k1 k hk) (k2 k hk)).1 (h k hk),fun h k hk=>(sameL_iff (k1 k hk) (k2 k hk)).2 (h k hk)⟩
theorem same_iff {u q:ZD} {n:Nat} (gu:GdU u n) (gq:GdU q n) (bu:u.bad = false) (bq:q.bad = false) (hl:u.ids.length = q.ids.length):sameZ u q = true ↔ (u.ids = q.ids /\ (∀ j,j < n -> fval (u.cs[j]?.getD 0) = fval (q.cs[j]?.getD 0)) /\ (∀ j,j < n -> fval (u.rs[j]?.getD 0) = fval (q.rs[j]?.getD 0)) /\ ∀ k,k < u.ids.length -> ∀ j,j < n -> fval ((u.gs[k]?.getD [])[j]?.getD 0) = fval ((q.gs[k]?.getD [])[j]?.getD 0)):=by
 unfold sameZ
 rw [gu.N,gq.N,bu,bq]
 simp only [decide_true,Bool.true_and,Bool.and_eq_true,decide_eq_true_eq]
 have lq:q.gs.length = u.ids.length:=by rw [<- gq.ig,hl]
 rw [sameL_iff gu.c gq.c,sameL_iff gu.r gq.r,sameG_iff (m:=u.ids.length) gu.ig.symm lq (fun k hk=>gu.g k (by rw [<- gu.ig];exact hk)) (fun k hk=>gq.g k (by rw [lq];exact hk))]
 exact ⟨fun ⟨⟨⟨a,b⟩,c⟩,d⟩=>⟨a,b,c,d⟩,fun ⟨a,b,c,d⟩=>⟨⟨⟨a,b⟩,c⟩,d⟩⟩
theorem same_bad {w:World} {u q:ZD} (hu:ZU w u) (hq:ZU w q) (bu:(tkZ u).bad = true) (bq:(tkZ q).bad = true):sameZ (tkZ u) (tkZ q) = ((tkZ u).N == (tkZ q).N):=by
 have emp:∀ z:ZD,ZU w z -> (tkZ z).bad = true -> (tkZ z).cs = [] /\ (tkZ z).rs = [] /\ (tkZ z).ids = [] /\ (tkZ z).gs = []:=fun z hz hb=>by
  unfold tkZ at hb ⊢
  split
  ·rename_i h
   rw [if_pos h] at hb
   unfold checkB bareB at h
   rw [hb] at h
   simp only [if_true,Bool.and_eq_true,decide_eq_true_eq] at h
   have e1:=hz.c.length
   have e2:=hz.r.length
   have e3:=hz.i.length
   have e4:=hz.g.length
   refine ⟨List.eq_nil_of_length_eq_zero (by omega),List.eq_nil_of_length_eq_zero (by omega),List.eq_nil_of_length_eq_zero (by omega),List.eq_nil_of_length_eq_zero (by omega)⟩
  ·exact ⟨rfl,rfl,rfl,rfl⟩
 obtain ⟨a1,a2,a3,a4⟩:=emp u hu bu
 obtain ⟨b1,b2,b3,b4⟩:=emp q hq bq
 unfold sameZ
 rw [bu,bq,a1,a2,a3,a4,b1,b2,b3,b4]
 by_cases e:(tkZ u).N = (tkZ q).N
 ·rw [e];simp [sameL,sameG]
 ·rw [decide_eq_false e]
  simp [e]
theorem same_unlike {u q:ZD} (h:(tkZ u).bad ≠ (tkZ q).bad):sameZ (tkZ u) (tkZ q) = false:=by
 unfold sameZ
 rw [decide_eq_false h]
 simp
theorem refAlike_any (u q:ZD) (w:World) (hu:ZU w u) (hq:ZU w q) (wu:UW u) (wq:UW q) :
  Calls Tryz.prog 10 #[.agg (zRow u),.agg (zRow q)] w fun e w'=>e = .returned (.bool (sameZ (tkZ u) (tkZ q))) /\ Below w.heap.size w w':=by
 obtain ⟨E,hE⟩:∃ E:Nat,E = 1074:=⟨_,rfl⟩
 have HE:Hid (E = 1074):=hE
 have HSZU:Hid (∀ W',Below w.heap.size w W' -> _):=fun W' hb=>refSizeZ_any u W' (hu.later hb) wu
 have HSZQ:Hid (∀ W',Below w.heap.size w W' -> _):=fun W' hb=>refSizeZ_any q W' (hq.later hb) wq
 have HRU:Hid (∀ W',Below w.heap.size w W' -> _):=fun W' hb=>reals_any u E hE W' (hu.later hb) wu
 have HRQ:Hid (∀ W',Below w.heap.size w W' -> _):=fun W' hb=>reals_any q E hE W' (hq.later hb) wq
 rw [tk_N] at HSZU HSZQ
 obtain ⟨sz,hsz⟩:∃ b,sameZ (tkZ u) (tkZ q) = b:=⟨_,rfl⟩
 have HSZ0:Hid (sameZ (tkZ u) (tkZ q) = sz):=hsz
 rw [hsz]
 clear hsz
 have HTB:Hid ((tkZ u).bad = true -> (tkZ q).bad = true -> _):=same_bad hu hq
 have GU0:Hid (_ -> GdU u u.rn):=GdU.of hu wu
 have GQ0:Hid (_ -> GdU q q.rn):=GdU.of hq wq
 obtain ⟨ou,hou⟩:∃ b,(!u.bad && wholeB u) = b:=⟨_,rfl⟩
 obtain ⟨oq,hoq⟩:∃ b,(!q.bad && wholeB q) = b:=⟨_,rfl⟩
 have HO:Hid ((!u.bad && wholeB u) = ou /\ (!q.bad && wholeB q) = oq):=⟨hou,hoq⟩
 rw [hou] at HRU
 rw [hoq] at HRQ
 clear hou hoq hu hq wu wq hE
 have X0:Below w.heap.size w ((w.alloc (.cells (zRow u) 30)).alloc (.cells (zRow q) 30)):=((Below.refl _ w).alloc (Nat.le_refl _) _).alloc (by simp only [alloc_size];omega) _
 have Y0:((w.alloc (.cells (zRow u) 30)).alloc (.cells (zRow q) 30)).heap[w.heap.size]? = some (.cells (zRow u) 30):=alloc_kept (heap_alloc_new w _) _
 have Y1:((w.alloc (.cells (zRow u) 30)).alloc (.cells (zRow q) 30)).heap[w.heap.size + 1]? = some (.cells (zRow q) 30):=heap_at _ _ _ (by simp only [alloc_size])
 go_enter Tryz.func10,Tryz.ntmps10
 go_upto_region 1 with fail
 obtain ⟨X,hX⟩:∃ X,((w.alloc (.cells (zRow u) 30)).alloc (.cells (zRow q) 30)) = X:=⟨_,rfl⟩
 rw [hX] at X0 Y0 Y1 ⊢
 have HX:Hid _:=And.intro X0 (And.intro Y0 Y1)
 clear hX X0 Y0 Y1
 go_upto_region 2 with (first
  | (refine wpList_load_row (by rfl) 30 _ (by rfl) w.heap.size _ (by rfl) HX.out.2.1 _ Tryz.underlying30 rfl 6 Tryz.infoZu (by rfl) ?_)
  | (go_at_call 20;refine Calls.mono (HRU.out _ HX.out.1) ?_;rintro e w1 ⟨⟨N1,a1,l1,c1,d1,m1,e1,f1,o1,g1,h1,p1,r1,rfl,hr1⟩,b1⟩;have HRR1:Hid _:=hr1;clear hr1))
 have A1:Below w1.heap.size w1 (w1.alloc (.cells #[.int .i64 N1,.slice a1 l1 c1,.slice d1 m1 e1,.slice f1 o1 g1,.slice h1 p1 r1] 50)):=(Below.refl _ w1).alloc (Nat.le_refl _) _
 have E1:=heap_alloc_new w1 (.cells #[.int .i64 N1,.slice a1 l1 c1,.slice d1 m1 e1,.slice f1 o1 g1,.slice h1 p1 r1] 50)
 obtain ⟨X1,hX1⟩:∃ x,(w1.alloc (.cells #[.int .i64 N1,.slice a1 l1 c1,.slice d1 m1 e1,.slice f1 o1 g1,.slice h1 p1 r1] 50)) = x:=⟨_,rfl⟩
 rw [hX1] at A1 E1 ⊢
 have H1:Hid (Below w.heap.size w X1 /\ X1.heap[w.heap.size]? = some (.cells (zRow u) 30) /\ X1.heap[w.heap.size + 1]? = some (.cells (zRow q) 30) /\ X1.heap[w1.heap.size]? = some (.cells #[.int .i64 N1,.slice a1 l1 c1,.slice d1 m1 e1,.slice f1 o1 g1,.slice h1 p1 r1] 50)):=⟨to_call (to_call HX.out.1 b1) A1,kept A1 (kept b1 HX.out.2.1),kept A1 (kept b1 HX.out.2.2),E1⟩
 have G1:Hid (RlQ ou X1 E u N1 (.slice a1 l1 c1) (.slice h1 p1 r1) (.slice d1 m1 e1) (.slice f1 o1 g1)):=RlQ.mk (fun h=>HRR1.out h) A1
 obtain ⟨B6,hB6⟩:∃ x,w1.heap.size = x:=⟨_,rfl⟩
 rw [hB6] at H1 ⊢
 clear hX1 hB6 A1 E1 b1 HRR1 HX
 go_upto_region 3 with (first
  | (refine wpList_load_row (by rfl) 30 _ (by rfl) (w.heap.size + 1) _ (by rfl) H1.out.2.2.1 _ Tryz.underlying30 rfl 6 Tryz.infoZu (by rfl) ?_)
  | (go_at_call 20;refine Calls.mono (HRQ.out _ H1.out.1) ?_;rintro e w2 ⟨⟨N2,a2,l2,c2,d2,m2,e2,f2,o2,g2,h2,p2,r2,rfl,hr2⟩,b2⟩;have HRR2:Hid _:=hr2;clear hr2))
 have A2:Below w2.heap.size w2 (w2.alloc (.cells #[.int .i64 N2,.slice a2 l2 c2,.slice d2 m2 e2,.slice f2 o2 g2,.slice h2 p2 r2] 50)):=(Below.refl _ w2).alloc (Nat.le_refl _) _
 have E2:=heap_alloc_new w2 (.cells #[.int .i64 N2,.slice a2 l2 c2,.slice d2 m2 e2,.slice f2 o2 g2,.slice h2 p2 r2] 50)
 obtain ⟨X2,hX2⟩:∃ x,(w2.alloc (.cells #[.int .i64 N2,.slice a2 l2 c2,.slice d2 m2 e2,.slice f2 o2 g2,.slice h2 p2 r2] 50)) = x:=⟨_,rfl⟩
 rw [hX2] at A2 E2 ⊢
 have H2:Hid (Below w.heap.size w X2 /\ X2.heap[w.heap.size]? = some (.cells (zRow u) 30) /\ X2.heap[w.heap.size + 1]? = some (.cells (zRow q) 30) /\ X2.heap[B6]? = some (.cells #[.int .i64 N1,.slice a1 l1 c1,.slice d1 m1 e1,.slice f1 o1 g1,.slice h1 p1 r1] 50) /\ X2.heap[w2.heap.size]? = some (.cells #[.int .i64 N2,.slice a2 l2 c2,.slice d2 m2 e2,.slice f2 o2 g2,.slice h2 p2 r2] 50)):=⟨to_call (to_call H1.out.1 b2) A2,kept A2 (kept b2 H1.out.2.1),kept A2 (kept b2 H1.out.2.2.1),kept A2 (kept b2 H1.out.2.2.2),E2⟩
 have G2:Hid (RlQ oq X2 E q N2 (.slice a2 l2 c2) (.slice h2 p2 r2) (.slice d2 m2 e2) (.slice f2 o2 g2)):=RlQ.mk (fun h=>HRR2.out h) A2
 have G1:Hid (RlQ ou X2 E u N1 (.slice a1 l1 c1) (.slice h1 p1 r1) (.slice d1 m1 e1) (.slice f1 o1 g1)):=(G1.out.later b2).later A2
 obtain ⟨B8,hB8⟩:∃ x,w2.heap.size = x:=⟨_,rfl⟩
 rw [hB8] at H2 ⊢
 clear hX2 hB8 A2 E2 b2 HRR2 H1
 cases ou with
 | false=>
  cases oq with
  | false=>
   have HA0:=HTB.out (by rw [tk_badB,HO.out.1];rfl) (by rw [tk_badB,HO.out.2];rfl)
   obtain ⟨su,hsu⟩:∃ x,(tkZ u).N = x:=⟨_,rfl⟩
   obtain ⟨sq,hsq⟩:∃ x,(tkZ q).N = x:=⟨_,rfl⟩
   rw [HSZ0.out,hsu,hsq] at HA0
   rw [hsu] at HSZU
   rw [hsq] at HSZQ
   have HA:Hid _:=HA0
   clear hsu hsq HA0
   go_upto_region 4 with fail
   refine wp_region_noPanic ?_
   have SX:(fun V=>Below X2.heap.size X2 V) X2.drew:=(Below.refl _ X2).drew
   refine wp_region_held_drew (S:=(fun V=>Below X2.heap.size X2 V)) (by kernel_rfl) SX (fun _=>?_)
   refine tzI 27 0 ?_ ?_ SX ?_
   rotate_left
   ·intro w' hSw;go_simp;try with_reducible rfl
   (try simp only [pA,pE,pB,pC,pD])
   refine tzI 28 1 ?_ ?_ SX ?_
   rotate_left
   ·intro w' hSw;go_simp;try with_reducible rfl
   (try simp only [pA,pE,pB,pC,pD])
   refine tzI 29 2 ?_ ?_ SX ?_
   rotate_left
   ·intro w' hSw;go_simp;try with_reducible rfl
   (try simp only [pA,pE,pB,pC,pD])
   refine tzI 30 3 ?_ ?_ SX ?_
   rotate_left
   ·intro w' hSw;go_simp;try with_reducible rfl
   (try simp only [pA,pE,pB,pC,pD])
   refine tzI 31 4 ?_ ?_ SX ?_
   rotate_left
   ·intro w' hSw;go_simp;try with_reducible rfl
   (try simp only [pA,pE,pB,pC,pD])
   refine tzI 32 5 ?_ ?_ SX ?_
   rotate_left
   ·intro w' hSw;go_simp;try with_reducible rfl
   (try simp only [pA,pE,pB,pC,pD])
   refine tzI 33 6 ?_ ?_ SX ?_
   rotate_left
   ·intro w' hSw;go_simp;try with_reducible rfl
   (try simp only [pA,pE,pB,pC,pD])
   refine tzH 34 7 (.agg (zRow u)) (Or.inl ⟨by kernel_rfl,fun w' hSw=>ex_loadRN _ 30 _ rfl w.heap.size (by kernel_rfl) w' _ (kept hSw H2.out.2.1) _ Tryz.underlying30 rfl 6 Tryz.infoZu rfl⟩) SX ?_
   (try simp only [pA,pE,pB,pC,pD])
   refine tzH 36 9 (.agg (zRow q)) (Or.inl ⟨by kernel_rfl,fun w' hSw=>ex_loadRN _ 30 _ rfl (w.heap.size + 1) (by kernel_rfl) w' _ (kept hSw H2.out.2.2.1) _ Tryz.underlying30 rfl 6 Tryz.infoZu rfl⟩) SX ?_
   (try simp only [pA,pE,pB,pC,pD])
   refine rzH [8] ?_
   refine consH _ rfl (hzC 35 (Calls.mono (HSZU.out _ (to_call H2.out.1 SX)) ?_)) AllReadyH.nil
   rintro e V1 ⟨rfl,b1⟩
   have S1:(fun V=>Below X2.heap.size X2 V) V1:=to_call SX b1
   refine ⟨_,rfl,S1,?_⟩
   (try simp only [pA,pE,pB,pC,pD])
   refine rzH [10] ?_
   refine consH _ rfl (hzC 37 (Calls.mono (HSZQ.out _ (to_call H2.out.1 S1)) ?_)) AllReadyH.nil
   rintro e V2 ⟨rfl,b2⟩
   have S2:(fun V=>Below X2.heap.size X2 V) V2:=to_call S1 b2
   refine ⟨_,rfl,S2,?_⟩
   (try simp only [pA,pE,pB,pC,pD])
   refine tzI 38 11 ?_ ?_ S2 ?_
   rotate_left
   ·intro w' hSw;go_simp;try with_reducible rfl
   (try simp only [pA,pE,pB,pC,pD])
   refine tzI 39 12 ?_ ?_ S2 ?_
   rotate_left
   ·intro w' hSw;go_simp;try with_reducible rfl
   (try simp only [pA,pE,pB,pC,pD])
   refine tzI 4 13 ?_ ?_ S2 ?_
   rotate_left
   ·intro w' hSw;go_simp;try with_reducible rfl
   (try simp only [pA,pE,pB,pC,pD])
   refine wpAnyH_done (by kernel_rfl) ?_ _
   refine NoPanic.normal ?_
   (try simp only [pA,pE,pB,pC,pD])
   go_wp2_with fail
   go_ret
   exact ⟨by rw [HA.out];rfl,to_call H2.out.1 S2⟩
  | true=>
   have HA:Hid (sz = false):=HSZ0.out.symm.trans <| same_unlike (by rw [tk_badB,tk_badB,HO.out.1,HO.out.2];decide)
   go_upto_region 4 with fail
   refine wp_region_noPanic ?_
   have SX:(fun V=>Below X2.heap.size X2 V) X2.drew:=(Below.refl _ X2).drew
   refine wp_region_held_drew (S:=(fun V=>Below X2.heap.size X2 V)) (by kernel_rfl) SX (fun _=>?_)
   refine tzI 27 0 ?_ ?_ SX ?_
   rotate_left
   ·intro w' hSw;go_simp;try with_reducible rfl
   (try simp only [pA,pE,pB,pC,pD])
   refine tzI 28 1 ?_ ?_ SX ?_
   rotate_left
   ·intro w' hSw;go_simp;try with_reducible rfl
   (try simp only [pA,pE,pB,pC,pD])
   refine tzI 29 2 ?_ ?_ SX ?_
   rotate_left
   ·intro w' hSw;go_simp;try with_reducible rfl
   (try simp only [pA,pE,pB,pC,pD])
   refine tzI 30 3 ?_ ?_ SX ?_
   rotate_left
   ·intro w' hSw;go_simp;try with_reducible rfl
   (try simp only [pA,pE,pB,pC,pD])
   refine tzI 31 4 ?_ ?_ SX ?_
   rotate_left
   ·intro w' hSw;go_simp;try with_reducible rfl
   (try simp only [pA,pE,pB,pC,pD])
   refine tzI 32 5 ?_ ?_ SX ?_
   rotate_left
   ·intro w' hSw;go_simp;try with_reducible rfl
   (try simp only [pA,pE,pB,pC,pD])
   refine tzI 33 6 ?_ ?_ SX ?_
   rotate_left
   ·intro w' hSw;go_simp;try with_reducible rfl
   (try simp only [pA,pE,pB,pC,pD])
   refine tzH 34 7 (undef) (Or.inr ⟨by kernel_rfl,rfl⟩) SX ?_
   (try simp only [pA,pE,pB,pC,pD])
   refine tzH 35 8 (undef) (Or.inr ⟨by kernel_rfl,rfl⟩) SX ?_
   (try simp only [pA,pE,pB,pC,pD])
   refine tzH 36 9 (undef) (Or.inr ⟨by kernel_rfl,rfl⟩) SX ?_
   (try simp only [pA,pE,pB,pC,pD])
   refine tzH 37 10 (undef) (Or.inr ⟨by kernel_rfl,rfl⟩) SX ?_
   (try simp only [pA,pE,pB,pC,pD])
   refine tzH 38 11 (undef) (Or.inr ⟨by kernel_rfl,rfl⟩) SX ?_
   (try simp only [pA,pE,pB,pC,pD])
   refine tzI 39 12 ?_ ?_ SX ?_
   rotate_left
   ·intro w' hSw;go_simp;try with_reducible rfl
   (try simp only [pA,pE,pB,pC,pD])
   refine tzI 4 13 ?_ ?_ SX ?_
   rotate_left
   ·intro w' hSw;go_simp;try with_reducible rfl
   (try simp only [pA,pE,pB,pC,pD])
   refine wpAnyH_done (by kernel_rfl) ?_ _
   refine NoPanic.normal ?_
   (try simp only [pA,pE,pB,pC,pD])
   go_wp2_with fail
   go_ret
   exact ⟨by rw [HA.out];rfl,to_call H2.out.1 SX⟩
 | true=>
 cases oq with
 | false=>
  have HA:Hid (sz = false):=HSZ0.out.symm.trans <| same_unlike (by rw [tk_badB,tk_badB,HO.out.1,HO.out.2];decide)
  go_upto_region 4 with fail
  refine wp_region_noPanic ?_
  have SX:(fun V=>Below X2.heap.size X2 V) X2.drew:=(Below.refl _ X2).drew
  refine wp_region_held_drew (S:=(fun V=>Below X2.heap.size X2 V)) (by kernel_rfl) SX (fun _=>?_)
  refine tzI 27 0 ?_ ?_ SX ?_
  rotate_left
  ·intro w' hSw;go_simp;try with_reducible rfl
  (try simp only [pA,pE,pB,pC,pD])
  refine tzI 28 1 ?_ ?_ SX ?_
  rotate_left
  ·intro w' hSw;go_simp;try with_reducible rfl
  (try simp only [pA,pE,pB,pC,pD])
  refine tzI 29 2 ?_ ?_ SX ?_
  rotate_left
  ·intro w' hSw;go_simp;try with_reducible rfl
  (try simp only [pA,pE,pB,pC,pD])
  refine tzH 30 3 (undef) (Or.inr ⟨by kernel_rfl,rfl⟩) SX ?_
  (try simp only [pA,pE,pB,pC,pD])
  refine tzH 31 4 (undef) (Or.inr ⟨by kernel_rfl,rfl⟩) SX ?_
  (try simp only [pA,pE,pB,pC,pD])
  refine tzI 32 5 ?_ ?_ SX ?_
  rotate_left
  ·intro w' hSw;go_simp;try with_reducible rfl
  (try simp only [pA,pE,pB,pC,pD])
  refine tzI 33 6 ?_ ?_ SX ?_
  rotate_left
  ·intro w' hSw;go_simp;try with_reducible rfl
  (try simp only [pA,pE,pB,pC,pD])
  refine tzH 34 7 (undef) (Or.inr ⟨by kernel_rfl,rfl⟩) SX ?_
  (try simp only [pA,pE,pB,pC,pD])
  refine tzH 35 8 (undef) (Or.inr ⟨by kernel_rfl,rfl⟩) SX ?_
  (try simp only [pA,pE,pB,pC,pD])
  refine tzH 36 9 (undef) (Or.inr ⟨by kernel_rfl,rfl⟩) SX ?_
  (try simp only [pA,pE,pB,pC,pD])
  refine tzH 37 10 (undef) (Or.inr ⟨by kernel_rfl,rfl⟩) SX ?_
  (try simp only [pA,pE,pB,pC,pD])
  refine tzH 38 11 (undef) (Or.inr ⟨by kernel_rfl,rfl⟩) SX ?_
  (try simp only [pA,pE,pB,pC,pD])
  refine tzI 39 12 ?_ ?_ SX ?_
  rotate_left
  ·intro w' hSw;go_simp;try with_reducible rfl
  (try simp only [pA,pE,pB,pC,pD])
  refine tzI 4 13 ?_ ?_ SX ?_
  rotate_left
  ·intro w' hSw;go_simp;try with_reducible rfl
  (try simp only [pA,pE,pB,pC,pD])
  refine wpAnyH_done (by kernel_rfl) ?_ _
  refine NoPanic.normal ?_
  (try simp only [pA,pE,pB,pC,pD])
  go_wp2_with fail
  go_ret
  exact ⟨by rw [HA.out];rfl,to_call H2.out.1 SX⟩
 | true=>
 obtain ⟨rfl,gl1,BL1,HL1⟩:=G1.out rfl
 obtain ⟨rfl,gl2,BL2,HL2⟩:=G2.out rfl
 obtain ⟨ai,ci,hvi,hri⟩:=rdI_ownB HL1.i
 obtain ⟨v1,v2,v3⟩:=Value.slice.inj hvi
 subst d1 m1 e1
 obtain ⟨bi,di,hvj,hrj⟩:=rdI_ownB HL2.i
 obtain ⟨v1,v2,v3⟩:=Value.slice.inj hvj
 subst d2 m2 e2
 have HR1:Hid _:=HL1
 have HR2:Hid _:=HL2
 have HI12:Hid _:=And.intro hri hrj
 have GU:Hid _:=GU0.out HO.out.1
 have GQ:Hid _:=GQ0.out HO.out.2
 have HBD:Hid (u.bad = false /\ q.bad = false):=⟨(tk_good HO.out.1).1,(tk_good HO.out.2).1⟩
 have HSZ:Hid (sameZ u q = sz):=by rw [<- HSZ0.out,tk_self (tk_good HO.out.1).2.2,tk_self (tk_good HO.out.2).2.2];rfl
 clear HL1 HL2 hri hrj hvi hvj HSZ0 G1 G2 HRU HRQ HSZU HSZQ GU0 GQ0 HTB
 obtain ⟨x0,-,x2,-,-⟩:=(show _ /\ _ /\ _ /\ _ /\ _ from ⟨cellAtJ H2.out.2.2.2.1 0 _ rfl,cellAtJ H2.out.2.2.2.1 1 _ rfl,cellAtJ H2.out.2.2.2.1 2 _ rfl,cellAtJ H2.out.2.2.2.1 3 _ rfl,cellAtJ H2.out.2.2.2.1 4 _ rfl⟩)
 obtain ⟨y0,-,y2,-,-⟩:=(show _ /\ _ /\ _ /\ _ /\ _ from ⟨cellAtJ H2.out.2.2.2.2 0 _ rfl,cellAtJ H2.out.2.2.2.2 1 _ rfl,cellAtJ H2.out.2.2.2.2 2 _ rfl,cellAtJ H2.out.2.2.2.2 3 _ rfl,cellAtJ H2.out.2.2.2.2 4 _ rfl⟩)
 by_cases eN:u.N = q.N
 case neg=>
  have dn:(u.N == q.N) = false:=by simpa using eN
  have HF:sz = false:=by
   rw [<- HSZ.out]
   unfold sameZ
   rw [decide_eq_false eN]
   rfl
  clear eN
  subst HF
  go_wp2_with fail
  go_ret
  exact ⟨rfl,H2.out.1⟩
 have dn:(u.N == q.N) = true:=by simpa using eN
 have dn2:(u.N != q.N) = false:=by simpa using eN
 have hqn:q.rn = u.rn:=by have h1:=GU.out.N;have h2:=GQ.out.N;omega
 rw [hqn] at GQ
 obtain ⟨n,hnn⟩:∃ n,u.rn = n:=⟨_,rfl⟩
 rw [hnn] at GU GQ
 clear hqn hnn eN
 by_cases eL:u.ids.length = q.ids.length
 case neg=>
  have dl:((u.ids.length:Int) != (q.ids.length:Int)) = true:=by
   have:¬ ((u.ids.length:Int) = (q.ids.length:Int)):=by omega
   simpa using this
  have HF:sz = false:=by
   cases h:sz with
   | false=>rfl
   | true=>
    have h2:=HSZ.out
    rw [h] at h2
    unfold sameZ at h2
    simp only [Bool.and_eq_true,decide_eq_true_eq] at h2
    exact absurd (by rw [h2.1.1.1.2]) eL
  clear eL
  subst HF
  go_wp2_with fail
  go_ret
  exact ⟨rfl,H2.out.1⟩
 have dl:((u.ids.length:Int) != (q.ids.length:Int)) = false:=by simp [eL]
 have HEL:Hid (u.ids.length = q.ids.length):=eL
 have hn1:=GU.out.n1
 have hn2:=GU.out.n2
 obtain ⟨x1,y1,hv1,HX1⟩:=HR1.out.c.rd GU.out.c hn1
 obtain ⟨x4,y4,hv4,HX4⟩:=HR1.out.r.rd GU.out.r hn1
 obtain ⟨z1,t1,hv5,HZ1⟩:=HR2.out.c.rd GQ.out.c hn1
 obtain ⟨z4,t4,hv6,HZ4⟩:=HR2.out.r.rd GQ.out.r hn1
 have HXX:Hid _:=And.intro HX1 HX4
 have HZZ:Hid _:=And.intro HZ1 HZ4
 have HC6:Hid (∀ V,Below X2.heap.size X2 V -> _ /\ _ /\ _ /\ _ /\ _):=fun V hV=>⟨cellAtJ (kept hV H2.out.2.2.2.1) 0 _ rfl,cellAtJ (kept hV H2.out.2.2.2.1) 1 _ rfl,cellAtJ (kept hV H2.out.2.2.2.1) 2 _ rfl,cellAtJ (kept hV H2.out.2.2.2.1) 3 _ rfl,cellAtJ (kept hV H2.out.2.2.2.1) 4 _ rfl⟩
 have HC8:Hid (∀ V,Below X2.heap.size X2 V -> _ /\ _ /\ _ /\ _ /\ _):=fun V hV=>⟨cellAtJ (kept hV H2.out.2.2.2.2) 0 _ rfl,cellAtJ (kept hV H2.out.2.2.2.2) 1 _ rfl,cellAtJ (kept hV H2.out.2.2.2.2) 2 _ rfl,cellAtJ (kept hV H2.out.2.2.2.2) 3 _ rfl,cellAtJ (kept hV H2.out.2.2.2.2) 4 _ rfl⟩
 rw [hv1,hv4,GU.out.N] at HC6
 rw [hv5,hv6,GQ.out.N] at HC8
 have HRL:Hid (Below w.heap.size w X2):=H2.out.1
 clear hv1 hv4 hv5 hv6 HX1 HX4 HZ1 HZ4 eL
 go_wp2_with fail
 clear x0 x2 y0 y2 dn dn2 dl
 have d00:((0:Int) != 0) = false:=rfl
 go_loopg [9] n (fun g iv wx=>∃ i:Nat,iv = .int .i64 i /\ i + g = n /\ Hid (Below X2.heap.size X2 wx) /\ Hid (∀ j,j < i -> fval (u.cs[j]?.getD 0) = fval (q.cs[j]?.getD 0) /\ fval (u.rs[j]?.getD 0) = fval (q.rs[j]?.getD 0) /\ ∀ k,k < u.ids.length -> u.ids[k]?.getD 0 = q.ids[k]?.getD 0 /\ fval ((u.gs[k]?.getD [])[j]?.getD 0) = fval ((q.gs[k]?.getD [])[j]?.getD 0)))
 case atStart=>exact ⟨0,rfl,by omega,Below.refl _ _,fun j hj=>absurd hj (Nat.not_lt_zero _)⟩
 case round=>
  obtain ⟨i,rfl,hi,HBW,HEQ⟩:=hrel
  obtain ⟨k0,-,-,-,-⟩:=HC6.out wr HBW.out
  by_cases h1:i < n
  ·have hd1:decide ((i:Int) < (n:Int)) = true:=decide_eq_true (by omega)
   have h1':(i:Int) < (n:Int):=by omega
   obtain ⟨k,rfl⟩:∃ k,gk = k + 1:=⟨gk - 1,by omega⟩
   have HIG:Hid (i + (k + 1) = n):=hi
   obtain ⟨nx,ox,lx,cx,ex,hrx,hnx⟩:=HXX.out.1 i h1
   obtain ⟨ny,oy,ly,cy,ey,hry,hny⟩:=HZZ.out.1 i h1
   obtain ⟨nx2,ox2,lx2,cx2,ex2,hrx2,hnx2⟩:=HXX.out.2 i h1
   obtain ⟨ny2,oy2,ly2,cy2,ey2,hry2,hny2⟩:=HZZ.out.2 i h1
   have HNX:Hid _:=And.intro hrx hnx
   have HNY:Hid _:=And.intro hry hny
   have HRX:Hid _:=And.intro hrx2 hnx2
   have HRY:Hid _:=And.intro hry2 hny2
   have HCA:Hid (∀ V,Below X2.heap.size X2 V -> _):=fun V hV=>cmpZ_any _ _ E 1024 _ _ V (NumC.toZ (HNX.out.2.later hV)) (NumC.toZ (HNY.out.2.later hV)) (by have:=HE.out;omega) (by omega)
   have HCB:Hid (∀ V,Below X2.heap.size X2 V -> _):=fun V hV=>cmpZ_any _ _ E 1024 _ _ V (NumC.toZ (HRX.out.2.later hV)) (NumC.toZ (HRY.out.2.later hV)) (by have:=HE.out;omega) (by omega)
   obtain ⟨c1,hc1⟩:∃ c,sgi (fval (u.cs[i]?.getD 0) - fval (q.cs[i]?.getD 0)) = c:=⟨_,rfl⟩
   obtain ⟨c2,hc2⟩:∃ c,sgi (fval (u.rs[i]?.getD 0) - fval (q.rs[i]?.getD 0)) = c:=⟨_,rfl⟩
   rw [hc1] at HCA
   rw [hc2] at HCB
   have HCC1:Hid _:=hc1
   have HCC2:Hid _:=hc2
   clear hi hrx hnx hry hny hrx2 hnx2 hry2 hny2 hc1 hc2
   go_upto_region 10 with fail
   clear k0
   refine wp_region_noPanic ?_
   have SX:(fun V=>Below X2.heap.size X2 V) wr.drew:=HBW.out.drew
   refine wp_region_held_drew (S:=(fun V=>Below X2.heap.size X2 V)) (by kernel_rfl) SX (fun _=>?_)
   refine tzI 60 0 ?_ ?_ SX ?_
   rotate_left
   ·intro w' hSw;go_simp;try with_reducible rfl
   (try simp only [pA,pE,pB,pC,pD])
   refine tzI 61 1 ?_ ?_ SX ?_
   rotate_left
   ·intro w' hSw;obtain ⟨_,k1,k2,k3,k4⟩:=HC6.out w' hSw;obtain ⟨_,j1,j2,j3,j4⟩:=HC8.out w' hSw;go_simp;try with_reducible rfl
   (try simp only [pA,pE,pB,pC,pD])
   refine tzI 62 2 ?_ ?_ SX ?_
   rotate_left
   ·intro w' hSw;go_simp;try with_reducible rfl
   (try simp only [pA,pE,pB,pC,pD])
   refine tzI 63 3 ?_ ?_ SX ?_
   rotate_left
   ·intro w' hSw;go_simp;try with_reducible rfl
   (try simp only [pA,pE,pB,pC,pD])
   refine tzH 64 4 (.agg #[.bool nx,.slice ox lx cx,.int .i64 ex]) (yieldsIf_load_mid (by kernel_rfl) 56 _ rfl x1 (i * 3) (by kernel_rfl) #[.bool nx,.slice ox lx cx,.int .i64 ex].toList _ (fun V hS=>range_later HNX.out.1 hS) Tryz.underlying56 rfl (by kernel_rfl)) SX ?_
   (try simp only [pA,pE,pB,pC,pD])
   refine tzI 65 5 ?_ ?_ SX ?_
   rotate_left
   ·intro w' hSw;go_simp;try with_reducible rfl
   (try simp only [pA,pE,pB,pC,pD])
   refine tzI 66 6 ?_ ?_ SX ?_
   rotate_left
   ·intro w' hSw;obtain ⟨_,k1,k2,k3,k4⟩:=HC6.out w' hSw;obtain ⟨_,j1,j2,j3,j4⟩:=HC8.out w' hSw;go_simp;try with_reducible rfl
   (try simp only [pA,pE,pB,pC,pD])
   refine tzI 67 7 ?_ ?_ SX ?_
   rotate_left
   ·intro w' hSw;go_simp;try with_reducible rfl
   (try simp only [pA,pE,pB,pC,pD])
   refine tzI 68 8 ?_ ?_ SX ?_
   rotate_left
   ·intro w' hSw;go_simp;try with_reducible rfl
   (try simp only [pA,pE,pB,pC,pD])
   refine tzH 69 9 (.agg #[.bool ny,.slice oy ly cy,.int .i64 ey]) (yieldsIf_load_mid (by kernel_rfl) 56 _ rfl z1 (i * 3) (by kernel_rfl) #[.bool ny,.slice oy ly cy,.int .i64 ey].toList _ (fun V hS=>range_later HNY.out.1 hS) Tryz.underlying56 rfl (by kernel_rfl)) SX ?_
   (try simp only [pA,pE,pB,pC,pD])
   refine rzH [10] ?_
   refine consH _ rfl (hzC 70 (Calls.mono (HCA.out _ SX) ?_)) AllReadyH.nil
   rintro e V1 ⟨rfl,b1⟩
   have SV1:(fun V=>Below X2.heap.size X2 V) V1:=to_call SX b1
   refine ⟨_,rfl,SV1,?_⟩
   (try simp only [pA,pE,pB,pC,pD])
   by_cases e1:fval (u.cs[i]?.getD 0) = fval (q.cs[i]?.getD 0)
   case neg=>
    have hs:(c1 != 0) = true:=by rw [<- HCC1.out];exact sgi_ne e1
    have HNE:Hid _:=e1
    clear e1
    refine tzI 71 11 ?_ ?_ SV1 ?_
    rotate_left
    ·intro w' hSw;go_simp;try with_reducible rfl
    (try simp only [pA,pE,pB,pC,pD])
    refine tzI 72 12 ?_ ?_ SV1 ?_
    rotate_left
    ·intro w' hSw;go_simp;try with_reducible rfl
    (try simp only [pA,pE,pB,pC,pD])
    refine tzH 73 13 (undef) (Or.inr ⟨by kernel_rfl,rfl⟩) SV1 ?_
    (try simp only [pA,pE,pB,pC,pD])
    refine tzH 74 14 (undef) (Or.inr ⟨by kernel_rfl,rfl⟩) SV1 ?_
    (try simp only [pA,pE,pB,pC,pD])
    refine tzH 75 15 (undef) (Or.inr ⟨by kernel_rfl,rfl⟩) SV1 ?_
    (try simp only [pA,pE,pB,pC,pD])
    refine tzH 76 16 (undef) (Or.inr ⟨by kernel_rfl,rfl⟩) SV1 ?_
    (try simp only [pA,pE,pB,pC,pD])
    refine tzH 77 17 (undef) (Or.inr ⟨by kernel_rfl,rfl⟩) SV1 ?_
    (try simp only [pA,pE,pB,pC,pD])
    refine tzH 78 18 (undef) (Or.inr ⟨by kernel_rfl,rfl⟩) SV1 ?_
    (try simp only [pA,pE,pB,pC,pD])
    refine tzH 79 19 (undef) (Or.inr ⟨by kernel_rfl,rfl⟩) SV1 ?_
    (try simp only [pA,pE,pB,pC,pD])
    refine tzH 80 20 (undef) (Or.inr ⟨by kernel_rfl,rfl⟩) SV1 ?_
    (try simp only [pA,pE,pB,pC,pD])
    refine tzH 81 21 (undef) (Or.inr ⟨by kernel_rfl,rfl⟩) SV1 ?_
    (try simp only [pA,pE,pB,pC,pD])
    refine tzH 82 22 (undef) (Or.inr ⟨by kernel_rfl,rfl⟩) SV1 ?_
    (try simp only [pA,pE,pB,pC,pD])
    refine tzH 83 23 (undef) (Or.inr ⟨by kernel_rfl,rfl⟩) SV1 ?_
    (try simp only [pA,pE,pB,pC,pD])
    refine tzH 84 24 (undef) (Or.inr ⟨by kernel_rfl,rfl⟩) SV1 ?_
    (try simp only [pA,pE,pB,pC,pD])
    refine tzI 85 25 ?_ ?_ SV1 ?_
    rotate_left
    ·intro w' hSw;go_simp;try with_reducible rfl
    (try simp only [pA,pE,pB,pC,pD])
    refine wpAnyH_done (by kernel_rfl) ?_ _
    refine NoPanic.normal ?_
    (try simp only [pA,pE,pB,pC,pD])
    have HBV:Hid (Below X2.heap.size X2 _):=SV1
    have HF:sz = false:=by
     cases h:sz with
     | false=>rfl
     | true=>
      have h2:=HSZ.out
      rw [h,same_iff GU.out GQ.out HBD.out.1 HBD.out.2 HEL.out] at h2
      exact absurd (h2.2.1 i h1) HNE.out
    subst HF
    go_wp2_with fail
    go_ret
    exact ⟨rfl,to_call HRL.out HBV.out⟩
   obtain rfl:c1 = 0:=by rw [<- HCC1.out,e1,Int.sub_self];rfl
   have HE1:Hid _:=e1
   clear e1 HCC1
   refine tzI 71 11 ?_ ?_ SV1 ?_
   rotate_left
   ·intro w' hSw;go_simp;try with_reducible rfl
   (try simp only [pA,pE,pB,pC,pD])
   refine tzI 72 12 ?_ ?_ SV1 ?_
   rotate_left
   ·intro w' hSw;go_simp;try with_reducible rfl
   (try simp only [pA,pE,pB,pC,pD])
   refine tzI 73 13 ?_ ?_ SV1 ?_
   rotate_left
   ·intro w' hSw;go_simp;try with_reducible rfl
   (try simp only [pA,pE,pB,pC,pD])
   refine tzI 74 14 ?_ ?_ SV1 ?_
   rotate_left
   ·intro w' hSw;obtain ⟨_,k1,k2,k3,k4⟩:=HC6.out w' hSw;obtain ⟨_,j1,j2,j3,j4⟩:=HC8.out w' hSw;go_simp;try with_reducible rfl
   (try simp only [pA,pE,pB,pC,pD])
   refine tzI 75 15 ?_ ?_ SV1 ?_
   rotate_left
   ·intro w' hSw;go_simp;try with_reducible rfl
   (try simp only [pA,pE,pB,pC,pD])
   refine tzI 76 16 ?_ ?_ SV1 ?_
   rotate_left
   ·intro w' hSw;go_simp;try with_reducible rfl
   (try simp only [pA,pE,pB,pC,pD])
   refine tzH 77 17 (.agg #[.bool nx2,.slice ox2 lx2 cx2,.int .i64 ex2]) (yieldsIf_load_mid (by kernel_rfl) 56 _ rfl x4 (i * 3) (by kernel_rfl) #[.bool nx2,.slice ox2 lx2 cx2,.int .i64 ex2].toList _ (fun V hS=>range_later HRX.out.1 hS) Tryz.underlying56 rfl (by kernel_rfl)) SV1 ?_
   (try simp only [pA,pE,pB,pC,pD])
   refine tzI 78 18 ?_ ?_ SV1 ?_
   rotate_left
   ·intro w' hSw;go_simp;try with_reducible rfl
   (try simp only [pA,pE,pB,pC,pD])
   refine tzI 79 19 ?_ ?_ SV1 ?_
   rotate_left
   ·intro w' hSw;obtain ⟨_,k1,k2,k3,k4⟩:=HC6.out w' hSw;obtain ⟨_,j1,j2,j3,j4⟩:=HC8.out w' hSw;go_simp;try with_reducible rfl
   (try simp only [pA,pE,pB,pC,pD])
   refine tzI 80 20 ?_ ?_ SV1 ?_
   rotate_left
   ·intro w' hSw;go_simp;try with_reducible rfl
   (try simp only [pA,pE,pB,pC,pD])
   refine tzI 81 21 ?_ ?_ SV1 ?_
   rotate_left
   ·intro w' hSw;go_simp;try with_reducible rfl
   (try simp only [pA,pE,pB,pC,pD])
   refine tzH 82 22 (.agg #[.bool ny2,.slice oy2 ly2 cy2,.int .i64 ey2]) (yieldsIf_load_mid (by kernel_rfl) 56 _ rfl z4 (i * 3) (by kernel_rfl) #[.bool ny2,.slice oy2 ly2 cy2,.int .i64 ey2].toList _ (fun V hS=>range_later HRY.out.1 hS) Tryz.underlying56 rfl (by kernel_rfl)) SV1 ?_
   (try simp only [pA,pE,pB,pC,pD])
   refine rzH [23] ?_
   refine consH _ rfl (hzC 83 (Calls.mono (HCB.out _ SV1) ?_)) AllReadyH.nil
   rintro e V2 ⟨rfl,b2⟩
   have SV2:(fun V=>Below X2.heap.size X2 V) V2:=to_call SV1 b2
   refine ⟨_,rfl,SV2,?_⟩
   (try simp only [pA,pE,pB,pC,pD])
   by_cases e2:fval (u.rs[i]?.getD 0) = fval (q.rs[i]?.getD 0)
   case neg=>
    have hs:(c2 != 0) = true:=by rw [<- HCC2.out];exact sgi_ne e2
    have HNE:Hid _:=e2
    clear e2
    refine tzI 84 24 ?_ ?_ SV2 ?_
    rotate_left
    ·intro w' hSw;go_simp;try with_reducible rfl
    (try simp only [pA,pE,pB,pC,pD])
    refine tzI 85 25 ?_ ?_ SV2 ?_
    rotate_left
    ·intro w' hSw;go_simp;try with_reducible rfl
    (try simp only [pA,pE,pB,pC,pD])
    refine wpAnyH_done (by kernel_rfl) ?_ _
    refine NoPanic.normal ?_
    (try simp only [pA,pE,pB,pC,pD])
    have HBV:Hid (Below X2.heap.size X2 _):=SV2
    have HF:sz = false:=by
     cases h:sz with
     | false=>rfl
     | true=>
      have h2:=HSZ.out
      rw [h,same_iff GU.out GQ.out HBD.out.1 HBD.out.2 HEL.out] at h2
      exact absurd (h2.2.2.1 i h1) HNE.out
    subst HF
    go_wp2_with fail
    go_ret
    exact ⟨rfl,to_call HRL.out HBV.out⟩
   obtain rfl:c2 = 0:=by rw [<- HCC2.out,e2,Int.sub_self];rfl
   have HE2:Hid _:=e2
   clear e2 HCC2
   refine tzI 84 24 ?_ ?_ SV2 ?_
   rotate_left
   ·intro w' hSw;go_simp;try with_reducible rfl
   (try simp only [pA,pE,pB,pC,pD])
   refine tzI 85 25 ?_ ?_ SV2 ?_
   rotate_left
   ·intro w' hSw;go_simp;try with_reducible rfl
   (try simp only [pA,pE,pB,pC,pD])
   refine wpAnyH_done (by kernel_rfl) ?_ _
   refine NoPanic.normal ?_
   (try simp only [pA,pE,pB,pC,pD])
   have HBV:Hid (Below X2.heap.size X2 _):=SV2
   clear HCA HCB HRX HRY HNX HNY SV1 SV2 SX b1 b2
   go_wp2_with fail
   go_loopg [10] u.ids.length (fun g iv wx=>∃ k:Nat,iv = .int .i64 k /\ k + g = u.ids.length /\ Hid (Below X2.heap.size X2 wx) /\ Hid (∀ j,j < k -> u.ids[j]?.getD 0 = q.ids[j]?.getD 0 /\ fval ((u.gs[j]?.getD [])[i]?.getD 0) = fval ((q.gs[j]?.getD [])[i]?.getD 0)))
   case atStart=>exact ⟨0,rfl,by omega,HBV,fun j hj=>absurd hj (Nat.not_lt_zero _)⟩
   case round=>
    obtain ⟨m,rfl,hm,HBK,HEK⟩:=hrel
    obtain ⟨-,-,k2,-,-⟩:=HC6.out wr HBK.out
    by_cases h2:m < u.ids.length
    ·have hd2:decide ((m:Int) < (u.ids.length:Int)) = true:=decide_eq_true (by omega)
     have h2':(m:Int) < (u.ids.length:Int):=by omega
     have h2q:m < q.ids.length:=by rw [<- HEL.out];exact h2
     have h2q':(m:Int) < (q.ids.length:Int):=by omega
     obtain ⟨p,rfl⟩:∃ p,gk = p + 1:=⟨gk - 1,by omega⟩
     have HMG:Hid (m + (p + 1) = u.ids.length):=hm
     have hm4:m + 1 <= 4000000:=by (have h3:u.ids.length <= 1050000:=by (rw [GU.out.ig];exact GU.out.few));omega
     rcases HI12.out.1.cells with h0 | ⟨gi,oi,hio,hci⟩
     ·omega
     rcases HI12.out.2.cells with h0 | ⟨gj,oj,hjo,hcj⟩
     ·omega
     subst hio
     subst hjo
     have HID:Hid (∀ V,Below X2.heap.size X2 V -> V.cell? ⟨gi,oi + m,none⟩ = some (.int .i64 (u.ids[m]?.getD 0))):=fun V hb=>(hb.cell (World.block_lt_of_cell? _ _ (hci m h2))).trans (hci m h2)
     have HJD:Hid (∀ V,Below X2.heap.size X2 V -> V.cell? ⟨gj,oj + m,none⟩ = some (.int .i64 (q.ids[m]?.getD 0))):=fun V hb=>(hb.cell (World.block_lt_of_cell? _ _ (hcj m h2q))).trans (hcj m h2q)
     obtain ⟨ia,hia⟩:∃ x:Int,u.ids[m]?.getD 0 = x:=⟨_,rfl⟩
     obtain ⟨ib,hib⟩:∃ x:Int,q.ids[m]?.getD 0 = x:=⟨_,rfl⟩
     have HIA:Hid (u.ids[m]?.getD 0 = ia /\ q.ids[m]?.getD 0 = ib):=⟨hia,hib⟩
     rw [hia] at HID
     rw [hib] at HJD
     have lg1:gl1.length = u.ids.length:=by rw [HR1.out.len,GU.out.ig]
     have lg2:gl2.length = q.ids.length:=by rw [HR2.out.len,GQ.out.ig]
     obtain ⟨fo,fcap,hfv,-,hfc⟩:=owns_slice HR1.out.g
     obtain ⟨ho,hcap,hhv,-,hhc⟩:=owns_slice HR2.out.g
     rw [lg1] at hfv hfc
     rw [lg2] at hhv hhc
     rcases hfc with h0 | ⟨gg,hfo,hfc⟩
     ·omega
     rcases hhc with h0 | ⟨gh,hho,hhc⟩
     ·omega
     subst hfo
     subst hho
     have hgm:=hfc m h2
     have hhm:=hhc m h2q
     rw [List.getElem?_eq_getElem (show m < gl1.length by omega)] at hgm
     rw [List.getElem?_eq_getElem (show m < gl2.length by omega)] at hhm
     obtain ⟨bk,kk,hbv,HGK⟩:=(HR1.out.col m _ (List.getElem?_eq_getElem (show m < gl1.length by omega))).rd (GU.out.g m (by rw [<- GU.out.ig];exact h2)) hn1
     obtain ⟨ck,kc,hcv,HGC⟩:=(HR2.out.col m _ (List.getElem?_eq_getElem (show m < gl2.length by omega))).rd (GQ.out.g m (by rw [<- GQ.out.ig];exact h2q)) hn1
     rw [hbv] at hgm
     rw [hcv] at hhm
     have HGX:Hid (∀ V,Below X2.heap.size X2 V -> V.cell? ⟨gg,m,none⟩ = some (.slice (some ⟨bk,0,none⟩) n kk)):=fun V hb=>(hb.cell (World.block_lt_of_cell? _ _ hgm)).trans hgm
     have HGY:Hid (∀ V,Below X2.heap.size X2 V -> V.cell? ⟨gh,m,none⟩ = some (.slice (some ⟨ck,0,none⟩) n kc)):=fun V hb=>(hb.cell (World.block_lt_of_cell? _ _ hhm)).trans hhm
     rw [hfv] at HC6
     rw [hhv] at HC8
     obtain ⟨nx,ox,lx,cx,ex,hrx,hnx⟩:=HGK i h1
     obtain ⟨ny,oy,ly,cy,ey,hry,hny⟩:=HGC i h1
     have HNX:Hid _:=And.intro hrx hnx
     have HNY:Hid _:=And.intro hry hny
     have HCC:Hid (∀ V,Below X2.heap.size X2 V -> _):=fun V hV=>cmpZ_any _ _ E 1024 _ _ V (NumC.toZ (HNX.out.2.later hV)) (NumC.toZ (HNY.out.2.later hV)) (by have:=HE.out;omega) (by omega)
     obtain ⟨c3,hc3⟩:∃ c,sgi (fval ((u.gs[m]?.getD [])[i]?.getD 0) - fval ((q.gs[m]?.getD [])[i]?.getD 0)) = c:=⟨_,rfl⟩
     rw [hc3] at HCC
     have HCC3:Hid _:=hc3
     clear hci hcj hm hia hib hfv hhv hfc hhc hgm hhm hbv hcv HGK HGC hrx hnx hry hny lg1 lg2 hc3
     go_upto_region 15 with fail
     clear k2
     refine wp_region_noPanic ?_
     have SX:(fun V=>Below X2.heap.size X2 V) wr.drew:=HBK.out.drew
     refine wp_region_held_drew (S:=(fun V=>Below X2.heap.size X2 V)) (by kernel_rfl) SX (fun _=>?_)
     refine tzI 93 0 ?_ ?_ SX ?_
     rotate_left
     ·intro w' hSw;go_simp;try with_reducible rfl
     (try simp only [pA,pE,pB,pC,pD])
     refine tzI 94 1 ?_ ?_ SX ?_
     rotate_left
     ·intro w' hSw;obtain ⟨_,k1,k2,k3,k4⟩:=HC6.out w' hSw;obtain ⟨_,j1,j2,j3,j4⟩:=HC8.out w' hSw;go_simp;try with_reducible rfl
     (try simp only [pA,pE,pB,pC,pD])
     refine tzI 95 2 ?_ ?_ SX ?_
     rotate_left
     ·intro w' hSw;go_simp;try with_reducible rfl
     (try simp only [pA,pE,pB,pC,pD])
     refine tzI 96 3 ?_ ?_ SX ?_
     rotate_left
     ·intro w' hSw;go_simp;try with_reducible rfl
     (try simp only [pA,pE,pB,pC,pD])
     refine tzI 97 4 ?_ ?_ SX ?_
     rotate_left
     ·intro w' hSw;have c9:=HID.out w' hSw;go_simp;try with_reducible rfl
     (try simp only [pA,pE,pB,pC,pD])
     refine tzI 98 5 ?_ ?_ SX ?_
     rotate_left
     ·intro w' hSw;go_simp;try with_reducible rfl
     (try simp only [pA,pE,pB,pC,pD])
     refine tzI 99 6 ?_ ?_ SX ?_
     rotate_left
     ·intro w' hSw;obtain ⟨_,k1,k2,k3,k4⟩:=HC6.out w' hSw;obtain ⟨_,j1,j2,j3,j4⟩:=HC8.out w' hSw;go_simp;try with_reducible rfl
     (try simp only [pA,pE,pB,pC,pD])
     refine tzI 100 7 ?_ ?_ SX ?_
     rotate_left
     ·intro w' hSw;go_simp;try with_reducible rfl
     (try simp only [pA,pE,pB,pC,pD])
     refine tzI 101 8 ?_ ?_ SX ?_
     rotate_left
     ·intro w' hSw;go_simp;try with_reducible rfl
     (try simp only [pA,pE,pB,pC,pD])
     refine tzI 102 9 ?_ ?_ SX ?_
     rotate_left
     ·intro w' hSw;have c9:=HJD.out w' hSw;go_simp;try with_reducible rfl
     (try simp only [pA,pE,pB,pC,pD])
     by_cases e3:ia = ib
     case neg=>
      have hs:(ia != ib) = true:=by simpa using e3
      have HNE:Hid _:=e3
      clear e3
      refine tzI 103 10 ?_ ?_ SX ?_
      rotate_left
      ·intro w' hSw;go_simp;try with_reducible rfl
      (try simp only [pA,pE,pB,pC,pD])
      refine tzI 104 11 ?_ ?_ SX ?_
      rotate_left
      ·intro w' hSw;go_simp;try with_reducible rfl
      (try simp only [pA,pE,pB,pC,pD])
      refine tzH 105 12 (undef) (Or.inr ⟨by kernel_rfl,rfl⟩) SX ?_
      (try simp only [pA,pE,pB,pC,pD])
      refine tzH 106 13 (undef) (Or.inr ⟨by kernel_rfl,rfl⟩) SX ?_
      (try simp only [pA,pE,pB,pC,pD])
      refine tzH 107 14 (undef) (Or.inr ⟨by kernel_rfl,rfl⟩) SX ?_
      (try simp only [pA,pE,pB,pC,pD])
      refine tzH 108 15 (undef) (Or.inr ⟨by kernel_rfl,rfl⟩) SX ?_
      (try simp only [pA,pE,pB,pC,pD])
      refine tzH 109 16 (undef) (Or.inr ⟨by kernel_rfl,rfl⟩) SX ?_
      (try simp only [pA,pE,pB,pC,pD])
      refine tzH 110 17 (undef) (Or.inr ⟨by kernel_rfl,rfl⟩) SX ?_
      (try simp only [pA,pE,pB,pC,pD])
      refine tzH 111 18 (undef) (Or.inr ⟨by kernel_rfl,rfl⟩) SX ?_
      (try simp only [pA,pE,pB,pC,pD])
      refine tzH 112 19 (undef) (Or.inr ⟨by kernel_rfl,rfl⟩) SX ?_
      (try simp only [pA,pE,pB,pC,pD])
      refine tzH 113 20 (undef) (Or.inr ⟨by kernel_rfl,rfl⟩) SX ?_
      (try simp only [pA,pE,pB,pC,pD])
      refine tzH 114 21 (undef) (Or.inr ⟨by kernel_rfl,rfl⟩) SX ?_
      (try simp only [pA,pE,pB,pC,pD])
      refine tzH 115 22 (undef) (Or.inr ⟨by kernel_rfl,rfl⟩) SX ?_
      (try simp only [pA,pE,pB,pC,pD])
      refine tzH 116 23 (undef) (Or.inr ⟨by kernel_rfl,rfl⟩) SX ?_
      (try simp only [pA,pE,pB,pC,pD])
      refine tzH 117 24 (undef) (Or.inr ⟨by kernel_rfl,rfl⟩) SX ?_
      (try simp only [pA,pE,pB,pC,pD])
      refine tzH 118 25 (undef) (Or.inr ⟨by kernel_rfl,rfl⟩) SX ?_
      (try simp only [pA,pE,pB,pC,pD])
      refine tzH 119 26 (undef) (Or.inr ⟨by kernel_rfl,rfl⟩) SX ?_
      (try simp only [pA,pE,pB,pC,pD])
      refine tzH 120 27 (undef) (Or.inr ⟨by kernel_rfl,rfl⟩) SX ?_
      (try simp only [pA,pE,pB,pC,pD])
      refine tzH 121 28 (undef) (Or.inr ⟨by kernel_rfl,rfl⟩) SX ?_
      (try simp only [pA,pE,pB,pC,pD])
      refine tzH 122 29 (undef) (Or.inr ⟨by kernel_rfl,rfl⟩) SX ?_
      (try simp only [pA,pE,pB,pC,pD])
      refine tzI 123 30 ?_ ?_ SX ?_
      rotate_left
      ·intro w' hSw;go_simp;try with_reducible rfl
      (try simp only [pA,pE,pB,pC,pD])
      refine wpAnyH_done (by kernel_rfl) ?_ _
      refine NoPanic.normal ?_
      (try simp only [pA,pE,pB,pC,pD])
      have HBV:Hid (Below X2.heap.size X2 _):=SX
      have HF:sz = false:=by
       cases h:sz with
       | false=>rfl
       | true=>
        have h2:=HSZ.out
        rw [h,same_iff GU.out GQ.out HBD.out.1 HBD.out.2 HEL.out] at h2
        exact absurd (by rw [<- HIA.out.1,<- HIA.out.2,h2.1]) HNE.out
      subst HF
      go_wp2_with fail
      go_ret
      exact ⟨rfl,to_call HRL.out HBV.out⟩
     have hs:(ia != ib) = false:=by simpa using e3
     have HE3:Hid (u.ids[m]?.getD 0 = q.ids[m]?.getD 0):=by rw [HIA.out.1,HIA.out.2];exact e3
     clear e3
     refine tzI 103 10 ?_ ?_ SX ?_
     rotate_left
     ·intro w' hSw;go_simp;try with_reducible rfl
     (try simp only [pA,pE,pB,pC,pD])
     refine tzI 104 11 ?_ ?_ SX ?_
     rotate_left
     ·intro w' hSw;go_simp;try with_reducible rfl
     (try simp only [pA,pE,pB,pC,pD])
     refine tzI 105 12 ?_ ?_ SX ?_
     rotate_left
     ·intro w' hSw;go_simp;try with_reducible rfl
     (try simp only [pA,pE,pB,pC,pD])
     refine tzI 106 13 ?_ ?_ SX ?_
     rotate_left
     ·intro w' hSw;obtain ⟨_,k1,k2,k3,k4⟩:=HC6.out w' hSw;obtain ⟨_,j1,j2,j3,j4⟩:=HC8.out w' hSw;go_simp;try with_reducible rfl
     (try simp only [pA,pE,pB,pC,pD])
     refine tzI 107 14 ?_ ?_ SX ?_
     rotate_left
     ·intro w' hSw;go_simp;try with_reducible rfl
     (try simp only [pA,pE,pB,pC,pD])
     refine tzI 108 15 ?_ ?_ SX ?_
     rotate_left
     ·intro w' hSw;go_simp;try with_reducible rfl
     (try simp only [pA,pE,pB,pC,pD])
     refine tzI 109 16 ?_ ?_ SX ?_
     rotate_left
     ·intro w' hSw;have c9:=HGX.out w' hSw;go_simp;try with_reducible rfl
     (try simp only [pA,pE,pB,pC,pD])
     refine tzI 110 17 ?_ ?_ SX ?_
     rotate_left
     ·intro w' hSw;go_simp;try with_reducible rfl
     (try simp only [pA,pE,pB,pC,pD])
     refine tzI 111 18 ?_ ?_ SX ?_
     rotate_left
     ·intro w' hSw;go_simp;try with_reducible rfl
     (try simp only [pA,pE,pB,pC,pD])
     refine tzH 112 19 (.agg #[.bool nx,.slice ox lx cx,.int .i64 ex]) (yieldsIf_load_mid (by kernel_rfl) 56 _ rfl bk (i * 3) (by kernel_rfl) #[.bool nx,.slice ox lx cx,.int .i64 ex].toList _ (fun V hS=>range_later HNX.out.1 hS) Tryz.underlying56 rfl (by kernel_rfl)) SX ?_
     (try simp only [pA,pE,pB,pC,pD])
     refine tzI 113 20 ?_ ?_ SX ?_
     rotate_left
     ·intro w' hSw;go_simp;try with_reducible rfl
     (try simp only [pA,pE,pB,pC,pD])
     refine tzI 114 21 ?_ ?_ SX ?_
     rotate_left
     ·intro w' hSw;obtain ⟨_,k1,k2,k3,k4⟩:=HC6.out w' hSw;obtain ⟨_,j1,j2,j3,j4⟩:=HC8.out w' hSw;go_simp;try with_reducible rfl
     (try simp only [pA,pE,pB,pC,pD])
     refine tzI 115 22 ?_ ?_ SX ?_
     rotate_left
     ·intro w' hSw;go_simp;try with_reducible rfl
     (try simp only [pA,pE,pB,pC,pD])
     refine tzI 116 23 ?_ ?_ SX ?_
     rotate_left
     ·intro w' hSw;go_simp;try with_reducible rfl
     (try simp only [pA,pE,pB,pC,pD])
     refine tzI 117 24 ?_ ?_ SX ?_
     rotate_left
     ·intro w' hSw;have c9:=HGY.out w' hSw;go_simp;try with_reducible rfl
     (try simp only [pA,pE,pB,pC,pD])
     refine tzI 118 25 ?_ ?_ SX ?_
     rotate_left
     ·intro w' hSw;go_simp;try with_reducible rfl
     (try simp only [pA,pE,pB,pC,pD])
     refine tzI 119 26 ?_ ?_ SX ?_
     rotate_left
     ·intro w' hSw;go_simp;try with_reducible rfl
     (try simp only [pA,pE,pB,pC,pD])
     refine tzH 120 27 (.agg #[.bool ny,.slice oy ly cy,.int .i64 ey]) (yieldsIf_load_mid (by kernel_rfl) 56 _ rfl ck (i * 3) (by kernel_rfl) #[.bool ny,.slice oy ly cy,.int .i64 ey].toList _ (fun V hS=>range_later HNY.out.1 hS) Tryz.underlying56 rfl (by kernel_rfl)) SX ?_
     (try simp only [pA,pE,pB,pC,pD])
     refine rzH [28] ?_
     refine consH _ rfl (hzC 121 (Calls.mono (HCC.out _ SX) ?_)) AllReadyH.nil
     rintro e V1 ⟨rfl,b1⟩
     have SV1:(fun V=>Below X2.heap.size X2 V) V1:=to_call SX b1
     refine ⟨_,rfl,SV1,?_⟩
     (try simp only [pA,pE,pB,pC,pD])
     by_cases e4:fval ((u.gs[m]?.getD [])[i]?.getD 0) = fval ((q.gs[m]?.getD [])[i]?.getD 0)
     case neg=>
      have hs2:(c3 != 0) = true:=by rw [<- HCC3.out];exact sgi_ne e4
      have HNE:Hid _:=e4
      clear e4
      refine tzI 122 29 ?_ ?_ SV1 ?_
      rotate_left
      ·intro w' hSw;go_simp;try with_reducible rfl
      (try simp only [pA,pE,pB,pC,pD])
      refine tzI 123 30 ?_ ?_ SV1 ?_
      rotate_left
      ·intro w' hSw;go_simp;try with_reducible rfl
      (try simp only [pA,pE,pB,pC,pD])
      refine wpAnyH_done (by kernel_rfl) ?_ _
      refine NoPanic.normal ?_
      (try simp only [pA,pE,pB,pC,pD])
      have HBV:Hid (Below X2.heap.size X2 _):=SV1
      have HF:sz = false:=by
       cases h:sz with
       | false=>rfl
       | true=>
        have h3:=HSZ.out
        rw [h,same_iff GU.out GQ.out HBD.out.1 HBD.out.2 HEL.out] at h3
        exact absurd (h3.2.2.2 m h2 i h1) HNE.out
      subst HF
      go_wp2_with fail
      go_ret
      exact ⟨rfl,to_call HRL.out HBV.out⟩
     obtain rfl:c3 = 0:=by rw [<- HCC3.out,e4,Int.sub_self];rfl
     have HE4:Hid _:=e4
     clear e4 HCC3
     refine tzI 122 29 ?_ ?_ SV1 ?_
     rotate_left
     ·intro w' hSw;go_simp;try with_reducible rfl
     (try simp only [pA,pE,pB,pC,pD])
     refine tzI 123 30 ?_ ?_ SV1 ?_
     rotate_left
     ·intro w' hSw;go_simp;try with_reducible rfl
     (try simp only [pA,pE,pB,pC,pD])
     refine wpAnyH_done (by kernel_rfl) ?_ _
     refine NoPanic.normal ?_
     (try simp only [pA,pE,pB,pC,pD])
     have HBV:Hid (Below X2.heap.size X2 _):=SV1
     clear HCC HNX HNY HGX HGY SV1 SX b1
     go_wp2_with fail
     go_roundg p
     case measure=>omega
     case rel=>
      refine ⟨m + 1,by go_num,by have:=HMG.out;omega,HBV,fun j hj=>?_⟩
      by_cases e:j < m
      ·exact HEK.out j e
      ·have ej:j = m:=by omega
       subst ej
       exact ⟨HE3.out,HE4.out⟩
    ·have hd2:decide ((m:Int) < (u.ids.length:Int)) = false:=decide_eq_false (by omega)
     have hd3:decide (m < u.ids.length) = false:=decide_eq_false (by omega)
     have HME:Hid (u.ids.length <= m):=by unfold Hid;omega
     clear hm
     go_wp2_with fail
     go_roundg k
     case measure=>omega
     case rel=>
      refine ⟨i + 1,by go_num,by have:=HIG.out;omega,HBK,fun j hj=>?_⟩
      by_cases e:j < i
      ·exact HEQ.out j e
      ·have ej:j = i:=by omega
       subst ej
       exact ⟨HE1.out,HE2.out,fun t ht=>HEK.out t (by have:=HME.out;omega)⟩
  ·have hd1:decide ((i:Int) < (n:Int)) = false:=decide_eq_false (by omega)
   have hd2:decide (i < n) = false:=decide_eq_false (by omega)
   have HF:sz = true:=by
    rw [<- HSZ.out]
    refine (same_iff GU.out GQ.out HBD.out.1 HBD.out.2 HEL.out).2 ⟨?_,fun j hj=>(HEQ.out j (by omega)).1,fun j hj=>(HEQ.out j (by omega)).2.1,fun k hk j hj=>((HEQ.out j (by omega)).2.2 k hk).2⟩
    apply List.ext_getElem
    ·exact HEL.out
    ·intro k p1 p2
     have h3:=((HEQ.out 0 (by omega)).2.2 k p1).1
     rwa [List.getElem?_eq_getElem p1,List.getElem?_eq_getElem p2,Option.getD_some,Option.getD_some] at h3
   subst HF
   go_wp2_with fail
   go_ret
   exact ⟨rfl,to_call HRL.out HBW.out⟩
end Go.Proofs.YtgialbaeekkkhaaGreat
