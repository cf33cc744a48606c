import Derived.Test.YtmdjoaipkbnelaaGreatPYp
set_option maxRecDepth 100000
set_option maxHeartbeats 20000000
set_option linter.unusedVariables false
set_option linter.unusedSimpArgs false
namespace Go.Proofs.YtmdjoaipkbnelaaGreat
open Go.RowKit Go.Shelf
theorem equalIn_fO {P:Program} (w:World) (d:Nat) (t:TypeId) (k k':FloatKind) (a b:Nat) (h:P.underlying t = some (.float k')):(Op.equalIn (d + 1) t (.float k a) (.float k b)).run P w = .ok (Op.floatEq k a b) w:=by
 simp [Op.equalIn,run_underlying h]
theorem equalO {u:Nat} (h:frung u <= infK):∀ w,(Op.equalIn 9999 45 (.float .f64 u) (.float .f64 u)).run Tryz.prog w = .ok true w:=fun w=>by
 have h9:=neq_self h
 have h8:Op.floatEq .f64 u u = true:=by unfold Op.floatEq;simpa [bne] using h9
 rw [equalIn_fO w 9998 _ _ _ _ _ Tryz.underlying45,h8]
theorem wpl_valD {P:Program} {ops:Array Oper} {Q:Exit -> Act -> World -> Prop} {rest:List Oper} {o:Oper} {a:Act} {w w':World} (d:Nat) (v:Value) (hg:o.guard = none) (hd:o.dst = some d) (hr:(execOp a.eval o).run P w = .ok (.value v) w') (h:wpList P ops Q rest (a.put (some d) v) w'):wpList P ops Q (o :: rest) a w:=
 wpList_plain hg fun K hK=>by unfold Oper.wp;rw [hr];exact hK _ _ (by rw [hd];exact h)
theorem zonoOwn_walk (a b:ZD) (next:Int) (w:World) (ha:ZR w a) (hwa:ZW a) (hda:a.dn <= 1048576) (hb:ZR w b) (hwb:ZW b) (hdb:b.dn <= 1048576) (hab:a.dn + b.dn <= 1048576) (hnx:-9223372036854775808 <= next /\ next < 9223372036854775808) :
  Calls Tryz.prog 3 #[.agg (zRow a),.agg (zRow b),.int .i64 next] w fun e w'=>e = .returned (.bool true) /\ Below w.heap.size w w':=by
 have HOA:Hid (∀ W',Below w.heap.size w W' -> _):=fun W' h=>ofU a W' (ha.later h) hwa
 have HOB:Hid (∀ W',Below w.heap.size w W' -> _):=fun W' h=>ofU b W' (hb.later h) hwb
 have HLF:Hid (∀ W',Below w.heap.size w W' -> _):=fun W' h=>liftO_any a next W' (ha.later h) (by omega) hnx
 have HBX:Hid (∀ W',Below w.heap.size w W' -> _):=fun W' h=>boxO_any a W' (ha.later h) (by omega)
 have HPL:Hid (∀ W',Below w.heap.size w W' -> _):=fun W' h=>plusO_any a b W' (ha.later h) (hb.later h) (by omega) (by omega)
 have HNW:Hid (∀ W',Below w.heap.size w W' -> _):=fun W' h=>newO_any a.co a.go a.cn a.cc a.gn a.gc a.cs a.gv a.gs W' (ha.later h).c (ha.later h).g hwa.cl hwa.gl
 have HBD:Hid (∀ W',Below w.heap.size w W' -> _):=fun W' h=>boundsO_any a W' (ha.later h) (by omega)
 have HA:Hid (ZR w a /\ ZW a /\ a.dn <= 1048576):=⟨ha,hwa,hda⟩
 have HB:Hid (ZR w b /\ ZW b /\ b.dn <= 1048576):=⟨hb,hwb,hdb⟩
 have HAB:Hid (a.dn + b.dn <= 1048576):=hab
 clear ha hwa hda hb hwb hdb hab hnx
 have X0:Below w.heap.size w ((w.alloc (.cells (zRow a) 26)).alloc (.cells (zRow b) 26)):=((Below.refl _ w).alloc (Nat.le_refl _) _).alloc (by simp only [alloc_size];omega) _
 have Y0:((w.alloc (.cells (zRow a) 26)).alloc (.cells (zRow b) 26)).heap[w.heap.size]? = some (.cells (zRow a) 26):=alloc_kept (heap_alloc_new w _) _
 have Y1:((w.alloc (.cells (zRow a) 26)).alloc (.cells (zRow b) 26)).heap[w.heap.size + 1]? = some (.cells (zRow b) 26):=heap_at _ _ _ (by simp only [alloc_size])
 go_enter Tryz.func3,Tryz.ntmps3
 go_upto_region 1 with fail
 obtain ⟨X,hX⟩:∃ X,((w.alloc (.cells (zRow a) 26)).alloc (.cells (zRow b) 26)) = X:=⟨_,rfl⟩
 rw [hX] at X0 Y0 Y1 ⊢
 have HX:Hid (Below w.heap.size w X /\ X.heap[w.heap.size]? = some (.cells (zRow a) 26) /\ X.heap[w.heap.size + 1]? = some (.cells (zRow b) 26)):=⟨X0,Y0,Y1⟩
 clear hX X0 Y0 Y1
 go_upto_region 2 with (first
  | (refine wpList_load_row (by rfl) 26 _ (by rfl) w.heap.size _ (by rfl) HX.out.2.1 _ Tryz.underlying26 rfl 6 Tryz.infoZq (by rfl) ?_)
  | (go_at_call 4;refine Calls.mono (HOA.out _ HX.out.1) ?_;rintro e w1 ⟨p,rfl,hp,hsp,b1⟩)
  | (refine wpList_store_row (by rfl) 30 _ _ (by rfl) w1 w1.heap.size w1.heap.size (zRow p) _ (by rfl) (by rfl) (heap_alloc_new w1 _) ((Below.refl _ w1).alloc (Nat.le_refl _) _) (Nat.le_refl _) 6 Tryz.infoZu rfl rfl (oneZ _ _ _ _ _ rfl rfl rfl rfl _) ?_;intro W1 E1 b1' s1 o1))
 have a1:=to_call b1 b1'
 have H1:Hid (Below w.heap.size w W1 /\ W1.heap[w.heap.size]? = some (.cells (zRow a) 26) /\ W1.heap[(w.heap.size + 1)]? = some (.cells (zRow b) 26) /\ W1.heap[w1.heap.size]? = some (.cells (zRow p) 30) /\ ZU W1 p):=⟨to_call HX.out.1 a1,kept a1 HX.out.2.1,kept a1 HX.out.2.2,E1,hp.later b1'⟩
 have HSP:Hid (SmZ p a):=hsp
 obtain ⟨B7,hB7⟩:∃ x,w1.heap.size = x:=⟨_,rfl⟩
 rw [hB7] at H1
 rw [hB7]
 clear hB7 a1 b1 b1' s1 o1 E1 hp hsp HX
 go_upto_region 3 with (first
  | (refine wpList_load_row (by rfl) 26 _ (by rfl) (w.heap.size + 1) _ (by rfl) H1.out.2.2.1 _ Tryz.underlying26 rfl 6 Tryz.infoZq (by rfl) ?_)
  | (go_at_call 4;refine Calls.mono (HOB.out _ H1.out.1) ?_;rintro e w2 ⟨q,rfl,hq,hsq,b2⟩)
  | (refine wpList_store_row (by rfl) 30 _ _ (by rfl) w2 w2.heap.size w2.heap.size (zRow q) _ (by rfl) (by rfl) (heap_alloc_new w2 _) ((Below.refl _ w2).alloc (Nat.le_refl _) _) (Nat.le_refl _) 6 Tryz.infoZu rfl rfl (oneZ _ _ _ _ _ rfl rfl rfl rfl _) ?_;intro W2 E2 b2' s2 o2))
 have a2:=to_call b2 b2'
 have H2:Hid (Below w.heap.size w W2 /\ W2.heap[w.heap.size]? = some (.cells (zRow a) 26) /\ W2.heap[(w.heap.size + 1)]? = some (.cells (zRow b) 26) /\ W2.heap[B7]? = some (.cells (zRow p) 30) /\ W2.heap[w2.heap.size]? = some (.cells (zRow q) 30) /\ ZU W2 p /\ ZU W2 q):=⟨to_call H1.out.1 a2,kept a2 H1.out.2.1,kept a2 H1.out.2.2.1,kept a2 H1.out.2.2.2.1,E2,H1.out.2.2.2.2.later a2,hq.later b2'⟩
 have HSQ:Hid (SmZ q b):=hsq
 obtain ⟨B8,hB8⟩:∃ x,w2.heap.size = x:=⟨_,rfl⟩
 rw [hB8] at H2
 rw [hB8]
 clear hB8 a2 b2 b2' s2 o2 E2 hq hsq H1
 have HA2:Hid (∀ V,Below W2.heap.size W2 V -> Below w.heap.size w V /\ V.heap[w.heap.size]? = some (.cells (zRow a) 26) /\ V.heap[(w.heap.size + 1)]? = some (.cells (zRow b) 26)):=fun V hV=>⟨H2.out.1.trans (hV.mono H2.out.1.size),kept hV H2.out.2.1,kept hV H2.out.2.2.1⟩
 have P0:Hid (∃ ys,OwL W2 W2 a b next 0 (.slice none 0 0) ys):=⟨[],OwL.begin W2 a b next⟩
 go_wp2_with fail
 go_loopg [9,11] 2 (fun gg lv kv wx=>∃ m:Nat,kv = .int .i64 m /\ m + gg = 2 /\ Hid (∃ ys,OwL W2 wx a b next m lv ys))
 case atStart=>exact ⟨0,rfl,by omega,P0⟩
 case round=>
  clear P0
  obtain ⟨m,rfl,hj,P3⟩:=hrel
  by_cases hm2:m < 2
  ·have e1:decide ((m:Int) < 2) = true:=decide_eq_true (by omega)
   obtain ⟨qq,rfl⟩:∃ q,gk = q + 1:=⟨gk - 1,by omega⟩
   have HIG:Hid (m + (qq + 1) = 2):=hj
   obtain ⟨ys,S'⟩:=P3.out
   have S:Hid (OwL W2 wr a b next m u9 ys):=S'
   have HWR:Hid (Below w.heap.size w wr /\ wr.heap[w.heap.size]? = some (.cells (zRow a) 26) /\ wr.heap[(w.heap.size + 1)]? = some (.cells (zRow b) 26)):=HA2.out wr S'.b
   clear hj P3 S'
   go_upto_region 9 with (first
    | (refine wpList_load_row (by rfl) 26 _ (by rfl) w.heap.size _ (by rfl) HWR.out.2.1 _ Tryz.underlying26 rfl 6 Tryz.infoZq (by rfl) ?_)
    | (go_at_call 5;refine Calls.mono (HLF.out _ HWR.out.1) ?_;rintro e w3 ⟨x,nn,rfl,hzx,hx0,hox,b3⟩)
    | (refine wpList_store_row (by rfl) 26 _ _ (by rfl) w3 w3.heap.size w3.heap.size (zRow x) _ (by rfl) (by rfl) (heap_alloc_new w3 _) ((Below.refl _ w3).alloc (Nat.le_refl _) _) (Nat.le_refl _) 6 Tryz.infoZq rfl rfl (oneZ _ _ _ _ _ rfl rfl rfl rfl _) ?_;intro W3 E3 b3' s3 o3))
   have a3:=to_call b3 b3'
   have SV0:(fun V=>Below W2.heap.size W2 V /\ V.heap[w3.heap.size]? = some (.cells (zRow x) 26)) W3.drew:=⟨((S.out.b.trans (a3.mono S.out.b.size))).drew,E3⟩
   clear s3 o3
   refine wp_region_noPanic ?_
   refine wp_region_held_drew (S:=(fun V=>Below W2.heap.size W2 V /\ V.heap[w3.heap.size]? = some (.cells (zRow x) 26))) (by kernel_rfl) SV0 (fun _=>?_)
   refine tzI 37 0 ?_ ?_ SV0 ?_
   rotate_left
   ·intro w' hSw;go_simp;try with_reducible rfl
   (try simp only [pA,pE,pB,pC,pD])
   refine tzH 38 1 (.agg (zRow x)) (Or.inl ⟨by kernel_rfl,fun w' hSw=>ex_loadRN _ 26 _ rfl w3.heap.size (by kernel_rfl) w' _ (hSw.2) _ Tryz.underlying26 rfl 6 Tryz.infoZq rfl⟩) SV0 ?_
   (try simp only [pA,pE,pB,pC,pD])
   refine tzH 39 2 (.agg (zRow a)) (Or.inl ⟨by kernel_rfl,fun w' hSw=>ex_loadRN _ 26 _ rfl w.heap.size (by kernel_rfl) w' _ ((HA2.out w' (hSw.1)).2.1) _ Tryz.underlying26 rfl 6 Tryz.infoZq rfl⟩) SV0 ?_
   (try simp only [pA,pE,pB,pC,pD])
   refine tzH 41 4 (.agg (zRow a)) (Or.inl ⟨by kernel_rfl,fun w' hSw=>ex_loadRN _ 26 _ rfl w.heap.size (by kernel_rfl) w' _ ((HA2.out w' (hSw.1)).2.1) _ Tryz.underlying26 rfl 6 Tryz.infoZq rfl⟩) SV0 ?_
   (try simp only [pA,pE,pB,pC,pD])
   refine tzH 42 5 (.agg (zRow b)) (Or.inl ⟨by kernel_rfl,fun w' hSw=>ex_loadRN _ 26 _ rfl (w.heap.size + 1) (by kernel_rfl) w' _ ((HA2.out w' (hSw.1)).2.2) _ Tryz.underlying26 rfl 6 Tryz.infoZq rfl⟩) SV0 ?_
   (try simp only [pA,pE,pB,pC,pD])
   refine tzI 44 7 ?_ ?_ SV0 ?_
   rotate_left
   ·intro w' hSw;go_simp;try with_reducible rfl
   (try simp only [pA,pE,pB,pC,pD])
   refine tzI 45 8 ?_ ?_ SV0 ?_
   rotate_left
   ·intro w' hSw;obtain ⟨c0,c1,c2,c3,c4,c5⟩:=cells6 ((HA2.out w' (hSw.1)).2.1);go_simp;try with_reducible rfl
   (try simp only [pA,pE,pB,pC,pD])
   refine tzI 46 9 ?_ ?_ SV0 ?_
   rotate_left
   ·intro w' hSw;go_simp;try with_reducible rfl
   (try simp only [pA,pE,pB,pC,pD])
   refine tzI 47 10 ?_ ?_ SV0 ?_
   rotate_left
   ·intro w' hSw;obtain ⟨c0,c1,c2,c3,c4,c5⟩:=cells6 ((HA2.out w' (hSw.1)).2.1);go_simp;try with_reducible rfl
   (try simp only [pA,pE,pB,pC,pD])
   refine rzH [3] ?_
   refine consH _ rfl (hzC 40 (Calls.mono (HBX.out _ (HA2.out _ (SV0.1)).1) ?_)) AllReadyH.nil
   rintro e V1 ⟨y1,rfl,hz1,hw1,hx1,ho1,c1⟩
   have SV1:=And.intro (SV0.1.trans (c1.mono SV0.1.size)) (kept c1 SV0.2)
   refine ⟨_,rfl,SV1,?_⟩
   (try simp only [pA,pE,pB,pC,pD])
   refine rzH [6] ?_
   refine consH _ rfl (hzC 43 (Calls.mono (HPL.out _ (HA2.out _ (SV1.1)).1) ?_)) AllReadyH.nil
   rintro e V2 ⟨y2,rfl,hz2,hx2,ho2,c2⟩
   have SV2:=And.intro (SV1.1.trans (c2.mono SV1.1.size)) (kept c2 SV1.2)
   refine ⟨_,rfl,SV2,?_⟩
   (try simp only [pA,pE,pB,pC,pD])
   refine rzH [11] ?_
   refine consH _ rfl (hzC 48 (Calls.mono (HNW.out _ (HA2.out _ (SV2.1)).1) ?_)) AllReadyH.nil
   rintro e V3 ⟨y3,rfl,hz3,n1,n2,n3,n4,n5,n6,_,ho3,c3⟩
   have SV3:=And.intro (SV2.1.trans (c3.mono SV2.1.size)) (kept c3 SV2.2)
   have hx3:NwR a y3:=⟨n1,n2,n3,n4,n5,n6⟩
   clear n1 n2 n3 n4 n5 n6
   refine ⟨_,rfl,SV3,?_⟩
   (try simp only [pA,pE,pB,pC,pD])
   refine rzH [12] ?_
   refine consH _ rfl (hopB4 49 [x,y1,y2,y3] 26 rfl rfl rfl (by kernel_rfl) fun I V4 hI b4 hIl=>?_) AllReadyH.nil
   have SV4:=And.intro (SV3.1.trans (b4.mono SV3.1.size)) (kept b4 SV3.2)
   have BV4:Below wr.heap.size wr V4:=to_call (to_call (to_call (to_call (to_call a3 (Below.refl _ _).drew) c1) c2) c3) b4
   have OL4:=owns_keepZ S.out.l BV4
   refine ⟨SV4,?_⟩
   (try simp only [pA,pE,pB,pC,pD])
   refine rzH [13] ?_
   refine consH _ rfl (hopL rfl (append_gsL Tryz.underlying32 Tryz.infoZA rfl (by decide) (by decide) V4 (by rfl) _ _ (by rfl) W2.heap.size u9 (4 * m) (zsL ys) (by kernel_rfl) OL4 ⟨I,0,none⟩ 4 4 (zsL [x,y1,y2,y3]) (by kernel_rfl) (zsL_len _) (news_zs hI) (zsL_one _) (by omega) SV4.1.size fun v5 w5 o5 g5=>?_)) AllReadyH.nil
   have SV5:(fun V=>Below W2.heap.size W2 V /\ V.heap[w3.heap.size]? = some (.cells (zRow x) 26)) w5:=⟨SV4.1.trans (g5.below (fun k hk=>(World.ownsRow.lt OL4 k hk).1) SV4.1.size),(g5.by'.block _ (blk_lt SV4.2) fun e=>by have h9:=(World.ownsRow.lt S.out.l _ e.symm).2;have h8:=b3.size;omega).trans SV4.2⟩
   refine (And.intro SV5 ?_:_ /\ _)
   (try simp only [pA,pE,pB,pC,pD])
   refine tzI 9 14 ?_ ?_ SV5 ?_
   rotate_left
   ·intro w' hSw;go_simp;try with_reducible rfl
   (try simp only [pA,pE,pB,pC,pD])
   refine wpAnyH_done (by kernel_rfl) ?_ _
   refine NoPanic.normal ?_
   (try simp only [pA,pE,pB,pC,pD])
   have PN:Hid (∃ ys,OwL W2 w5 a b next (m + 1) v5 ys):=by
    have l0:=(S.out.an.push b3 S.out.b.size hzx (OwnY.zw hzx hox (LfO.lens HA.out.1 HA.out.2.2 hx0 hzx)) hox).later b3'
    have l0:=l0.later (Below.refl W3.heap.size W3).drew
    have l1:=l0.push c1 SV0.1.size hz1 hw1 ho1
    have l2:=l1.push c2 SV1.1.size hz2 (OwnY.zw hz2 ho2 (PlP.lens HA.out.1 HB.out.1 HAB.out hx2 hz2)) ho2
    have l3:=(l2.push c3 SV2.1.size hz3 (OwnY.zw hz3 ho3 (NwR.lens HA.out.1 HA.out.2.1 hx3 hz3)) ho3).later b4
    exact ⟨_,S.out.step BV4 l3 hx0 hx1 hx2 hx3 OL4 o5 g5⟩
   clear S HWR hzx hx0 hox b3 b3' a3 E3 SV0 SV1 SV2 SV3 SV4 SV5 hz1 hw1 hx1 ho1 c1 hz2 hx2 ho2 c2 hz3 hx3 ho3 c3 hI hIl b4 BV4 OL4 o5 g5
   go_wp2_with fail
   go_roundg qq
   case measure=>omega
   case rel=>exact ⟨m + 1,by go_num,by have:=HIG.out;omega,PN⟩
  ·have e1:decide ((m:Int) < 2) = false:=decide_eq_false (by omega)
   have e2:decide (m < 2) = false:=decide_eq_false (by omega)
   obtain rfl:m = 2:=by omega
   obtain ⟨ys,S'⟩:=P3.out
   obtain ⟨I0,cp,hu9⟩:=own_some6 S'.l (by omega)
   subst hu9
   obtain ⟨W4,rfl⟩:∃ x,x = wr:=⟨_,rfl⟩
   have S:Hid (OwL W2 W4 a b next 2 (.slice (some ⟨I0,0,none⟩) 8 cp) ys):=S'
   have HL8:Hid (ys.length = 8):=S'.len
   clear hj P3 S'
   have HYS:Hid (∀ y ∈ ys,ZW y):=fun y hy=>(S.out.an.z y hy).2.1
   have HA4:Hid (∀ V,Below W4.heap.size W4 V -> Below w.heap.size w V /\ V.heap[w.heap.size]? = some (.cells (zRow a) 26) /\ V.heap[(w.heap.size + 1)]? = some (.cells (zRow b) 26)):=fun V hV=>HA2.out V (S.out.b.trans (hV.mono S.out.b.size))
   have P4:Hid (∃ us,WaL W4 W4 ys 0 (.slice none 0 0) us):=⟨[],WaL.begin W4 ys⟩
   go_wp2_with fail
   go_loopg [10,14] 8 (fun gg wv iv wx=>∃ i:Nat,iv = .int .i64 i /\ i + gg = 8 /\ Hid (∃ us,WaL W4 wx ys i wv us))
   case atStart=>exact ⟨0,rfl,by omega,P4⟩
   case round=>
    clear P4
    obtain ⟨i,rfl,hj,P5⟩:=hrel
    by_cases hi8:i < 8
    ·have e1:decide ((i:Int) < 8) = true:=decide_eq_true (by omega)
     obtain ⟨qq,rfl⟩:∃ q,gk = q + 1:=⟨gk - 1,by omega⟩
     have HIG:Hid (i + (qq + 1) = 8):=hj
     have hi8':(i:Int) < 8:=by omega
     obtain ⟨us,T'⟩:=P5.out
     have T:Hid (WaL W4 wr ys i u10 us):=T'
     have hil:i < ys.length:=by rw [HL8.out];exact hi8
     have HR:=zs_range (owns_keepZ S.out.l T'.b) HL8.out hil
     obtain ⟨y,hy⟩:∃ y,ys[i] = y:=⟨_,rfl⟩
     rw [hy] at HR
     have HYI:Hid (ZR wr y /\ ZW y /\ ys[i]? = some y):=⟨hy ▸ (S.out.an.z _ (List.getElem_mem hil)).1.later T'.b,hy ▸ HYS.out _ (List.getElem_mem hil),by rw [List.getElem?_eq_getElem hil,hy]⟩
     clear hj P5 T' hil hy
     go_wp2_with (first
      | (refine wpList_load_mid (by rfl) 26 _ (by rfl) I0 (i * 6) (by rfl) (zRow y).toList _ HR Tryz.underlying26 rfl Tryz.infoZq ?_)
      | (go_at_call 4;refine Calls.mono (ofO y wr HYI.out.1 HYI.out.2.1) ?_;rintro e w5 ⟨u,rfl,hu,hsu,b5⟩;have b6:Below wr.heap.size wr (w5.alloc (.cells (zsL [u]).toArray 30)):=to_call b5 ((Below.refl _ w5).alloc (Nat.le_refl _) _))
      | (refine wpl_valD 63 (.slice (some ⟨w5.heap.size,0,none⟩) 1 1) (by rfl) (by rfl) (w':=w5.alloc (.cells (zsL [u]).toArray 30)) (by kernel_rfl) ?_)
      | (at_builtin;refine append_gsL Tryz.underlying33 Tryz.infoUA rfl (by decide) (by decide) (w5.alloc (.cells (zsL [u]).toArray 30)) (by rfl) _ _ (by rfl) W4.heap.size u10 i (zsL us) (by rfl) (owns_keepZ T.out.l b6) ⟨w5.heap.size,0,none⟩ 1 1 (zsL [u]) (by rfl) (zsL_len _) (news_zs (heap_alloc_new w5 _)) (zsL_one _) (by omega) (Nat.le_trans T.out.b.size b6.size) ?_;intro v6 w6 o6 g6))
     have P6:Hid (∃ us,WaL W4 w6 ys (i + 1) v6 us):=⟨_,T.out.step b6 HYI.out.2.2 (hu.later ((Below.refl _ w5).alloc (Nat.le_refl _) _)) hsu (owns_keepZ T.out.l b6) o6 g6⟩
     clear T HR HYI hu hsu b5 b6 o6 g6
     go_roundg qq
     case measure=>omega
     case rel=>exact ⟨i + 1,by go_num,by have:=HIG.out;omega,P6⟩
    ·have e1:decide ((i:Int) < 8) = false:=decide_eq_false (by omega)
     have e2:decide (i < 8) = false:=decide_eq_false (by omega)
     obtain rfl:i = 8:=by omega
     obtain ⟨us,T'⟩:=P5.out
     obtain ⟨J0,cq,hu10⟩:=own_some6 T'.l (by omega)
     subst hu10
     obtain ⟨W5,rfl⟩:∃ x,x = wr:=⟨_,rfl⟩
     have T:Hid (WaL W4 W5 ys 8 (.slice (some ⟨J0,0,none⟩) 8 cq) us):=T'
     have BX5:=(HA4.out _ T'.b).2.1
     clear hj P5 T'
     go_upto_region 15 with (first
      | (refine wpList_load_row (by rfl) 26 _ (by rfl) w.heap.size _ (by rfl) BX5 _ Tryz.underlying26 rfl 6 Tryz.infoZq (by rfl) ?_)
      | (go_at_call 9;refine Calls.mono (HBD.out _ (HA4.out _ T.out.b).1) ?_;rintro e w6 ⟨vs,rfl,hbs,b6⟩))
     have HB6:Hid (Below W5.heap.size W5 w6 /\ BdO w6 W5.heap.size a vs):=⟨b6,hbs⟩
     have BX6:=(HA4.out w6 (to_call T.out.b b6)).2.1
     clear b6 hbs BX5
     go_upto_region 16 with (first
      | (refine wpList_load_row (by rfl) 26 _ (by rfl) w.heap.size _ (by rfl) BX6 _ Tryz.underlying26 rfl 6 Tryz.infoZq (by rfl) ?_)
      | (go_at_call 9;refine Calls.mono (HBD.out _ (HA4.out _ (to_call T.out.b HB6.out.1)).1) ?_;rintro e w7 ⟨vt,rfl,hbt,b7⟩))
     have HB7:Hid (Below W5.heap.size W5 w7 /\ BdO w7 W5.heap.size a vs /\ BdO w7 w6.heap.size a vt /\ ∀ k,vs.ownBlock = some k -> k < w6.heap.size):=⟨to_call HB6.out.1 b7,HB6.out.2.keep fun k _ hk=>b7.block k hk,hbt,fun k e=>by
      rcases HB6.out.2.is with ⟨_,_,g,e2,_,h3⟩ | ⟨_,e2⟩
      ·rw [e2] at e;cases e;exact h3.lt
      ·rw [e2] at e;cases e⟩
     have HZ6:Hid (W5.heap.size <= w6.heap.size):=HB6.out.1.size
     clear b7 hbt HB6 BX6 e1 e2
     have B47:Hid (Below W4.heap.size W4 w7):=to_call T.out.b HB7.out.1
     have HLI:Hid _:=lists_anyY ys I0 cp w7 (RdZs.of (ys:=ys) (E:=26) (b:=W2.heap.size) (cp:=cp) (by rw [HL8.out];exact owns_keepZ S.out.l B47.out)) (fun y hy=>⟨(S.out.an.z y hy).1.later B47.out,(S.out.an.z y hy).2.2⟩) (by have h9:=lsF_len_le ys HYS.out;rw [HL8.out] at h9;omega) (by rw [HL8.out];decide)
     rw [HL8.out] at HLI
     have HBP:Hid (bitsB a p = true /\ bitsB b q = true):=⟨bits_true HSP.out.N.symm HSP.out.bad.symm HSP.out.cs.symm HSP.out.rs.symm HSP.out.ids.symm HSP.out.gs.symm,bits_true HSQ.out.N.symm HSQ.out.bad.symm HSQ.out.cs.symm HSQ.out.rs.symm HSQ.out.ids.symm HSQ.out.gs.symm⟩
     have HZ2:Hid (W2.heap.size <= W4.heap.size):=S.out.b.size
     go_wp2_with fail
     refine Calls.mono HLI.out ?_
     rintro e w8 ⟨vl,rfl,ol,b8⟩
     obtain ⟨lo,lc,hvl,_⟩:=own_formO ol
     subst hvl
     have B48:Hid (Below W4.heap.size W4 w8 /\ Below w7.heap.size w7 w8):=⟨to_call B47.out b8,b8⟩
     have OLL:Hid _:=ol
     clear ol b8
     go_wp2_with fail
     refine Calls.mono (marked_l (S.out.an.later B48.out.1).f (Nat.le_trans HZ2.out B48.out.1.size) OLL.out (by have h9:=lsF_len_le ys HYS.out;rw [HL8.out] at h9;omega)) ?_
     rintro e w9 ⟨rfl,b9,k9⟩
     have P9:Hid (Below W2.heap.size w8 w9 /\ ∀ k,k < w8.heap.size -> (∀ v ∈ lsF ys,v.ownBlock ≠ some k) -> w9.heap[k]? = w8.heap[k]?):=⟨b9,k9⟩
     clear b9 k9
     go_wp2_with fail
     refine Calls.mono (own_ids S.out B48.out.1 HL8.out P9.out.1 P9.out.2) ?_
     rintro e w10 ⟨rfl,b10,k10⟩
     have P10:Hid (Below W2.heap.size W2 w10 /\ (∀ k,W4.heap.size <= k -> k < w7.heap.size -> w10.heap[k]? = w7.heap[k]?) /\ w7.heap.size <= w10.heap.size):=own_fr S.out B48.out.1 B48.out.2 P9.out.1 P9.out.2 b10 k10
     clear b10 k10
     go_wp2_with (first
      | (refine wpList_load_rowG (by rfl) 26 _ (by rfl) w.heap.size _ (by rfl) (HA2.out _ P10.out.1).2.1 _ Tryz.underlying26 rfl 6 Tryz.infoZq (by rfl) ?_)
      | (refine wpList_load_rowG (by rfl) 30 _ (by rfl) B7 _ (by rfl) (kept P10.out.1 H2.out.2.2.2.1) _ Tryz.underlying30 rfl 6 Tryz.infoZu (by rfl) ?_))
     refine Calls.mono (refSameZ_any a p w10 (HA.out.1.later (HA2.out _ P10.out.1).1) (H2.out.2.2.2.2.2.1.later P10.out.1)) ?_
     rintro e w11 ⟨rfl,b11⟩
     rw [HBP.out.1]
     have P11:Hid (Below w10.heap.size w10 w11):=b11
     clear b11
     go_wp2_with (first
      | (refine wpList_load_rowG (by rfl) 26 _ (by rfl) (w.heap.size + 1) _ (by rfl) (HA2.out _ (to_call P10.out.1 P11.out)).2.2 _ Tryz.underlying26 rfl 6 Tryz.infoZq (by rfl) ?_)
      | (refine wpList_load_rowG (by rfl) 30 _ (by rfl) B8 _ (by rfl) (kept (to_call P10.out.1 P11.out) H2.out.2.2.2.2.1) _ Tryz.underlying30 rfl 6 Tryz.infoZu (by rfl) ?_))
     refine Calls.mono (refSameZ_any b q w11 (HB.out.1.later (HA2.out _ (to_call P10.out.1 P11.out)).1) (H2.out.2.2.2.2.2.2.later (to_call P10.out.1 P11.out))) ?_
     rintro e w12 ⟨rfl,b12⟩
     rw [HBP.out.2]
     have P12:Hid (Below w10.heap.size w10 w12):=to_call P11.out b12
     clear b12
     go_upto_region 18 with fail
     have Q12:Hid (Below W2.heap.size W2 w12 /\ w12.ownsRow W4.heap.size 30 6 (.slice (some ⟨J0,0,none⟩) 8 cq) 8 (zsL us) /\ WsL w12 W4.heap.size us ys /\ BdO w12 W5.heap.size a vs /\ BdO w12 w6.heap.size a vt /\ us.length = 8):=by
      have hk:∀ k,W4.heap.size <= k -> k < w7.heap.size -> w12.heap[k]? = w7.heap[k]?:=fun k h1 h2=>(P12.out.block k (Nat.lt_of_lt_of_le h2 P10.out.2.2)).trans (P10.out.2.1 k h1 h2)
      have h45:=T.out.b.size
      have h56:=HZ6.out
      exact ⟨to_call P10.out.1 P12.out,owns_keep (owns_keepZ T.out.l HB7.out.1) (fun k e=>hk k (World.ownsRow.lt (owns_keepZ T.out.l HB7.out.1) k e).1 (World.ownsRow.lt (owns_keepZ T.out.l HB7.out.1) k e).2),WsL.keepB (WsL.keepB T.out.w fun k _ h2=>HB7.out.1.block k h2) hk,HB7.out.2.1.keep fun k h1 h2=>hk k (by omega) h2,HB7.out.2.2.1.keep fun k h1 h2=>hk k (by omega) h2,T.out.len⟩
     have HVS:Hid (∀ k,vs.ownBlock = some k -> k < w6.heap.size):=HB7.out.2.2.2
     have T15:Hid (w.heap.size <= W5.heap.size):=Nat.le_trans (HA4.out _ T.out.b).1.size (Nat.le_refl _)
     clear HLI HBP P10 P11 P12 P9 OLL B48 HB7 T HZ6 B47
     have BX12:=(HA2.out _ Q12.out.1).2.1
     go_upto_region 19 with (first
      | (refine wpList_load_row (by rfl) 26 _ (by rfl) w.heap.size _ (by rfl) BX12 _ Tryz.underlying26 rfl 6 Tryz.infoZq (by rfl) ?_)
      | (go_at_call 5;refine Calls.mono (HLF.out _ (HA2.out _ Q12.out.1).1) ?_;rintro e w13 ⟨x,nn,rfl,hzx,hx0,hox,b13⟩)
      | (refine wpList_store_row (by rfl) 26 _ _ (by rfl) w13 w13.heap.size w13.heap.size (zRow x) _ (by rfl) (by rfl) (heap_alloc_new w13 _) ((Below.refl _ w13).alloc (Nat.le_refl _) _) (Nat.le_refl _) 6 Tryz.infoZq rfl rfl (oneZ _ _ _ _ _ rfl rfl rfl rfl _) ?_;intro W13 E13 b13' s13 o13))
     have a13:=to_call b13 b13'
     have HB13:Hid (Below W2.heap.size W2 W13):=to_call Q12.out.1 a13
     have SV0:(fun V=>Below W13.heap.size W13 V /\ V.heap[w13.heap.size]? = some (.cells (zRow x) 26)) W13.drew:=⟨(Below.refl _ _).drew,E13⟩
     clear s13 o13 BX12
     refine wp_region_noPanic ?_
     refine wp_region_held_drew (S:=(fun V=>Below W13.heap.size W13 V /\ V.heap[w13.heap.size]? = some (.cells (zRow x) 26))) (by kernel_rfl) SV0 (fun _=>?_)
     refine tzH 96 0 (.agg (zRow x)) (Or.inl ⟨by kernel_rfl,fun w' hSw=>ex_loadRN _ 26 _ rfl w13.heap.size (by kernel_rfl) w' _ (hSw.2) _ Tryz.underlying26 rfl 6 Tryz.infoZq rfl⟩) SV0 ?_
     (try simp only [pA,pE,pB,pC,pD])
     refine tzH 97 1 (.agg (zRow a)) (Or.inl ⟨by kernel_rfl,fun w' hSw=>ex_loadRN _ 26 _ rfl w.heap.size (by kernel_rfl) w' _ ((HA2.out w' (to_call HB13.out hSw.1)).2.1) _ Tryz.underlying26 rfl 6 Tryz.infoZq rfl⟩) SV0 ?_
     (try simp only [pA,pE,pB,pC,pD])
     refine tzH 99 3 (.agg (zRow a)) (Or.inl ⟨by kernel_rfl,fun w' hSw=>ex_loadRN _ 26 _ rfl w.heap.size (by kernel_rfl) w' _ ((HA2.out w' (to_call HB13.out hSw.1)).2.1) _ Tryz.underlying26 rfl 6 Tryz.infoZq rfl⟩) SV0 ?_
     (try simp only [pA,pE,pB,pC,pD])
     refine tzH 100 4 (.agg (zRow b)) (Or.inl ⟨by kernel_rfl,fun w' hSw=>ex_loadRN _ 26 _ rfl (w.heap.size + 1) (by kernel_rfl) w' _ ((HA2.out w' (to_call HB13.out hSw.1)).2.2) _ Tryz.underlying26 rfl 6 Tryz.infoZq rfl⟩) SV0 ?_
     (try simp only [pA,pE,pB,pC,pD])
     refine tzI 102 6 ?_ ?_ SV0 ?_
     rotate_left
     ·intro w' hSw;go_simp;try with_reducible rfl
     (try simp only [pA,pE,pB,pC,pD])
     refine tzI 103 7 ?_ ?_ SV0 ?_
     rotate_left
     ·intro w' hSw;obtain ⟨c0,c1,c2,c3,c4,c5⟩:=cells6 ((HA2.out w' (to_call HB13.out hSw.1)).2.1);go_simp;try with_reducible rfl
     (try simp only [pA,pE,pB,pC,pD])
     refine tzI 104 8 ?_ ?_ SV0 ?_
     rotate_left
     ·intro w' hSw;go_simp;try with_reducible rfl
     (try simp only [pA,pE,pB,pC,pD])
     refine tzI 105 9 ?_ ?_ SV0 ?_
     rotate_left
     ·intro w' hSw;obtain ⟨c0,c1,c2,c3,c4,c5⟩:=cells6 ((HA2.out w' (to_call HB13.out hSw.1)).2.1);go_simp;try with_reducible rfl
     (try simp only [pA,pE,pB,pC,pD])
     refine rzH [2] ?_
     refine consH _ rfl (hzC 98 (Calls.mono (HBX.out _ (HA2.out _ (to_call HB13.out SV0.1)).1) ?_)) AllReadyH.nil
     rintro e V1 ⟨y1,rfl,hz1,hw1,hx1,ho1,c1⟩
     have SV1:=And.intro (to_call SV0.1 c1) (kept c1 SV0.2)
     refine ⟨_,rfl,SV1,?_⟩
     (try simp only [pA,pE,pB,pC,pD])
     refine rzH [5] ?_
     refine consH _ rfl (hzC 101 (Calls.mono (HPL.out _ (HA2.out _ (to_call HB13.out SV1.1)).1) ?_)) AllReadyH.nil
     rintro e V2 ⟨y2,rfl,hz2,hx2,ho2,c2⟩
     have SV2:=And.intro (to_call SV1.1 c2) (kept c2 SV1.2)
     refine ⟨_,rfl,SV2,?_⟩
     (try simp only [pA,pE,pB,pC,pD])
     refine rzH [10] ?_
     refine consH _ rfl (hzC 106 (Calls.mono (HNW.out _ (HA2.out _ (to_call HB13.out SV2.1)).1) ?_)) AllReadyH.nil
     rintro e V3 ⟨y3,rfl,hz3,n1,n2,n3,n4,n5,n6,_,ho3,c3⟩
     have SV3:=And.intro (to_call SV2.1 c3) (kept c3 SV2.2)
     have hx3:NwR a y3:=⟨n1,n2,n3,n4,n5,n6⟩
     clear n1 n2 n3 n4 n5 n6
     refine ⟨_,rfl,SV3,?_⟩
     (try simp only [pA,pE,pB,pC,pD])
     refine rzH [11] ?_
     refine consH _ rfl (hopB4 107 [x,y1,y2,y3] 26 rfl rfl rfl (by kernel_rfl) fun J V4 hJ b4 hJl=>?_) AllReadyH.nil
     have SV4:=And.intro (to_call SV3.1 b4) (kept b4 SV3.2)
     refine ⟨SV4,?_⟩
     (try simp only [pA,pE,pB,pC,pD])
     refine tzI 19 12 ?_ ?_ SV4 ?_
     rotate_left
     ·intro w' hSw;go_simp;try with_reducible rfl
     (try simp only [pA,pE,pB,pC,pD])
     refine wpAnyH_done (by kernel_rfl) ?_ _
     refine NoPanic.normal ?_
     (try simp only [pA,pE,pB,pC,pD])
     have Q14:Hid (Below w12.heap.size w12 V4):=to_call a13 SV4.1
     have HZ4:Hid (∀ i,i < 4 -> ∃ z,[x,y1,y2,y3][i]? = some z /\ ZR V4 z /\ Kd a b next i z):=fun i hi=>by
      have e4:Below V3.heap.size V3 V4:=b4
      have e3:Below V2.heap.size V2 V4:=to_call c3 e4
      have e2:Below V1.heap.size V1 V4:=to_call c2 e3
      match i,hi with
      | 0,_=>exact ⟨x,rfl,hzx.later (to_call b13' SV4.1),Kd.k0 hx0⟩
      | 1,_=>exact ⟨y1,rfl,hz1.later e2,Kd.k1 hx1⟩
      | 2,_=>exact ⟨y2,rfl,hz2.later e3,Kd.k2 hx2⟩
      | 3,_=>exact ⟨y3,rfl,hz3.later e4,Kd.k3 hx3⟩
     obtain ⟨zs,hzs⟩:∃ l,[x,y1,y2,y3] = l:=⟨_,rfl⟩
     have HZL:Hid (zs.length = 4):=hzs ▸ rfl
     rw [hzs] at hJ HZ4
     obtain ⟨W14,hW14⟩:∃ W,V4 = W:=⟨_,rfl⟩
     rw [hW14] at hJ HZ4 Q14 ⊢
     have HJ:Hid (W14.heap[J]? = some (.cells (zsL zs).toArray 26)):=hJ
     clear hzs hW14 SV0 SV1 SV2 SV3 SV4 hzx hx0 hox b13 b13' a13 E13 hz1 hw1 hx1 ho1 c1 hz2 hx2 ho2 c2 hz3 hx3 ho3 c3 hJ hJl b4 HB13
     have Q15:Hid (W14.ownsRow W4.heap.size 30 6 (.slice (some ⟨J0,0,none⟩) 8 cq) 8 (zsL us) /\ WsL W14 W4.heap.size us ys /\ BdO W14 W5.heap.size a vs /\ BdO W14 w6.heap.size a vt /\ us.length = 8 /\ Below W2.heap.size W2 W14):=⟨owns_keepZ Q12.out.2.1 Q14.out,Q12.out.2.2.1.keepB fun k _ h=>Q14.out.block k h,Q12.out.2.2.2.1.keep fun k _ h=>Q14.out.block k h,Q12.out.2.2.2.2.1.keep fun k _ h=>Q14.out.block k h,Q12.out.2.2.2.2.2,to_call Q12.out.1 Q14.out⟩
     clear Q12 Q14
     go_wp2_with fail
     go_loopg [20] 4 (fun gg iv wx=>∃ i:Nat,iv = .int .i64 i /\ i + gg = 4 /\ Hid (Below W14.heap.size W14 wx))
     case atStart=>exact ⟨0,rfl,by omega,Below.refl _ _⟩
     case round=>
      obtain ⟨i,rfl,hj,HWR⟩:=hrel
      by_cases hi4:i < 4
      ·have e1:decide ((i:Int) < 4) = true:=decide_eq_true (by omega)
       obtain ⟨qq,rfl⟩:∃ q,gk = q + 1:=⟨gk - 1,by omega⟩
       have HIG:Hid (i + (qq + 1) = 4):=hj
       have hi4':(i:Int) < 4:=by omega
       have hi8':(i:Int) < 8:=by omega
       have hi9':(i:Int) + 4 < 8:=by omega
       have hi0':(0:Int) <= (i:Int) + 4:=by omega
       have hiN':((i:Int) + 4).toNat = i + 4:=by omega
       have v4:IntKind.i64.wrap ((i:Int) + 4) = (i:Int) + 4:=by simp [IntKind.wrap,IntKind.bits,IntKind.signed];omega
       obtain ⟨z,hz1,hz2,hz3⟩:=HZ4.out i hi4
       have hzl:i < zs.length:=by rw [HZL.out];exact hi4
       have RZ:=zb_range HJ.out hzl
       rw [(List.getElem?_eq_some_iff.1 hz1).2] at RZ
       have h8:=Q15.out.2.2.2.2.1
       have RU:=zs_range Q15.out.1 h8 (i:=i) (by omega)
       have RV:=zs_range Q15.out.1 h8 (i:=i + 4) (by omega)
       obtain ⟨u,hu1,hu2,hu3⟩:=Q15.out.2.1.bits S.out.kd HA.out.1 HA.out.2.2 (t:=i) (i:=i) (by omega) (by omega) hz3
       obtain ⟨v,hv1,hv2,hv3⟩:=Q15.out.2.1.bits S.out.kd HA.out.1 HA.out.2.2 (t:=i + 4) (i:=i) (by omega) (by omega) hz3
       rw [<- hu1] at RU
       rw [<- hv1] at RV
       have HRZ:Hid (W14.rangeAt J (i * 6) (zRow z).toList):=RZ
       have HRU:Hid (W14.rangeAt J0 (i * 6) (zRow u).toList):=RU
       have HRV:Hid (W14.rangeAt J0 ((i + 4) * 6) (zRow v).toList):=RV
       have HZZ:Hid (ZR W14 z):=hz2
       have HUU:Hid (ZU W14 u):=hu2
       have HVV:Hid (ZU W14 v):=hv2
       have HBI:Hid (bitsB z u = true /\ bitsB z v = true):=⟨hu3,hv3⟩
       clear hj hz1 hz2 hz3 hzl RZ h8 RU RV hu1 hu2 hu3 hv1 hv2 hv3
       go_upto_region 23 with fail
       refine wp_region_noPanic ?_
       have SV0:(fun V=>Below W14.heap.size W14 V) wr.drew:=HWR.out.drew
       refine wp_region_held_drew (S:=(fun V=>Below W14.heap.size W14 V)) (by kernel_rfl) SV0 (fun _=>?_)
       refine tzI 114 0 ?_ ?_ SV0 ?_
       rotate_left
       ·intro w' hSw;go_simp;try with_reducible rfl
       (try simp only [pA,pE,pB,pC,pD])
       refine tzI 115 1 ?_ ?_ SV0 ?_
       rotate_left
       ·intro w' hSw;go_simp;try with_reducible rfl
       (try simp only [pA,pE,pB,pC,pD])
       refine tzI 116 2 ?_ ?_ SV0 ?_
       rotate_left
       ·intro w' hSw;go_simp;try with_reducible rfl
       (try simp only [pA,pE,pB,pC,pD])
       refine tzH 117 3 (.agg (zRow z)) (yieldsIf_load_mid (by kernel_rfl) 26 _ rfl J (i * 6) (by kernel_rfl) (zRow z).toList _ (fun w' hSw=>range_later HRZ.out hSw) Tryz.underlying26 rfl Tryz.infoZq) SV0 ?_
       (try simp only [pA,pE,pB,pC,pD])
       refine tzI 118 4 ?_ ?_ SV0 ?_
       rotate_left
       ·intro w' hSw;go_simp;try with_reducible rfl
       (try simp only [pA,pE,pB,pC,pD])
       refine tzI 119 5 ?_ ?_ SV0 ?_
       rotate_left
       ·intro w' hSw;go_simp;try with_reducible rfl
       (try simp only [pA,pE,pB,pC,pD])
       refine tzI 120 6 ?_ ?_ SV0 ?_
       rotate_left
       ·intro w' hSw;go_simp;try with_reducible rfl
       (try simp only [pA,pE,pB,pC,pD])
       refine tzH 121 7 (.agg (zRow u)) (yieldsIf_load_mid (by kernel_rfl) 30 _ rfl J0 (i * 6) (by kernel_rfl) (zRow u).toList _ (fun w' hSw=>range_later HRU.out hSw) Tryz.underlying30 rfl Tryz.infoZu) SV0 ?_
       (try simp only [pA,pE,pB,pC,pD])
       refine rzH [8] ?_
       refine consH _ rfl (hzC 122 (Calls.mono (refSameZ_any z u _ (HZZ.out.later SV0) (HUU.out.later SV0)) ?_)) AllReadyH.nil
       rintro e V1 ⟨rfl,c1⟩
       have SV1:(fun V=>Below W14.heap.size W14 V) V1:=to_call SV0 c1
       rw [HBI.out.1]
       refine ⟨_,rfl,SV1,?_⟩
       (try simp only [pA,pE,pB,pC,pD])
       refine tzI 123 9 ?_ ?_ SV1 ?_
       rotate_left
       ·intro w' hSw;go_simp;try with_reducible rfl
       (try simp only [pA,pE,pB,pC,pD])
       refine tzI 124 10 ?_ ?_ SV1 ?_
       rotate_left
       ·intro w' hSw;go_simp;try with_reducible rfl
       (try simp only [pA,pE,pB,pC,pD])
       refine tzI 125 11 ?_ ?_ SV1 ?_
       rotate_left
       ·intro w' hSw;go_simp;try with_reducible rfl
       (try simp only [pA,pE,pB,pC,pD])
       refine tzI 126 12 ?_ ?_ SV1 ?_
       rotate_left
       ·intro w' hSw;go_simp;try with_reducible rfl
       (try simp only [pA,pE,pB,pC,pD])
       refine tzI 127 13 ?_ ?_ SV1 ?_
       rotate_left
       ·intro w' hSw;go_simp;try with_reducible rfl
       (try simp only [pA,pE,pB,pC,pD])
       refine tzH 128 14 (.agg (zRow z)) (yieldsIf_load_mid (by kernel_rfl) 26 _ rfl J (i * 6) (by kernel_rfl) (zRow z).toList _ (fun w' hSw=>range_later HRZ.out hSw) Tryz.underlying26 rfl Tryz.infoZq) SV1 ?_
       (try simp only [pA,pE,pB,pC,pD])
       refine tzI 129 15 ?_ ?_ SV1 ?_
       rotate_left
       ·intro w' hSw;go_simp;try with_reducible rfl
       (try simp only [pA,pE,pB,pC,pD])
       refine tzI 130 16 ?_ ?_ SV1 ?_
       rotate_left
       ·intro w' hSw;go_simp;try with_reducible rfl
       (try simp only [pA,pE,pB,pC,pD])
       refine tzI 131 17 ?_ ?_ SV1 ?_
       rotate_left
       ·intro w' hSw;go_simp;try with_reducible rfl
       (try simp only [pA,pE,pB,pC,pD])
       refine tzI 132 18 ?_ ?_ SV1 ?_
       rotate_left
       ·intro w' hSw;go_simp;try with_reducible rfl
       (try simp only [pA,pE,pB,pC,pD])
       refine tzH 133 19 (.agg (zRow v)) (yieldsIf_load_mid (by kernel_rfl) 30 _ rfl J0 ((i + 4) * 6) (by kernel_rfl) (zRow v).toList _ (fun w' hSw=>range_later HRV.out hSw) Tryz.underlying30 rfl Tryz.infoZu) SV1 ?_
       (try simp only [pA,pE,pB,pC,pD])
       refine rzH [20] ?_
       refine consH _ rfl (hzC 134 (Calls.mono (refSameZ_any z v _ (HZZ.out.later SV1) (HVV.out.later SV1)) ?_)) AllReadyH.nil
       rintro e V2 ⟨rfl,c2⟩
       have SV2:(fun V=>Below W14.heap.size W14 V) V2:=to_call SV1 c2
       rw [HBI.out.2]
       refine ⟨_,rfl,SV2,?_⟩
       (try simp only [pA,pE,pB,pC,pD])
       refine tzI 135 21 ?_ ?_ SV2 ?_
       rotate_left
       ·intro w' hSw;go_simp;try with_reducible rfl
       (try simp only [pA,pE,pB,pC,pD])
       refine tzI 136 22 ?_ ?_ SV2 ?_
       rotate_left
       ·intro w' hSw;go_simp;try with_reducible rfl
       (try simp only [pA,pE,pB,pC,pD])
       refine wpAnyH_done (by kernel_rfl) ?_ _
       refine NoPanic.normal ?_
       (try simp only [pA,pE,pB,pC,pD])
       have HW2:Hid (Below W14.heap.size W14 V2):=SV2
       clear SV0 SV1 SV2 c1 c2 HRZ HRU HRV HZZ HUU HVV HBI HWR v4 hi9' hi8' hi0' hiN'
       go_wp2_with fail
       go_roundg qq
       case measure=>omega
       case rel=>exact ⟨i + 1,by go_num,by have:=HIG.out;omega,HW2⟩
      ·have e1:decide ((i:Int) < 4) = false:=decide_eq_false (by omega)
       have e2:decide (i < 4) = false:=decide_eq_false (by omega)
       have HB15:Hid (Below w.heap.size w wr):=(HA2.out wr (to_call Q15.out.2.2.2.2.2 HWR.out)).1
       have BS:=Q15.out.2.2.1.keep fun k _ h=>HWR.out.block k h
       have BT:=Q15.out.2.2.2.1.keep fun k _ h=>HWR.out.block k h
       rcases BS.is with ⟨g1,hn,gs,rfl,hs1,hs2⟩ | ⟨g1,rfl⟩
       ·rcases BT.is with ⟨_,_,gt,rfl,ht1,ht2⟩ | ⟨k1,_⟩
        ·have HST:Hid (SpB wr gs a.rn /\ SpN wr gt a.rn /\ gs ≠ gt /\ w.heap.size <= gs):=⟨hs2.b,ht2,fun e=>by have h9:=HVS.out gs rfl;omega,by have h9:=T15.out;omega⟩
         obtain ⟨n,hn'⟩:∃ n,a.rn = n:=⟨_,rfl⟩
         rw [hn'] at hn HST ⊢
         clear hj BS BT hs1 hs2 ht1 ht2 g1 hn'
         have P0:Hid (Below w.heap.size w wr /\ SpB wr gs n /\ SpN wr gt n):=⟨HB15.out,HST.out.1,HST.out.2.1⟩
         have HGG:Hid (gs ≠ gt /\ w.heap.size <= gs):=HST.out.2.2
         clear HST HB15 HWR
         go_wp2_with fail
         clear e1 e2
         go_loopg [21] n (fun gg iv wx=>∃ i:Nat,iv = .int .i64 i /\ i + gg = n /\ Hid (Below w.heap.size w wx /\ SpB wx gs n /\ SpN wx gt n))
         case atStart=>exact ⟨0,rfl,by omega,P0⟩
         case round=>
          clear P0
          obtain ⟨i,rfl,hj,P1⟩:=hrel
          by_cases hin:i < n
          ·have e1:decide ((i:Int) < (n:Int)) = true:=decide_eq_true (by omega)
           obtain ⟨qq,rfl⟩:∃ q,gk = q + 1:=⟨gk - 1,by omega⟩
           have HIG:Hid (i + (qq + 1) = n):=hj
           have hin':(i:Int) < (n:Int):=by omega
           obtain ⟨arr,ha,hz,hc⟩:=P1.out.2.2
           obtain ⟨x1,x2,x3,t0,t1,t2,f1,f2⟩:=hc i hin
           obtain ⟨ars,hs1,hs2⟩:=P1.out.2.1
           have n1:=equalO f1
           have n2:=equalO f2
           have HR:wr.rangeAt gt (i * 3) [.float .f64 x1,.float .f64 x2,.bool x3]:=range3 (cellAtJ ha _ _ t0) (cellAtJ ha _ _ t1) (cellAtJ ha _ _ t2)
           have HT:Hid (wr.heap[gt]? = some (.cells arr 47)):=ha
           have HS:Hid (wr.heap[gs]? = some (.cells ars 47) /\ i * 3 + 3 <= ars.size):=⟨hs1,by rw [hs2];omega⟩
           clear hj hz hc f1 f2 t0 t1 t2 hs1 hs2 ha
           go_upto_region 31 with (first
            | (refine wpList_load_mid (by rfl) 47 _ (by rfl) gt (i * 3) (by rfl) [.float .f64 x1,.float .f64 x2,.bool x3] _ HR Tryz.underlying47 rfl Tryz.infoSpJ ?_)
            | (refine wpList_store_row (by rfl) 47 _ _ (by rfl) wr wr.heap.size wr.heap.size #[.float .f64 x1,.float .f64 x2,.bool x3] _ (by rfl) (by rfl) (heap_alloc_new wr _) ((Below.refl _ wr).alloc (Nat.le_refl _) _) (Nat.le_refl _) 3 Tryz.infoSpJ rfl rfl (oneSp _ _ _) ?_;intro W2x E2 b2 s2 o2))
           have HR2:=range_later HR b2
           have HE:Hid (W2x.heap[wr.heap.size]? = some (.cells #[.float .f64 x1,.float .f64 x2,.bool x3] 47) /\ Below w.heap.size w W2x):=⟨E2,to_call P1.out.1 b2⟩
           have HGL:Hid (gs < wr.heap.size):=blk_lt HS.out.1
           clear HR E2 s2 o2
           go_upto_region 32 with (refine wpList_store_at (by rfl) 47 _ _ (by rfl) w w.heap.size gs (i * 3) (.agg #[.float .f64 13858490847093325824,.float .f64 0,.bool false]) _ (put3 ars (i * 3) (.float .f64 13858490847093325824) (.float .f64 0) (.bool false)) 47 (by rfl) (by rfl) (kept b2 HS.out.1) HE.out.2 HGG.out.2 3 Tryz.infoSpJ (by rfl) HS.out.2 (by intro u hu;simp [Value.cells] at hu;rcases hu with rfl | rfl | rfl <;> rfl) (by rfl) ?_;intro w7 e7 b7 s7 o7)
           have hgw:=HGL.out
           have PN:Hid (Below w.heap.size w w7 /\ SpB w7 gs n /\ SpN w7 gt n):=⟨b7,⟨_,e7,by rw [put3_size _ _ _ _ _ HS.out.2];obtain ⟨a2,q1,q2⟩:=P1.out.2.1;have h9:=HS.out.1;rw [q1] at h9;injection h9 with h9;injection h9 with h9 _;rw [<- h9];exact q2⟩,P1.out.2.2.heap ((o7 _ (fun e=>HGG.out.1 e.symm)).trans (b2.block _ (blk_lt HT.out)))⟩
           have HR7:Hid (w7.rangeAt gt (i * 3) [.float .f64 x1,.float .f64 x2,.bool x3]):=fun j v hv=>(World.cell?_of_block (a:=⟨gt,i * 3 + j,none⟩) (o7 _ (fun e=>HGG.out.1 e.symm))).trans (HR2 j v hv)
           have HB7:Hid (w7.heap[wr.heap.size]? = some (.cells #[.float .f64 x1,.float .f64 x2,.bool x3] 47)):=(o7 _ (by omega)).trans HE.out.1
           clear HR2 HE HT HS HGL b2 e7 b7 s7 o7 hgw
           refine wp_region_noPanic ?_
           have SV0:(fun V=>Below w7.heap.size w7 V) w7.drew:=(Below.refl _ _).drew
           refine wp_region_held_drew (S:=(fun V=>Below w7.heap.size w7 V)) (by kernel_rfl) SV0 (fun _=>?_)
           refine tzI 156 0 ?_ ?_ SV0 ?_
           rotate_left
           ·intro w' hSw;go_simp;try with_reducible rfl
           (try simp only [pA,pE,pB,pC,pD])
           refine tzI 157 1 ?_ ?_ SV0 ?_
           rotate_left
           ·intro w' hSw;go_simp;try with_reducible rfl
           (try simp only [pA,pE,pB,pC,pD])
           refine tzI 158 2 ?_ ?_ SV0 ?_
           rotate_left
           ·intro w' hSw;go_simp;try with_reducible rfl
           (try simp only [pA,pE,pB,pC,pD])
           refine tzH 159 3 (.agg #[.float .f64 x1,.float .f64 x2,.bool x3]) (yieldsIf_load_mid (by kernel_rfl) 47 _ rfl gt (i * 3) (by kernel_rfl) [.float .f64 x1,.float .f64 x2,.bool x3] _ (fun w' hSw=>range_later HR7.out hSw) Tryz.underlying47 rfl Tryz.infoSpJ) SV0 ?_
           (try simp only [pA,pE,pB,pC,pD])
           refine tzH 160 4 (.agg #[.float .f64 x1,.float .f64 x2,.bool x3]) (Or.inl ⟨by kernel_rfl,fun w' hSw=>ex_loadRN _ 47 _ rfl wr.heap.size (by kernel_rfl) w' _ (kept hSw HB7.out) _ Tryz.underlying47 rfl 3 Tryz.infoSpJ rfl⟩) SV0 ?_
           (try simp only [pA,pE,pB,pC,pD])
           refine tzI 161 5 ?_ ?_ SV0 ?_
           rotate_left
           ·intro w' hSw;go_simp;try with_reducible rfl
           (try simp only [pA,pE,pB,pC,pD])
           refine wpAnyH_done (by kernel_rfl) ?_ _
           refine NoPanic.normal ?_
           (try simp only [pA,pE,pB,pC,pD])
           have PM:Hid (Below w.heap.size w w7.drew /\ SpB w7.drew gs n /\ SpN w7.drew gt n):=⟨PN.out.1.drew,PN.out.2.1,PN.out.2.2⟩
           clear P1 SV0 HR7 HB7 PN
           go_wp2_with fail
           go_roundg qq
           case measure=>omega
           case rel=>exact ⟨i + 1,by go_num,by have:=HIG.out;omega,PM⟩
          ·have e1:decide ((i:Int) < (n:Int)) = false:=decide_eq_false (by omega)
           have e2:decide (i < n) = false:=decide_eq_false (by omega)
           have HB15:Hid (Below w.heap.size w wr):=P1.out.1
           clear hj P1
           go_wp2_with (go_at_call 14;refine Calls.mono (started_any _) ?_;rintro e w8 ⟨rfl,b8⟩)
           go_ret
           exact ⟨rfl,to_call HB15.out b8⟩
        ·rw [g1] at k1;cases k1
       ·rcases BT.is with ⟨k1,_⟩ | ⟨_,rfl⟩
        ·rw [g1] at k1;cases k1
        ·clear hj BS BT g1
         go_wp2_with fail
         go_loopg [21] 0 (fun gg iv wx=>iv = .int .i64 0 /\ Hid (Below w.heap.size w wx))
         case atStart=>exact ⟨rfl,HB15⟩
         case round=>
          clear HB15
          obtain ⟨rfl,HB15⟩:=hrel
          go_wp2_with (go_at_call 14;refine Calls.mono (started_any _) ?_;rintro e w8 ⟨rfl,b8⟩)
          go_ret
          exact ⟨rfl,to_call HB15.out b8⟩
end Go.Proofs.YtmdjoaipkbnelaaGreat
