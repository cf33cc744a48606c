import Derived.Test.YtmdjoaipkbnelaaGreatPYe
set_option maxRecDepth 100000
set_option maxHeartbeats 4000000
set_option linter.unusedVariables false
set_option linter.unusedSimpArgs false
namespace Go.Proofs.YtmdjoaipkbnelaaGreat
open Go.RowKit Go.Shelf
theorem append_gsL {SE E:TypeId} {z:Value} {size bytes:Nat} (hu:Tryz.prog.underlying SE = some (.slice E)) (hinfo:(Tryz.prog.info? E).map (fun i=>(i.zero,i.size,i.bytes)) = some (some z,size,bytes)) (hzc:z.cells.size = size) (hsz:0 < size) (hby:bytes <= 1024)
  {ops:Array Oper} {rest:List Oper} {o:Oper} {a:Act} {Q:Exit -> Act -> World -> Prop} (W:World) (hgd:o.guard = none) (s x:Operand) (ho:o.op = .call { callee:=.builtin .append,args:=#[s,x],argTypes:=#[SE,SE] })
  (base:Nat) (v:Value) (n:Nat) (xs:List Value) (hs:a.eval s = v) (hown:W.ownsRow base E size v n xs)
  (ad:Addr) (m c:Nat) (news:List Value) (hx:a.eval x = .slice (some ad) m c) (hl:news.length = m * size) (hnews:∀ j u,news[j]? = some u -> W.cell? (ad.add j) = some u) (h1:∀ u ∈ news,u.oneCell' = true)
  (hlen:n + m <= 40000000) (hbase:base <= W.heap.size)
  (h:∀ v' w',w'.ownsRow base E size v' (n + m) (xs ++ news) -> Grw W w' v.ownBlock v'.ownBlock -> wpList Tryz.prog ops Q rest (a.put o.dst v') w'):wpList Tryz.prog ops Q (o :: rest) a W:=by
 obtain ⟨i0,hi,hz0,hz1,hz2⟩:=info3' hinfo
 have hb2:(n + m) * bytes <= 140737488355328:=Nat.le_trans (Nat.mul_le_mul hlen hby) (by decide)
 have grow:∀ (w':World) (v':Value),w'.ownsRow W.heap.size E size v' (n + m) (xs ++ news) -> W.grownBy w' none -> wpList Tryz.prog ops Q rest (a.put o.dst v') w':=by
  intro w' v' g1 g2
  exact h v' w' (owns_monoJ g1 hbase) ⟨⟨g2.os,g2.tape,g2.output,g2.size,fun k hk _=>g2.block k hk (by simp)⟩,.inr fun k hk=>(World.ownsRow.lt g1 k hk).1⟩
 rcases hown.2 with ⟨rfl,h0⟩ | ⟨g,cap,cur,hv,hg,hh,k1,k2,k3,k4⟩
 ·subst h0
  have hx0:xs = []:=List.eq_nil_of_length_eq_zero (by simpa using hown.1)
  subst hx0
  by_cases hm:m = 0
  ·subst hm
   have hn0:news = []:=List.eq_nil_of_length_eq_zero (by simpa using hl)
   subst hn0
   refine wpList_append_own W hgd s x SE ho base E i0 z size bytes hu hi hz0 hz1 hz2 hzc hsz (.slice none 0 0) 0 [] hs hown ad 0 c [] hx (by simp) hnews h1 (by simp [maxLen]) (by simp) hbase ?_
   intro v' w' r1 r2 r3
   obtain rfl:=r3.2 ⟨rfl,rfl⟩
   exact h _ w' r1 ⟨r2,.inl rfl⟩
  ·refine wpList_append_grows W hgd s x SE ho E i0 z size bytes hu hi hz0 hz1 hz2 hzc hsz none 0 0 [] hs (fun _=>⟨rfl,rfl⟩) (by simp) (fun b hb=>by cases hb) ad m c news hx hl hnews h1 (by omega) (by simp only [maxLen];omega) hb2 ?_
   intro v' w' r1 r2
   exact grow w' v' r1 r2
 ·by_cases hr:n + m <= cap
  ·subst hv
   refine wpList_append_fits W hgd s x SE ho base E i0 size hu hi hz1 g n cap xs hs hown ad m c news hx hl hnews h1 hr ?_
   intro w' r1 r2
   exact h _ w' r1 ⟨r2,.inl rfl⟩
  ·refine wpList_append_grows W hgd s x SE ho E i0 z size bytes hu hi hz0 hz1 hz2 hzc hsz (some ⟨g,0,none⟩) n cap xs (by rw [hs,hv]) (fun c=>by cases c) hown.1 ?_ ad m c news hx hl hnews h1 (by omega) (by simp only [maxLen];omega) hb2 ?_
   ·intro b hb j u hj
    cases hb
    exact World.ownsRow.cells hown (by rw [hv];rfl) j u hj
   ·intro v' w' r1 r2
    exact grow w' v' r1 r2
theorem append_gnL {SE E:TypeId} {z:Value} {size bytes:Nat} (hu:Tryz.prog.underlying SE = some (.slice E)) (hinfo:(Tryz.prog.info? E).map (fun i=>(i.zero,i.size,i.bytes)) = some (some z,size,bytes)) (hzc:z.cells.size = size) (hsz:0 < size) (hby:bytes <= 1024)
  {ops:Array Oper} {rest:List Oper} {o:Oper} {a:Act} {Q:Exit -> Act -> World -> Prop} (W:World) (hgd:o.guard = none) (s x:Operand) (ho:o.op = .call { callee:=.builtin .append,args:=#[s,x],argTypes:=#[SE,SE] })
  (base:Nat) (v:Value) (n:Nat) (xs:List Value) (hs:a.eval s = v) (hown:W.ownsRow base E size v n xs)
  (xo:Option Addr) (m c:Nat) (news:List Value) (hx:a.eval x = .slice xo m c) (hnone:xo = none -> m = 0 /\ c = 0) (hl:news.length = m * size) (hnews:∀ ad,xo = some ad -> ∀ j u,news[j]? = some u -> W.cell? (ad.add j) = some u) (h1:∀ u ∈ news,u.oneCell' = true)
  (hlen:n + m <= 40000000) (hbase:base <= W.heap.size)
  (h:∀ v' w',w'.ownsRow base E size v' (n + m) (xs ++ news) -> Grw W w' v.ownBlock v'.ownBlock -> wpList Tryz.prog ops Q rest (a.put o.dst v') w'):wpList Tryz.prog ops Q (o :: rest) a W:=by
 cases xo with
 | some ad=>exact append_gsL hu hinfo hzc hsz hby W hgd s x ho base v n xs hs hown ad m c news hx hl (hnews ad rfl) h1 hlen hbase h
 | none=>
  obtain ⟨rfl,rfl⟩:=hnone rfl
  obtain ⟨i0,hi,hz0,hz1,hz2⟩:=info3' hinfo
  have hn0:news = []:=List.eq_nil_of_length_eq_zero (by simpa using hl)
  subst hn0
  refine wpList_append_own_none hgd s x SE ho base E i0 size hu hi v n xs hs hown hx (h v W (by rw [List.append_nil];exact hown) ⟨⟨rfl,rfl,rfl,Nat.le_refl _,fun _ _ _=>rfl⟩,.inl rfl⟩)
theorem hopBK {P:Program} {ops:Array Oper} {Q:Exit -> Act -> World -> Prop} {i:Nat} {o:Oper} {K:Act -> World -> Prop} {a:Act} {w:World} (d:Nat) (y y':Value) (E:TypeId) (ho:ops[i]? = some o) (hg:o.guard = none) (hd:o.dst = some d)
  (hr:(execOp a.eval o).run P w = .ok (.value (.slice (some ⟨w.heap.size,0,none⟩) 2 2)) (w.alloc (.cells #[y,y'] E)))
  (h:∀ I W',W'.heap[I]? = some (.cells #[y,y'] E) -> Below w.heap.size w W' -> K (a.put (some d) (.slice (some ⟨I,0,none⟩) 2 2)) W'):wpOp P ops Q i K a w:=
 hopV d ho hg hd hr (h _ _ (heap_alloc_new w _) ((Below.refl _ w).alloc (Nat.le_refl _) _))
def gvL (x:ZD):List Value:=(List.range x.gn).map fun j=>.slice (x.gv j).1 (x.gv j).2.1 (x.gv j).2.2
def lsV (x:ZD):List Value:=[(.slice x.co x.cn x.cc),(.slice x.ro x.rn x.rc)] ++ gvL x
theorem gvL_len (x:ZD):(gvL x).length = x.gn:=by unfold gvL;simp
theorem gvL_one (x:ZD):∀ u ∈ gvL x,u.oneCell' = true:=by
 intro u hu
 obtain ⟨j,_,rfl⟩:=List.mem_map.1 hu
 rfl
theorem rdG_news {w:World} {x:ZD} (h:RdGs w x.go x.gn x.gc x.gv x.gs):∀ ad,x.go = some ad -> ∀ j u,(gvL x)[j]? = some u -> w.cell? (ad.add j) = some u:=by
 intro ad ha j u hj
 have hl:j < x.gn:=by have:=(List.getElem?_eq_some_iff.1 hj).1;rw [gvL_len] at this;exact this
 unfold gvL at hj
 rw [List.getElem?_map,List.getElem?_range hl] at hj
 cases hj
 rcases h.cells with h0 | ⟨b,off,he,hc⟩
 ·omega
 ·rw [ha] at he
  cases he
  rw [Addr.add_mid]
  exact hc j hl
def lsF (ys:List ZD):List Value:=ys.flatMap lsV
theorem lsF_snoc (ys:List ZD) (y:ZD):lsF (ys ++ [y]) = lsF ys ++ lsV y:=by unfold lsF;rw [List.flatMap_append];simp
theorem lsF_take {ys:List ZD} {i:Nat} (h:i < ys.length):lsF (ys.take (i + 1)) = lsF (ys.take i) ++ lsV ys[i]:=by rw [List.take_succ_eq_append_getElem h,lsF_snoc]
theorem lsF_le (ys:List ZD) (i:Nat):(lsF (ys.take i)).length <= (lsF ys).length:=by
 have h:lsF ys = lsF (ys.take i) ++ lsF (ys.drop i):=by unfold lsF;rw [<- List.flatMap_append,List.take_append_drop]
 rw [h,List.length_append];omega
theorem lsV_len (y:ZD):(lsV y).length = 2 + y.gn:=by unfold lsV;rw [List.length_append,gvL_len];rfl
structure RdZs (W:World) (I0:Nat) (ys:List ZD):Prop where
 c:∀ i (h:i < ys.length),W.cell? ⟨I0,i * 6 + 1,none⟩ = some (.slice ys[i].co ys[i].cn ys[i].cc) /\ W.cell? ⟨I0,i * 6 + 2,none⟩ = some (.slice ys[i].io ys[i].dn ys[i].dc) /\ W.cell? ⟨I0,i * 6 + 3,none⟩ = some (.slice ys[i].go ys[i].gn ys[i].gc) /\ W.cell? ⟨I0,i * 6 + 4,none⟩ = some (.slice ys[i].ro ys[i].rn ys[i].rc)
theorem RdZs.later {W W':World} {I0:Nat} {ys:List ZD} (h:RdZs W I0 ys) (hb:Below W.heap.size W W'):RdZs W' I0 ys:=by
 have cell:∀ (p:Addr) (v:Value),W.cell? p = some v -> W'.cell? p = some v:=fun p v hp=>(hb.cell (World.block_lt_of_cell? _ _ hp)).trans hp
 exact ⟨fun i hi=>⟨cell _ _ (h.c i hi).1,cell _ _ (h.c i hi).2.1,cell _ _ (h.c i hi).2.2.1,cell _ _ (h.c i hi).2.2.2⟩⟩
theorem lists_anyY (ys:List ZD) (I0 cp:Nat) (w:World) (hI:RdZs w I0 ys) (hx:∀ y ∈ ys,ZR w y /\ (y.go = none -> y.gn = 0 /\ y.gc = 0)) (hl:(lsF ys).length <= 20000000) (hk:ys.length <= 1000) :
  Calls Tryz.prog 11 #[.slice (some ⟨I0,0,none⟩) ys.length cp] w fun e w'=>∃ v,e = .returned v /\ w'.ownsRow w.heap.size 22 1 v (lsF ys).length (lsF ys) /\ Below w.heap.size w w':=by
 have HX:Hid (∀ y ∈ ys,ZR w y /\ (y.go = none -> y.gn = 0 /\ y.gc = 0)):=hx
 have HI:Hid (RdZs w I0 ys):=hI
 have HLL:Hid ((lsF ys).length <= 20000000):=hl
 obtain ⟨K,hK⟩:∃ K,ys.length = K:=⟨_,rfl⟩
 rw [hK] at hk ⊢
 have HKK:Hid (ys.length = K):=hK
 have HK1:Hid (K <= 1000):=hk
 clear hx hI hl hK
 go_enter Tryz.func11,Tryz.ntmps11
 go_wp2_with fail
 go_loopg [3,4] K (fun q v3 v4 wx=>∃ i:Nat,v4 = .int .i64 i /\ i + q = K /\ Hid (wx.ownsRow w.heap.size 22 1 v3 (lsF (ys.take i)).length (lsF (ys.take i)) /\ Below w.heap.size w wx))
 case atStart=>exact ⟨0,rfl,by omega,⟨World.ownsRow_nil _ _ _ _,Below.refl _ _⟩⟩
 case round=>
  obtain ⟨i,rfl,hj,HP⟩:=hrel
  by_cases hlt:i < K
  ·obtain ⟨q,rfl⟩:∃ q,gk = q + 1:=⟨gk - 1,by omega⟩
   have HIG:Hid (i + (q + 1) = K):=hj
   have hlt':(i:Int) < (K:Int):=by omega
   have e1:decide ((i:Int) < (K:Int)) = true:=decide_eq_true (by omega)
   have hil:i < ys.length:=by rw [HKK.out];exact hlt
   obtain ⟨x,hx⟩:∃ x,ys[i] = x:=⟨_,rfl⟩
   have HMX:Hid (ZR w x /\ (x.go = none -> x.gn = 0 /\ x.gc = 0)):=HX.out x (hx ▸ List.getElem_mem hil)
   have HCC:Hid (∀ V,Below w.heap.size w V -> V.cell? ⟨I0,i * 6 + 1,none⟩ = some (.slice x.co x.cn x.cc) /\ V.cell? ⟨I0,i * 6 + 3,none⟩ = some (.slice x.go x.gn x.gc) /\ V.cell? ⟨I0,i * 6 + 4,none⟩ = some (.slice x.ro x.rn x.rc)):=fun V hV=>by
    have h9:=(HI.out.later hV).c i hil
    rw [hx] at h9
    exact ⟨h9.1,h9.2.2.1,h9.2.2.2⟩
   have HTK:Hid (lsF (ys.take (i + 1)) = lsF (ys.take i) ++ lsV x):=by rw [<- hx];exact lsF_take hil
   obtain ⟨F,hF⟩:∃ F,lsF (ys.take i) = F:=⟨_,rfl⟩
   rw [hF] at HP HTK
   have HLF:Hid (F.length + (2 + x.gn) <= 20000000):=by
    have h1:=lsF_le ys (i + 1)
    rw [HTK.out,List.length_append,lsV_len] at h1
    exact Nat.le_trans h1 HLL.out
   have HO:Hid (wr.ownsRow w.heap.size 22 1 u3 F.length F):=HP.out.1
   have HB:Hid (Below w.heap.size w wr):=HP.out.2
   obtain ⟨m,hm⟩:∃ m,F.length = m:=⟨_,rfl⟩
   rw [hm] at HO HLF
   have HM:Hid (F.length = m):=hm
   clear HP hj hm hF hx hil
   go_upto_region 5 with fail
   have sV:Below w.heap.size w wr.drew:=HB.out.drew
   refine wp_region_noPanic ?_
   refine wp_region_held_drew (S:=(fun V=>Below w.heap.size w V)) (by kernel_rfl) sV (fun _=>?_)
   refine tzI 11 0 ?_ ?_ sV ?_
   rotate_left
   ·intro w' hSw;obtain ⟨c1,c3,c4⟩:=HCC.out w' hSw;go_simp;try with_reducible rfl
   try simp only [pA,pE,pB,pC,pD]
   refine tzI 12 1 ?_ ?_ sV ?_
   rotate_left
   ·intro w' hSw;obtain ⟨c1,c3,c4⟩:=HCC.out w' hSw;go_simp;try with_reducible rfl
   try simp only [pA,pE,pB,pC,pD]
   refine tzI 13 2 ?_ ?_ sV ?_
   rotate_left
   ·intro w' hSw;obtain ⟨c1,c3,c4⟩:=HCC.out w' hSw;go_simp;try with_reducible rfl
   try simp only [pA,pE,pB,pC,pD]
   refine tzI 14 3 ?_ ?_ sV ?_
   rotate_left
   ·intro w' hSw;obtain ⟨c1,c3,c4⟩:=HCC.out w' hSw;go_simp;try with_reducible rfl
   try simp only [pA,pE,pB,pC,pD]
   refine tzI 15 4 ?_ ?_ sV ?_
   rotate_left
   ·intro w' hSw;obtain ⟨c1,c3,c4⟩:=HCC.out w' hSw;go_simp;try with_reducible rfl
   try simp only [pA,pE,pB,pC,pD]
   refine tzI 16 5 ?_ ?_ sV ?_
   rotate_left
   ·intro w' hSw;obtain ⟨c1,c3,c4⟩:=HCC.out w' hSw;go_simp;try with_reducible rfl
   try simp only [pA,pE,pB,pC,pD]
   refine tzI 17 6 ?_ ?_ sV ?_
   rotate_left
   ·intro w' hSw;obtain ⟨c1,c3,c4⟩:=HCC.out w' hSw;go_simp;try with_reducible rfl
   try simp only [pA,pE,pB,pC,pD]
   refine tzI 18 7 ?_ ?_ sV ?_
   rotate_left
   ·intro w' hSw;obtain ⟨c1,c3,c4⟩:=HCC.out w' hSw;go_simp;try with_reducible rfl
   try simp only [pA,pE,pB,pC,pD]
   refine tzI 19 8 ?_ ?_ sV ?_
   rotate_left
   ·intro w' hSw;obtain ⟨c1,c3,c4⟩:=HCC.out w' hSw;go_simp;try with_reducible rfl
   try simp only [pA,pE,pB,pC,pD]
   refine tzI 20 9 ?_ ?_ sV ?_
   rotate_left
   ·intro w' hSw;obtain ⟨c1,c3,c4⟩:=HCC.out w' hSw;go_simp;try with_reducible rfl
   try simp only [pA,pE,pB,pC,pD]
   refine tzI 21 10 ?_ ?_ sV ?_
   rotate_left
   ·intro w' hSw;obtain ⟨c1,c3,c4⟩:=HCC.out w' hSw;go_simp;try with_reducible rfl
   try simp only [pA,pE,pB,pC,pD]
   refine rzH [11] ?_
   refine consH _ rfl (hopBK 22 (.slice x.co x.cn x.cc) (.slice x.ro x.rn x.rc) 22 rfl rfl rfl (by kernel_rfl) fun I V1 hI1 b1=>?_) AllReadyH.nil
   have s1:Below w.heap.size w V1:=to_call sV b1
   have o1:=owns_keepT HO.out fun k cur hc=>b1.block k (blk_lt hc)
   have hlm:=HLF.out
   refine ⟨s1,?_⟩
   try simp only [pA,pE,pB,pC,pD]
   refine rzH [12] ?_
   refine consH _ rfl (hopL rfl (append_gsL Tryz.underlying24 Tryz.infoFsJ rfl (by decide) (by decide) V1 (by rfl) _ _ (by rfl) w.heap.size _ m F (by kernel_rfl) o1 ⟨I,0,none⟩ 2 2 [(.slice x.co x.cn x.cc),(.slice x.ro x.rn x.rc)] (by kernel_rfl) rfl (news_twoJ hI1) (oneII _ _ rfl rfl) (by omega) s1.size fun v5 w5 o5 g5=>?_)) AllReadyH.nil
   have q5:Below w.heap.size w w5:=s1.trans (g5.below (fun k hk=>(World.ownsRow.lt o1 k hk).1) s1.size)
   refine (And.intro q5 ?_:_ /\ _)
   try simp only [pA,pE,pB,pC,pD]
   refine tzI 3 13 ?_ ?_ q5 ?_
   rotate_left
   ·intro w' hSw;go_simp;try with_reducible rfl
   try simp only [pA,pE,pB,pC,pD]
   refine wpAnyH_done (by kernel_rfl) ?_ _
   refine NoPanic.normal ?_
   try simp only [pA,pE,pB,pC,pD]
   have P5:Hid (w5.ownsRow w.heap.size 22 1 v5 (m + 2) (F ++ [(.slice x.co x.cn x.cc),(.slice x.ro x.rn x.rc)]) /\ Below w.heap.size w w5):=⟨o5,q5⟩
   clear o5 g5 q5 s1 o1 b1 hI1 sV HO HB
   obtain ⟨c1,c3,c4⟩:=HCC.out w5 P5.out.2
   have hK1:=HK1.out
   go_wp2_with (at_builtin;refine append_gnL Tryz.underlying24 Tryz.infoFsJ rfl (by decide) (by decide) w5 (by rfl) _ _ (by rfl) w.heap.size v5 (m + 2) _ (by rfl) P5.out.1 x.go x.gn x.gc (gvL x) (by rfl) HMX.out.2 (by rw [gvL_len];omega) (rdG_news (HMX.out.1.later P5.out.2).g) (gvL_one x) (by omega) P5.out.2.size ?_;intro v6 w6 o6 g6)
   have P6:Hid (w6.ownsRow w.heap.size 22 1 v6 (lsF (ys.take (i + 1))).length (lsF (ys.take (i + 1))) /\ Below w.heap.size w w6):=by
    refine ⟨?_,P5.out.2.trans (g6.below (fun k hk=>(World.ownsRow.lt P5.out.1 k hk).1) P5.out.2.size)⟩
    rw [HTK.out,List.length_append,lsV_len,HM.out,<- Nat.add_assoc]
    rw [List.append_assoc] at o6
    exact o6
   clear P5 o6 g6
   go_roundg q
   case measure=>omega
   case rel=>exact ⟨i + 1,by go_num,by have:=HIG.out;omega,P6⟩
  ·have hd:decide ((i:Int) < (K:Int)) = false:=decide_eq_false (by omega)
   have hd2:decide (i < K) = false:=decide_eq_false (by omega)
   have hiK:i = K:=by omega
   have HO:Hid (wr.ownsRow w.heap.size 22 1 u3 (lsF ys).length (lsF ys) /\ Below w.heap.size w wr):=by
    have h9:=HP.out
    rw [List.take_of_length_le (by rw [HKK.out];omega)] at h9
    exact h9
   clear HP hj hiK
   go_wp2_with fail
   go_ret
   exact ⟨_,rfl,HO.out.1,HO.out.2⟩
end Go.Proofs.YtmdjoaipkbnelaaGreat
