import Derived.Test.YtmdjoaipkbnelaaGreatPYo
set_option linter.unusedVariables false
set_option linter.unusedSimpArgs false
namespace Go.Proofs.YtmdjoaipkbnelaaGreat
open Go.RowKit Go.Shelf
theorem own_some6 {W:World} {base size n:Nat} {E:TypeId} {v:Value} {xs:List Value} (h:W.ownsRow base E size v n xs) (hn:0 < n):∃ g cap,v = .slice (some ⟨g,0,none⟩) n cap:=by
 rcases h.2 with ⟨_,h2⟩ | ⟨g,cap,cur,h1,_⟩
 ·omega
 ·exact ⟨g,cap,h1⟩
theorem zRow_one (y:ZD):∀ u ∈ (zRow y).toList,u.oneCell' = true:=by
 intro u hu
 have h:=Array.all_eq_true_iff_forall_mem.1 (oneZ y.N (.slice y.co y.cn y.cc) (.slice y.io y.dn y.dc) (.slice y.go y.gn y.gc) (.slice y.ro y.rn y.rc) rfl rfl rfl rfl y.bad)
 exact h u (Array.mem_toList_iff.1 hu)
theorem zsL_one (ys:List ZD):∀ u ∈ zsL ys,u.oneCell' = true:=by
 intro u hu
 unfold zsL at hu
 obtain ⟨y,_,h⟩:=List.mem_flatMap.1 hu
 exact zRow_one y u h
theorem news_zs {W:World} {I:Nat} {zs:List ZD} {E:TypeId} (h:W.heap[I]? = some (.cells (zsL zs).toArray E)):∀ j u,(zsL zs)[j]? = some u -> W.cell? ((⟨I,0,none⟩:Addr).add j) = some u:=by
 intro j u hj
 rw [Addr.add_lit,cell_of_row _ I _ _ _ _ h,List.getElem?_toArray,Nat.zero_add]
 exact hj
theorem zRow_range {W:World} {I0 i:Nat} {ys:List ZD} (h:i < ys.length) (hc:∀ f,f < 6 -> W.cell? ⟨I0,i * 6 + f,none⟩ = (zsL ys)[i * 6 + f]?):W.rangeAt I0 (i * 6) (zRow ys[i]).toList:=by
 intro j u hj
 have hl:j < 6:=(List.getElem?_eq_some_iff.1 hj).1
 rw [hc j hl,zsL_at ys i j h hl,<- Array.getElem?_toList]
 exact hj
theorem zs_range {W:World} {E:TypeId} {b I0 cp n:Nat} {ys:List ZD} (h:W.ownsRow b E 6 (.slice (some ⟨I0,0,none⟩) n cp) n (zsL ys)) (hn:ys.length = n) {i:Nat} (hi:i < ys.length):W.rangeAt I0 (i * 6) (zRow ys[i]).toList:=
 zRow_range hi fun f hf=>World.ownsRow.cellAt h (i * 6 + f) (by omega)
theorem zb_range {W:World} {E:TypeId} {J:Nat} {ys:List ZD} (h:W.heap[J]? = some (.cells (zsL ys).toArray E)) {i:Nat} (hi:i < ys.length):W.rangeAt J (i * 6) (zRow ys[i]).toList:=
 zRow_range hi fun f hf=>by rw [cell_of_row _ J _ _ _ _ h,List.getElem?_toArray]
theorem hopB4 {P:Program} {ops:Array Oper} {Q:Exit -> Act -> World -> Prop} {i:Nat} {o:Oper} {K:Act -> World -> Prop} {a:Act} {w:World} (d:Nat) (zs:List ZD) (E:TypeId) (ho:ops[i]? = some o) (hg:o.guard = none) (hd:o.dst = some d)
  (hr:(execOp a.eval o).run P w = .ok (.value (.slice (some ⟨w.heap.size,0,none⟩) 4 4)) (w.alloc (.cells (zsL zs).toArray E)))
  (h:∀ I W',W'.heap[I]? = some (.cells (zsL zs).toArray E) -> Below w.heap.size w W' -> w.heap.size <= I -> K (a.put (some d) (.slice (some ⟨I,0,none⟩) 4 4)) W'):wpOp P ops Q i K a w:=
 hopV d ho hg hd hr (h _ _ (heap_alloc_new w _) ((Below.refl _ w).alloc (Nat.le_refl _) _) (Nat.le_refl _))
theorem Tryz.infoZA:(Tryz.prog.info? 26).map (fun i=>(i.zero,i.size,i.bytes)) = some (some (.agg #[.int .i64 0,.slice none 0 0,.slice none 0 0,.slice none 0 0,.slice none 0 0,.bool false]),6,112):=by kernel_rfl
theorem Tryz.infoUA:(Tryz.prog.info? 30).map (fun i=>(i.zero,i.size,i.bytes)) = some (some (.agg #[.int .i64 0,.slice none 0 0,.slice none 0 0,.slice none 0 0,.slice none 0 0,.bool false]),6,112):=by kernel_rfl
theorem KdL.push4 {a b x y1 y2 y3:ZD} {next:Int} {ys:List ZD} {m:Nat} (h:KdL a b next ys) (hl:ys.length = 4 * m) (h0:LfO a next x) (h1:BxR a y1) (h2:PlP a b y2) (h3:NwR a y3):KdL a b next (ys ++ [x,y1,y2,y3]):=by
 intro i hi
 by_cases hy:i < ys.length
 ·rw [List.getElem_append_left hy];exact h i hy
 ·rw [List.length_append] at hi
  have hi4:i - ys.length < 4:=by simp only [List.length_cons,List.length_nil] at hi;omega
  rw [List.getElem_append_right (by omega)]
  have hm:i % 4 = i - ys.length:=by omega
  rw [hm]
  obtain ⟨t,ht⟩:∃ t,i - ys.length = t:=⟨_,rfl⟩
  simp only [ht] at hi4 ⊢
  match t,hi4 with
  | 0,_=>exact Kd.k0 h0
  | 1,_=>exact Kd.k1 h1
  | 2,_=>exact Kd.k2 h2
  | 3,_=>exact Kd.k3 h3
structure OwL (w W:World) (a bz:ZD) (next:Int) (m:Nat) (lv:Value) (ys:List ZD):Prop where
 b:Below w.heap.size w W
 len:ys.length = 4 * m
 l:W.ownsRow w.heap.size 26 6 lv (4 * m) (zsL ys)
 an:AnL W w.heap.size ys
 kd:KdL a bz next ys
theorem owns_keepZ {W V:World} {E:TypeId} {base size n:Nat} {v:Value} {xs:List Value} (h:W.ownsRow base E size v n xs) (hb:Below W.heap.size W V):V.ownsRow base E size v n xs:=owns_keep h fun k e=>hb.block k (World.ownsRow.lt h k e).2
theorem OwL.begin (w:World) (a b:ZD) (next:Int):OwL w w a b next 0 (.slice none 0 0) []:=
 ⟨Below.refl _ _,rfl,World.ownsRow_nil _ _ _ _,AnL.nil _ _,fun i h=>absurd h (Nat.not_lt_zero _)⟩
theorem OwL.step {w W V w':World} {a b x y1 y2 y3:ZD} {next:Int} {m:Nat} {lv v':Value} {ys:List ZD} (S:OwL w W a b next m lv ys) (hb:Below W.heap.size W V) (an:AnL V w.heap.size (((ys ++ [x]) ++ [y1]) ++ [y2] ++ [y3])) (h0:LfO a next x) (h1:BxR a y1) (h2:PlP a b y2) (h3:NwR a y3)
  (hl:V.ownsRow w.heap.size 26 6 lv (4 * m) (zsL ys)) (o':w'.ownsRow w.heap.size 26 6 v' (4 * m + 4) (zsL ys ++ zsL [x,y1,y2,y3])) (g:Grw V w' lv.ownBlock v'.ownBlock):OwL w w' a b next (m + 1) v' (ys ++ [x,y1,y2,y3]):=by
 have hbV:Below w.heap.size w V:=S.b.trans (hb.mono S.b.size)
 refine ⟨hbV.trans (g.below (fun k hk=>(World.ownsRow.lt hl k hk).1) hbV.size),by rw [List.length_append,S.len];simp;omega,?_,?_,S.kd.push4 S.len h0 h1 h2 h3⟩
 ·rw [zsL_app];exact o'
 ·have e:(((ys ++ [x]) ++ [y1]) ++ [y2] ++ [y3]) = ys ++ [x,y1,y2,y3]:=by simp
  rw [e] at an
  exact an.keepT 26 (by decide) (by decide) (by decide) (grw_types hl g)
structure WaL (W4 W:World) (ys:List ZD) (i:Nat) (wv:Value) (us:List ZD):Prop where
 b:Below W4.heap.size W4 W
 len:us.length = i
 l:W.ownsRow W4.heap.size 30 6 wv i (zsL us)
 w:WsL W W4.heap.size us ys
theorem WaL.begin (W:World) (ys:List ZD):WaL W W ys 0 (.slice none 0 0) []:=⟨Below.refl _ _,rfl,World.ownsRow_nil _ _ _ _,fun i h=>absurd h (Nat.not_lt_zero _)⟩
theorem WaL.step {W4 W V w':World} {ys us:List ZD} {i:Nat} {wv v':Value} {u y:ZD} (S:WaL W4 W ys i wv us) (hb:Below W.heap.size W V) (hy:ys[i]? = some y) (hu:OfO V W.heap.size u) (hs:SmZ u y)
  (hl:V.ownsRow W4.heap.size 30 6 wv i (zsL us)) (o':w'.ownsRow W4.heap.size 30 6 v' (i + 1) (zsL us ++ zsL [u])) (g:Grw V w' wv.ownBlock v'.ownBlock):WaL W4 w' ys (i + 1) v' (us ++ [u]):=by
 have hbV:Below W4.heap.size W4 V:=S.b.trans (hb.mono S.b.size)
 refine ⟨hbV.trans (g.below (fun k hk=>(World.ownsRow.lt hl k hk).1) hbV.size),by rw [List.length_append,S.len];rfl,by rw [zsL_app];exact o',fun j hj=>?_⟩
 by_cases hji:j < us.length
 ·obtain ⟨z,h1,h2,h3⟩:=S.w j hji
  rw [List.getElem_append_left hji]
  exact ⟨z,h1,(h2.later hb).keepT (grw_types hl g),h3⟩
 ·have hlen:=S.len
  have e:j = i:=by rw [List.length_append] at hj;simp only [List.length_cons,List.length_nil] at hj;omega
  subst e
  rw [List.getElem_append_right (by omega)]
  simp only [List.getElem_singleton]
  exact ⟨y,hy,(hu.keepT (grw_types hl g)).mono S.b.size,hs⟩
theorem marked_l {W0:World} {base bl lc:Nat} {lo:Option Addr} {L:List Value} (h:FamL W0 45 base L) (hb0:base <= W0.heap.size) (hl:W0.ownsRow bl 22 1 (.slice lo L.length lc) L.length L) (hK:L.length <= 20000000) :
  Calls Tryz.prog 10 #[.slice lo L.length lc] W0 fun e w'=>e = .returned (.bool true) /\ Below base W0 w' /\ ∀ k,k < W0.heap.size -> (∀ v ∈ L,v.ownBlock ≠ some k) -> w'.heap[k]? = W0.heap[k]?:=by
 obtain ⟨v,n,C,hF,hn,hr⟩:=h.toFam
 refine Calls.mono (markedF_any L.length base bl v n C lo lc W0 hK hn hb0 (by rw [hr];exact hl) hF) ?_
 rintro e w' ⟨rfl,hb,hk⟩
 exact ⟨rfl,hb,fun k h1 h2=>hk k h1 fun i hi=>h2 (v i) (by rw [<- hr];exact List.mem_map.2 ⟨i,List.mem_range.2 hi,rfl⟩)⟩
theorem ids_l {W0:World} {base bl I0 cp n:Nat} {ys:List ZD} (hn:ys.length = n) (hn0:0 < n) (hn8:n <= 8) (hI:FamL W0 3 base (ys.map ivY)) (hG:FamL W0 22 base (ys.map gvY)) (hz:∀ y ∈ ys,ZW y) (hb0:base <= W0.heap.size)
  (hl:W0.ownsRow bl 26 6 (.slice (some ⟨I0,0,none⟩) n cp) n (zsL ys)) :
  Calls Tryz.prog 12 #[.slice (some ⟨I0,0,none⟩) n cp] W0 fun e w'=>e = .returned (.bool true) /\ Below base W0 w' /\ ∀ k,k < W0.heap.size -> (∀ v ∈ ys.map ivY,v.ownBlock ≠ some k) -> (∀ v ∈ ys.map gvY,v.ownBlock ≠ some k) -> w'.heap[k]? = W0.heap[k]?:=by
 subst hn
 obtain ⟨CI,fI⟩:=FamL.idx (s:=ivY) (nn:=fun y=>y.dn) (fun y=>⟨_,_,rfl⟩) hI
 obtain ⟨CG,fG⟩:=FamL.idx (s:=gvY) (nn:=fun y=>y.gn) (fun y=>⟨_,_,rfl⟩) hG
 refine Calls.mono (idsO_any ys ys.length base I0 cp CI CG W0 rfl hn8 (fun k hk=>?_) hb0 (RdZs.of hl) (owns_type hl rfl) fI fG) ?_
 ·have h1:=hz ys[k] (List.getElem_mem hk)
  unfold nI nG
  rw [List.getElem?_eq_getElem hk,Option.getD_some]
  exact ⟨by have:=h1.il;omega,by have:=h1.gl;omega⟩
 ·rintro e w' ⟨rfl,hb,hk⟩
  refine ⟨rfl,hb,fun k h1 h2 h3=>hk k h1 (fun j hj=>?_) (fun j hj=>?_)⟩
  ·have h4:=h2 (ivY ys[j]) (List.mem_map.2 ⟨_,List.getElem_mem hj,rfl⟩)
   unfold vI
   rw [List.getElem?_eq_getElem hj,Option.getD_some]
   exact h4
  ·have h4:=h3 (gvY ys[j]) (List.mem_map.2 ⟨_,List.getElem_mem hj,rfl⟩)
   unfold vG
   rw [List.getElem?_eq_getElem hj,Option.getD_some]
   exact h4
theorem lsF_len_le:∀ (ys:List ZD),(∀ y ∈ ys,ZW y) -> (lsF ys).length <= ys.length * 1050002
 | [],_=>Nat.zero_le _
 | y :: ys,h=>by
  have h1:=lsF_len_le ys fun z hz=>h z (List.mem_cons_of_mem _ hz)
  have h2:=(h y (List.mem_cons_self ..)).gl
  have e:lsF (y :: ys) = lsV y ++ lsF ys:=rfl
  rw [e,List.length_append,lsV_len,List.length_cons]
  omega
theorem WsL.bits {W w:World} {H:Nat} {a b z:ZD} {next:Int} {us ys:List ZD} (h:WsL W H us ys) (kd:KdL a b next ys) (ha:ZR w a) (hd:a.dn <= 1048576) {i t:Nat} (ht:t < us.length) (hi:t % 4 = i) (hz:Kd a b next i z):∃ u,zRow u = zRow us[t] /\ ZU W u /\ bitsB z u = true:=by
 obtain ⟨y,h1,h2,h3⟩:=h t ht
 obtain ⟨u,e,hu,u1,u2,u3,u4,u5,u6⟩:=h2.zu
 have hty:t < ys.length:=(List.getElem?_eq_some_iff.1 h1).1
 have hk:=kd t hty
 rw [hi] at hk
 have e2:ys[t] = y:=(List.getElem?_eq_some_iff.1 h1).2
 rw [e2] at hk
 obtain ⟨d1,d2,d3,d4,d5,d6⟩:=Kd.det (by omega) ha hd hz hk
 exact ⟨u,e,hu,bits_true (by rw [u1,h3.N,d1]) (by rw [u2,h3.bad,d2]) (by rw [u3,h3.cs,d3]) (by rw [u4,h3.rs,d4]) (by rw [u5,h3.ids,d5]) (by rw [u6,h3.gs,d6])⟩
theorem WsL.keepB {W W':World} {H:Nat} {us ys:List ZD} (h:WsL W H us ys) (hk:∀ k,H <= k -> k < W.heap.size -> W'.heap[k]? = W.heap[k]?):WsL W' H us ys:=fun i hi=>by
 obtain ⟨y,h1,h2,h3⟩:=h i hi
 exact ⟨y,h1,h2.keepB hk,h3⟩
theorem OwL.lt {w W:World} {a b:ZD} {next:Int} {m:Nat} {lv:Value} {ys:List ZD} (S:OwL w W a b next m lv ys):(∀ v ∈ lsF ys,∀ k,v.ownBlock = some k -> k < W.heap.size) /\ (∀ v ∈ ys.map ivY,∀ k,v.ownBlock = some k -> k < W.heap.size) /\ (∀ v ∈ ys.map gvY,∀ k,v.ownBlock = some k -> k < W.heap.size):=
 ⟨fun v hv k e=>(S.an.f.lt hv e).2,fun v hv k e=>(S.an.i.lt hv e).2,fun v hv k e=>(S.an.g.lt hv e).2⟩
theorem cells_type {W:World} {q:Nat} {c1 c2:Array Value} {t1 t2:TypeId} (h1:W.heap[q]? = some (.cells c1 t1)) (h2:W.heap[q]? = some (.cells c2 t2)):t1 = t2:=by
 rw [h1] at h2
 injection h2 with h2
 injection h2
theorem own_ids {w W4 w8 w9:World} {a b:ZD} {next:Int} {I0 cp:Nat} {ys:List ZD} (S:OwL w W4 a b next 2 (.slice (some ⟨I0,0,none⟩) 8 cp) ys) (b8:Below W4.heap.size W4 w8) (hl8:ys.length = 8) (b9:Below w.heap.size w8 w9) (k9:∀ k,k < w8.heap.size -> (∀ v ∈ lsF ys,v.ownBlock ≠ some k) -> w9.heap[k]? = w8.heap[k]?) :
  Calls Tryz.prog 12 #[.slice (some ⟨I0,0,none⟩) 8 cp] w9 fun e w'=>e = .returned (.bool true) /\ Below w.heap.size w9 w' /\ ∀ k,k < w9.heap.size -> (∀ v ∈ ys.map ivY,v.ownBlock ≠ some k) -> (∀ v ∈ ys.map gvY,v.ownBlock ≠ some k) -> w'.heap[k]? = w9.heap[k]?:=by
 have an:=S.an.later b8
 have kt:∀ (k:Nat) (cur:Array Value) (t:TypeId),t ≠ 45 -> w8.heap[k]? = some (.cells cur t) -> w9.heap[k]? = w8.heap[k]?:=fun k cur t ht hc=>k9 k (blk_lt hc) fun v hv e=>by
  obtain ⟨c2,h2⟩:=an.f.ty hv e
  exact ht (cells_type hc h2)
 have l8:=owns_keepZ S.l b8
 refine ids_l hl8 (by decide) (Nat.le_refl _) (an.i.keepT fun k cur hc=>kt k cur _ (by decide) hc) (an.g.keepT fun k cur hc=>kt k cur _ (by decide) hc) (fun y hy=>(S.an.z y hy).2.1) (Nat.le_trans (Nat.le_trans S.b.size b8.size) b9.size) (owns_keep l8 fun k e=>?_)
 obtain ⟨cur,hc⟩:=owns_type l8 e
 exact kt k cur _ (by decide) hc
theorem own_fr {w W4 w7 w8 w9 w10:World} {a b:ZD} {next:Int} {lv:Value} {m:Nat} {ys:List ZD} (S:OwL w W4 a b next m lv ys) (b8:Below W4.heap.size W4 w8) (b78:Below w7.heap.size w7 w8) (b9:Below w.heap.size w8 w9) (k9:∀ k,k < w8.heap.size -> (∀ v ∈ lsF ys,v.ownBlock ≠ some k) -> w9.heap[k]? = w8.heap[k]?) (b10:Below w.heap.size w9 w10) (k10:∀ k,k < w9.heap.size -> (∀ v ∈ ys.map ivY,v.ownBlock ≠ some k) -> (∀ v ∈ ys.map gvY,v.ownBlock ≠ some k) -> w10.heap[k]? = w9.heap[k]?) :
  Below w.heap.size w w10 /\ (∀ k,W4.heap.size <= k -> k < w7.heap.size -> w10.heap[k]? = w7.heap[k]?) /\ w7.heap.size <= w10.heap.size:=by
 have h1:=b78.size
 have h2:=b9.size
 have h3:=b10.size
 obtain ⟨l1,l2,l3⟩:=S.lt
 refine ⟨((S.b.trans (b8.mono S.b.size)).trans b9).trans b10,fun k hk hk7=>?_,by omega⟩
 refine (k10 k (by omega) (fun v hv e=>?_) (fun v hv e=>?_)).trans ((k9 k (by omega) fun v hv e=>?_).trans (b78.block k hk7))
 ·have:=l2 v hv k e;omega
 ·have:=l3 v hv k e;omega
 ·have:=l1 v hv k e;omega
end Go.Proofs.YtmdjoaipkbnelaaGreat
