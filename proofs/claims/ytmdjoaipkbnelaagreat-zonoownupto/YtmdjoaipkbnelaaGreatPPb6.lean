import Derived.Test.YtmdjoaipkbnelaaGreatPPb5
set_option maxRecDepth 100000
set_option maxHeartbeats 4000000
set_option linter.unusedVariables false
set_option linter.unusedSimpArgs false
namespace Go.Proofs.YtmdjoaipkbnelaaGreat
open Go.RowKit Go.Shelf
theorem append_grM {SE E:TypeId} {z:Value} {bytes:Nat} (hu:Tryz.prog.underlying SE = some (.slice E)) (hinfo:(Tryz.prog.info? E).map (fun i=>(i.zero,i.size,i.bytes)) = some (some z,1,bytes)) (hzc:z.cells.size = 1) (hby:bytes <= 24)
  {ops:Array Oper} {rest:List Oper} {o:Oper} {a:Act} {Q:Exit -> Act -> World -> Prop} (W:World) (hgd:o.guard = none) (s x:Operand) (ho:o.op = .call { callee:=.builtin .append,args:=#[s,x],argTypes:=#[SE,SE] })
  (base:Nat) (v:Value) (xs:List Value) (hs:a.eval s = v) (hown:W.ownsRow base E 1 v xs.length xs)
  (ad:Addr) (m c:Nat) (news:List Value) (hx:a.eval x = .slice (some ad) m c) (hl:news.length = m) (hm:0 < m) (hnews:∀ j u,news[j]? = some u -> W.cell? (ad.add j) = some u) (h1:∀ u ∈ news,u.oneCell' = true)
  (hlen:xs.length + m <= 4000000) (hbase:base <= W.heap.size)
  (h:∀ v' w',w'.ownsRow base E 1 v' (xs ++ news).length (xs ++ news) -> Grw W w' v.ownBlock v'.ownBlock -> wpList Tryz.prog ops Q rest (a.put o.dst v') w'):wpList Tryz.prog ops Q (o :: rest) a W:=by
 obtain ⟨i0,hi,hz0,hz1,hz2⟩:=info3' hinfo
 have hb2:(xs.length + m) * bytes <= 140737488355328:=Nat.le_trans (Nat.mul_le_mul hlen hby) (by decide)
 have grow:∀ (w':World) (v':Value),w'.ownsRow W.heap.size E 1 v' (xs.length + m) (xs ++ news) -> W.grownBy w' none -> wpList Tryz.prog ops Q rest (a.put o.dst v') w':=by
  intro w' v' g1 g2
  refine h v' w' ?_ ⟨⟨g2.os,g2.tape,g2.output,g2.size,fun k hk _=>g2.block k hk (by simp)⟩,.inr fun k hk=>(World.ownsRow.lt g1 k hk).1⟩
  rw [List.length_append,hl]
  refine ⟨g1.1,?_⟩
  rcases g1.2 with g3 | ⟨g,cap,cur,hv,hg,r⟩
  ·exact .inl g3
  ·exact .inr ⟨g,cap,cur,hv,Nat.le_trans hbase hg,r⟩
 rcases hown.2 with ⟨rfl,h0⟩ | ⟨g,cap,cur,hv,hg,hh,k1,k2,k3,k4⟩
 ·have hx0:xs = []:=List.eq_nil_of_length_eq_zero h0
  subst hx0
  refine wpList_append_grows W hgd s x SE ho E i0 z 1 bytes hu hi hz0 hz1 hz2 hzc (by decide) none 0 0 [] hs (fun _=>⟨rfl,rfl⟩) rfl (fun b hb=>by cases hb) ad m c news hx (by omega) hnews h1 (by omega) (by simp only [maxLen];simp at hlen;omega) (by simpa using hb2) ?_
  intro v' w' r1 r2
  exact grow w' v' (by simpa using r1) r2
 ·by_cases hr:xs.length + m <= cap
  ·subst hv
   refine wpList_append_fits W hgd s x SE ho base E i0 1 hu hi hz1 g xs.length cap xs hs hown ad m c news hx (by omega) hnews h1 hr ?_
   intro w' r1 r2
   exact h _ w' (by rw [List.length_append,hl];exact r1) ⟨r2,.inl rfl⟩
  ·refine wpList_append_grows W hgd s x SE ho E i0 z 1 bytes hu hi hz0 hz1 hz2 hzc (by decide) (some ⟨g,0,none⟩) xs.length cap xs (by rw [hs,hv]) (fun c=>by cases c) (by omega) ?_ ad m c news hx (by omega) hnews h1 (by omega) (by simp only [maxLen];omega) hb2 ?_
   ·intro b hb j u hj
    cases hb
    exact World.ownsRow.cells hown (by rw [hv];rfl) j u hj
   ·intro v' w' r1 r2
    exact grow w' v' r1 r2
theorem append_gr1M {SE E:TypeId} {z:Value} {bytes:Nat} (hu:Tryz.prog.underlying SE = some (.slice E)) (hinfo:(Tryz.prog.info? E).map (fun i=>(i.zero,i.size,i.bytes)) = some (some z,1,bytes)) (hzc:z.cells.size = 1) (hby:bytes <= 24)
  {ops:Array Oper} {rest:List Oper} {o:Oper} {a:Act} {Q:Exit -> Act -> World -> Prop} (W:World) (hgd:o.guard = none) (s x:Operand) (ho:o.op = .call { callee:=.builtin .append,args:=#[s,x],argTypes:=#[SE,SE] })
  (base:Nat) (v:Value) (xs:List Value) (hs:a.eval s = v) (hown:W.ownsRow base E 1 v xs.length xs)
  (y:Value) (hx:a.eval x = .slice (some ⟨W.heap.size,0,none⟩) 1 1) (h1:y.oneCell' = true)
  (hlen:xs.length + 1 <= 4000000) (hbase:base <= W.heap.size)
  (h:∀ v' w',w'.ownsRow base E 1 v' (xs ++ [y]).length (xs ++ [y]) -> Grw W w' v.ownBlock v'.ownBlock -> wpList Tryz.prog ops Q rest (a.put o.dst v') w'):wpList Tryz.prog ops Q (o :: rest) a (W.alloc (.cells #[y] E)):=by
 have hsz:(W.alloc (.cells #[y] E)).heap.size = W.heap.size + 1:=Array.size_push ..
 refine append_grM hu hinfo hzc hby (W.alloc (.cells #[y] E)) hgd s x ho base v xs hs (World.ownsRow.alloc hown _) ⟨W.heap.size,0,none⟩ 1 1 [y] hx rfl (by decide) ?_ (by intro u hu;simp at hu;subst hu;exact h1) hlen (by omega) ?_
 ·intro j u hj
  match j,hj with
  | 0,hj=>
   simp only [List.getElem?_cons_zero,Option.some.injEq] at hj
   subst hj
   rw [Addr.add_lit,cell_of_row _ W.heap.size _ _ _ _ (heap_alloc_new W _)]
   rfl
 ·intro v' w' o2 g2
  refine h v' w' o2 ⟨⟨g2.by'.os,g2.by'.tape,g2.by'.output,by have:=g2.by'.size;omega,fun j hj hne=>?_⟩,?_⟩
  ·rw [g2.by'.block j (by omega) hne,Below.heap_alloc W _ j hj]
  ·rcases g2.new with e | e
   ·exact .inl e
   ·exact .inr fun k hk=>by have:=e k hk;omega
theorem own_valJ {w:World} {E:TypeId} {base size n:Nat} {v:Value} {xs:List Value} (h:w.ownsRow base E size v n xs):v.oneCell' = true /\ v.cells = #[v]:=by
 rcases h.2 with ⟨rfl,_⟩ | ⟨g,cap,cur,rfl,_⟩ <;> exact ⟨rfl,rfl⟩
theorem Tryz.infoIJ:(Tryz.prog.info? 3).map (fun i=>(i.zero,i.size,i.bytes)) = some (some (.int .i64 0),1,8):=by kernel_rfl
theorem Tryz.infoFsJ:(Tryz.prog.info? 22).map (fun i=>(i.zero,i.size,i.bytes)) = some (some (.slice none 0 0),1,24):=by kernel_rfl
theorem Tryz.szIs:(Tryz.prog.info? 23).map (·.size) = some 1:=by kernel_rfl
theorem Tryz.szFs:(Tryz.prog.info? 22).map (·.size) = some 1:=by kernel_rfl
theorem Tryz.szFss:(Tryz.prog.info? 24).map (·.size) = some 1:=by kernel_rfl
theorem rdF_keep {w w':World} {B len cap:Nat} {us:List Nat} (h:RdF w (some ⟨B,0,none⟩) len cap us) (hb:w'.heap[B]? = w.heap[B]?):RdF w' (some ⟨B,0,none⟩) len cap us:=by
 refine ⟨h.length,h.max,h.lt,?_⟩
 rcases h.cells with h0 | ⟨b,off,ha,hc⟩
 ·exact .inl h0
 ·cases ha
  refine .inr ⟨B,0,rfl,fun j hj=>?_⟩
  rw [World.cell?_of_block (w:=w) (a:=⟨B,0 + j,none⟩) hb]
  exact hc j hj
structure OwB (w:World) (base n b:Nat) (us:List Nat):Prop where
 lo:base <= b
 cur:∃ cur,w.heap[b]? = some (.cells cur 45)
 rd:RdF w (some ⟨b,0,none⟩) n n us
theorem OwB.keep {w w':World} {base n b:Nat} {us:List Nat} (h:OwB w base n b us) (hk:∀ (k:Nat) (cur:Array Value),w.heap[k]? = some (.cells cur 45) -> w'.heap[k]? = w.heap[k]?):OwB w' base n b us:=by
 obtain ⟨cur,hc⟩:=h.cur
 exact ⟨h.lo,⟨cur,(hk b cur hc).trans hc⟩,rdF_keep h.rd (hk b cur hc)⟩
theorem OwB.lt {w:World} {base n b:Nat} {us:List Nat} (h:OwB w base n b us):b < w.heap.size:=by
 obtain ⟨cur,hc⟩:=h.cur
 exact blk_lt hc
def slN (n b:Nat):Value:=.slice (some ⟨b,0,none⟩) n n
structure ColL (w:World) (base n:Nat) (gl:List Nat) (gs:List (List Nat)):Prop where
 len:gl.length = gs.length
 row:∀ j,j < gl.length -> OwB w base n (gl[j]?.getD 0) (gs[j]?.getD [])
 nodup:gl.Nodup
theorem ColL.nil (w:World) (base n:Nat):ColL w base n [] []:=⟨rfl,fun j hj=>absurd hj (Nat.not_lt_zero _),List.nodup_nil⟩
theorem ColL.keep {w w':World} {base n:Nat} {gl:List Nat} {gs:List (List Nat)} (h:ColL w base n gl gs) (hk:∀ (k:Nat) (cur:Array Value),w.heap[k]? = some (.cells cur 45) -> w'.heap[k]? = w.heap[k]?):ColL w' base n gl gs:=
 ⟨h.len,fun j hj=>(h.row j hj).keep hk,h.nodup⟩
theorem ColL.mem_lt {w:World} {base n:Nat} {gl:List Nat} {gs:List (List Nat)} (h:ColL w base n gl gs) {b:Nat} (hb:b ∈ gl):b < w.heap.size:=by
 obtain ⟨j,hj,rfl⟩:=List.getElem_of_mem hb
 have:=(h.row j hj).lt
 rwa [List.getElem?_eq_getElem hj] at this
theorem ColL.snoc {w:World} {base n b:Nat} {gl:List Nat} {gs:List (List Nat)} {us:List Nat} (h:ColL w base n gl gs) (ho:OwB w base n b us) (hn:b ∉ gl):ColL w base n (gl ++ [b]) (gs ++ [us]):=by
 refine ⟨by simp [h.len],fun j hj=>?_,?_⟩
 ·by_cases e:j < gl.length
  ·rw [List.getElem?_append_left e,List.getElem?_append_left (by rw [<- h.len];exact e)]
   exact h.row j e
  ·have ej:j = gl.length:=by simp at hj;omega
   subst ej
   rw [List.getElem?_append_right (Nat.le_refl _),List.getElem?_append_right (by rw [h.len];exact Nat.le_refl _)]
   simpa [h.len] using ho
 ·rw [List.nodup_append]
  refine ⟨h.nodup,by simp,fun a ha c hc=>?_⟩
  simp only [List.mem_cons,List.not_mem_nil,or_false] at hc
  subst hc
  exact fun e=>hn (e ▸ ha)
structure FrL (w:World) (base n bc br:Nat) (cs rs:List Nat) (ids:List Int) (gs:List (List Nat)) (vi vg:Value) (gl:List Nat):Prop where
 c:OwB w base n bc cs
 r:OwB w base n br rs
 i:w.ownsRow base 3 1 vi (ids.map (Value.int .i64)).length (ids.map (Value.int .i64))
 g:w.ownsRow base 22 1 vg (gl.map (slN n)).length (gl.map (slN n))
 col:ColL w base n gl gs
 cr:bc ≠ br
 cg:bc ∉ gl
 rg:br ∉ gl
theorem owns_keepT {w w':World} {E:TypeId} {base size:Nat} {v:Value} {n:Nat} {xs:List Value} (h:w.ownsRow base E size v n xs) (hb:∀ (k:Nat) (cur:Array Value),w.heap[k]? = some (.cells cur E) -> w'.heap[k]? = w.heap[k]?):w'.ownsRow base E size v n xs:=
 owns_keep h fun k hk=>by obtain ⟨cur,hc⟩:=owns_type h hk;exact hb k cur hc
theorem FrL.keep {w w':World} {base n bc br:Nat} {cs rs:List Nat} {ids:List Int} {gs:List (List Nat)} {vi vg:Value} {gl:List Nat} (h:FrL w base n bc br cs rs ids gs vi vg gl) (hk:∀ (k:Nat) (cur:Array Value) (t:TypeId),t ≠ 26 -> w.heap[k]? = some (.cells cur t) -> w'.heap[k]? = w.heap[k]?):FrL w' base n bc br cs rs ids gs vi vg gl:=
 have hf:=fun k cur=>hk k cur 45 (by decide)
 ⟨h.c.keep hf,h.r.keep hf,owns_keepT h.i fun k cur=>hk k cur _ (by decide),owns_keepT h.g fun k cur=>hk k cur _ (by decide),h.col.keep hf,h.cr,h.cg,h.rg⟩
theorem FrL.later {w w':World} {base n bc br:Nat} {cs rs:List Nat} {ids:List Int} {gs:List (List Nat)} {vi vg:Value} {gl:List Nat} (h:FrL w base n bc br cs rs ids gs vi vg gl) (hb:Below w.heap.size w w'):FrL w' base n bc br cs rs ids gs vi vg gl:=
 h.keep fun k cur t _ hc=>hb.block k (blk_lt hc)
theorem grw_types {w w':World} {E:TypeId} {base size n:Nat} {v v':Value} {xs:List Value} (h:w.ownsRow base E size v n xs) (hg:Grw w w' v.ownBlock v'.ownBlock):∀ (k:Nat) (cur:Array Value) (t:TypeId),t ≠ E -> w.heap[k]? = some (.cells cur t) -> w'.heap[k]? = w.heap[k]?:=by
 intro k cur t ht hc
 refine hg.by'.block k (blk_lt hc) fun e=>?_
 obtain ⟨cur',hc'⟩:=owns_type h e.symm
 rw [hc] at hc'
 cases hc'
 exact ht rfl
theorem FrL.pushI {w w':World} {base n bc br:Nat} {cs rs:List Nat} {ids:List Int} {gs:List (List Nat)} {vi vg vi':Value} {gl:List Nat} {x:Int} (h:FrL w base n bc br cs rs ids gs vi vg gl) (hg:Grw w w' vi.ownBlock vi'.ownBlock)
  (ho:w'.ownsRow base 3 1 vi' (ids.map (Value.int .i64) ++ [Value.int .i64 x]).length (ids.map (Value.int .i64) ++ [Value.int .i64 x])):FrL w' base n bc br cs rs (ids ++ [x]) gs vi' vg gl:=by
 have hk:=grw_types h.i hg
 have hf:=fun k cur=>hk k cur 45 (by decide)
 refine ⟨h.c.keep hf,h.r.keep hf,?_,owns_keepT h.g fun k cur=>hk k cur _ (by decide),h.col.keep hf,h.cr,h.cg,h.rg⟩
 rw [List.map_append]
 exact ho
theorem FrL.pushG {w w':World} {base n bc br b:Nat} {cs rs us:List Nat} {ids:List Int} {gs:List (List Nat)} {vi vg vg':Value} {gl:List Nat} (h:FrL w base n bc br cs rs ids gs vi vg gl) (hg:Grw w w' vg.ownBlock vg'.ownBlock)
  (ho:w'.ownsRow base 22 1 vg' (gl.map (slN n) ++ [slN n b]).length (gl.map (slN n) ++ [slN n b])) (hb:OwB w base n b us) (h1:b ≠ bc) (h2:b ≠ br) (h3:b ∉ gl):FrL w' base n bc br cs rs ids (gs ++ [us]) vi vg' (gl ++ [b]):=by
 have hk:=grw_types h.g hg
 have hf:=fun k cur=>hk k cur 45 (by decide)
 refine ⟨h.c.keep hf,h.r.keep hf,owns_keepT h.i fun k cur=>hk k cur _ (by decide),?_,(h.col.keep hf).snoc (hb.keep hf) h3,h.cr,?_,?_⟩
 ·rw [List.map_append]
  exact ho
 ·simp only [List.mem_append,List.mem_cons,List.not_mem_nil,or_false,not_or]
  exact ⟨h.cg,fun e=>h1 e.symm⟩
 ·simp only [List.mem_append,List.mem_cons,List.not_mem_nil,or_false,not_or]
  exact ⟨h.rg,fun e=>h2 e.symm⟩
theorem owns_slice {w:World} {E:TypeId} {base:Nat} {v:Value} {n:Nat} {xs:List Value} (h:w.ownsRow base E 1 v n xs):∃ ao cap,v = .slice ao n cap /\ n <= maxLen /\ (n = 0 \/ ∃ g,ao = some ⟨g,0,none⟩ /\ ∀ j,j < n -> w.cell? ⟨g,j,none⟩ = xs[j]?):=by
 have hs:=h
 rcases h.2 with ⟨rfl,rfl⟩ | ⟨g,cap,cur,rfl,hg,hh,h1,h2,h3,h4⟩
 ·exact ⟨none,0,rfl,Nat.zero_le _,.inl rfl⟩
 ·exact ⟨_,cap,rfl,Nat.le_trans h1 h2,.inr ⟨g,rfl,fun j hj=>World.ownsRow.cellAt hs j (by omega)⟩⟩
theorem FrL.zr {w:World} {base n bc br:Nat} {cs rs:List Nat} {ids:List Int} {gs:List (List Nat)} {vi vg:Value} {gl:List Nat} (h:FrL w base n bc br cs rs ids gs vi vg gl) (N:Int) (bad:Bool) :
  ∃ y:ZD,(.agg #[.int .i64 N,slN n bc,vi,vg,slN n br,.bool bad]:Value) = .agg (zRow y) /\ ZR w y /\ y.N = N /\ y.bad = bad /\ y.cs = cs /\ y.rs = rs /\ y.ids = ids /\ y.gs = gs /\ y.cn = n /\ y.rn = n /\ y.dn = ids.length /\ y.gn = gs.length:=by
 obtain ⟨io,dc,rfl,hm1,h1⟩:=owns_slice h.i
 obtain ⟨go,gc,rfl,hm2,h2⟩:=owns_slice h.g
 have e1:(ids.map (Value.int .i64)).length = ids.length:=List.length_map _
 have e2:(gl.map (slN n)).length = gs.length:=(List.length_map _).trans h.col.len
 rw [e1] at hm1 h1
 rw [e2] at hm2 h2
 rw [e1,e2]
 refine ⟨⟨N,some ⟨bc,0,none⟩,n,n,io,ids.length,dc,go,gs.length,gc,some ⟨br,0,none⟩,n,n,bad,cs,ids,fun j=>(some ⟨gl[j]?.getD 0,0,none⟩,n,n),gs,rs⟩,rfl,⟨h.c.rd,⟨rfl,hm1,?_⟩,⟨rfl,hm2,?_,fun j hj=>(h.col.row j (by rw [h.col.len];exact hj)).rd⟩,h.r.rd⟩,rfl,rfl,rfl,rfl,rfl,rfl,rfl,rfl,rfl,rfl⟩
 ·rcases h1 with h0 | ⟨g,rfl,hc⟩
  ·exact .inl h0
  ·refine .inr ⟨g,0,rfl,fun j hj=>?_⟩
   dsimp only at hj ⊢
   rw [Nat.zero_add,hc j hj,List.getElem?_map,List.getElem?_eq_getElem hj]
   rfl
 ·rcases h2 with h0 | ⟨g,rfl,hc⟩
  ·exact .inl h0
  ·refine .inr ⟨g,0,rfl,fun j hj=>?_⟩
   dsimp only at hj ⊢
   have hj':j < gl.length:=by rw [h.col.len];exact hj
   rw [Nat.zero_add,hc j hj,List.getElem?_map,List.getElem?_eq_getElem hj']
   rfl
theorem FrL.kept {W W':World} {row:Option Nat} {base n bc br:Nat} {cs rs:List Nat} {ids:List Int} {gs:List (List Nat)} {vi vg:Value} {gl:List Nat} (h:FrL W base n bc br cs rs ids gs vi vg gl) (hg:W.grownBy W' row) (hr:∀ r,row = some r -> ∃ o,W.heap[r]? = some o /\ o.isCells = false):FrL W' base n bc br cs rs ids gs vi vg gl:=
 h.keep fun k cur t _ hc=>(heap_keptJ hc hg hr).trans hc.symm
theorem OwB.mono {w:World} {base base' n b:Nat} {us:List Nat} (h:OwB w base n b us) (hb:base' <= base):OwB w base' n b us:=⟨Nat.le_trans hb h.lo,h.cur,h.rd⟩
theorem OwB.later {w w':World} {base n b:Nat} {us:List Nat} (h:OwB w base n b us) (hb:Below w.heap.size w w'):OwB w' base n b us:=h.keep fun k cur hc=>hb.block k (blk_lt hc)
theorem numsB_fin {us:List Nat} (h:∀ u ∈ us,Fin u):numsB us = true:=by
 unfold numsB
 exact List.all_eq_true.2 fun u hu=>decide_eq_true (h u hu)
theorem plainOwn_any (ao:Option Addr) (len cap:Nat) (us:List Nat) (hl:len <= 100000) (hf:∀ u ∈ us,Fin u) (w:World) (h:RdF w ao len cap us) :
  Calls Tryz.prog 22 #[.slice ao len cap] w fun e w'=>∃ b,e = .returned (slN len b) /\ OwB w' w.heap.size len b (us.map plainM) /\ Below w.heap.size w w':=by
 refine Calls.mono (plainT_any ao len cap us hl (numsB_fin hf) w h) ?_
 rintro e w' ⟨rfl,h1,h2,h3,h4⟩
 exact ⟨w.heap.size,rfl,⟨Nat.le_refl _,h2,h1⟩,h3⟩
end Go.Proofs.YtmdjoaipkbnelaaGreat
namespace Go.Proofs.YtmdjoaipkbnelaaGreat
open Go.RowKit
def OnlyN (K:Act -> World -> Prop):Exit -> Act -> World -> Prop
 | .normal=>K
 | _=>fun _ _=>False
theorem onlyN_out {K:Act -> World -> Prop}:¬ LetsOut (OnlyN K):=by
 rintro ⟨a,w,h⟩
 exact h
def noDefer (o:Oper):Bool:=match o.op with
 | .defer _=>false
 | _=>true
theorem noDefer_ne {o:Oper} (h:noDefer o = true):∀ c,o.op ≠ .defer c:=by
 intro c e
 unfold noDefer at h
 rw [e] at h
 cases h
theorem opsIn_round {l n:Nat} {P:Program} {ops:Array Oper} {K:Act -> World -> Prop} {Q:Exit -> Act -> World -> Prop} (hnd:ops.all noDefer = true) (hK:∀ a w,K a w -> Q .normal a w) :
  ∀ (is:List Nat) (a:Act) (w:World),wpOps P ops (OnlyN K) is a w -> wpOpsIn (Fence.wide.inRound l) n P ops Q is a w
 | [],a,w,h=>hK _ _ h
 | i :: rest,a,w,h=>by
  simp only [wpOps] at h
  simp only [wpOpsIn]
  cases ho:ops[i]? with
  | none=>
   simp only [ho] at h ⊢
   exact opsIn_round hnd hK rest a w h
  | some o=>
   simp only [ho] at h ⊢
   have hne:∀ c,o.op ≠ .defer c:=by
    obtain ⟨hi,rfl⟩:=Array.getElem?_eq_some_iff.1 ho
    exact noDefer_ne (Array.all_eq_true.1 hnd i hi)
   by_cases hw:Region.wanted o (yielded ops a.tmps) = true
   ·simp only [hw,if_true] at h ⊢
    rcases h with h | ⟨_,h⟩
    ·refine ⟨fun _ _=>trivial,?_⟩
     show Oper.uponIn _ _ _ _ _ _ _ ((o.semAt (some l) a.eval).run P w)
     rw [Oper.semAt_some l a.eval o hne]
     unfold Oper.wp at h
     generalize (execOp a.eval o).run P w = r at h ⊢
     cases r with
     | ok x w'=>
      cases x with
      | value v=>exact opsIn_round hnd hK rest _ _ h
      | skip=>exact opsIn_round hnd hK rest _ _ h
      | defer d=>exact opsIn_round hnd hK rest _ _ h
      | enter f args=>
       refine ⟨fun hd=>(by cases hd),CallsIn.inRound l ((callsIn_wide.2 h).mono ?_)⟩
       intro e w'' he
       cases e with
       | returned v=>exact opsIn_round hnd hK rest _ _ he
       | panicked c=>exact he.elim
       | outgrown=>exact absurd he onlyN_out
      | row row args=>
       refine ⟨fun hd=>(by cases hd),fun c cs _=>?_⟩
       obtain ⟨v,w'',hR,hs⟩:=h c cs
       exact ⟨v,w'',opsIn_round hnd hK rest _ _ hR,stepsIn_wide.2 hs⟩
      | _=>exact h.elim
     | halt s w'=>
      cases s <;> first | exact h.elim
    ·exact absurd h onlyN_out
   ·simp only [hw,if_false,Bool.false_eq_true] at h ⊢
    exact ⟨fun _ _=>trivial,opsIn_round hnd hK rest _ _ h⟩
def wpAnyP (P:Program) (md:Region.Mode) (ops:Array Oper) (Q:Exit -> Act -> World -> Prop) (S:World -> Prop) (s:Nat):Nat -> Array Bool -> Act -> World -> Prop
 | 0,listed,a,w=>Region.ready md ops listed = [] /\ Q .normal a w
 | fuel + 1,listed,a,w=>
  (Region.ready md ops listed = [] -> Q .normal a w) ∧
  ∀ i ∈ Region.ready md ops listed,wpOp P ops Q i (fun a' w'=>((listed.setIfInBounds i true).getD s true = false -> S w') /\ wpAnyP P md ops Q S s fuel (listed.setIfInBounds i true) a' w') a w
theorem wpAny_of_P {P:Program} {md:Region.Mode} {ops:Array Oper} {Q:Exit -> Act -> World -> Prop} {S:World -> Prop} {s:Nat}:∀ (fuel:Nat) (listed:Array Bool) (a:Act) (w:World),wpAnyP P md ops Q S s fuel listed a w -> wpAny P md ops Q fuel listed a w
 | 0,_,_,_,h=>h
 | fuel + 1,_,_,_,h=>⟨h.1,fun i hi=>wpOp_mono (fun a' w' h'=>wpAny_of_P fuel _ a' w' h'.2) (h.2 i hi)⟩
def waitsB (md:Region.Mode) (ops:Array Oper) (s i:Nat):Bool:=match ops[s]? with
 | some o=>o.after.any (fun e=>Region.binds md e && e.on == i)
 | none=>false
theorem waitsB_spec {md:Region.Mode} {ops:Array Oper} {s i:Nat} (h:waitsB md ops s i = true):∃ os,ops[s]? = some os /\ ∃ e ∈ os.after,Region.binds md e = true /\ e.on = i:=by
 unfold waitsB at h
 cases ho:ops[s]? with
 | none=>rw [ho] at h;cases h
 | some o=>
  rw [ho] at h
  refine ⟨o,rfl,?_⟩
  simp only [Array.any_eq_true'] at h
  obtain ⟨e,he,h2⟩:=h
  simp only [Bool.and_eq_true,beq_iff_eq] at h2
  exact ⟨e,he,h2.1,h2.2⟩
theorem wpAnyP_first {P:Program} {md:Region.Mode} {ops:Array Oper} {Q:Exit -> Act -> World -> Prop} {S:World -> Prop} {s:Nat} {i:Nat} {oi:Oper} {v:Value} (hi:ops[i]? = some oi) (hsel:∀ (j:Nat) (o:Oper) cs b,ops[j]? = some o -> o.op ≠ .select cs b)
  (hQ:∀ c a w,Q (.panic c) (a.put oi.dst v) w -> Q (.panic c) a w) (hne:i ≠ s) (hwt:∃ os,ops[s]? = some os /\ ∃ e ∈ os.after,Region.binds md e = true /\ e.on = i) :
  ∀ (fuel:Nat) (listed:Array Bool) (a:Act) (w:World),
   (∀ j oj,ops[j]? = some oj -> j ≠ i -> listed.getD j true = false -> (∀ e ∈ oj.after,Region.binds md e = true -> e.on ≠ i) -> oi.apart ops oj = true) →
   i ∈ Region.ready md ops listed -> listed.getD s true = false -> YieldsIf P ops S oi v a -> S w →
   wpAnyP P md ops Q S s fuel (listed.setIfInBounds i true) (a.put oi.dst v) w -> wpAnyP P md ops Q S s (fuel + 1) listed a w:=by
 intro fuel
 induction fuel with
 | zero=>
  intro listed a w _ hr hu hy hS H
  refine ⟨fun h=>(by rw [h] at hr;cases hr),fun j hj=>?_⟩
  by_cases hji:j = i
  ·subst hji;exact hy.wpOp hi hS ⟨fun _=>hS,H⟩
  ·have:=ready_mono hj hji
   rw [H.1] at this
   cases this
 | succ fuel ih=>
  intro listed a w hfree hr hu hy hS H
  refine ⟨fun h=>(by rw [h] at hr;cases hr),fun j hj=>?_⟩
  by_cases hji:j = i
  ·subst hji;exact hy.wpOp hi hS ⟨fun _=>hS,H⟩
  ·have h1:=H.2 j (ready_mono hj hji)
   obtain ⟨hjun,oj,hoj,hall⟩:=mem_ready.1 hj
   have hnot:∀ e ∈ oj.after,Region.binds md e = true -> e.on ≠ i:=fun e he hb heq=>by
    have h1:=hall e he hb
    have h0:=(mem_ready.1 hr).1
    rw [heq] at h1
    rcases Nat.lt_or_ge i listed.size with h' | h'
    ·simp [h'] at h0 h1;rw [h0] at h1;cases h1
    ·simp [Array.getElem?_eq_none h'] at h1
   have hjs:j ≠ s:=by
    rintro rfl
    obtain ⟨os,ho,e,he,hb,heq⟩:=hwt
    rw [hoj] at ho
    cases ho
    exact hnot e he hb heq
   have hu1:(listed.setIfInBounds j true).getD s true = false:=by rw [getD_set_ne true hjs];exact hu
   have hu2:((listed.setIfInBounds i true).setIfInBounds j true).getD s true = false:=by rw [getD_set_ne true hjs,getD_set_ne true hne];exact hu
   have h2:=wpOp_putIf hoj (hfree j oj hoj hji hjun hnot) (fun cs b=>hsel i oi cs b hi) (fun cs b=>hsel j oj cs b hoj) hQ hy h1
   have hfree':∀ k ok,ops[k]? = some ok -> k ≠ i -> (listed.setIfInBounds j true).getD k true = false →
     (∀ e ∈ ok.after,Region.binds md e = true -> e.on ≠ i) -> oi.apart ops ok = true:=fun k ok hk hki hun hno=>by
    refine hfree k ok hk hki ?_ hno
    by_cases hjk:j = k
    ·subst hjk;exact hjun
    ·rw [getD_set_ne true hjk] at hun;exact hun
   refine wpOp_mono (fun a' w' h3=>⟨fun _=>h3.2.1 hu2,ih (listed.setIfInBounds j true) a' w' hfree' (ready_mono hr (Ne.symm hji)) hu1 h3.1 (h3.2.1 hu2) ?_⟩) h2
   rw [Array.setIfInBounds_comm _ _ hji]
   exact h3.2.2
theorem wpAnyP_first0 {P:Program} {md:Region.Mode} {ops:Array Oper} {Q:Exit -> Act -> World -> Prop} {S:World -> Prop} {s:Nat} {i:Nat} {oi:Oper} {v:Value} (hi:ops[i]? = some oi) (hsel:∀ (j:Nat) (o:Oper) cs b,ops[j]? = some o -> o.op ≠ .select cs b)
  (hQ:∀ c a w,Q (.panic c) (a.put oi.dst v) w -> Q (.panic c) a w) (hne:i ≠ s) :
  ∀ (fuel:Nat) (listed:Array Bool) (a:Act) (w:World),
   (∀ j oj,ops[j]? = some oj -> j ≠ i -> listed.getD j true = false -> (∀ e ∈ oj.after,Region.binds md e = true -> e.on ≠ i) -> oi.apart ops oj = true) →
   i ∈ Region.ready md ops listed -> YieldsIf P ops (fun _=>True) oi v a -> (listed.getD s true = false -> S w) →
   wpAnyP P md ops Q S s fuel (listed.setIfInBounds i true) (a.put oi.dst v) w -> wpAnyP P md ops Q S s (fuel + 1) listed a w:=by
 intro fuel
 induction fuel with
 | zero=>
  intro listed a w _ hr hy hS H
  refine ⟨fun h=>(by rw [h] at hr;cases hr),fun j hj=>?_⟩
  by_cases hji:j = i
  ·subst hji;exact hy.wpOp hi trivial ⟨fun e=>hS (by rw [getD_set_ne true hne] at e;exact e),H⟩
  ·have:=ready_mono hj hji
   rw [H.1] at this
   cases this
 | succ fuel ih=>
  intro listed a w hfree hr hy hS H
  refine ⟨fun h=>(by rw [h] at hr;cases hr),fun j hj=>?_⟩
  by_cases hji:j = i
  ·subst hji;exact hy.wpOp hi trivial ⟨fun e=>hS (by rw [getD_set_ne true hne] at e;exact e),H⟩
  ·have h1:=H.2 j (ready_mono hj hji)
   obtain ⟨hjun,oj,hoj,hall⟩:=mem_ready.1 hj
   have hnot:∀ e ∈ oj.after,Region.binds md e = true -> e.on ≠ i:=fun e he hb heq=>by
    have h1:=hall e he hb
    have h0:=(mem_ready.1 hr).1
    rw [heq] at h1
    rcases Nat.lt_or_ge i listed.size with h' | h'
    ·simp [h'] at h0 h1;rw [h0] at h1;cases h1
    ·simp [Array.getElem?_eq_none h'] at h1
   have hu2:(listed.setIfInBounds j true).getD s true = false -> ((listed.setIfInBounds i true).setIfInBounds j true).getD s true = false:=by
    rw [Array.setIfInBounds_comm _ _ (Ne.symm hji),getD_set_ne true hne]
    exact fun h=>h
   have h2:=wpOp_putIf hoj (hfree j oj hoj hji hjun hnot) (fun cs b=>hsel i oi cs b hi) (fun cs b=>hsel j oj cs b hoj) hQ hy h1
   have hfree':∀ k ok,ops[k]? = some ok -> k ≠ i -> (listed.setIfInBounds j true).getD k true = false →
     (∀ e ∈ ok.after,Region.binds md e = true -> e.on ≠ i) -> oi.apart ops ok = true:=fun k ok hk hki hun hno=>by
    refine hfree k ok hk hki ?_ hno
    by_cases hjk:j = k
    ·subst hjk;exact hjun
    ·rw [getD_set_ne true hjk] at hun;exact hun
   refine wpOp_mono (fun a' w' h3=>⟨fun e=>h3.2.1 (hu2 e),ih (listed.setIfInBounds j true) a' w' hfree' (ready_mono hr (Ne.symm hji)) h3.1 (fun e=>h3.2.1 (hu2 e)) ?_⟩) h2
   rw [Array.setIfInBounds_comm _ _ hji]
   exact h3.2.2
theorem takeP0 {P:Program} {md:Region.Mode} {ops:Array Oper} {Q:Exit -> Act -> World -> Prop} {S:World -> Prop} {s:Nat} (d:Nat) {i:Nat} {oi:Oper} {v:Value} {fuel:Nat} {listed:Array Bool} {a:Act} {w:World} (hi:ops[i]? = some oi) (hd:oi.dst = some d)
  (hs:Region.noSelect ops = true) (hf:Region.free md ops listed i = true) (hr:(Region.ready md ops listed).contains i = true) (hne:(i == s) = false)
  (hQ:∀ c a w,Q (.panic c) (a.put (some d) v) w -> Q (.panic c) a w) (hy:YieldsIf P ops (fun _=>True) oi v a) (hS:listed.getD s true = false -> S w)
  (h:wpAnyP P md ops Q S s fuel (listed.setIfInBounds i true) (a.put (some d) v) w):wpAnyP P md ops Q S s (fuel + 1) listed a w:=
 wpAnyP_first0 hi (Region.noSelect_spec hs) (by rw [hd];exact hQ) (by simpa using hne) fuel listed a w (Region.free_spec hi hf) (by simpa using hr) hy hS (by rw [hd];exact h)
theorem takeP {P:Program} {md:Region.Mode} {ops:Array Oper} {Q:Exit -> Act -> World -> Prop} {S:World -> Prop} {s:Nat} (d:Nat) {i:Nat} {oi:Oper} {v:Value} {fuel:Nat} {listed:Array Bool} {a:Act} {w:World} (hi:ops[i]? = some oi) (hd:oi.dst = some d)
  (hs:Region.noSelect ops = true) (hf:Region.free md ops listed i = true) (hr:(Region.ready md ops listed).contains i = true) (hw:waitsB md ops s i = true) (hne:(i == s) = false) (hu:listed.getD s true = false)
  (hQ:∀ c a w,Q (.panic c) (a.put (some d) v) w -> Q (.panic c) a w) (hy:YieldsIf P ops S oi v a) (hS:S w)
  (h:wpAnyP P md ops Q S s fuel (listed.setIfInBounds i true) (a.put (some d) v) w):wpAnyP P md ops Q S s (fuel + 1) listed a w:=
 wpAnyP_first hi (Region.noSelect_spec hs) (by rw [hd];exact hQ) (by simpa using hne) (waitsB_spec hw) fuel listed a w (Region.free_spec hi hf) (by simpa using hr) hu hy hS (by rw [hd];exact h)
theorem tzQ {P : Program} {md : Region.Mode} {ops : Array Oper} {Q : Exit -> Act -> World -> Prop} {S : World -> Prop} {s : Nat} (d i : Nat) (v : Value) {oi : Oper} {fuel : Nat} {listed : Array Bool} {a : Act} {w : World} (hz : ∀ w, True -> (execOp a.eval oi).run P w = .ok (.value v) w) (hS : listed.getD s true = false -> S w) (h : wpAnyP P md ops Q S s fuel (listed.setIfInBounds i true) (a.put (some d) v) w)
    (hi:ops[i]? = some oi:=by rfl) (hd:oi.dst = some d:=by rfl) (hs:Region.noSelect ops = true:=by kernel_rfl) (hf:Region.free md ops listed i = true:=by kernel_rfl) (hr:(Region.ready md ops listed).contains i = true:=by kernel_rfl) (hne:(i == s) = false:=by rfl) (hQ:∀ c a w,Q (.panic c) (a.put (some d) v) w -> Q (.panic c) a w:=by exact fun _ _ _ h=>h) (hw:Region.wanted oi (yielded ops a.tmps) = true:=by kernel_rfl):wpAnyP P md ops Q S s (fuel + 1) listed a w:=takeP0 d hi hd hs hf hr hne hQ (Or.inl ⟨hw,hz⟩) hS h
theorem tzP {P : Program} {md : Region.Mode} {ops : Array Oper} {Q : Exit -> Act -> World -> Prop} {S : World -> Prop} {s : Nat} (d i : Nat) (v : Value) {oi : Oper} {fuel : Nat} {listed : Array Bool} {a : Act} {w : World} (hy : YieldsIf P ops S oi v a) (hS : S w) (h : wpAnyP P md ops Q S s fuel (listed.setIfInBounds i true) (a.put (some d) v) w)
    (hi:ops[i]? = some oi:=by rfl) (hd:oi.dst = some d:=by rfl) (hs:Region.noSelect ops = true:=by kernel_rfl) (hf:Region.free md ops listed i = true:=by kernel_rfl) (hr:(Region.ready md ops listed).contains i = true:=by kernel_rfl) (hw:waitsB md ops s i = true:=by kernel_rfl) (hne:(i == s) = false:=by rfl) (hu:listed.getD s true = false:=by kernel_rfl) (hQ:∀ c a w,Q (.panic c) (a.put (some d) v) w -> Q (.panic c) a w:=by exact fun _ _ _ h=>h):wpAnyP P md ops Q S s (fuel + 1) listed a w:=takeP d hi hd hs hf hr hw hne hu hQ hy hS h
def AllReadyP (P:Program) (md:Region.Mode) (ops:Array Oper) (Q:Exit -> Act -> World -> Prop) (S:World -> Prop) (s:Nat) (fuel:Nat) (listed:Array Bool) (a:Act) (w:World) (rs:List Nat):Prop:=
 ∀ i ∈ rs,wpOp P ops Q i (fun a' w'=>((listed.setIfInBounds i true).getD s true = false -> S w') /\ wpAnyP P md ops Q S s fuel (listed.setIfInBounds i true) a' w') a w
theorem AllReadyP.nil {P:Program} {md:Region.Mode} {ops:Array Oper} {Q:Exit -> Act -> World -> Prop} {S:World -> Prop} {s:Nat} {fuel:Nat} {listed:Array Bool} {a:Act} {w:World}:AllReadyP P md ops Q S s fuel listed a w []:=fun _ h=>by cases h
theorem consP {P:Program} {md:Region.Mode} {ops:Array Oper} {Q:Exit -> Act -> World -> Prop} {S:World -> Prop} {s:Nat} {fuel:Nat} {listed:Array Bool} {a:Act} {w:World} {i:Nat} {rs:List Nat} (l':Array Bool) (hl:listed.setIfInBounds i true = l')
  (h:wpOp P ops Q i (fun a' w'=>S w' /\ wpAnyP P md ops Q S s fuel l' a' w') a w) (hs:AllReadyP P md ops Q S s fuel listed a w rs):AllReadyP P md ops Q S s fuel listed a w (i :: rs):=by
 subst hl
 intro j hj
 rcases List.mem_cons.1 hj with rfl | hj
 ·exact wpOp_mono (fun a' w' h'=>⟨fun _=>h'.1,h'.2⟩) h
 ·exact hs j hj
theorem consPs {P:Program} {md:Region.Mode} {ops:Array Oper} {Q:Exit -> Act -> World -> Prop} {S:World -> Prop} {s:Nat} {fuel:Nat} {listed:Array Bool} {a:Act} {w:World} {i:Nat} {rs:List Nat} (l':Array Bool) (hl:listed.setIfInBounds i true = l') (ht:l'.getD s true = true)
  (h:wpOp P ops Q i (fun a' w'=>True /\ wpAnyP P md ops Q S s fuel l' a' w') a w) (hs:AllReadyP P md ops Q S s fuel listed a w rs):AllReadyP P md ops Q S s fuel listed a w (i :: rs):=by
 subst hl
 intro j hj
 rcases List.mem_cons.1 hj with rfl | hj
 ·exact wpOp_mono (fun a' w' h'=>⟨fun e=>(by rw [ht] at e;cases e),h'.2⟩) h
 ·exact hs j hj
theorem wpAnyP_ready {P:Program} {md:Region.Mode} {ops:Array Oper} {Q:Exit -> Act -> World -> Prop} {S:World -> Prop} {s:Nat} {rs:List Nat} {fuel:Nat} {listed:Array Bool} {a:Act} {w:World} (hr:Region.ready md ops listed = rs) (hne:rs ≠ [])
  (h:AllReadyP P md ops Q S s fuel listed a w rs):wpAnyP P md ops Q S s (fuel + 1) listed a w:=⟨fun h0=>absurd (hr ▸ h0) hne,hr ▸ h⟩
theorem rzP {P:Program} {md:Region.Mode} {ops:Array Oper} {Q:Exit -> Act -> World -> Prop} {S:World -> Prop} {s:Nat} (rs:List Nat) {fuel:Nat} {listed:Array Bool} {a:Act} {w:World} (h:AllReadyP P md ops Q S s fuel listed a w rs) (hr:Region.ready md ops listed = rs:=by kernel_rfl) (hne:rs ≠ []:=by simp):wpAnyP P md ops Q S s (fuel + 1) listed a w:=wpAnyP_ready hr hne h
theorem wpAnyP_done {P:Program} {md:Region.Mode} {ops:Array Oper} {Q:Exit -> Act -> World -> Prop} {S:World -> Prop} {s:Nat} {listed:Array Bool} {a:Act} {w:World} (hr:Region.ready md ops listed = []) (h:Q .normal a w):∀ fuel,wpAnyP P md ops Q S s fuel listed a w
 | 0=>⟨hr,h⟩
 | _ + 1=>⟨fun _=>h,by rw [hr];simp⟩
theorem wp_region_P {id:Nat} {P:Program} {ops:Array Oper} {Q:Exit -> Act -> World -> Prop} {a:Act} {w:World} (S:World -> Prop) (s:Nat) (hm:P.follows .mixedOrders = true)
  (h:wpAnyP P .any ops Q S s ops.size (Array.replicate ops.size false) a w.drew):(Code.region id ops true).wp P Q a w:=wp_region_any hm (wpAny_of_P _ _ _ _ h)
theorem wpIn_round_P {l n id:Nat} {P:Program} {ops:Array Oper} {Q:Exit -> Act -> World -> Prop} {a:Act} {w:World} (S:World -> Prop) (s:Nat) (hm:P.follows .mixedOrders = true) (hnd:ops.all noDefer = true)
  (h:wpAnyP P .any ops (OnlyN (Q .normal)) S s ops.size (Array.replicate ops.size false) a w.drew):(Code.region id ops true).wpIn (Fence.wide.inRound l) n P Q a w:=
 wpIn_region_draw fun t=>by
  simp only [Region.schedule,hm,Bool.true_or,if_true]
  exact opsIn_round hnd (fun _ _ h=>h) _ _ _ (wpAny_sound ops.size t _ a _ (wpAny_of_P _ _ _ _ h))
open Go.RowKit Go.Shelf
attribute [local go_sem] Oper.semAt_some
theorem hopAJ {P:Program} {ops:Array Oper} {Q:Exit -> Act -> World -> Prop} {i:Nat} {o:Oper} {K:Act -> World -> Prop} {a:Act} {w:World} (d:Nat) (ho:ops[i]? = some o) (hg:o.guard = none) (hd:o.dst = some d) (t:TypeId) (hop:o.op = .alloc t) (z:Array Value)
  (hz:∀ w,(Instr.alloc t true (.tuple #[])).run P w = .ok (.pointer (some ⟨w.heap.size,0,none⟩)) (w.alloc (.cells z t)))
  (h:∀ D W',W'.heap[D]? = some (.cells z t) -> w.heap.size <= D -> Below w.heap.size w W' -> K (a.put (some d) (.pointer (some ⟨D,0,none⟩))) W'):wpOp P ops Q i K a w:=
 hopV d ho hg hd (ex_alloc _ t hop _ _ _ (hz w)) (h _ _ (heap_alloc_new w _) (Nat.le_refl _) ((Below.refl _ w).alloc (Nat.le_refl _) _))
theorem allocZJ (w:World):(Instr.alloc 26 true (.tuple #[])).run Tryz.prog w = .ok (.pointer (some ⟨w.heap.size,0,none⟩)) (w.alloc (.cells #[.int .i64 0,.slice none 0 0,.slice none 0 0,.slice none 0 0,.slice none 0 0,.bool false] 26)):=by kernel_rfl
theorem map_getD {α:Type} (l:List α) (d:α) (n:Nat) (h:l.length = n):(List.finRange n).map (fun k:_root_.Fin n=>l[k.val]?.getD d) = l:=by
 subst h
 apply List.ext_getElem
 ·simp
 ·intro i h1 h2
  simp [List.getElem?_eq_getElem h2]
theorem map_getD2 {α β:Type} (l:List α) (d:α) (g:α -> β) (n:Nat) (h:l.length = n):(List.finRange n).map (fun k:_root_.Fin n=>g (l[k.val]?.getD d)) = l.map g:=by
 have:=congrArg (List.map g) (map_getD l d n h)
 rw [List.map_map] at this
 exact this
theorem grw_keeps {w w':World} {E:TypeId} {base size n:Nat} {v v':Value} {xs:List Value} (h:w.ownsRow base E size v n xs) (hg:Grw w w' v.ownBlock v'.ownBlock):∀ (k:Nat) (o:Obj),w.heap[k]? = some o -> o.isCells = false -> w'.heap[k]? = some o:=by
 intro k o hk hc
 rw [hg.by'.block k (blk_lt hk) fun e=>?_]
 ·exact hk
 ·obtain ⟨cur,h2⟩:=owns_type h e.symm
  rw [hk] at h2
  cases h2
  cases hc
theorem fresh_ok (z:ZD) (w:World) (hz:ZR w z) (hb:z.bad = false) (hrn:z.cn = z.rn) (hdg:z.dn = z.gn) (hn:z.cn <= 100000) (hdn:z.dn <= 2000000) (hw:∀ k,k < z.dn -> (z.gs[k]?.getD []).length = z.cn) (hF:FinZ z) :
  Calls Tryz.prog 19 #[.agg (zRow z)] w fun e w'=>∃ bc br vi vg gl,e = .returned (.agg #[.int .i64 z.N,slN z.cn bc,vi,vg,slN z.cn br,.bool false]) /\ FrL w' w.heap.size z.cn bc br (z.cs.map plainM) (z.rs.map plainM) z.ids (z.gs.map (·.map plainM)) vi vg gl /\ Below w.heap.size w w':=by
 obtain ⟨N,co,n,cc,io,dn,dc,go,gn,gc,ro,rn,rc,bad,cs,ids,gv,gs,rs⟩:=z
 dsimp only at hb hrn hdg hn hdn hw hF ⊢
 subst hb hrn hdg
 have HZ:Hid (∀ W',Below w.heap.size w W' -> ZR W' ⟨N,co,n,cc,io,dn,dc,go,dn,gc,ro,n,rc,false,cs,ids,gv,gs,rs⟩):=fun W' hb=>hz.later hb
 have HC:Hid (∀ W',Below w.heap.size w W' -> Calls Tryz.prog 22 #[.slice co n cc] W' fun e w'=>∃ b,e = .returned (slN n b) /\ OwB w' W'.heap.size n b (cs.map plainM) /\ Below W'.heap.size W' w'):=fun W' hb=>plainOwn_any co n cc cs hn hF.c W' (hz.later hb).c
 have HR:Hid (∀ W',Below w.heap.size w W' -> Calls Tryz.prog 22 #[.slice ro n rc] W' fun e w'=>∃ b,e = .returned (slN n b) /\ OwB w' W'.heap.size n b (rs.map plainM) /\ Below W'.heap.size W' w'):=fun W' hb=>plainOwn_any ro n rc rs hn hF.r W' (hz.later hb).r
 have HGa:Hid (∀ x,x < dn -> ∀ W',Below w.heap.size w W' -> Calls Tryz.prog 22 #[.slice (gv x).1 (gv x).2.1 (gv x).2.2] W' fun e w'=>∃ b,e = .returned (slN n b) /\ OwB w' W'.heap.size n b ((gs[x]?.getD []).map plainM) /\ Below W'.heap.size W' w'):=fun x hx W' hb=>by
  have h1:=(hz.later hb).g.each x hx
  have h2:=h1.length
  rw [hw x hx] at h2
  have hgl:=hz.g.length
  have h3:=plainOwn_any (gv x).1 (gv x).2.1 (gv x).2.2 (gs[x]?.getD []) (by dsimp only at h2;omega) (fun u hu=>hF.g _ (by rw [List.getElem?_eq_getElem (by dsimp only at hgl;omega)];exact List.getElem_mem _) u hu) W' h1
  dsimp only at h2
  rw [<- h2] at h3 ⊢
  exact h3
 have HLN:Hid (ids.length = dn /\ gs.length = dn):=⟨hz.i.length,hz.g.length⟩
 clear hz hw hF
 have X0:Below w.heap.size w ((w.alloc (.cells #[.int .i64 N,.slice co n cc,.slice io dn dc,.slice go dn gc,.slice ro n rc,.bool false] 26)).alloc (.cells #[.int .i64 0,.slice none 0 0,.slice none 0 0,.slice none 0 0,.slice none 0 0,.bool false] 26)):=((Below.refl _ w).alloc (Nat.le_refl _) _).alloc (by simp only [alloc_size];omega) _
 have Y0:((w.alloc (.cells #[.int .i64 N,.slice co n cc,.slice io dn dc,.slice go dn gc,.slice ro n rc,.bool false] 26)).alloc (.cells #[.int .i64 0,.slice none 0 0,.slice none 0 0,.slice none 0 0,.slice none 0 0,.bool false] 26)).heap[w.heap.size]? = some (.cells #[.int .i64 N,.slice co n cc,.slice io dn dc,.slice go dn gc,.slice ro n rc,.bool false] 26):=alloc_kept (heap_alloc_new w _) _
 have Y1:((w.alloc (.cells #[.int .i64 N,.slice co n cc,.slice io dn dc,.slice go dn gc,.slice ro n rc,.bool false] 26)).alloc (.cells #[.int .i64 0,.slice none 0 0,.slice none 0 0,.slice none 0 0,.slice none 0 0,.bool false] 26)).heap[w.heap.size + 1]? = some (.cells #[.int .i64 0,.slice none 0 0,.slice none 0 0,.slice none 0 0,.slice none 0 0,.bool false] 26):=heap_at _ _ (w.heap.size + 1) (by simp only [alloc_size])
 unfold zRow
 dsimp only
 refine (callsIn_wide (n:=3)).1 ?_
 refine callsIn_of_wp_marks Tryz.func19 rfl trivial ?_ rfl
 refine wpIn_wide.2 ?_
 simp only [Tryz.ntmps19,List.size_toArray,List.length_cons,List.length_nil,Nat.reduceAdd,Nat.reduceSub,Array.replicate_succ,Array.replicate_zero,List.push_toArray,List.append_toArray,List.nil_append,List.cons_append]
 go_upto_region 3 with fail
 obtain ⟨X,hX⟩:∃ X,((w.alloc (.cells #[.int .i64 N,.slice co n cc,.slice io dn dc,.slice go dn gc,.slice ro n rc,.bool false] 26)).alloc (.cells #[.int .i64 0,.slice none 0 0,.slice none 0 0,.slice none 0 0,.slice none 0 0,.bool false] 26)) = X:=⟨_,rfl⟩
 rw [hX] at X0 Y0 Y1 ⊢
 clear hX
 have HX:Hid (Below w.heap.size w X /\ X.heap[w.heap.size]? = some (.cells #[.int .i64 N,.slice co n cc,.slice io dn dc,.slice go dn gc,.slice ro n rc,.bool false] 26) /\ X.heap[w.heap.size + 1]? = some (.cells #[.int .i64 0,.slice none 0 0,.slice none 0 0,.slice none 0 0,.slice none 0 0,.bool false] 26)):=⟨X0,Y0,Y1⟩
 clear X0 Y0 Y1
 go_cut [3] from 6 to 37 (fun v wx=>∃ D bc br,v = .pointer (some ⟨D,0,none⟩) /\ Hid (wx.heap[D]? = some (.cells #[.int .i64 N,slN n bc,.slice none 0 0,.slice none 0 0,slN n br,.bool false] 26)) /\ Hid (OwB wx w.heap.size n bc (cs.map plainM) /\ OwB wx w.heap.size n br (rs.map plainM) /\ bc ≠ br) /\ Hid (Below w.heap.size w wx) /\ Hid (wx.heap[w.heap.size]? = some (.cells #[.int .i64 N,.slice co n cc,.slice io dn dc,.slice go dn gc,.slice ro n rc,.bool false] 26) /\ wx.heap[w.heap.size + 1]? = some (.cells #[.int .i64 0,.slice none 0 0,.slice none 0 0,.slice none 0 0,.slice none 0 0,.bool false] 26)) /\ w.heap.size + 1 < D)
 case first=>
  have bX:Below X.heap.size X X.drew:=(Below.refl _ _).drew
  refine wp_region_noPanic ?_
  refine wp_region_held_drew (S:=(fun W'=>Below X.heap.size X W')) (by kernel_rfl) bX (fun _=>?_)
  refine tzI 11 0 ?_ ?_ bX ?_
  rotate_left
  ·intro w' hSw;obtain ⟨c0,c1,c2,c3,c4,c5⟩:=cells6 ((hSw.block _ (blk_lt HX.out.2.1)).trans HX.out.2.1);go_simp;try with_reducible rfl
  try simp only [pA,pE,pB,pC,pD]
  refine tzI 12 1 ?_ ?_ bX ?_
  rotate_left
  ·intro w' hSw;obtain ⟨c0,c1,c2,c3,c4,c5⟩:=cells6 ((hSw.block _ (blk_lt HX.out.2.1)).trans HX.out.2.1);go_simp;try with_reducible rfl
  try simp only [pA,pE,pB,pC,pD]
  refine tzI 13 2 ?_ ?_ bX ?_
  rotate_left
  ·intro w' hSw;obtain ⟨c0,c1,c2,c3,c4,c5⟩:=cells6 ((hSw.block _ (blk_lt HX.out.2.1)).trans HX.out.2.1);go_simp;try with_reducible rfl
  try simp only [pA,pE,pB,pC,pD]
  refine tzI 14 3 ?_ ?_ bX ?_
  rotate_left
  ·intro w' hSw;obtain ⟨c0,c1,c2,c3,c4,c5⟩:=cells6 ((hSw.block _ (blk_lt HX.out.2.1)).trans HX.out.2.1);go_simp;try with_reducible rfl
  try simp only [pA,pE,pB,pC,pD]
  refine tzI 16 5 ?_ ?_ bX ?_
  rotate_left
  ·intro w' hSw;obtain ⟨c0,c1,c2,c3,c4,c5⟩:=cells6 ((hSw.block _ (blk_lt HX.out.2.1)).trans HX.out.2.1);go_simp;try with_reducible rfl
  try simp only [pA,pE,pB,pC,pD]
  refine tzI 17 6 ?_ ?_ bX ?_
  rotate_left
  ·intro w' hSw;obtain ⟨c0,c1,c2,c3,c4,c5⟩:=cells6 ((hSw.block _ (blk_lt HX.out.2.1)).trans HX.out.2.1);go_simp;try with_reducible rfl
  try simp only [pA,pE,pB,pC,pD]
  obtain ⟨V,hV⟩:∃ V,X.drew = V:=⟨_,rfl⟩
  have bV:Below X.heap.size X V:=hV ▸ bX
  rw [hV]
  clear hV bX
  refine rzH [4,9] ?_
  refine consH _ rfl ?_ (consH _ rfl ?_ AllReadyH.nil)
  ·refine hzC 15 (Calls.mono (HC.out _ (HX.out.1.trans (bV.mono HX.out.1.size))) ?_)
   rintro e Vc ⟨bc,rfl,o1,hb⟩
   have bVc:Below X.heap.size X Vc:=bV.trans (hb.mono bV.size)
   have ocVc:=o1.mono bV.size
   clear o1 hb
   refine ⟨_,rfl,bVc,?_⟩
   try simp only [pA,pE,pB,pC,pD]
   refine rzH [7,9] ?_
   refine consH _ rfl ?_ (consH _ rfl ?_ AllReadyH.nil)
   ·refine hzC 18 (Calls.mono (HR.out _ (HX.out.1.trans (bVc.mono HX.out.1.size))) ?_)
    rintro e Vcr ⟨br,rfl,o1,hb⟩
    have bVcr:Below X.heap.size X Vcr:=bVc.trans (hb.mono bVc.size)
    have ocVcr:=ocVc.later hb
    have hne:bc ≠ br:=Nat.ne_of_lt (Nat.lt_of_lt_of_le ocVc.lt o1.lo)
    have orVcr:=o1.mono bVc.size
    clear o1 hb
    refine ⟨_,rfl,bVcr,?_⟩
    try simp only [pA,pE,pB,pC,pD]
    refine tzH 19 8 (.agg #[.int .i64 N,slN n bc,.slice none 0 0,.slice none 0 0,slN n br,.bool false]) (Or.inl ⟨by kernel_rfl,fun w' _=>by kernel_rfl⟩) bVcr ?_
    try simp only [pA,pE,pB,pC,pD]
    refine rzH [9] ?_
    refine consH _ rfl ?_ AllReadyH.nil
    ·refine hopAJ 3 rfl rfl rfl 26 rfl #[.int .i64 0,.slice none 0 0,.slice none 0 0,.slice none 0 0,.slice none 0 0,.bool false] allocZJ fun D Vcra hDVcra hDl hb=>?_
     have bVcra:Below X.heap.size X Vcra:=bVcr.trans (hb.mono bVcr.size)
     have hDX:X.heap.size <= D:=Nat.le_trans bVcr.size hDl
     have ocVcra:=ocVcr.later hb
     have orVcra:=orVcr.later hb
     refine ⟨bVcra,?_⟩
     try simp only [pA,pE,pB,pC,pD]
     refine rzH [10] ?_
     refine consH _ rfl (hopL rfl (wpList_store_row (by rfl) 26 _ _ (by rfl) X X.heap.size D #[.int .i64 N,slN n bc,.slice none 0 0,.slice none 0 0,slN n br,.bool false] _ (by kernel_rfl) (by kernel_rfl) hDVcra bVcra hDX 6 Tryz.infoZ (by rfl) (by rfl) (oneZ _ _ _ _ _ rfl rfl rfl rfl _) fun W9 e9 b9 hs9 ho9=>?_)) AllReadyH.nil
     refine (And.intro b9 ?_:_ /\ _)
     try simp only [pA,pE,pB,pC,pD]
     refine wpAnyH_done (by kernel_rfl) ?_ _
     refine NoPanic.normal ?_
     try simp only [pA,pE,pB,pC,pD]
     go_wp2_with fail
     go_meet
     have hk9:∀ (k:Nat) (cur:Array Value),Vcra.heap[k]? = some (.cells cur 45) -> W9.heap[k]? = Vcra.heap[k]?:=fun k cur hc=>ho9 k (by rintro rfl;rw [hDVcra] at hc;cases hc)
     exact ⟨D,bc,br,rfl,e9,⟨(ocVcra.keep hk9).mono HX.out.1.size,(orVcra.keep hk9).mono HX.out.1.size,hne⟩,HX.out.1.trans (b9.mono HX.out.1.size),⟨(b9.block _ (blk_lt HX.out.2.1)).trans HX.out.2.1,(b9.block _ (blk_lt HX.out.2.2)).trans HX.out.2.2⟩,Nat.lt_of_lt_of_le (blk_lt HX.out.2.2) hDX⟩
   ·refine hopAJ 3 rfl rfl rfl 26 rfl #[.int .i64 0,.slice none 0 0,.slice none 0 0,.slice none 0 0,.slice none 0 0,.bool false] allocZJ fun D Vca hDVca hDl hb=>?_
    have bVca:Below X.heap.size X Vca:=bVc.trans (hb.mono bVc.size)
    have hDX:X.heap.size <= D:=Nat.le_trans bVc.size hDl
    have ocVca:=ocVc.later hb
    refine ⟨bVca,?_⟩
    try simp only [pA,pE,pB,pC,pD]
    refine rzH [7] ?_
    refine consH _ rfl ?_ AllReadyH.nil
    ·refine hzC 18 (Calls.mono (HR.out _ (HX.out.1.trans (bVca.mono HX.out.1.size))) ?_)
     rintro e Vcar ⟨br,rfl,o1,hb⟩
     have bVcar:Below X.heap.size X Vcar:=bVca.trans (hb.mono bVca.size)
     have ocVcar:=ocVca.later hb
     have hDVcar:=kept hb hDVca
     have hne:bc ≠ br:=Nat.ne_of_lt (Nat.lt_of_lt_of_le ocVca.lt o1.lo)
     have orVcar:=o1.mono bVca.size
     clear o1 hb
     refine ⟨_,rfl,bVcar,?_⟩
     try simp only [pA,pE,pB,pC,pD]
     refine tzH 19 8 (.agg #[.int .i64 N,slN n bc,.slice none 0 0,.slice none 0 0,slN n br,.bool false]) (Or.inl ⟨by kernel_rfl,fun w' _=>by kernel_rfl⟩) bVcar ?_
     try simp only [pA,pE,pB,pC,pD]
     refine rzH [10] ?_
     refine consH _ rfl (hopL rfl (wpList_store_row (by rfl) 26 _ _ (by rfl) X X.heap.size D #[.int .i64 N,slN n bc,.slice none 0 0,.slice none 0 0,slN n br,.bool false] _ (by kernel_rfl) (by kernel_rfl) hDVcar bVcar hDX 6 Tryz.infoZ (by rfl) (by rfl) (oneZ _ _ _ _ _ rfl rfl rfl rfl _) fun W9 e9 b9 hs9 ho9=>?_)) AllReadyH.nil
     refine (And.intro b9 ?_:_ /\ _)
     try simp only [pA,pE,pB,pC,pD]
     refine wpAnyH_done (by kernel_rfl) ?_ _
     refine NoPanic.normal ?_
     try simp only [pA,pE,pB,pC,pD]
     go_wp2_with fail
     go_meet
     have hk9:∀ (k:Nat) (cur:Array Value),Vcar.heap[k]? = some (.cells cur 45) -> W9.heap[k]? = Vcar.heap[k]?:=fun k cur hc=>ho9 k (by rintro rfl;rw [hDVcar] at hc;cases hc)
     exact ⟨D,bc,br,rfl,e9,⟨(ocVcar.keep hk9).mono HX.out.1.size,(orVcar.keep hk9).mono HX.out.1.size,hne⟩,HX.out.1.trans (b9.mono HX.out.1.size),⟨(b9.block _ (blk_lt HX.out.2.1)).trans HX.out.2.1,(b9.block _ (blk_lt HX.out.2.2)).trans HX.out.2.2⟩,Nat.lt_of_lt_of_le (blk_lt HX.out.2.2) hDX⟩
  ·refine hopAJ 3 rfl rfl rfl 26 rfl #[.int .i64 0,.slice none 0 0,.slice none 0 0,.slice none 0 0,.slice none 0 0,.bool false] allocZJ fun D Va hDVa hDl hb=>?_
   have bVa:Below X.heap.size X Va:=bV.trans (hb.mono bV.size)
   have hDX:X.heap.size <= D:=Nat.le_trans bV.size hDl
   refine ⟨bVa,?_⟩
   try simp only [pA,pE,pB,pC,pD]
   refine rzH [4] ?_
   refine consH _ rfl ?_ AllReadyH.nil
   ·refine hzC 15 (Calls.mono (HC.out _ (HX.out.1.trans (bVa.mono HX.out.1.size))) ?_)
    rintro e Vac ⟨bc,rfl,o1,hb⟩
    have bVac:Below X.heap.size X Vac:=bVa.trans (hb.mono bVa.size)
    have hDVac:=kept hb hDVa
    have ocVac:=o1.mono bVa.size
    clear o1 hb
    refine ⟨_,rfl,bVac,?_⟩
    try simp only [pA,pE,pB,pC,pD]
    refine rzH [7] ?_
    refine consH _ rfl ?_ AllReadyH.nil
    ·refine hzC 18 (Calls.mono (HR.out _ (HX.out.1.trans (bVac.mono HX.out.1.size))) ?_)
     rintro e Vacr ⟨br,rfl,o1,hb⟩
     have bVacr:Below X.heap.size X Vacr:=bVac.trans (hb.mono bVac.size)
     have ocVacr:=ocVac.later hb
     have hDVacr:=kept hb hDVac
     have hne:bc ≠ br:=Nat.ne_of_lt (Nat.lt_of_lt_of_le ocVac.lt o1.lo)
     have orVacr:=o1.mono bVac.size
     clear o1 hb
     refine ⟨_,rfl,bVacr,?_⟩
     try simp only [pA,pE,pB,pC,pD]
     refine tzH 19 8 (.agg #[.int .i64 N,slN n bc,.slice none 0 0,.slice none 0 0,slN n br,.bool false]) (Or.inl ⟨by kernel_rfl,fun w' _=>by kernel_rfl⟩) bVacr ?_
     try simp only [pA,pE,pB,pC,pD]
     refine rzH [10] ?_
     refine consH _ rfl (hopL rfl (wpList_store_row (by rfl) 26 _ _ (by rfl) X X.heap.size D #[.int .i64 N,slN n bc,.slice none 0 0,.slice none 0 0,slN n br,.bool false] _ (by kernel_rfl) (by kernel_rfl) hDVacr bVacr hDX 6 Tryz.infoZ (by rfl) (by rfl) (oneZ _ _ _ _ _ rfl rfl rfl rfl _) fun W9 e9 b9 hs9 ho9=>?_)) AllReadyH.nil
     refine (And.intro b9 ?_:_ /\ _)
     try simp only [pA,pE,pB,pC,pD]
     refine wpAnyH_done (by kernel_rfl) ?_ _
     refine NoPanic.normal ?_
     try simp only [pA,pE,pB,pC,pD]
     go_wp2_with fail
     go_meet
     have hk9:∀ (k:Nat) (cur:Array Value),Vacr.heap[k]? = some (.cells cur 45) -> W9.heap[k]? = Vacr.heap[k]?:=fun k cur hc=>ho9 k (by rintro rfl;rw [hDVacr] at hc;cases hc)
     exact ⟨D,bc,br,rfl,e9,⟨(ocVacr.keep hk9).mono HX.out.1.size,(orVacr.keep hk9).mono HX.out.1.size,hne⟩,HX.out.1.trans (b9.mono HX.out.1.size),⟨(b9.block _ (blk_lt HX.out.2.1)).trans HX.out.2.1,(b9.block _ (blk_lt HX.out.2.2)).trans HX.out.2.2⟩,Nat.lt_of_lt_of_le (blk_lt HX.out.2.2) hDX⟩
 case rest=>
 obtain ⟨D,bc,br,rfl,ED,EO,EB,EK,hDl'⟩:=hcut
 have hDl:w.heap.size <= D:=by omega
 have hD1:w.heap.size + 1 ≠ D:=by omega
 have hDx:D < wc.heap.size:=blk_lt ED.out
 clear HX HC HR
 go_wp2_with (first
  | (refine wpList_load_row (by rfl) 26 _ (by rfl) w.heap.size _ (by rfl) EK.out.1 _ Tryz.underlying26 rfl 6 Tryz.infoZ (by rfl) ?_)
  | (go_at_call 32;refine Calls.mono (columns_any _ rfl _) ?_;rintro e w' ⟨rfl,hw⟩;rw [hw];clear hw))
 obtain ⟨X5,hX5⟩:∃ X5,wc = X5:=⟨_,rfl⟩
 subst hX5
 have V1:(wc.alloc (.cells #[.int .i64 N,.slice co n cc,.slice io dn dc,.slice go dn gc,.slice ro n rc,.bool false] 26)).heap[D]? = _:=alloc_kept ED.out _
 have V2:Below w.heap.size w (wc.alloc (.cells #[.int .i64 N,.slice co n cc,.slice io dn dc,.slice go dn gc,.slice ro n rc,.bool false] 26)):=EB.out.alloc EB.out.size _
 have V3:FrL (wc.alloc (.cells #[.int .i64 N,.slice co n cc,.slice io dn dc,.slice go dn gc,.slice ro n rc,.bool false] 26)) w.heap.size n bc br (cs.map plainM) (rs.map plainM) [] [] (.slice none 0 0) (.slice none 0 0) []:=⟨EO.out.1.later ((Below.refl _ _).alloc (Nat.le_refl _) _),EO.out.2.1.later ((Below.refl _ _).alloc (Nat.le_refl _) _),World.ownsRow_nil _ _ _ _,World.ownsRow_nil _ _ _ _,ColL.nil _ _ _,EO.out.2.2,by simp,by simp⟩
 have V4:(wc.alloc (.cells #[.int .i64 N,.slice co n cc,.slice io dn dc,.slice go dn gc,.slice ro n rc,.bool false] 26)).heap[w.heap.size + 1]? = _:=alloc_kept EK.out.2 _
 have V5:(wc.alloc (.cells #[.int .i64 N,.slice co n cc,.slice io dn dc,.slice go dn gc,.slice ro n rc,.bool false] 26)).heap[wc.heap.size]? = some (.cells #[.int .i64 N,.slice co n cc,.slice io dn dc,.slice go dn gc,.slice ro n rc,.bool false] 26):=heap_alloc_new wc _
 obtain ⟨X,hX⟩:∃ X,wc.alloc (.cells #[.int .i64 N,.slice co n cc,.slice io dn dc,.slice go dn gc,.slice ro n rc,.bool false] 26) = X:=⟨_,rfl⟩
 rw [hX] at V1 V2 V3 V4 V5 ⊢
 clear hX ED EO EB EK
 have hxs:=blk_lt V5
 have hDX5:D < wc.heap.size:=hDx
 refine (wpIn_wide (n:=3)).1 ?_
 refine wpIn_rangeFunc_ownF rfl (by decide) (gf:=58) (lb:=#[.pointer (some ⟨wc.heap.size,0,none⟩)]) rfl trivial (enters_of Tryz.func58 (by kernel_rfl) rfl)
  (cols_stops Fence.wide 2 trivial rfl (by decide) wc.heap.size ⟨N,co,n,cc,io,dn,dc,go,dn,gc,ro,n,rc,false,cs,ids,gv,gs,rs⟩ (Nat.le_refl _) w X V2 (HZ.out w (Below.refl _ _)) V5) KpZ.trans (kpZ_b V2.size hxs) (Below.refl _ _) (fun _=>rfl)
  (fun pre W=>((∃ vi vg gl,W.heap[D]? = some (.cells #[.int .i64 N,slN n bc,vi,vg,slN n br,.bool false] 26) /\ FrL W w.heap.size n bc br (cs.map plainM) (rs.map plainM) (pre.map fun k=>ids[k.val]?.getD 0) (pre.map fun k=>(gs[k.val]?.getD []).map plainM) vi vg gl) /\ W.heap[wc.heap.size]? = some (.cells #[.int .i64 N,.slice co n cc,.slice io dn dc,.slice go dn gc,.slice ro n rc,.bool false] 26) /\ W.heap[w.heap.size + 1]? = some (.cells #[.int .i64 0,.slice none 0 0,.slice none 0 0,.slice none 0 0,.slice none 0 0,.bool false] 26)) /\ Below w.heap.size w W)
  (fun _ _ _=>False)
  (OwnFrom.and (Own.from (fun s A B row hs hg hr=>⟨(by obtain ⟨vi,vg,gl,h1,h2⟩:=hs.1;exact ⟨vi,vg,gl,heap_keptJ h1 hg hr,h2.kept hg hr⟩),heap_keptJ hs.2.1 hg hr,heap_keptJ hs.2.2 hg hr⟩) _) (ownFrom_below (Nat.le_refl _) V2.size))
  (fun _ _ _ _ _ hs _ _=>hs)
  ⟨⟨⟨_,_,[],V1,V3⟩,V5,V4⟩,V2⟩
  ?a1 ?assign ?body ?done ?stop
 case assign=>
  intro l x W K hK
  dsimp only [encZ]
  gi_wp2
  exact hK
 case body=>
  rintro l pre x W ⟨⟨⟨vi,vg,gl,h1,hL⟩,h2,h3⟩,hB⟩ hlen
  have HL0:Hid (FrL W.drew w.heap.size n bc br (cs.map plainM) (rs.map plainM) (pre.map fun k=>ids[k.val]?.getD 0) (pre.map fun k=>(gs[k.val]?.getD []).map plainM) vi vg gl):=hL.keep fun _ _ _ _ _=>rfl
  have HG:Hid _:=HGa.out x.val x.isLt
  have HBS:Hid (w.heap.size <= W.drew.heap.size):=hB.size
  have hgl:gl.length = pre.length:=by have:=hL.col.len;simpa using this
  have HLI:Hid (((pre.map fun k=>ids[k.val]?.getD 0).map (Value.int .i64)).length + 1 <= 4000000):=by unfold Hid;simp only [List.length_map];dsimp only at hlen;omega
  have HLG:Hid ((gl.map (slN n)).length + 1 <= 4000000):=by unfold Hid;simp only [List.length_map];dsimp only at hlen;omega
  have hS0:W.drew.heap[D]? = some (.cells #[.int .i64 N,slN n bc,vi,vg,slN n br,.bool false] 26):=h1
  obtain ⟨xi,hxi⟩:∃ xi,ids[x.val]?.getD 0 = xi:=⟨_,rfl⟩
  rw [hxi]
  clear hgl
  refine wpIn_block ?_
  refine wpIn_round_P (fun V=>V.heap[D]? = some (.cells #[.int .i64 N,slN n bc,vi,vg,slN n br,.bool false] 26)) 12 (by kernel_rfl) (by kernel_rfl) ?_
  refine tzQ 24 0 ?_ ?_ (fun _=>hS0) ?_
  rotate_left
  ·intro w' hSw;go_simp;try with_reducible rfl
  try simp only [pA,pE,pB,pC,pD]
  refine tzP 25 1 ?_ (Or.inl ⟨by kernel_rfl,?_⟩) hS0 ?_
  rotate_left
  ·intro w' hSw;(try obtain ⟨c0,c1,c2,c3,c4,c5⟩:=cells6 hSw);go_simp;try with_reducible rfl
  try simp only [pA,pE,pB,pC,pD]
  refine tzQ 26 2 ?_ ?_ (fun _=>hS0) ?_
  rotate_left
  ·intro w' hSw;go_simp;try with_reducible rfl
  try simp only [pA,pE,pB,pC,pD]
  refine tzQ 29 5 ?_ ?_ (fun _=>hS0) ?_
  rotate_left
  ·intro w' hSw;go_simp;try with_reducible rfl
  try simp only [pA,pE,pB,pC,pD]
  refine tzP 30 6 ?_ (Or.inl ⟨by kernel_rfl,?_⟩) hS0 ?_
  rotate_left
  ·intro w' hSw;(try obtain ⟨c0,c1,c2,c3,c4,c5⟩:=cells6 hSw);go_simp;try with_reducible rfl
  try simp only [pA,pE,pB,pC,pD]
  refine tzQ 31 7 ?_ ?_ (fun _=>hS0) ?_
  rotate_left
  ·intro w' hSw;go_simp;try with_reducible rfl
  try simp only [pA,pE,pB,pC,pD]
  refine rzP [3] ?_
  refine consP _ rfl (hopV 27 (v:=.slice (some ⟨W.drew.heap.size,0,none⟩) 1 1) (w':=W.drew.alloc (.cells #[.int .i64 xi] 3)) rfl rfl rfl (by kernel_rfl) ?_) AllReadyP.nil
  refine ⟨alloc_kept hS0 _,?_⟩
  try simp only [pA,pE,pB,pC,pD]
  refine rzP [4] ?_
  refine consP _ rfl (hopL rfl (append_gr1M Tryz.underlying23 Tryz.infoIJ rfl (by decide) W.drew (by rfl) _ _ (by rfl) w.heap.size vi _ (by kernel_rfl) HL0.out.i (.int .i64 xi) (by kernel_rfl) rfl HLI.out HBS.out fun v4 w4 o4 g4=>?_)) AllReadyP.nil
  change QK _ _ Exit.normal (Act.put _ (some 28) v4) w4
  have hS4:=(grw_types HL0.out.i g4 D _ _ (by decide) hS0).trans hS0
  have L4:=HL0.out.pushI g4 o4
  have q4:Below w.heap.size W w4:=(fun (h:Below w.heap.size W.drew w4)=>⟨h.os,h.tape,h.output,h.size,h.block⟩) (g4.below (fun k hk=>(World.ownsRow.lt HL0.out.i k hk).1) HBS.out)
  have t4:∀ (k:Nat) (cur:Array Value) (t:TypeId),t ≠ 3 -> W.heap[k]? = some (.cells cur t) -> w4.heap[k]? = W.heap[k]?:=fun k cur t ht hc=>grw_types HL0.out.i g4 k cur t ht hc
  have k4:∀ (k:Nat) (o:Obj),W.heap[k]? = some o -> o.isCells = false -> w4.heap[k]? = some o:=fun k o hk hc=>grw_keeps HL0.out.i g4 k o hk hc
  refine (And.intro hS4 ?_:_ /\ _)
  try simp only [pA,pE,pB,pC,pD]
  clear g4
  refine tzQ 35 11 ?_ ?_ (fun _=>hS4) ?_
  rotate_left
  ·intro w' hSw;go_simp;try with_reducible rfl
  try simp only [pA,pE,pB,pC,pD]
  refine rzP [8] ?_
  refine consP _ rfl (hzC 32 (Calls.mono (HG.out _ (hB.trans q4)) ?_)) AllReadyP.nil
  rintro e w5 ⟨b,rfl,o5,q5⟩
  have hS5:=kept q5 hS4
  have L5:=L4.later q5
  have nb:b ≠ bc /\ b ≠ br /\ b ∉ gl:=⟨Nat.ne_of_gt (Nat.lt_of_lt_of_le L4.c.lt o5.lo),Nat.ne_of_gt (Nat.lt_of_lt_of_le L4.r.lt o5.lo),fun hm=>absurd (L4.col.mem_lt hm) (Nat.not_lt.2 o5.lo)⟩
  have o5':=o5.mono (Nat.le_trans HBS.out q4.size)
  refine ⟨_,rfl,hS5,?_⟩
  try simp only [pA,pE,pB,pC,pD]
  refine rzP [9] ?_
  refine consP _ rfl (hopV 33 (v:=.slice (some ⟨w5.heap.size,0,none⟩) 1 1) (w':=w5.alloc (.cells #[slN n b] 22)) rfl rfl rfl (by kernel_rfl) ?_) AllReadyP.nil
  refine ⟨alloc_kept hS5 _,?_⟩
  try simp only [pA,pE,pB,pC,pD]
  refine rzP [10] ?_
  refine consP _ rfl (hopL rfl (append_gr1M Tryz.underlying24 Tryz.infoFsJ rfl (by decide) w5 (by rfl) _ _ (by rfl) w.heap.size vg _ (by kernel_rfl) L5.g (slN n b) (by kernel_rfl) rfl HLG.out (Nat.le_trans HBS.out (Nat.le_trans q4.size q5.size)) fun v6 w6 o6 g6=>?_)) AllReadyP.nil
  change QK _ _ Exit.normal (Act.put _ (some 34) v6) w6
  have hS6:=(grw_types L5.g g6 D _ _ (by decide) hS5).trans hS5
  have L6:=L5.pushG g6 o6 o5' nb.1 nb.2.1 nb.2.2
  have q6:Below w.heap.size w5 w6:=(g6.below (fun k hk=>(World.ownsRow.lt L5.g k hk).1) (Nat.le_trans HBS.out (Nat.le_trans q4.size q5.size)))
  have t6:∀ (k:Nat) (cur:Array Value) (t:TypeId),t ≠ 22 -> w5.heap[k]? = some (.cells cur t) -> w6.heap[k]? = w5.heap[k]?:=grw_types L5.g g6
  have k6:∀ (k:Nat) (o:Obj),w5.heap[k]? = some o -> o.isCells = false -> w6.heap[k]? = some o:=grw_keeps L5.g g6
  refine (And.intro hS6 ?_:_ /\ _)
  try simp only [pA,pE,pB,pC,pD]
  have qW6:Below w.heap.size w w6:=hB.trans (q4.trans ((q5.mono (Nat.le_trans HBS.out q4.size)).trans q6))
  clear g6
  refine rzP [12] ?_
  refine consPs _ rfl (by kernel_rfl) (hopL rfl (wpList_store_at (by rfl) 23 _ _ (by rfl) w w.heap.size D 2 v4 _ #[.int .i64 N,slN n bc,v4,vg,slN n br,.bool false] 26 (by kernel_rfl) (by kernel_rfl) hS6 qW6 hDl 1 Tryz.szIs (by rw [(own_valJ L6.i).2];rfl) (Nat.le_of_ble_eq_true rfl) (by intro u hu;rw [(own_valJ L6.i).2] at hu;simp only [List.mem_cons,List.not_mem_nil,or_false] at hu;subst hu;exact (own_valJ L6.i).1) (by rw [(own_valJ L6.i).2];rfl) fun w7 e7 b7 s7 k7=>?_)) AllReadyP.nil
  refine (And.intro trivial ?_:_ /\ _)
  try simp only [pA,pE,pB,pC,pD]
  refine tzQ 36 13 ?_ ?_ (fun e=>by cases e) ?_
  rotate_left
  ·intro w' hSw;go_simp;try with_reducible rfl
  try simp only [pA,pE,pB,pC,pD]
  refine rzP [14] ?_
  refine consPs _ rfl (by kernel_rfl) (hopL rfl (wpList_store_at (by rfl) 24 _ _ (by rfl) w w.heap.size D 3 v6 _ #[.int .i64 N,slN n bc,v4,v6,slN n br,.bool false] 26 (by kernel_rfl) (by kernel_rfl) e7 b7 hDl 1 Tryz.szFss (by rw [(own_valJ L6.g).2];rfl) (Nat.le_of_ble_eq_true rfl) (by intro u hu;rw [(own_valJ L6.g).2] at hu;simp only [List.mem_cons,List.not_mem_nil,or_false] at hu;subst hu;exact (own_valJ L6.g).1) (by rw [(own_valJ L6.g).2];rfl) fun w8 e8 b8 s8 k8=>?_)) AllReadyP.nil
  refine (And.intro trivial ?_:_ /\ _)
  try simp only [pA,pE,pB,pC,pD]
  refine wpAnyP_done (by kernel_rfl) ?_ _
  try simp only [pA,pE,pB,pC,pD]
  have kk:∀ k,k ≠ D -> w8.heap[k]? = w6.heap[k]?:=fun k hk=>(k8 k hk).trans (k7 k hk)
  have L8:=L6.keep (w':=w8) fun k cur t ht hc=>kk k (by rintro rfl;rw [hS6] at hc;cases hc;exact ht rfl)
  have zk:∀ (k:Nat) (cur:Array Value),k ≠ D -> W.heap[k]? = some (.cells cur 26) -> w8.heap[k]? = some (.cells cur 26):=fun k cur hk hc=>by
   have h1:=(t4 k cur _ (by decide) hc).trans hc
   have h2:=kept q5 h1
   exact (kk k hk).trans ((t6 k cur _ (by decide) h2).trans h2)
  have hko:KeepsOthers W w8:=⟨by rw [s8,s7];exact Nat.le_trans q4.size (Nat.le_trans q5.size q6.size),fun k o hk hc=>by
   have hkD:k ≠ D:=by rintro rfl;rw [show W.heap[k]? = _ from hS0] at hk;cases hk;cases hc
   exact (kk k hkD).trans (k6 k o ((q5.block k (blk_lt (k4 k o hk hc))).trans (k4 k o hk hc)) hc)⟩
  have b8W:Below w.heap.size W w8:=⟨b8.os.trans hB.os.symm,b8.tape.trans hB.tape.symm,b8.output.trans hB.output.symm,hko.1,fun k hk=>(b8.block k hk).trans (hB.block k hk).symm⟩
  have z5:=zk _ _ (Nat.ne_of_gt hDX5) h2
  have z6:=zk _ _ hD1 h3
  refine ⟨hko,⟨b8W,z5.trans h2.symm⟩,⟨⟨v4,v6,gl ++ [b],e8,?_⟩,z5,z6⟩,b8⟩
  rw [<- hxi] at L8
  rw [List.map_append,List.map_append]
  exact L8
 case done=>
  rintro Dd ys W hD rfl ⟨⟨⟨vi,vg,gl,h1,hL⟩,h2,h3⟩,hB⟩ hK
  rw [map_getD ids 0 dn HLN.out.1,map_getD2 gs [] (·.map plainM) dn HLN.out.2] at hL
  have hDw:w.heap.size <= Dd:=Nat.le_trans V2.size hD
  have HH:Hid _:=And.intro h1 (And.intro hL h3)
  clear h1 h2 h3 hL V1 V3 V4 V5 HGa HZ
  go_wp2_with (first
   | (refine wpList_load_row (by rfl) 26 _ (by rfl) D _ (by rfl) HH.out.1 _ Tryz.underlying26 rfl 6 Tryz.infoZ (by rfl) ?_)
   | (refine wpList_store_row (by rfl) 26 _ _ (by rfl) w w.heap.size (w.heap.size + 1) _ _ (by rfl) (by rfl) HH.out.2.2 hB (Nat.le_succ _) 6 Tryz.infoZ (by rfl) (by rfl) (oneZ _ _ _ _ _ rfl (own_valJ HH.out.2.1.i).1 (own_valJ HH.out.2.1.g).1 rfl _) ?_;intro W9 e9 b9 s9 o9))
  have hK9:W9.heap[Dd]? = some (.deferred (some [])):=(o9 Dd (by rintro rfl;rw [HH.out.2.2] at hK;cases hK)).trans hK
  refine ⟨by simp,.inl ⟨_,_,rfl,run_takeDeferred hK9,?_⟩⟩
  have hgr:=grownBy_putObj' W9 Dd (.deferred none)
  have hrr:∀ r,some Dd = some r -> ∃ o,W9.heap[r]? = some o /\ o.isCells = false:=fun r e=>by cases e;exact ⟨_,hK9,rfl⟩
  have L9:=HH.out.2.1.keep (w':=W9) fun k cur t ht hc=>o9 k (by rintro rfl;rw [HH.out.2.2] at hc;cases hc;exact ht rfl)
  exact ⟨_,res_oneJ _ 2 26 (by kernel_rfl) _ _ (w.heap.size + 1) _ (by rfl) _ Tryz.underlying26 rfl 6 Tryz.infoZ rfl (heap_keptJ e9 hgr hrr),bc,br,vi,vg,gl,rfl,L9.kept hgr hrr,b9.trans (belowK_b (w:=w) (Nat.le_refl _) W9 Dd _ _ hDw hK9 rfl rfl)⟩
 case stop=>
  rintro D c pre W _ _ h _
  exact h.elim
theorem srung_zero:srung 0 = 0:=by decide
theorem srung_plainM (u:Nat):srung (plainM u) = srung u:=by
 unfold plainM
 split
 ·rename_i h;rw [h,srung_zero]
 ·rfl
theorem madeN_plain (rs:List Nat):madeN (rs.map plainM) = madeN rs:=by
 unfold madeN
 rw [List.countP_map]
 congr 1
 funext u
 simp [srung_plainM]
def unitL (n k r:Nat):List Nat:=(List.replicate n 0).set k r
def lfS (n:Nat) (rs:List Nat) (next:Int):Nat -> List Int × List (List Nat) × Int
 | 0=>([],[],next)
 | k + 1=>if 0 < srung (rs[k]?.getD 0) then ((lfS n rs next k).1 ++ [(lfS n rs next k).2.2],(lfS n rs next k).2.1 ++ [unitL n k (rs[k]?.getD 0)],(lfS n rs next k).2.2 + 1) else lfS n rs next k
theorem lfS_next (n:Nat) (rs:List Nat) (next:Int):∀ k,k <= rs.length -> (lfS n rs next k).2.2 = next + (madeN (rs.take k):Nat)
 | 0,_=>by simp [lfS,madeN]
 | k + 1,h=>by
  have ih:=lfS_next n rs next k (by omega)
  rw [madeN_take (by omega)]
  unfold lfS
  split
  ·rename_i hp
   dsimp only
   rw [ih]
   omega
  ·rename_i hp
   rw [ih]
   omega
theorem lfS_len (n:Nat) (rs:List Nat) (next:Int):∀ k,(lfS n rs next k).1.length <= k /\ (lfS n rs next k).2.1.length = (lfS n rs next k).1.length
 | 0=>⟨Nat.le_refl _,rfl⟩
 | k + 1=>by
  have ih:=lfS_len n rs next k
  unfold lfS
  split
  ·simp only [List.length_append,List.length_cons,List.length_nil]
   omega
  ·omega
def zrL (rs:List Nat) (k:Nat):List Nat:=(rs.take k).map (fun r=>if 0 < srung r then 0 else r) ++ rs.drop k
theorem zrL_len (rs:List Nat) (k:Nat) (h:k <= rs.length):(zrL rs k).length = rs.length:=by unfold zrL;simp;omega
theorem zrL_at (rs:List Nat) (k:Nat) (h:k < rs.length):(zrL rs k)[k]?.getD 0 = rs[k]?.getD 0:=by
 unfold zrL
 rw [List.getElem?_append_right (by simp;omega)]
 simp only [List.length_map,List.length_take,List.getElem?_drop]
 rw [show k + (k - min k rs.length) = k by omega]
theorem zrL_pos (rs:List Nat) (k:Nat) (h:k < rs.length) (hp:0 < srung (rs[k]?.getD 0)):zrL rs (k + 1) = (zrL rs k).set k 0:=by
 rw [List.getElem?_eq_getElem h] at hp
 unfold zrL
 rw [List.take_succ_eq_append_getElem h,List.map_append,List.set_append_right _ _ (by simp;omega),List.drop_eq_getElem_cons h]
 simp only [List.length_map,List.length_take,show k - min k rs.length = 0 by omega,List.set_cons_zero,List.map_cons,List.map_nil,List.append_assoc,List.cons_append,List.nil_append]
 rw [if_pos (by simpa using hp)]
theorem zrL_neg (rs:List Nat) (k:Nat) (h:k < rs.length) (hp:¬ 0 < srung (rs[k]?.getD 0)):zrL rs (k + 1) = zrL rs k:=by
 rw [List.getElem?_eq_getElem h] at hp
 unfold zrL
 rw [List.take_succ_eq_append_getElem h,List.map_append,List.drop_eq_getElem_cons h]
 simp only [List.map_cons,List.map_nil,List.append_assoc,List.cons_append,List.nil_append]
 rw [if_neg (by simpa using hp)]
theorem zrL_zero (rs:List Nat):zrL rs 0 = rs:=by unfold zrL;simp
theorem hopBJ {P:Program} {ops:Array Oper} {Q:Exit -> Act -> World -> Prop} {i:Nat} {o:Oper} {K:Act -> World -> Prop} {a:Act} {w:World} (d:Nat) (y:Value) (E:TypeId) (ho:ops[i]? = some o) (hg:o.guard = none) (hd:o.dst = some d)
  (hr:(execOp a.eval o).run P w = .ok (.value (.slice (some ⟨w.heap.size,0,none⟩) 1 1)) (w.alloc (.cells #[y] E)))
  (h:∀ I W',W'.heap[I]? = some (.cells #[y] E) -> Below w.heap.size w W' -> K (a.put (some d) (.slice (some ⟨I,0,none⟩) 1 1)) W'):wpOp P ops Q i K a w:=
 hopV d ho hg hd hr (h _ _ (heap_alloc_new w _) ((Below.refl _ w).alloc (Nat.le_refl _) _))
theorem news_oneJ {W:World} {I:Nat} {y:Value} {E:TypeId} (h:W.heap[I]? = some (.cells #[y] E)):∀ j u,[y][j]? = some u -> W.cell? ((⟨I,0,none⟩:Addr).add j) = some u:=by
 intro j u hj
 match j,hj with
 | 0,hj=>
  simp only [List.getElem?_cons_zero,Option.some.injEq] at hj
  subst hj
  rw [Addr.add_lit,cell_of_row _ I _ _ _ _ h]
  rfl
theorem OwB.set {w:World} {base n b:Nat} {us:List Nat} (h:OwB w base n b us) {k u:Nat} (hk:k < n) (hu:u < 18446744073709551616):OwB (w.setCell ⟨b,k,none⟩ (.float .f64 u)) base n b (us.set k u):=by
 obtain ⟨cur,hc⟩:=h.cur
 have hl:=h.rd.length
 refine ⟨h.lo,⟨_,heap_setCell_same w b k _ _ _ hc⟩,⟨by rw [List.length_set];exact hl,h.rd.max,fun x hx=>?_,.inr ⟨b,0,rfl,fun j hj=>?_⟩⟩⟩
 ·rcases List.mem_or_eq_of_mem_set hx with h1 | h1
  ·exact h.rd.lt x h1
  ·rw [h1];exact hu
 ·rcases h.rd.cells with h0 | ⟨b',off,e,hcs⟩
  ·omega
  cases e
  rw [Nat.zero_add]
  by_cases e:j = k
  ·subst e
   rw [World.cell?_setCell_same' _ _ _ (by have:=hcs j hj;rw [Nat.zero_add] at this;rw [this];rfl),List.getElem?_set_self (by omega)]
   rfl
  ·rw [World.cell?_setCell_other _ _ _ _ (by intro c;cases c;exact e rfl),List.getElem?_set_ne (fun c=>e c.symm)]
   have:=hcs j hj
   rw [Nat.zero_add] at this
   exact this
theorem setCell_keepJ (w:World) (b k:Nat) (u:Value):∀ (j:Nat),j ≠ b -> (w.setCell ⟨b,k,none⟩ u).heap[j]? = w.heap[j]?:=fun j hj=>Below.heap_setCell w ⟨b,k,none⟩ u j hj
theorem FrL.setR {w:World} {base n bc br:Nat} {cs rs:List Nat} {ids:List Int} {gs:List (List Nat)} {vi vg:Value} {gl:List Nat} (h:FrL w base n bc br cs rs ids gs vi vg gl) {k u:Nat} (hk:k < n) (hu:u < 18446744073709551616):FrL (w.setCell ⟨br,k,none⟩ (.float .f64 u)) base n bc br cs (rs.set k u) ids gs vi vg gl:=by
 obtain ⟨curR,hR⟩:=h.r.cur
 have ho:=setCell_keepJ w br k (.float .f64 u)
 have ht:∀ (j:Nat) (cur:Array Value) (t:TypeId),t ≠ 45 -> w.heap[j]? = some (.cells cur t) -> (w.setCell ⟨br,k,none⟩ (.float .f64 u)).heap[j]? = w.heap[j]?:=fun j cur t hne hj=>ho j (by rintro rfl;rw [hR] at hj;cases hj;exact hne rfl)
 have one:∀ (b:Nat) (us:List Nat),b ≠ br -> OwB w base n b us -> OwB (w.setCell ⟨br,k,none⟩ (.float .f64 u)) base n b us:=fun b us hb h=>by
  obtain ⟨cur,hc⟩:=h.cur
  exact ⟨h.lo,⟨cur,(ho b hb).trans hc⟩,rdF_keep h.rd (ho b hb)⟩
 refine ⟨one bc cs h.cr h.c,h.r.set hk hu,owns_keepT h.i fun j cur=>ht j cur _ (by decide),owns_keepT h.g fun j cur=>ht j cur _ (by decide),⟨h.col.len,fun j hj=>one _ _ ?_ (h.col.row j hj),h.col.nodup⟩,h.cr,h.cg,h.rg⟩
 intro e
 refine h.rg ?_
 rw [<- e,List.getElem?_eq_getElem hj]
 exact List.getElem_mem _
theorem rdF_zero0 (n:Nat) (w:World) (hn:n <= 1000000):OwB (w.alloc (.cells (flN n) 45)) w.heap.size n w.heap.size (List.replicate n 0):=
 ⟨Nat.le_refl _,⟨_,heap_alloc_new w _⟩,⟨by simp,by simp only [maxLen];omega,fun u hu=>by rw [(List.mem_replicate.1 hu).2];decide,.inr ⟨_,0,rfl,fun j hj=>by rw [Nat.zero_add,List.getElem?_replicate,if_pos hj];exact cellAtJ (heap_alloc_new w _) j _ (flN_at n j hj)⟩⟩⟩
theorem frung_of_srung {u:Nat} (h:srung u = 0):frung u = 0:=by
 unfold srung at h
 split at h <;> omega
theorem frung_plainM (u:Nat):frung (plainM u) = frung u:=by
 unfold plainM
 split
 ·rename_i h
  rw [frung_of_srung h];decide
 ·rfl
theorem fin_plainM {u:Nat} (h:Fin u):Fin (plainM u):=by unfold Fin at *;rw [frung_plainM];exact h
theorem RndO.finJ {d:Int} {o:Option Int} {u:Nat} {b:Bool} (h:RndO d o u b):Fin u:=by
 cases o with
 | none=>rw [h.1];decide
 | some z=>
  obtain ⟨a,ha⟩:∃ a:Nat,a = 1166:=⟨_,rfl⟩
  exact (tell_fin (h a ha)).1
theorem AroR.uniq {c:Nat} {o:Option Int} {r s:Nat × Nat × Bool} (h:AroR c o r) (k:AroR c o s):r = s:=by
 obtain ⟨lo,low,hi,high,h1,h2,h3⟩:=h
 obtain ⟨lo',low',hi',high',k1,k2,k3⟩:=k
 obtain ⟨rfl,rfl⟩:=h1.uniq k1
 obtain ⟨rfl,rfl⟩:=h2.uniq k2
 rw [h3,k3]
theorem AroR.fin {c:Nat} {o:Option Int} {r:Nat × Nat × Bool} (h:AroR c o r):Fin r.1 /\ Fin r.2.1:=by
 obtain ⟨lo,low,hi,high,h1,h2,h3⟩:=h
 rw [h3]
 split
 ·unfold makeS
  split
  ·exact ⟨fin_plainM (RndO.finJ h1),fin_plainM (RndO.finJ h2)⟩
  ·exact ⟨fin_zeroJ,fin_zeroJ⟩
 ·exact ⟨fin_zeroJ,fin_zeroJ⟩
theorem owns_monoJ {w:World} {E:TypeId} {base b size n:Nat} {v:Value} {xs:List Value} (h:w.ownsRow base E size v n xs) (hb:b <= base):w.ownsRow b E size v n xs:=by
 refine ⟨h.1,?_⟩
 rcases h.2 with h2 | ⟨g,cap,cur,hv,hg,r⟩
 ·exact .inl h2
 ·exact .inr ⟨g,cap,cur,hv,Nat.le_trans hb hg,r⟩
theorem own_neD {w:World} {base n b B:Nat} {us:List Nat} {cur:Array Value} (h:OwB w base n b us) (hB:w.heap[B]? = some (.cells cur 26)):B ≠ b:=by
 rintro rfl
 obtain ⟨c,hc⟩:=h.cur
 rw [hB] at hc
 cases hc
theorem FrL.mono {w:World} {base base' n bc br:Nat} {cs rs:List Nat} {ids:List Int} {gs:List (List Nat)} {vi vg:Value} {gl:List Nat} (h:FrL w base n bc br cs rs ids gs vi vg gl) (hb:base' <= base):FrL w base' n bc br cs rs ids gs vi vg gl:=
 ⟨h.c.mono hb,h.r.mono hb,owns_monoJ h.i hb,owns_monoJ h.g hb,⟨h.col.len,fun j hj=>(h.col.row j hj).mono hb,h.col.nodup⟩,h.cr,h.cg,h.rg⟩
theorem lift_ok (z:ZD) (next:Int) (w:World) (hz:ZR w z) (hb:(tkZ z).bad = false) (hN:(tkZ z).N = ((tkZ z).cn:Int)) (hrn:(tkZ z).cn = (tkZ z).rn) (hdg:(tkZ z).dn = (tkZ z).gn) (hn:(tkZ z).cn <= 100000) (hdn:(tkZ z).dn <= 2000000) (hw:∀ k,k < (tkZ z).dn -> ((tkZ z).gs[k]?.getD []).length = (tkZ z).cn)
  (hnx:-9223372036854775808 <= next /\ next < 9223372036854775808) (hm:mayB (tkZ z) next = true) :
  Calls Tryz.prog 5 #[.agg (zRow z),.int .i64 next] w fun e w'=>∃ bc br vi vg gl,e = .returned (.tuple #[.agg #[.int .i64 (tkZ z).N,slN (tkZ z).cn bc,vi,vg,slN (tkZ z).cn br,.bool false],.int .i64 (lfS (tkZ z).cn ((tkZ z).rs.map plainM) next (tkZ z).cn).2.2]) ∧
   FrL w' w.heap.size (tkZ z).cn bc br ((tkZ z).cs.map plainM) (zrL ((tkZ z).rs.map plainM) (tkZ z).cn) ((tkZ z).ids ++ (lfS (tkZ z).cn ((tkZ z).rs.map plainM) next (tkZ z).cn).1) ((tkZ z).gs.map (·.map plainM) ++ (lfS (tkZ z).cn ((tkZ z).rs.map plainM) next (tkZ z).cn).2.1) vi vg gl /\ Below w.heap.size w w':=by
 have X0:Below w.heap.size w ((w.alloc (.cells #[.int .i64 z.N,.slice z.co z.cn z.cc,.slice z.io z.dn z.dc,.slice z.go z.gn z.gc,.slice z.ro z.rn z.rc,.bool z.bad] 26)).alloc (.cells #[.int .i64 0,.slice none 0 0,.slice none 0 0,.slice none 0 0,.slice none 0 0,.bool false] 26)):=((Below.refl _ w).alloc (Nat.le_refl _) _).alloc (by simp only [alloc_size];omega) _
 have Y0:((w.alloc (.cells #[.int .i64 z.N,.slice z.co z.cn z.cc,.slice z.io z.dn z.dc,.slice z.go z.gn z.gc,.slice z.ro z.rn z.rc,.bool z.bad] 26)).alloc (.cells #[.int .i64 0,.slice none 0 0,.slice none 0 0,.slice none 0 0,.slice none 0 0,.bool false] 26)).heap[w.heap.size]? = _:=alloc_kept (heap_alloc_new w _) _
 have Y1:((w.alloc (.cells #[.int .i64 z.N,.slice z.co z.cn z.cc,.slice z.io z.dn z.dc,.slice z.go z.gn z.gc,.slice z.ro z.rn z.rc,.bool z.bad] 26)).alloc (.cells #[.int .i64 0,.slice none 0 0,.slice none 0 0,.slice none 0 0,.slice none 0 0,.bool false] 26)).heap[w.heap.size + 1]? = _:=heap_at _ _ (w.heap.size + 1) (by simp only [alloc_size])
 have HT:=takenZ_any z _ (hz.later X0)
 have HM:∀ W',Below w.heap.size w W' -> _:=fun W' h=>mayNumber_any (tkZ z) next hnx W' ((tkZ_ZR hz).later h) (tkZ_fin hz).r (by rw [<- hrn];omega) (by omega)
 rw [hm] at HM
 have HFr:∀ W',Below w.heap.size w W' -> _:=fun W' h=>fresh_ok (tkZ z) W' ((tkZ_ZR hz).later h) hb hrn hdg hn hdn hw (tkZ_fin hz)
 have HRL:=(tkZ_ZR hz).r.length
 have HRF:=(tkZ_fin hz).r
 have HIL:=(tkZ_ZR hz).i.length
 have HGL:=(tkZ_ZR hz).g.length
 obtain ⟨a1,hea⟩:∃ a1,tkZ z = a1:=⟨_,rfl⟩
 rw [hea] at HT HM HFr hb hN hrn hdg hn hdn hw hm HRL HRF HIL HGL ⊢
 clear hz hea hw
 obtain ⟨N1,co1,n,cc1,io1,dn1,dc1,go1,gn1,gc1,ro1,rn1,rc1,bad1,cs1,ids1,gv1,gs1,rs1⟩:=a1
 dsimp only at hb hN hrn hdg hn hdn hm HM HFr HRL HRF HIL HGL ⊢
 subst hb hN hrn hdg
 unfold zRow at HT HFr
 dsimp only at HT HFr
 have HT':Hid _:=HT
 have HM':Hid _:=HM
 have HF':Hid _:=HFr
 unfold zRow
 have hmb:0 <= next /\ (madeN rs1 = 0 \/ next <= 1073741824 - (madeN rs1:Int) + 1):=by
  unfold mayB at hm
  simp only [Bool.and_eq_true,Bool.not_eq_true',Bool.or_eq_false_iff,Bool.or_eq_true,decide_eq_false_iff_not,decide_eq_true_eq] at hm
  exact ⟨by omega,hm.2⟩
 have HMB:Hid _:=hmb
 have HRL':Hid ((rs1.map plainM).length = n):=by unfold Hid;rw [List.length_map];exact HRL
 have HRF':Hid (∀ u ∈ rs1.map plainM,Fin u):=by
  intro u hu
  obtain ⟨v,hv,rfl⟩:=List.mem_map.1 hu
  unfold plainM
  split
  ·decide
  ·exact HRF v hv
 have HLL:Hid (ids1.length = dn1 /\ gs1.length = dn1):=⟨HIL,HGL⟩
 clear HT HM HFr hm HRL HRF HIL HGL hmb hnx
 go_enter Tryz.func5,Tryz.ntmps5
 go_upto_region 2 with (first
  | (go_at_call 16;refine Calls.mono HT'.out ?_;rintro e w1 ⟨rfl,hb1⟩)
  | (refine wpList_store_row (by rfl) 26 _ _ (by rfl) w w.heap.size w.heap.size _ _ (by rfl) (by rfl) (kept hb1 Y0) (to_call X0 hb1) (Nat.le_refl _) 6 Tryz.infoZ (by rfl) (by rfl) (oneZ _ _ _ _ _ rfl rfl rfl rfl _) ?_;intro W2 e2 b2 s2 o2))
 obtain ⟨c0,c1,c2,c3,c4,c5⟩:=cells6 e2
 have e2':=(o2 (w.heap.size + 1) (by omega)).trans (kept hb1 Y1)
 have HK:Hid (Below w.heap.size w W2 /\ _ /\ _):=⟨b2,e2,e2'⟩
 clear hb1 X0 Y0 Y1 HT' s2 o2 e2 e2' b2
 go_upto_region 5 with (first
  | (refine wpList_load_rowG (by rfl) 26 _ (by rfl) w.heap.size _ (by rfl) HK.out.2.1 _ Tryz.underlying26 rfl 6 Tryz.infoZ (by rfl) ?_)
  | (go_at_call 17;refine Calls.mono (HM'.out _ HK.out.1) ?_;rintro e w4 ⟨rfl,hb4⟩;obtain ⟨k0,k1,k2,k3,k4,k5⟩:=cells6 (kept hb4 HK.out.2.1))
  | (refine wpList_load_row (by rfl) 26 _ (by rfl) w.heap.size _ (by rfl) (kept hb4 HK.out.2.1) _ Tryz.underlying26 rfl 6 Tryz.infoZ (by rfl) ?_)
  | (go_at_call 19;refine Calls.mono (HF'.out _ (to_call HK.out.1 hb4)) ?_;rintro e w5 ⟨bc,br,vi0,vg0,gl0,rfl,L5,hb5⟩)
  | (refine wpList_store_row (by rfl) 26 _ _ (by rfl) w w.heap.size w5.heap.size #[.int .i64 (n:Int),slN n bc,vi0,vg0,slN n br,.bool false] _ (by rfl) (by rfl) (heap_alloc_new w5 _) ((to_call (to_call HK.out.1 hb4) hb5).alloc (to_call (to_call HK.out.1 hb4) hb5).size _) (to_call (to_call HK.out.1 hb4) hb5).size 6 Tryz.infoZ (by rfl) (by rfl) (oneZ _ _ _ _ _ rfl (own_valJ L5.i).1 (own_valJ L5.g).1 rfl _) ?_;intro W6 e6 b6 s6 o6))
 have hsz5:w.heap.size + 1 < w5.heap.size:=Nat.lt_of_lt_of_le (blk_lt (kept hb4 HK.out.2.2)) hb5.size
 obtain ⟨D,hD⟩:∃ D,w5.heap.size = D:=⟨_,rfl⟩
 have L6:FrL W6 w.heap.size n bc br (cs1.map plainM) (rs1.map plainM) ids1 (gs1.map (·.map plainM)) vi0 vg0 gl0:=(FrL.mono L5 (to_call HK.out.1 hb4).size).keep fun k cur t ht hc=>(o6 k (Nat.ne_of_lt (blk_lt hc))).trans (alloc_kept hc _ |>.trans hc.symm)
 have r6:W6.heap[w.heap.size + 1]? = some (.cells #[.int .i64 0,.slice none 0 0,.slice none 0 0,.slice none 0 0,.slice none 0 0,.bool false] 26):=(o6 _ (Nat.ne_of_lt hsz5)).trans (alloc_kept (kept hb5 (kept hb4 HK.out.2.2)) _)
 rw [hD] at e6 hsz5 ⊢
 have hDl:w.heap.size <= D:=by omega
 have hD1:w.heap.size + 1 ≠ D:=by omega
 clear o6 s6 L5 hb5 hb4 HK HM' HF' hD hsz5 c0 c1 c2 c3 c4 c5 k0 k1 k2 k3 k4 k5
 obtain ⟨d0,d1,d2,d3,d4,d5⟩:=cells6 e6
 unfold slN at d1 d4
 go_wp2_with fail
 clear d0 d1 d2 d3 d4 d5
 go_loopg [1,29] n (fun g nv iv wx=>∃ (k:Nat) (nx:Int) (vi vg:Value) (gl:List Nat),iv = .int .i64 k /\ nv = .int .i64 nx /\ k + g = n /\ Hid (nx = (lfS n (rs1.map plainM) next k).2.2) /\ Hid (FrL wx w.heap.size n bc br (cs1.map plainM) (zrL (rs1.map plainM) k) (ids1 ++ (lfS n (rs1.map plainM) next k).1) (gs1.map (·.map plainM) ++ (lfS n (rs1.map plainM) next k).2.1) vi vg gl) /\ Hid (wx.heap[D]? = some (.cells #[.int .i64 (n:Int),slN n bc,vi,vg,slN n br,.bool false] 26)) /\ Hid (Below w.heap.size w wx) /\ Hid (wx.heap[w.heap.size + 1]? = some (.cells #[.int .i64 0,.slice none 0 0,.slice none 0 0,.slice none 0 0,.slice none 0 0,.bool false] 26)))
 case atStart=>
  refine ⟨0,next,vi0,vg0,gl0,rfl,rfl,by omega,rfl,?_,e6,b6,r6⟩
  unfold Hid
  rw [zrL_zero]
  simp only [lfS,List.append_nil]
  exact L6
 case round=>
  obtain ⟨k,nx,vi,vg,gl,rfl,rfl,hk,HNX,HL,HD,HB,HR0⟩:=hrel
  clear L6 e6 b6 r6
  by_cases hlt:k < n
  ·have hd:decide ((k:Int) < (n:Int)) = true:=decide_eq_true (by omega)
   obtain ⟨g,rfl⟩:∃ g,gk = g + 1:=⟨gk - 1,by omega⟩
   have hkl:k < (rs1.map plainM).length:=by rw [HRL'.out];exact hlt
   rcases HL.out.r.rd.cells with h0 | ⟨rb,ro,re,hca⟩
   ·omega
   cases re
   have ga:=hca k hlt
   rw [Nat.zero_add,zrL_at _ _ hkl] at ga
   have hmem:=getD_mem (us:=rs1.map plainM) (j:=k) hkl
   have hox:=gt0_ord (HRF'.out _ hmem)
   have HNK:Hid _:=lfS_next n (rs1.map plainM) next k (by omega)
   have HMT:Hid _:=madeN_take hkl
   obtain ⟨d0,d1,d2,d3,d4,d5⟩:=cells6 HD.out
   unfold slN at d1 d4
   obtain ⟨x,hx⟩:∃ x,(rs1.map plainM)[k]?.getD 0 = x:=⟨_,rfl⟩
   rw [hx] at ga hox hmem HMT
   have HX:Hid _:=hx
   have HIG:Hid (k + (g + 1) = n):=hk
   have HKL:Hid _:=hkl
   have HFx:Hid (x < 18446744073709551616):=HL.out.r.rd.lt x (by have:=zrL_at (rs1.map plainM) k hkl;rw [hx] at this;rw [<- this];exact getD_mem (by rw [zrL_len _ _ (by omega)];exact hkl))
   clear hca hx hk hkl hmem
   by_cases hxp:0 < srung x
   ·rw [decide_eq_true hxp] at hox
    have HXP:Hid _:=hxp
    have HNXB:Hid (0 <= nx /\ nx < 9000000000):=by
     unfold Hid
     have h1:=HMT.out
     rw [if_pos hxp] at h1
     have h2:=HNK.out
     have h3:=HNX.out
     have h4:madeN ((rs1.map plainM).take (k + 1)) <= madeN (rs1.map plainM):=List.Sublist.countP_le (List.take_sublist _ _)
     rw [madeN_plain] at h4
     have h5:=HMB.out
     rw [h3,h2]
     omega
    have hnx1:-9223372036854775808 <= nx + 1 /\ nx + 1 < 9223372036854775808:=by have:=HNXB.out;omega
    clear hxp
    have hmk:=makeFJ n (by omega)
    have hsf:=run_store_f
    have hzc:(wr.alloc (.cells (flN n) 45)).cell? ⟨wr.heap.size,k,none⟩ = some (.float .f64 0):=cellAtJ (heap_alloc_new wr _) k _ (flN_at n k hlt)
    have hzf:(wr.alloc (.cells (flN n) 45)).frozen? ⟨wr.heap.size,k,none⟩ = false:=frozen_of_row _ _ k _ _ (heap_alloc_new wr _)
    go_upto_region 11 with fail
    clear hmk hsf hzc hzf d0 d1 d2 d3 d4 d5 ga hox
    have sV:((wr.alloc (.cells (flN n) 45)).setCell ⟨wr.heap.size,k,none⟩ (.float .f64 x)).heap[D]? = _:=(setCell_keepJ _ _ _ _ D (Nat.ne_of_lt (blk_lt HD.out))).trans (alloc_kept HD.out _)
    have rV:((wr.alloc (.cells (flN n) 45)).setCell ⟨wr.heap.size,k,none⟩ (.float .f64 x)).heap[w.heap.size + 1]? = _:=(setCell_keepJ _ _ _ _ _ (Nat.ne_of_lt (blk_lt HR0.out))).trans (alloc_kept HR0.out _)
    have qW:Below wr.heap.size wr ((wr.alloc (.cells (flN n) 45)).setCell ⟨wr.heap.size,k,none⟩ (.float .f64 x)):=((Below.refl _ wr).alloc (Nat.le_refl _) _).setCell (p:=⟨wr.heap.size,k,none⟩) (Nat.le_refl _) _
    have LV:=HL.out.later qW
    have qV:Below w.heap.size w ((wr.alloc (.cells (flN n) 45)).setCell ⟨wr.heap.size,k,none⟩ (.float .f64 x)):=HB.out.trans (qW.mono HB.out.size)
    have oV:=((rdF_zero0 n wr (by omega)).set hlt HFx.out).mono HB.out.size
    rw [World.setCell_alloc_new] at sV rV qW LV qV oV
    obtain ⟨W1,hW1⟩:∃ W1,wr.alloc (.cells ((flN n).setIfInBounds k (.float .f64 x)) 45) = W1:=⟨_,rfl⟩
    rw [hW1] at sV rV qW LV qV oV ⊢
    clear hW1
    obtain ⟨b,hb⟩:∃ b,wr.heap.size = b:=⟨_,rfl⟩
    have HNB:Hid (b ≠ bc /\ b ≠ br /\ b ∉ gl):=⟨hb ▸ Nat.ne_of_gt HL.out.c.lt,hb ▸ Nat.ne_of_gt HL.out.r.lt,fun hm=>absurd (HL.out.col.mem_lt hm) (by rw [hb];exact Nat.lt_irrefl _)⟩
    rw [hb] at oV ⊢
    have HLI:Hid (((ids1 ++ (lfS n (rs1.map plainM) next k).1).map (Value.int .i64)).length + 1 <= 4000000):=by
     unfold Hid
     have h1:=(lfS_len n (rs1.map plainM) next k).1
     have h2:=HLL.out.1
     simp only [List.length_map,List.length_append]
     omega
    have HLG:Hid ((gl.map (slN n)).length + 1 <= 4000000):=by
     unfold Hid
     have h1:=lfS_len n (rs1.map plainM) next k
     have h2:=HLL.out.2
     have h3:=HL.out.col.len
     simp only [List.length_map,List.length_append] at h3 ⊢
     omega
    clear hb
    go_cut [29] from 29 to 61 (fun iv wx=>∃ v4 v6,iv = .int .i64 (k:Int) /\ Hid (wx.heap[D]? = some (.cells #[.int .i64 (n:Int),slN n bc,v4,v6,slN n br,.bool false] 26)) /\ Hid (FrL wx w.heap.size n bc br (cs1.map plainM) (zrL (rs1.map plainM) k) ((ids1 ++ (lfS n (rs1.map plainM) next k).1) ++ [nx]) ((gs1.map (·.map plainM) ++ (lfS n (rs1.map plainM) next k).2.1) ++ [unitL n k x]) v4 v6 (gl ++ [b])) /\ Hid (Below w.heap.size w wx) /\ Hid (wx.heap[w.heap.size + 1]? = some (.cells #[.int .i64 0,.slice none 0 0,.slice none 0 0,.slice none 0 0,.slice none 0 0,.bool false] 26)))
    case first=>
     refine wp_region_noPanic ?_
     refine wp_region_P (fun V=>V.heap[D]? = some (.cells #[.int .i64 (n:Int),slN n bc,vi,vg,slN n br,.bool false] 26)) 11 (by kernel_rfl) ?_
     have sV':=sV
     have LV':=LV.keep (w':=W1.drew) fun _ _ _ _ _=>rfl
     have qV':Below w.heap.size w W1.drew:=qV.drew
     have oV':=oV.keep (w':=W1.drew) fun _ _ _=>rfl
     have sV2:W1.drew.heap[D]? = some (.cells #[.int .i64 (n:Int),slN n bc,vi,vg,slN n br,.bool false] 26):=sV
     have rV2:W1.drew.heap[w.heap.size + 1]? = some (.cells #[.int .i64 0,.slice none 0 0,.slice none 0 0,.slice none 0 0,.slice none 0 0,.bool false] 26):=rV
     obtain ⟨V,hV⟩:∃ V,W1.drew = V:=⟨_,rfl⟩
     rw [hV] at LV' qV' oV' sV2 rV2 ⊢
     clear hV sV LV qV oV sV' rV
     have LV:=LV'
     have qV:=qV'
     have oV:=oV'
     have sV:=sV2
     have rV:=rV2
     clear LV' qV' oV' sV2 rV2
     refine tzQ 43 0 ?_ ?_ (fun _=>sV) ?_
     rotate_left
     ·intro w' hSw;go_simp;try with_reducible rfl
     try simp only [pA,pE,pB,pC,pD]
     refine tzP 44 1 ?_ (Or.inl ⟨by kernel_rfl,?_⟩) sV ?_
     rotate_left
     ·intro w' hSw;(try obtain ⟨c0,c1,c2,c3,c4,c5⟩:=cells6 hSw);go_simp;try with_reducible rfl
     try simp only [pA,pE,pB,pC,pD]
     refine tzQ 45 2 ?_ ?_ (fun _=>sV) ?_
     rotate_left
     ·intro w' hSw;go_simp;try with_reducible rfl
     try simp only [pA,pE,pB,pC,pD]
     refine tzQ 48 5 ?_ ?_ (fun _=>sV) ?_
     rotate_left
     ·intro w' hSw;go_simp;try with_reducible rfl
     try simp only [pA,pE,pB,pC,pD]
     refine tzP 49 6 ?_ (Or.inl ⟨by kernel_rfl,?_⟩) sV ?_
     rotate_left
     ·intro w' hSw;(try obtain ⟨c0,c1,c2,c3,c4,c5⟩:=cells6 hSw);go_simp;try with_reducible rfl
     try simp only [pA,pE,pB,pC,pD]
     refine tzQ 50 7 ?_ ?_ (fun _=>sV) ?_
     rotate_left
     ·intro w' hSw;go_simp;try with_reducible rfl
     try simp only [pA,pE,pB,pC,pD]
     refine rzP [3,8] ?_
     refine consP _ rfl ?_ (consP _ rfl ?_ AllReadyP.nil)
     ·refine hopBJ 46 (.int .i64 nx) 3 rfl rfl rfl (by kernel_rfl) fun I Vi hIVi hb=>?_
      have sVi:=kept hb sV
      have rVi:=kept hb rV
      have LVi:=LV.later hb
      have qVi:=qV.trans (hb.mono qV.size)
      have oVi:=oV.later hb
      clear hb
      refine ⟨sVi,?_⟩
      try simp only [pA,pE,pB,pC,pD]
      refine rzP [4,8] ?_
      refine consP _ rfl ?_ (consP _ rfl ?_ AllReadyP.nil)
      ·refine hopL rfl (append_grM Tryz.underlying23 Tryz.infoIJ rfl (by decide) Vi (by rfl) _ _ (by rfl) w.heap.size vi _ (by kernel_rfl) LVi.i ⟨I,0,none⟩ 1 1 [.int .i64 nx] (by kernel_rfl) rfl (by decide) (news_oneJ hIVi) (by intro u hu;simp only [List.mem_cons,List.not_mem_nil,or_false] at hu;subst hu;rfl) HLI.out qVi.size fun v4 Via o4 g4=>?_)
       change QK _ _ Exit.normal (Act.put _ (some 47) v4) Via
       have sVia:=(grw_types LVi.i g4 D _ _ (by decide) sVi).trans sVi
       have rVia:=(grw_types LVi.i g4 _ _ _ (by decide) rVi).trans rVi
       have LVia:=LVi.pushI g4 o4
       have qVia:=qVi.trans (g4.below (fun k hk=>(World.ownsRow.lt LVi.i k hk).1) qVi.size)
       have oVia:=oVi.keep fun k cur hc=>grw_types LVi.i g4 k cur _ (by decide) hc
       clear g4
       refine (And.intro sVia ?_:_ /\ _)
       try simp only [pA,pE,pB,pC,pD]
       refine tzQ 53 10 ?_ ?_ (fun _=>sVia) ?_
       rotate_left
       ·intro w' hSw;go_simp;try with_reducible rfl
       try simp only [pA,pE,pB,pC,pD]
       refine rzP [8] ?_
       refine consP _ rfl ?_ AllReadyP.nil
       ·refine hopBJ 51 (slN n b) 22 rfl rfl rfl (by kernel_rfl) fun J Viaj hJViaj hb=>?_
        have sViaj:=kept hb sVia
        have rViaj:=kept hb rVia
        have LViaj:=LVia.later hb
        have qViaj:=qVia.trans (hb.mono qVia.size)
        have oViaj:=oVia.later hb
        clear hb
        refine ⟨sViaj,?_⟩
        try simp only [pA,pE,pB,pC,pD]
        refine rzP [9] ?_
        refine consP _ rfl ?_ AllReadyP.nil
        ·refine hopL rfl (append_grM Tryz.underlying24 Tryz.infoFsJ rfl (by decide) Viaj (by rfl) _ _ (by rfl) w.heap.size vg _ (by kernel_rfl) LViaj.g ⟨J,0,none⟩ 1 1 [slN n b] (by kernel_rfl) rfl (by decide) (news_oneJ hJViaj) (by intro u hu;simp only [List.mem_cons,List.not_mem_nil,or_false] at hu;subst hu;rfl) HLG.out qViaj.size fun v6 w6 o6 g6=>?_)
         change QK _ _ Exit.normal (Act.put _ (some 52) v6) w6
         have s6:=(grw_types LViaj.g g6 D _ _ (by decide) sViaj).trans sViaj
         have r6:=(grw_types LViaj.g g6 _ _ _ (by decide) rViaj).trans rViaj
         have L6:=LViaj.pushG g6 o6 oViaj HNB.out.1 HNB.out.2.1 HNB.out.2.2
         have q6:=qViaj.trans (g6.below (fun k hk=>(World.ownsRow.lt LViaj.g k hk).1) qViaj.size)
         clear g6
         refine (And.intro s6 ?_:_ /\ _)
         try simp only [pA,pE,pB,pC,pD]
         refine rzP [11] ?_
         refine consPs _ rfl (by kernel_rfl) (hopL rfl (wpList_store_at (by rfl) 23 _ _ (by rfl) w w.heap.size D 2 v4 _ #[.int .i64 (n:Int),slN n bc,v4,vg,slN n br,.bool false] 26 (by kernel_rfl) (by kernel_rfl) s6 q6 hDl 1 Tryz.szIs (by rw [(own_valJ L6.i).2];rfl) (Nat.le_of_ble_eq_true rfl) (by intro u hu;rw [(own_valJ L6.i).2] at hu;simp only [List.mem_cons,List.not_mem_nil,or_false] at hu;subst hu;exact (own_valJ L6.i).1) (by rw [(own_valJ L6.i).2];rfl) fun w7 e7 b7 s7 k7=>?_)) AllReadyP.nil
         refine (And.intro trivial ?_:_ /\ _)
         try simp only [pA,pE,pB,pC,pD]
         refine tzQ 54 12 ?_ ?_ (fun e=>by cases e) ?_
         rotate_left
         ·intro w' hSw;go_simp;try with_reducible rfl
         try simp only [pA,pE,pB,pC,pD]
         refine rzP [13] ?_
         refine consPs _ rfl (by kernel_rfl) (hopL rfl (wpList_store_at (by rfl) 24 _ _ (by rfl) w w.heap.size D 3 v6 _ #[.int .i64 (n:Int),slN n bc,v4,v6,slN n br,.bool false] 26 (by kernel_rfl) (by kernel_rfl) e7 b7 hDl 1 Tryz.szFss (by rw [(own_valJ L6.g).2];rfl) (Nat.le_of_ble_eq_true rfl) (by intro u hu;rw [(own_valJ L6.g).2] at hu;simp only [List.mem_cons,List.not_mem_nil,or_false] at hu;subst hu;exact (own_valJ L6.g).1) (by rw [(own_valJ L6.g).2];rfl) fun w8 e8 b8 s8 k8=>?_)) AllReadyP.nil
         refine (And.intro trivial ?_:_ /\ _)
         try simp only [pA,pE,pB,pC,pD]
         refine wpAnyP_done (by kernel_rfl) ?_ _
         refine NoPanic.normal ?_
         try simp only [pA,pE,pB,pC,pD]
         have kk:∀ k,k ≠ D -> w8.heap[k]? = w6.heap[k]?:=fun k hk=>(k8 k hk).trans (k7 k hk)
         have L8:=L6.keep (w':=w8) fun k cur t ht hc=>kk k (by rintro rfl;rw [s6] at hc;cases hc;exact ht rfl)
         go_wp2_with fail
         go_meet
         exact ⟨v4,v6,rfl,e8,L8,b8,(kk _ hD1).trans r6⟩
      ·refine hopBJ 51 (slN n b) 22 rfl rfl rfl (by kernel_rfl) fun J Vij hJVij hb=>?_
       have sVij:=kept hb sVi
       have rVij:=kept hb rVi
       have LVij:=LVi.later hb
       have qVij:=qVi.trans (hb.mono qVi.size)
       have oVij:=oVi.later hb
       have hIVij:=kept hb hIVi
       clear hb
       refine ⟨sVij,?_⟩
       try simp only [pA,pE,pB,pC,pD]
       refine rzP [4] ?_
       refine consP _ rfl ?_ AllReadyP.nil
       ·refine hopL rfl (append_grM Tryz.underlying23 Tryz.infoIJ rfl (by decide) Vij (by rfl) _ _ (by rfl) w.heap.size vi _ (by kernel_rfl) LVij.i ⟨I,0,none⟩ 1 1 [.int .i64 nx] (by kernel_rfl) rfl (by decide) (news_oneJ hIVij) (by intro u hu;simp only [List.mem_cons,List.not_mem_nil,or_false] at hu;subst hu;rfl) HLI.out qVij.size fun v4 Vija o4 g4=>?_)
        change QK _ _ Exit.normal (Act.put _ (some 47) v4) Vija
        have sVija:=(grw_types LVij.i g4 D _ _ (by decide) sVij).trans sVij
        have rVija:=(grw_types LVij.i g4 _ _ _ (by decide) rVij).trans rVij
        have LVija:=LVij.pushI g4 o4
        have qVija:=qVij.trans (g4.below (fun k hk=>(World.ownsRow.lt LVij.i k hk).1) qVij.size)
        have oVija:=oVij.keep fun k cur hc=>grw_types LVij.i g4 k cur _ (by decide) hc
        have hJVija:=(grw_types LVij.i g4 J _ _ (by decide) hJVij).trans hJVij
        clear g4
        refine (And.intro sVija ?_:_ /\ _)
        try simp only [pA,pE,pB,pC,pD]
        refine tzQ 53 10 ?_ ?_ (fun _=>sVija) ?_
        rotate_left
        ·intro w' hSw;go_simp;try with_reducible rfl
        try simp only [pA,pE,pB,pC,pD]
        refine rzP [9] ?_
        refine consP _ rfl ?_ AllReadyP.nil
        ·refine hopL rfl (append_grM Tryz.underlying24 Tryz.infoFsJ rfl (by decide) Vija (by rfl) _ _ (by rfl) w.heap.size vg _ (by kernel_rfl) LVija.g ⟨J,0,none⟩ 1 1 [slN n b] (by kernel_rfl) rfl (by decide) (news_oneJ hJVija) (by intro u hu;simp only [List.mem_cons,List.not_mem_nil,or_false] at hu;subst hu;rfl) HLG.out qVija.size fun v6 w6 o6 g6=>?_)
         change QK _ _ Exit.normal (Act.put _ (some 52) v6) w6
         have s6:=(grw_types LVija.g g6 D _ _ (by decide) sVija).trans sVija
         have r6:=(grw_types LVija.g g6 _ _ _ (by decide) rVija).trans rVija
         have L6:=LVija.pushG g6 o6 oVija HNB.out.1 HNB.out.2.1 HNB.out.2.2
         have q6:=qVija.trans (g6.below (fun k hk=>(World.ownsRow.lt LVija.g k hk).1) qVija.size)
         clear g6
         refine (And.intro s6 ?_:_ /\ _)
         try simp only [pA,pE,pB,pC,pD]
         refine rzP [11] ?_
         refine consPs _ rfl (by kernel_rfl) (hopL rfl (wpList_store_at (by rfl) 23 _ _ (by rfl) w w.heap.size D 2 v4 _ #[.int .i64 (n:Int),slN n bc,v4,vg,slN n br,.bool false] 26 (by kernel_rfl) (by kernel_rfl) s6 q6 hDl 1 Tryz.szIs (by rw [(own_valJ L6.i).2];rfl) (Nat.le_of_ble_eq_true rfl) (by intro u hu;rw [(own_valJ L6.i).2] at hu;simp only [List.mem_cons,List.not_mem_nil,or_false] at hu;subst hu;exact (own_valJ L6.i).1) (by rw [(own_valJ L6.i).2];rfl) fun w7 e7 b7 s7 k7=>?_)) AllReadyP.nil
         refine (And.intro trivial ?_:_ /\ _)
         try simp only [pA,pE,pB,pC,pD]
         refine tzQ 54 12 ?_ ?_ (fun e=>by cases e) ?_
         rotate_left
         ·intro w' hSw;go_simp;try with_reducible rfl
         try simp only [pA,pE,pB,pC,pD]
         refine rzP [13] ?_
         refine consPs _ rfl (by kernel_rfl) (hopL rfl (wpList_store_at (by rfl) 24 _ _ (by rfl) w w.heap.size D 3 v6 _ #[.int .i64 (n:Int),slN n bc,v4,v6,slN n br,.bool false] 26 (by kernel_rfl) (by kernel_rfl) e7 b7 hDl 1 Tryz.szFss (by rw [(own_valJ L6.g).2];rfl) (Nat.le_of_ble_eq_true rfl) (by intro u hu;rw [(own_valJ L6.g).2] at hu;simp only [List.mem_cons,List.not_mem_nil,or_false] at hu;subst hu;exact (own_valJ L6.g).1) (by rw [(own_valJ L6.g).2];rfl) fun w8 e8 b8 s8 k8=>?_)) AllReadyP.nil
         refine (And.intro trivial ?_:_ /\ _)
         try simp only [pA,pE,pB,pC,pD]
         refine wpAnyP_done (by kernel_rfl) ?_ _
         refine NoPanic.normal ?_
         try simp only [pA,pE,pB,pC,pD]
         have kk:∀ k,k ≠ D -> w8.heap[k]? = w6.heap[k]?:=fun k hk=>(k8 k hk).trans (k7 k hk)
         have L8:=L6.keep (w':=w8) fun k cur t ht hc=>kk k (by rintro rfl;rw [s6] at hc;cases hc;exact ht rfl)
         go_wp2_with fail
         go_meet
         exact ⟨v4,v6,rfl,e8,L8,b8,(kk _ hD1).trans r6⟩
     ·refine hopBJ 51 (slN n b) 22 rfl rfl rfl (by kernel_rfl) fun J Vj hJVj hb=>?_
      have sVj:=kept hb sV
      have rVj:=kept hb rV
      have LVj:=LV.later hb
      have qVj:=qV.trans (hb.mono qV.size)
      have oVj:=oV.later hb
      clear hb
      refine ⟨sVj,?_⟩
      try simp only [pA,pE,pB,pC,pD]
      refine rzP [3] ?_
      refine consP _ rfl ?_ AllReadyP.nil
      ·refine hopBJ 46 (.int .i64 nx) 3 rfl rfl rfl (by kernel_rfl) fun I Vji hIVji hb=>?_
       have sVji:=kept hb sVj
       have rVji:=kept hb rVj
       have LVji:=LVj.later hb
       have qVji:=qVj.trans (hb.mono qVj.size)
       have oVji:=oVj.later hb
       have hJVji:=kept hb hJVj
       clear hb
       refine ⟨sVji,?_⟩
       try simp only [pA,pE,pB,pC,pD]
       refine rzP [4] ?_
       refine consP _ rfl ?_ AllReadyP.nil
       ·refine hopL rfl (append_grM Tryz.underlying23 Tryz.infoIJ rfl (by decide) Vji (by rfl) _ _ (by rfl) w.heap.size vi _ (by kernel_rfl) LVji.i ⟨I,0,none⟩ 1 1 [.int .i64 nx] (by kernel_rfl) rfl (by decide) (news_oneJ hIVji) (by intro u hu;simp only [List.mem_cons,List.not_mem_nil,or_false] at hu;subst hu;rfl) HLI.out qVji.size fun v4 Vjia o4 g4=>?_)
        change QK _ _ Exit.normal (Act.put _ (some 47) v4) Vjia
        have sVjia:=(grw_types LVji.i g4 D _ _ (by decide) sVji).trans sVji
        have rVjia:=(grw_types LVji.i g4 _ _ _ (by decide) rVji).trans rVji
        have LVjia:=LVji.pushI g4 o4
        have qVjia:=qVji.trans (g4.below (fun k hk=>(World.ownsRow.lt LVji.i k hk).1) qVji.size)
        have oVjia:=oVji.keep fun k cur hc=>grw_types LVji.i g4 k cur _ (by decide) hc
        have hJVjia:=(grw_types LVji.i g4 J _ _ (by decide) hJVji).trans hJVji
        clear g4
        refine (And.intro sVjia ?_:_ /\ _)
        try simp only [pA,pE,pB,pC,pD]
        refine tzQ 53 10 ?_ ?_ (fun _=>sVjia) ?_
        rotate_left
        ·intro w' hSw;go_simp;try with_reducible rfl
        try simp only [pA,pE,pB,pC,pD]
        refine rzP [9] ?_
        refine consP _ rfl ?_ AllReadyP.nil
        ·refine hopL rfl (append_grM Tryz.underlying24 Tryz.infoFsJ rfl (by decide) Vjia (by rfl) _ _ (by rfl) w.heap.size vg _ (by kernel_rfl) LVjia.g ⟨J,0,none⟩ 1 1 [slN n b] (by kernel_rfl) rfl (by decide) (news_oneJ hJVjia) (by intro u hu;simp only [List.mem_cons,List.not_mem_nil,or_false] at hu;subst hu;rfl) HLG.out qVjia.size fun v6 w6 o6 g6=>?_)
         change QK _ _ Exit.normal (Act.put _ (some 52) v6) w6
         have s6:=(grw_types LVjia.g g6 D _ _ (by decide) sVjia).trans sVjia
         have r6:=(grw_types LVjia.g g6 _ _ _ (by decide) rVjia).trans rVjia
         have L6:=LVjia.pushG g6 o6 oVjia HNB.out.1 HNB.out.2.1 HNB.out.2.2
         have q6:=qVjia.trans (g6.below (fun k hk=>(World.ownsRow.lt LVjia.g k hk).1) qVjia.size)
         clear g6
         refine (And.intro s6 ?_:_ /\ _)
         try simp only [pA,pE,pB,pC,pD]
         refine rzP [11] ?_
         refine consPs _ rfl (by kernel_rfl) (hopL rfl (wpList_store_at (by rfl) 23 _ _ (by rfl) w w.heap.size D 2 v4 _ #[.int .i64 (n:Int),slN n bc,v4,vg,slN n br,.bool false] 26 (by kernel_rfl) (by kernel_rfl) s6 q6 hDl 1 Tryz.szIs (by rw [(own_valJ L6.i).2];rfl) (Nat.le_of_ble_eq_true rfl) (by intro u hu;rw [(own_valJ L6.i).2] at hu;simp only [List.mem_cons,List.not_mem_nil,or_false] at hu;subst hu;exact (own_valJ L6.i).1) (by rw [(own_valJ L6.i).2];rfl) fun w7 e7 b7 s7 k7=>?_)) AllReadyP.nil
         refine (And.intro trivial ?_:_ /\ _)
         try simp only [pA,pE,pB,pC,pD]
         refine tzQ 54 12 ?_ ?_ (fun e=>by cases e) ?_
         rotate_left
         ·intro w' hSw;go_simp;try with_reducible rfl
         try simp only [pA,pE,pB,pC,pD]
         refine rzP [13] ?_
         refine consPs _ rfl (by kernel_rfl) (hopL rfl (wpList_store_at (by rfl) 24 _ _ (by rfl) w w.heap.size D 3 v6 _ #[.int .i64 (n:Int),slN n bc,v4,v6,slN n br,.bool false] 26 (by kernel_rfl) (by kernel_rfl) e7 b7 hDl 1 Tryz.szFss (by rw [(own_valJ L6.g).2];rfl) (Nat.le_of_ble_eq_true rfl) (by intro u hu;rw [(own_valJ L6.g).2] at hu;simp only [List.mem_cons,List.not_mem_nil,or_false] at hu;subst hu;exact (own_valJ L6.g).1) (by rw [(own_valJ L6.g).2];rfl) fun w8 e8 b8 s8 k8=>?_)) AllReadyP.nil
         refine (And.intro trivial ?_:_ /\ _)
         try simp only [pA,pE,pB,pC,pD]
         refine wpAnyP_done (by kernel_rfl) ?_ _
         refine NoPanic.normal ?_
         try simp only [pA,pE,pB,pC,pD]
         have kk:∀ k,k ≠ D -> w8.heap[k]? = w6.heap[k]?:=fun k hk=>(k8 k hk).trans (k7 k hk)
         have L8:=L6.keep (w':=w8) fun k cur t ht hc=>kk k (by rintro rfl;rw [s6] at hc;cases hc;exact ht rfl)
         go_wp2_with fail
         go_meet
         exact ⟨v4,v6,rfl,e8,L8,b8,(kk _ hD1).trans r6⟩
    case rest=>
    obtain ⟨v4,v6,rfl,E8,L8,B8,R8⟩:=hcut
    obtain ⟨d0,d1,d2,d3,d4,d5⟩:=cells6 E8.out
    unfold slN at d1 d4
    have hsf:=run_store_f
    obtain ⟨rcur,hrc⟩:=L8.out.r.cur
    have hrf:wc.frozen? ⟨br,k,none⟩ = false:=frozen_of_row _ _ k _ _ hrc
    rcases L8.out.r.rd.cells with h0 | ⟨rb,ro,re,hca⟩
    ·omega
    cases re
    have hrv:=hca k hlt
    rw [Nat.zero_add] at hrv
    clear hrc hca
    go_wp2_with fail
    go_roundg g
    case measure=>omega
    case rel=>
     have hxp:=HXP.out
     rw [<- HX.out] at hxp
     have hls:lfS n (rs1.map plainM) next (k + 1) = ((lfS n (rs1.map plainM) next k).1 ++ [(lfS n (rs1.map plainM) next k).2.2],(lfS n (rs1.map plainM) next k).2.1 ++ [unitL n k ((rs1.map plainM)[k]?.getD 0)],(lfS n (rs1.map plainM) next k).2.2 + 1):=if_pos hxp
     refine ⟨k + 1,nx + 1,v4,v6,gl ++ [b],by go_num,by go_num,by have:=HIG.out;omega,?_,?_,(setCell_keepJ _ _ _ _ D (own_neD L8.out.r E8.out)).trans E8.out,B8.out.setCell (p:=⟨br,k,none⟩) L8.out.r.lo _,(setCell_keepJ _ _ _ _ _ (own_neD L8.out.r R8.out)).trans R8.out⟩
     ·unfold Hid;rw [hls,HNX.out]
     ·unfold Hid
      have L9:=L8.out.setR hlt (u:=0) (by decide)
      rw [zrL_pos _ _ HKL.out hxp,hls,HX.out,<- List.append_assoc,<- List.append_assoc,<- HNX.out]
      exact L9
   ·rw [decide_eq_false hxp] at hox
    have HXP:Hid _:=hxp
    clear hxp
    go_wp2_with fail
    go_roundg g
    case measure=>omega
    case rel=>
     have hxp:=HXP.out
     rw [<- HX.out] at hxp
     refine ⟨k + 1,nx,vi,vg,gl,by go_num,rfl,by have:=HIG.out;omega,?_,?_,HD,HB,HR0⟩
     ·unfold Hid;rw [HNX.out];show _ = (if _ then _ else _:List Int × List (List Nat) × Int).2.2;rw [if_neg hxp]
     ·unfold Hid
      rw [zrL_neg _ _ HKL.out hxp,show lfS n (rs1.map plainM) next (k + 1) = lfS n (rs1.map plainM) next k from if_neg hxp]
      exact HL.out
  ·have hd:decide ((k:Int) < (n:Int)) = false:=decide_eq_false (by omega)
   have hd':decide (k < n) = false:=decide_eq_false (by omega)
   obtain rfl:k = n:=by omega
   have HNX':=HNX.out
   subst HNX'
   go_wp2_with (first
    | (refine wpList_load_row (by rfl) 26 _ (by rfl) D _ (by rfl) HD.out _ Tryz.underlying26 rfl 6 Tryz.infoZ (by rfl) ?_)
    | (refine wpList_store_row (by rfl) 26 _ _ (by rfl) w w.heap.size (w.heap.size + 1) _ _ (by rfl) (by rfl) HR0.out HB.out (Nat.le_succ _) 6 Tryz.infoZ (by rfl) (by rfl) (oneZ _ _ _ _ _ rfl (own_valJ HL.out.i).1 (own_valJ HL.out.g).1 rfl _) ?_;intro W9 e9 b9 s9 o9))
   have L9:=HL.out.keep (w':=W9) fun j cur t ht hc=>o9 j (by rintro rfl;rw [HR0.out] at hc;cases hc;exact ht rfl)
   exact bodyPost_ret (res_ctJ _ 4 5 26 (by kernel_rfl) _ _ (w.heap.size + 1) _ _ (by rfl) (by rfl) _ Tryz.underlying26 rfl 6 Tryz.infoZ rfl e9) rfl ⟨bc,br,vi,vg,rfl,⟨gl,L9⟩,b9⟩
def sameZ (a b:ZD):Bool:=decide (a.N = b.N) && decide (a.bad = b.bad) && decide (a.ids = b.ids) && sameL a.cs b.cs && sameL a.rs b.rs && sameG a.gs b.gs
theorem same_anyJ (a b:ZD) (w:World) (ha:ZR w a) (hb:ZR w b) :
  Calls Tryz.prog 30 #[.agg #[.int .i64 a.N,.slice a.co a.cn a.cc,.slice a.io a.dn a.dc,.slice a.go a.gn a.gc,.slice a.ro a.rn a.rc,.bool a.bad],.agg #[.int .i64 b.N,.slice b.co b.cn b.cc,.slice b.io b.dn b.dc,.slice b.go b.gn b.gc,.slice b.ro b.rn b.rc,.bool b.bad]] w fun e w'=>e = .returned (.bool (sameZ (tkZ a) (tkZ b))) /\ Below w.heap.size w w':=by
 have HTa:Hid (∀ W',Below w.heap.size w W' -> Calls Tryz.prog 16 #[.agg #[.int .i64 a.N,.slice a.co a.cn a.cc,.slice a.io a.dn a.dc,.slice a.go a.gn a.gc,.slice a.ro a.rn a.rc,.bool a.bad]] W' fun e w'=>e = .returned (.agg (zRow (tkZ a))) /\ Below W'.heap.size W' w'):=fun W' h=>takenZ_any a W' (ha.later h)
 have HTb:Hid (∀ W',Below w.heap.size w W' -> Calls Tryz.prog 16 #[.agg #[.int .i64 b.N,.slice b.co b.cn b.cc,.slice b.io b.dn b.dc,.slice b.go b.gn b.gc,.slice b.ro b.rn b.rc,.bool b.bad]] W' fun e w'=>e = .returned (.agg (zRow (tkZ b))) /\ Below W'.heap.size W' w'):=fun W' h=>takenZ_any b W' (hb.later h)
 have Ra:=tkZ_ZR ha
 have Rb:=tkZ_ZR hb
 have Fa:=tkZ_fin ha
 have Fb:=tkZ_fin hb
 obtain ⟨a1,hea⟩:∃ a1,tkZ a = a1:=⟨_,rfl⟩
 obtain ⟨b1,heb⟩:∃ b1,tkZ b = b1:=⟨_,rfl⟩
 rw [hea] at HTa Ra Fa ⊢
 rw [heb] at HTb Rb Fb ⊢
 clear ha hb hea heb
 have HI:Hid (∀ W',Below w.heap.size w W' -> Calls Tryz.prog 54 #[.slice a1.io a1.dn a1.dc,.slice b1.io b1.dn b1.dc] W' fun e w'=>e = .returned (.bool (decide (a1.ids = b1.ids))) /\ Below W'.heap.size W' w'):=fun W' h=>equalI_any _ _ _ _ _ _ _ _ W' (Ra.later h).i (Rb.later h).i
 have HC:Hid (∀ W',Below w.heap.size w W' -> Calls Tryz.prog 55 #[.slice a1.co a1.cn a1.cc,.slice b1.co b1.cn b1.cc] W' fun e w'=>e = .returned (.bool (sameL a1.cs b1.cs)) /\ Below W'.heap.size W' w'):=fun W' h=>equalF_any _ _ _ _ _ _ _ _ Fa.c Fb.c W' (Ra.later h).c (Rb.later h).c
 have HR:Hid (∀ W',Below w.heap.size w W' -> Calls Tryz.prog 55 #[.slice a1.ro a1.rn a1.rc,.slice b1.ro b1.rn b1.rc] W' fun e w'=>e = .returned (.bool (sameL a1.rs b1.rs)) /\ Below W'.heap.size W' w'):=fun W' h=>equalF_any _ _ _ _ _ _ _ _ Fa.r Fb.r W' (Ra.later h).r (Rb.later h).r
 have HG:Hid (∀ W',Below w.heap.size w W' -> Calls Tryz.prog 56 #[.slice a1.go a1.gn a1.gc,.slice b1.go b1.gn b1.gc,.func (.func 55) #[] #[]] W' fun e w'=>e = .returned (.bool (sameG a1.gs b1.gs)) /\ Below W'.heap.size W' w'):=fun W' h=>equalG_any _ _ _ _ _ _ _ _ _ _ Fa.g Fb.g W' (Ra.later h).g (Rb.later h).g
 have HE:Hid (sameZ a1 b1 = (decide (a1.N = b1.N) && decide (a1.bad = b1.bad) && decide (a1.ids = b1.ids) && sameL a1.cs b1.cs && sameL a1.rs b1.rs && sameG a1.gs b1.gs)):=rfl
 obtain ⟨sz,hsz⟩:∃ sz,sameZ a1 b1 = sz:=⟨_,rfl⟩
 rw [hsz] at HE ⊢
 obtain ⟨i0,hi0⟩:∃ i0,decide (a1.ids = b1.ids) = i0:=⟨_,rfl⟩
 obtain ⟨c0,hc0⟩:∃ c0,sameL a1.cs b1.cs = c0:=⟨_,rfl⟩
 obtain ⟨r0,hr0⟩:∃ r0,sameL a1.rs b1.rs = r0:=⟨_,rfl⟩
 obtain ⟨g0,hg0⟩:∃ g0,sameG a1.gs b1.gs = g0:=⟨_,rfl⟩
 rw [hi0] at HI HE
 rw [hc0] at HC HE
 rw [hr0] at HR HE
 rw [hg0] at HG HE
 clear hsz hi0 hc0 hr0 hg0 Ra Rb Fa Fb
 obtain ⟨N1,co1,cn1,cc1,io1,dn1,dc1,go1,gn1,gc1,ro1,rn1,rc1,bad1,cs1,ids1,gv1,gs1,rs1⟩:=a1
 obtain ⟨N2,co2,cn2,cc2,io2,dn2,dc2,go2,gn2,gc2,ro2,rn2,rc2,bad2,cs2,ids2,gv2,gs2,rs2⟩:=b1
 unfold zRow at HTa HTb
 dsimp only at HTa HTb HI HC HR HG HE
 have X0:Below w.heap.size w ((w.alloc (.cells #[.int .i64 a.N,.slice a.co a.cn a.cc,.slice a.io a.dn a.dc,.slice a.go a.gn a.gc,.slice a.ro a.rn a.rc,.bool a.bad] 26)).alloc (.cells #[.int .i64 b.N,.slice b.co b.cn b.cc,.slice b.io b.dn b.dc,.slice b.go b.gn b.gc,.slice b.ro b.rn b.rc,.bool b.bad] 26)):=((Below.refl _ w).alloc (Nat.le_refl _) _).alloc (by simp only [alloc_size];omega) _
 go_enter Tryz.func30,Tryz.ntmps30
 go_upto_region 1 with fail
 rename_i K hK
 have REST:∀ W,Below w.heap.size w W -> W.heap[w.heap.size]? = some (.cells #[.int .i64 N1,.slice co1 cn1 cc1,.slice io1 dn1 dc1,.slice go1 gn1 gc1,.slice ro1 rn1 rc1,.bool bad1] 26) -> W.heap[w.heap.size + 1]? = some (.cells #[.int .i64 N2,.slice co2 cn2 cc2,.slice io2 dn2 dc2,.slice go2 gn2 gc2,.slice ro2 rn2 rc2,.bool bad2] 26) -> K ⟨#[.agg #[.int .i64 a.N,.slice a.co a.cn a.cc,.slice a.io a.dn a.dc,.slice a.go a.gn a.gc,.slice a.ro a.rn a.rc,.bool a.bad],.agg #[.int .i64 b.N,.slice b.co b.cn b.cc,.slice b.io b.dn b.dc,.slice b.go b.gn b.gc,.slice b.ro b.rn b.rc,.bool b.bad],.pointer (some ⟨w.heap.size,0,none⟩),.pointer (some ⟨w.heap.size + 1,0,none⟩),.bool false,.agg #[.int .i64 a.N,.slice a.co a.cn a.cc,.slice a.io a.dn a.dc,.slice a.go a.gn a.gc,.slice a.ro a.rn a.rc,.bool a.bad],.agg #[.int .i64 N1,.slice co1 cn1 cc1,.slice io1 dn1 dc1,.slice go1 gn1 gc1,.slice ro1 rn1 rc1,.bool bad1],.agg #[.int .i64 b.N,.slice b.co b.cn b.cc,.slice b.io b.dn b.dc,.slice b.go b.gn b.gc,.slice b.ro b.rn b.rc,.bool b.bad],.agg #[.int .i64 N2,.slice co2 cn2 cc2,.slice io2 dn2 dc2,.slice go2 gn2 gc2,.slice ro2 rn2 rc2,.bool bad2],undef,undef,undef,undef,undef,undef,undef,undef,undef,undef,undef,undef,undef,undef,undef,undef,undef,undef,undef,undef,undef,undef,undef,undef,undef,undef,undef,undef,undef,undef,undef,undef,undef,undef,undef,undef,undef,undef,undef,undef],[]⟩ W:=by
  intro W bW eA eB
  refine hK _ _ ?_
  clear hK X0 HTa HTb
  obtain ⟨a0,a1,a2,a3,a4,a5⟩:=cells6 eA
  obtain ⟨b0,b1,b2,b3,b4,b5⟩:=cells6 eB
  have eAW:=eA
  have eBW:=eB
  have bWW:=bW
  clear eA eB
  by_cases q0:N1 = N2
  case neg=>
   have d0:(N1 == N2) = false:=by simpa using q0
   have HS:Hid (sz = false):=by unfold Hid;rw [HE.out];simp [q0]
   go_wp2_with fail
   go_ret
   exact ⟨by rw [HS.out];rfl,bW⟩
  subst q0
  by_cases q1:bad1 = bad2
  case neg=>
   have d1:(bad1 == bad2) = false:=by simpa using q1
   have HS:Hid (sz = false):=by unfold Hid;rw [HE.out];simp [q1]
   go_wp2_with fail
   go_ret
   exact ⟨by rw [HS.out];rfl,bW⟩
  subst q1
  have HS0:Hid (sz = (i0 && c0 && r0 && g0)):=by unfold Hid;rw [HE.out];simp
  cases i0
  case false=>
   have HS:Hid (sz = false):=by unfold Hid;rw [HS0.out];simp
   go_wp2_with (go_at_call 54;refine Calls.mono (HI.out _ bW) ?_;rintro e Wi ⟨rfl,hbWi⟩;have bWi:=to_call bW hbWi;have eAWi:=kept hbWi eAW;have eBWi:=kept hbWi eBW;obtain ⟨a0Wi,a1Wi,a2Wi,a3Wi,a4Wi,a5Wi⟩:=cells6 eAWi;obtain ⟨b0Wi,b1Wi,b2Wi,b3Wi,b4Wi,b5Wi⟩:=cells6 eBWi)
   go_ret
   exact ⟨by rw [HS.out];rfl,bWi⟩
  cases c0
  case false=>
   have HS:Hid (sz = false):=by unfold Hid;rw [HS0.out];simp
   go_wp2_with (first | (go_at_call 54;refine Calls.mono (HI.out _ bW) ?_;rintro e Wi ⟨rfl,hbWi⟩;have bWi:=to_call bW hbWi;have eAWi:=kept hbWi eAW;have eBWi:=kept hbWi eBW;obtain ⟨a0Wi,a1Wi,a2Wi,a3Wi,a4Wi,a5Wi⟩:=cells6 eAWi;obtain ⟨b0Wi,b1Wi,b2Wi,b3Wi,b4Wi,b5Wi⟩:=cells6 eBWi) | (go_at_call_of 55 (Value.slice co1 cn1 cc1);refine Calls.mono (HC.out _ bWi) ?_;rintro e Wc ⟨rfl,hbWc⟩;have bWc:=to_call bWi hbWc;have eAWc:=kept hbWc eAWi;have eBWc:=kept hbWc eBWi;obtain ⟨a0Wc,a1Wc,a2Wc,a3Wc,a4Wc,a5Wc⟩:=cells6 eAWc;obtain ⟨b0Wc,b1Wc,b2Wc,b3Wc,b4Wc,b5Wc⟩:=cells6 eBWc))
   go_ret
   exact ⟨by rw [HS.out];rfl,bWc⟩
  cases r0
  case false=>
   have HS:Hid (sz = false):=by unfold Hid;rw [HS0.out];simp
   go_wp2_with (first | (go_at_call 54;refine Calls.mono (HI.out _ bW) ?_;rintro e Wi ⟨rfl,hbWi⟩;have bWi:=to_call bW hbWi;have eAWi:=kept hbWi eAW;have eBWi:=kept hbWi eBW;obtain ⟨a0Wi,a1Wi,a2Wi,a3Wi,a4Wi,a5Wi⟩:=cells6 eAWi;obtain ⟨b0Wi,b1Wi,b2Wi,b3Wi,b4Wi,b5Wi⟩:=cells6 eBWi) | (go_at_call_of 55 (Value.slice co1 cn1 cc1);refine Calls.mono (HC.out _ bWi) ?_;rintro e Wc ⟨rfl,hbWc⟩;have bWc:=to_call bWi hbWc;have eAWc:=kept hbWc eAWi;have eBWc:=kept hbWc eBWi;obtain ⟨a0Wc,a1Wc,a2Wc,a3Wc,a4Wc,a5Wc⟩:=cells6 eAWc;obtain ⟨b0Wc,b1Wc,b2Wc,b3Wc,b4Wc,b5Wc⟩:=cells6 eBWc) | (go_at_call_of 55 (Value.slice ro1 rn1 rc1);refine Calls.mono (HR.out _ bWc) ?_;rintro e Wr ⟨rfl,hbWr⟩;have bWr:=to_call bWc hbWr;have eAWr:=kept hbWr eAWc;have eBWr:=kept hbWr eBWc;obtain ⟨a0Wr,a1Wr,a2Wr,a3Wr,a4Wr,a5Wr⟩:=cells6 eAWr;obtain ⟨b0Wr,b1Wr,b2Wr,b3Wr,b4Wr,b5Wr⟩:=cells6 eBWr))
   go_ret
   exact ⟨by rw [HS.out];rfl,bWr⟩
  have HS:Hid (sz = g0):=by unfold Hid;rw [HS0.out];simp
  go_wp2_with (first | (go_at_call 54;refine Calls.mono (HI.out _ bW) ?_;rintro e Wi ⟨rfl,hbWi⟩;have bWi:=to_call bW hbWi;have eAWi:=kept hbWi eAW;have eBWi:=kept hbWi eBW;obtain ⟨a0Wi,a1Wi,a2Wi,a3Wi,a4Wi,a5Wi⟩:=cells6 eAWi;obtain ⟨b0Wi,b1Wi,b2Wi,b3Wi,b4Wi,b5Wi⟩:=cells6 eBWi) | (go_at_call_of 55 (Value.slice co1 cn1 cc1);refine Calls.mono (HC.out _ bWi) ?_;rintro e Wc ⟨rfl,hbWc⟩;have bWc:=to_call bWi hbWc;have eAWc:=kept hbWc eAWi;have eBWc:=kept hbWc eBWi;obtain ⟨a0Wc,a1Wc,a2Wc,a3Wc,a4Wc,a5Wc⟩:=cells6 eAWc;obtain ⟨b0Wc,b1Wc,b2Wc,b3Wc,b4Wc,b5Wc⟩:=cells6 eBWc) | (go_at_call_of 55 (Value.slice ro1 rn1 rc1);refine Calls.mono (HR.out _ bWc) ?_;rintro e Wr ⟨rfl,hbWr⟩;have bWr:=to_call bWc hbWr;have eAWr:=kept hbWr eAWc;have eBWr:=kept hbWr eBWc;obtain ⟨a0Wr,a1Wr,a2Wr,a3Wr,a4Wr,a5Wr⟩:=cells6 eAWr;obtain ⟨b0Wr,b1Wr,b2Wr,b3Wr,b4Wr,b5Wr⟩:=cells6 eBWr) | (go_at_call 56;refine Calls.mono (HG.out _ bWr) ?_;rintro e Wg ⟨rfl,hbWg⟩;have bWg:=to_call bWr hbWg;have eAWg:=kept hbWg eAWr;have eBWg:=kept hbWg eBWr;obtain ⟨a0Wg,a1Wg,a2Wg,a3Wg,a4Wg,a5Wg⟩:=cells6 eAWg;obtain ⟨b0Wg,b1Wg,b2Wg,b3Wg,b4Wg,b5Wg⟩:=cells6 eBWg))
  go_ret
  exact ⟨by rw [HS.out];rfl,bWg⟩
 refine wp_region_noPanic ?_
 refine wp_region_held_drew (S:=(fun _:World=>True)) (by kernel_rfl) trivial (fun _=>?_)
 have XD:Below w.heap.size w ((w.alloc (.cells #[.int .i64 a.N,.slice a.co a.cn a.cc,.slice a.io a.dn a.dc,.slice a.go a.gn a.gc,.slice a.ro a.rn a.rc,.bool a.bad] 26)).alloc (.cells #[.int .i64 b.N,.slice b.co b.cn b.cc,.slice b.io b.dn b.dc,.slice b.go b.gn b.gc,.slice b.ro b.rn b.rc,.bool b.bad] 26)).drew:=X0.drew
 have eA0:((w.alloc (.cells #[.int .i64 a.N,.slice a.co a.cn a.cc,.slice a.io a.dn a.dc,.slice a.go a.gn a.gc,.slice a.ro a.rn a.rc,.bool a.bad] 26)).alloc (.cells #[.int .i64 b.N,.slice b.co b.cn b.cc,.slice b.io b.dn b.dc,.slice b.go b.gn b.gc,.slice b.ro b.rn b.rc,.bool b.bad] 26)).drew.heap[w.heap.size]? = some (.cells #[.int .i64 a.N,.slice a.co a.cn a.cc,.slice a.io a.dn a.dc,.slice a.go a.gn a.gc,.slice a.ro a.rn a.rc,.bool a.bad] 26):=alloc_kept (heap_alloc_new w _) _
 have eB0:((w.alloc (.cells #[.int .i64 a.N,.slice a.co a.cn a.cc,.slice a.io a.dn a.dc,.slice a.go a.gn a.gc,.slice a.ro a.rn a.rc,.bool a.bad] 26)).alloc (.cells #[.int .i64 b.N,.slice b.co b.cn b.cc,.slice b.io b.dn b.dc,.slice b.go b.gn b.gc,.slice b.ro b.rn b.rc,.bool b.bad] 26)).drew.heap[w.heap.size + 1]? = some (.cells #[.int .i64 b.N,.slice b.co b.cn b.cc,.slice b.io b.dn b.dc,.slice b.go b.gn b.gc,.slice b.ro b.rn b.rc,.bool b.bad] 26):=heap_at _ _ (w.heap.size + 1) (by simp only [alloc_size])
 obtain ⟨V0,hV0⟩:∃ V0,((w.alloc (.cells #[.int .i64 a.N,.slice a.co a.cn a.cc,.slice a.io a.dn a.dc,.slice a.go a.gn a.gc,.slice a.ro a.rn a.rc,.bool a.bad] 26)).alloc (.cells #[.int .i64 b.N,.slice b.co b.cn b.cc,.slice b.io b.dn b.dc,.slice b.go b.gn b.gc,.slice b.ro b.rn b.rc,.bool b.bad] 26)).drew = V0:=⟨_,rfl⟩
 rw [hV0] at XD eA0 eB0 ⊢
 clear hV0 X0 hK
 refine rzH [0,2] ?_
 refine consH _ rfl (hopL rfl (wpList_load_row (by rfl) 26 _ (by rfl) w.heap.size _ (by rfl) eA0 _ Tryz.underlying26 rfl 6 Tryz.infoZ (by rfl) ?_)) (consH _ rfl (hopL rfl (wpList_load_row (by rfl) 26 _ (by rfl) (w.heap.size + 1) _ (by rfl) eB0 _ Tryz.underlying26 rfl 6 Tryz.infoZ (by rfl) ?_)) AllReadyH.nil)
 ·skip
  refine (And.intro trivial ?_:_ /\ _)
  try simp only [pA,pE,pB,pC,pD]
  refine rzH [1,2] ?_
  refine consH _ rfl (hzC 6 (Calls.mono (HTa.out _ XD) ?_)) (consH _ rfl (hopL rfl (wpList_load_row (by rfl) 26 _ (by rfl) (w.heap.size + 1) _ (by rfl) eB0 _ Tryz.underlying26 rfl 6 Tryz.infoZ (by rfl) ?_)) AllReadyH.nil)
  ·skip
   rintro e V2 ⟨rfl,hv2⟩
   have b2:=to_call XD hv2
   have ea2:=kept hv2 eA0
   have eb2:=kept hv2 eB0
   refine ⟨_,rfl,trivial,?_⟩
   try simp only [pA,pE,pB,pC,pD]
   refine rzH [2] ?_
   refine consH _ rfl (hopL rfl (wpList_load_row (by rfl) 26 _ (by rfl) (w.heap.size + 1) _ (by rfl) eb2 _ Tryz.underlying26 rfl 6 Tryz.infoZ (by rfl) ?_)) AllReadyH.nil
   ·skip
    refine (And.intro trivial ?_:_ /\ _)
    try simp only [pA,pE,pB,pC,pD]
    refine rzH [3] ?_
    refine consH _ rfl (hzC 8 (Calls.mono (HTb.out _ b2) ?_)) AllReadyH.nil
    ·skip
     rintro e V4 ⟨rfl,hv4⟩
     have b4:=to_call b2 hv4
     have ea4:=kept hv4 ea2
     have eb4:=kept hv4 eb2
     refine ⟨_,rfl,trivial,?_⟩
     try simp only [pA,pE,pB,pC,pD]
     refine rzH [4] ?_
     refine consH _ rfl (hopL rfl (wpList_store_row (by rfl) 26 _ _ (by rfl) w w.heap.size w.heap.size #[.int .i64 N1,.slice co1 cn1 cc1,.slice io1 dn1 dc1,.slice go1 gn1 gc1,.slice ro1 rn1 rc1,.bool bad1] _ (by rfl) (by rfl) ea4 b4 (Nat.le_refl _) 6 Tryz.infoZ (by rfl) (by rfl) (oneZ _ _ _ _ _ rfl rfl rfl rfl _) ?_)) AllReadyH.nil
     ·skip
      intro V5 ea5 b5 s5 o5
      have eb5:=(o5 (w.heap.size + 1) (by omega)).trans eb4
      refine (And.intro trivial ?_:_ /\ _)
      try simp only [pA,pE,pB,pC,pD]
      refine rzH [5] ?_
      refine consH _ rfl (hopL rfl (wpList_store_row (by rfl) 26 _ _ (by rfl) w w.heap.size (w.heap.size + 1) #[.int .i64 N2,.slice co2 cn2 cc2,.slice io2 dn2 dc2,.slice go2 gn2 gc2,.slice ro2 rn2 rc2,.bool bad2] _ (by rfl) (by rfl) eb5 b5 (Nat.le_succ _) 6 Tryz.infoZ (by rfl) (by rfl) (oneZ _ _ _ _ _ rfl rfl rfl rfl _) ?_)) AllReadyH.nil
      ·skip
       intro V6 eb6 b6 s6 o6
       have ea6:=(o6 w.heap.size (by omega)).trans ea5
       refine (And.intro trivial ?_:_ /\ _)
       try simp only [pA,pE,pB,pC,pD]
       refine wpAnyH_done (by kernel_rfl) ?_ _
       refine NoPanic.normal ?_
       try simp only [pA,pE,pB,pC,pD]
       exact REST _ b6 ea6 eb6
  ·skip
   refine (And.intro trivial ?_:_ /\ _)
   try simp only [pA,pE,pB,pC,pD]
   refine rzH [1] ?_
   refine consH _ rfl (hzC 6 (Calls.mono (HTa.out _ XD) ?_)) AllReadyH.nil
   ·skip
    rintro e V8 ⟨rfl,hv8⟩
    have b8:=to_call XD hv8
    have ea8:=kept hv8 eA0
    have eb8:=kept hv8 eB0
    refine ⟨_,rfl,trivial,?_⟩
    try simp only [pA,pE,pB,pC,pD]
    refine rzH [3] ?_
    refine consH _ rfl (hzC 8 (Calls.mono (HTb.out _ b8) ?_)) AllReadyH.nil
    ·skip
     rintro e V9 ⟨rfl,hv9⟩
     have b9:=to_call b8 hv9
     have ea9:=kept hv9 ea8
     have eb9:=kept hv9 eb8
     refine ⟨_,rfl,trivial,?_⟩
     try simp only [pA,pE,pB,pC,pD]
     refine rzH [4] ?_
     refine consH _ rfl (hopL rfl (wpList_store_row (by rfl) 26 _ _ (by rfl) w w.heap.size w.heap.size #[.int .i64 N1,.slice co1 cn1 cc1,.slice io1 dn1 dc1,.slice go1 gn1 gc1,.slice ro1 rn1 rc1,.bool bad1] _ (by rfl) (by rfl) ea9 b9 (Nat.le_refl _) 6 Tryz.infoZ (by rfl) (by rfl) (oneZ _ _ _ _ _ rfl rfl rfl rfl _) ?_)) AllReadyH.nil
     ·skip
      intro V10 ea10 b10 s10 o10
      have eb10:=(o10 (w.heap.size + 1) (by omega)).trans eb9
      refine (And.intro trivial ?_:_ /\ _)
      try simp only [pA,pE,pB,pC,pD]
      refine rzH [5] ?_
      refine consH _ rfl (hopL rfl (wpList_store_row (by rfl) 26 _ _ (by rfl) w w.heap.size (w.heap.size + 1) #[.int .i64 N2,.slice co2 cn2 cc2,.slice io2 dn2 dc2,.slice go2 gn2 gc2,.slice ro2 rn2 rc2,.bool bad2] _ (by rfl) (by rfl) eb10 b10 (Nat.le_succ _) 6 Tryz.infoZ (by rfl) (by rfl) (oneZ _ _ _ _ _ rfl rfl rfl rfl _) ?_)) AllReadyH.nil
      ·skip
       intro V11 eb11 b11 s11 o11
       have ea11:=(o11 w.heap.size (by omega)).trans ea10
       refine (And.intro trivial ?_:_ /\ _)
       try simp only [pA,pE,pB,pC,pD]
       refine wpAnyH_done (by kernel_rfl) ?_ _
       refine NoPanic.normal ?_
       try simp only [pA,pE,pB,pC,pD]
       exact REST _ b11 ea11 eb11
 ·skip
  refine (And.intro trivial ?_:_ /\ _)
  try simp only [pA,pE,pB,pC,pD]
  refine rzH [0] ?_
  refine consH _ rfl (hopL rfl (wpList_load_row (by rfl) 26 _ (by rfl) w.heap.size _ (by rfl) eA0 _ Tryz.underlying26 rfl 6 Tryz.infoZ (by rfl) ?_)) AllReadyH.nil
  ·skip
   refine (And.intro trivial ?_:_ /\ _)
   try simp only [pA,pE,pB,pC,pD]
   refine rzH [1] ?_
   refine consH _ rfl (hzC 6 (Calls.mono (HTa.out _ XD) ?_)) AllReadyH.nil
   ·skip
    rintro e V14 ⟨rfl,hv14⟩
    have b14:=to_call XD hv14
    have ea14:=kept hv14 eA0
    have eb14:=kept hv14 eB0
    refine ⟨_,rfl,trivial,?_⟩
    try simp only [pA,pE,pB,pC,pD]
    refine rzH [3] ?_
    refine consH _ rfl (hzC 8 (Calls.mono (HTb.out _ b14) ?_)) AllReadyH.nil
    ·skip
     rintro e V15 ⟨rfl,hv15⟩
     have b15:=to_call b14 hv15
     have ea15:=kept hv15 ea14
     have eb15:=kept hv15 eb14
     refine ⟨_,rfl,trivial,?_⟩
     try simp only [pA,pE,pB,pC,pD]
     refine rzH [4] ?_
     refine consH _ rfl (hopL rfl (wpList_store_row (by rfl) 26 _ _ (by rfl) w w.heap.size w.heap.size #[.int .i64 N1,.slice co1 cn1 cc1,.slice io1 dn1 dc1,.slice go1 gn1 gc1,.slice ro1 rn1 rc1,.bool bad1] _ (by rfl) (by rfl) ea15 b15 (Nat.le_refl _) 6 Tryz.infoZ (by rfl) (by rfl) (oneZ _ _ _ _ _ rfl rfl rfl rfl _) ?_)) AllReadyH.nil
     ·skip
      intro V16 ea16 b16 s16 o16
      have eb16:=(o16 (w.heap.size + 1) (by omega)).trans eb15
      refine (And.intro trivial ?_:_ /\ _)
      try simp only [pA,pE,pB,pC,pD]
      refine rzH [5] ?_
      refine consH _ rfl (hopL rfl (wpList_store_row (by rfl) 26 _ _ (by rfl) w w.heap.size (w.heap.size + 1) #[.int .i64 N2,.slice co2 cn2 cc2,.slice io2 dn2 dc2,.slice go2 gn2 gc2,.slice ro2 rn2 rc2,.bool bad2] _ (by rfl) (by rfl) eb16 b16 (Nat.le_succ _) 6 Tryz.infoZ (by rfl) (by rfl) (oneZ _ _ _ _ _ rfl rfl rfl rfl _) ?_)) AllReadyH.nil
      ·skip
       intro V17 eb17 b17 s17 o17
       have ea17:=(o17 w.heap.size (by omega)).trans ea16
       refine (And.intro trivial ?_:_ /\ _)
       try simp only [pA,pE,pB,pC,pD]
       refine wpAnyH_done (by kernel_rfl) ?_ _
       refine NoPanic.normal ?_
       try simp only [pA,pE,pB,pC,pD]
       exact REST _ b17 ea17 eb17
def firZ (co:Option Addr) (cc:Nat) (io:Option Addr) (dc:Nat) (go:Option Addr) (gc:Nat) (ro:Option Addr) (rc:Nat) (gv:Nat -> Option Addr × Nat × Nat):ZD:=
 ⟨2,co,2,cc,io,2,dc,go,2,gc,ro,2,rc,false,[4607182418800017408,4611686018427387904],[0,3],gv,[[4607182418800017408,0],[4607182418800017408,13830554455654793216]],[0,4602678819172646912]⟩
theorem first_fir (w:World):Calls Tryz.prog 26 #[] w fun e w'=>∃ co cc io dc go gc ro rc gv,e = .returned (.agg (zRow (firZ co cc io dc go gc ro rc gv))) /\ ZR w' (firZ co cc io dc go gc ro rc gv) /\ Below w.heap.size w w':=by
 refine Calls.mono (first_any w) ?_
 rintro e w' ⟨z,rfl,hz,h1,h2,h3,h4,h5,h6,h7,h8,h9,h10,hb⟩
 obtain ⟨N,co,cn,cc,io,dn,dc,go,gn,gc,ro,rn,rc,bad,cs,ids,gv,gs,rs⟩:=z
 dsimp only at h1 h2 h3 h4 h5 h6 h7 h8 h9 h10
 subst h1 h2 h3 h4 h5 h6 h7 h8 h9 h10
 exact ⟨co,cc,io,dc,go,gc,ro,rc,gv,rfl,hz,hb⟩
section
variable (co:Option Addr) (cc:Nat) (io:Option Addr) (dc:Nat) (go:Option Addr) (gc:Nat) (ro:Option Addr) (rc:Nat) (gv:Nat -> Option Addr × Nat × Nat)
theorem fir_check:checkB (firZ co cc io dc go gc ro rc gv) = true:=by kernel_rfl
theorem fir_tk:tkZ (firZ co cc io dc go gc ro rc gv) = firZ co cc io dc go gc ro rc gv:=by unfold tkZ;rw [fir_check,if_pos rfl]
theorem fir_num:numN [4607182418800017408,4607182418800017408] (firZ co cc io dc go gc ro rc gv).N = true:=by kernel_rfl
theorem fir_sup:supO (firZ co cc io dc go gc ro rc gv) [4607182418800017408,4607182418800017408] = some (fval 4616752568008179712 * ((2 ^ 1166:Nat):Int)):=of_decide_eq_true (by kernel_rfl)
theorem fir_lo:joinO (one1 4607182418800017408) (farZ (firZ co cc io dc go gc ro rc gv) 0) true = some (fval 13830554455654793216 * ((2 ^ 1166:Nat):Int)):=of_decide_eq_true (by kernel_rfl)
theorem fir_hi:joinO (one1 4607182418800017408) (farZ (firZ co cc io dc go gc ro rc gv) 0) false = some (fval 4613937818241073152 * ((2 ^ 1166:Nat):Int)):=of_decide_eq_true (by kernel_rfl)
theorem fir_may:mayB (firZ co cc io dc go gc ro rc gv) 4 = true:=by kernel_rfl
theorem fir_lf:lfS 2 ([0,4602678819172646912].map plainM) 4 2 = ([4],[[0,4602678819172646912]],5):=by kernel_rfl
theorem fir_same:sameZ (firZ co cc io dc go gc ro rc gv) (firZ co cc io dc go gc ro rc gv) = true:=by kernel_rfl
end
theorem two_check:checkB ⟨2,none,0,0,none,0,0,none,0,0,none,0,0,false,[],[],fun _=>(none,0,0),[],[]⟩ = false:=by kernel_rfl
theorem rnd_exJ {d:Int} {r u:Nat} {b:Bool} {o:Option Int} (hr:r < 18446744073709551616) (hf:Fin r) (hd:d = 0 \/ d = 1 \/ d = 2) (ho:o = some (fval r * ((2 ^ 1166:Nat):Int))) (h:RndO d o u b):u = plainM r /\ b = true:=by
 subst ho
 have h1:=canon_rnd hr hf (Nat.two_pow_pos 1166) hd (h 1166 rfl)
 cases h1
 exact ⟨rfl,rfl⟩
theorem mkS_fir:(if (true && true) = true then makeS (plainM 13830554455654793216) (plainM 4613937818241073152) else (0,0,true)) = (13830554455654793216,4613937818241073152,false):=by kernel_rfl
theorem aro_fir (co:Option Addr) (cc:Nat) (io:Option Addr) (dc:Nat) (go:Option Addr) (gc:Nat) (ro:Option Addr) (rc:Nat) (gv:Nat -> Option Addr × Nat × Nat) {r:Nat × Nat × Bool} (h:AroR 4607182418800017408 (farZ (firZ co cc io dc go gc ro rc gv) 0) r):r = (13830554455654793216,4613937818241073152,false):=by
 obtain ⟨lo,low,hi,high,h1,h2,rfl⟩:=h
 have e1:=fir_lo co cc io dc go gc ro rc gv
 have e2:=fir_hi co cc io dc go gc ro rc gv
 generalize joinO (one1 4607182418800017408) (farZ (firZ co cc io dc go gc ro rc gv) 0) true = o1 at h1 e1
 generalize joinO (one1 4607182418800017408) (farZ (firZ co cc io dc go gc ro rc gv) 0) false = o2 at h2 e2
 obtain ⟨rfl,rfl⟩:=rnd_exJ (d:=2) (r:=13830554455654793216) (by decide) (by decide) (by decide) e1 h1
 obtain ⟨rfl,rfl⟩:=rnd_exJ (d:=1) (r:=4613937818241073152) (by decide) (by decide) (by decide) e2 h2
 exact mkS_fir
theorem sup_fir (co:Option Addr) (cc:Nat) (io:Option Addr) (dc:Nat) (go:Option Addr) (gc:Nat) (ro:Option Addr) (rc:Nat) (gv:Nat -> Option Addr × Nat × Nat) {u:Nat} {b:Bool} (h:RndO 1 (supO (firZ co cc io dc go gc ro rc gv) [4607182418800017408,4607182418800017408]) u b):u = 4616752568008179712 /\ b = true:=by
 have e1:=fir_sup co cc io dc go gc ro rc gv
 generalize supO (firZ co cc io dc go gc ro rc gv) [4607182418800017408,4607182418800017408] = o1 at h e1
 obtain ⟨rfl,rfl⟩:=rnd_exJ (d:=1) (r:=4616752568008179712) (by decide) (by decide) (by decide) e1 h
 exact ⟨by kernel_rfl,rfl⟩
end Go.Proofs.YtmdjoaipkbnelaaGreat
