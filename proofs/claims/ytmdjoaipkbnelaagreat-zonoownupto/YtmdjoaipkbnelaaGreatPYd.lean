import Derived.Laws.AppendOwn
import Derived.Test.YtmdjoaipkbnelaaGreatPYb
set_option linter.unusedVariables false
set_option linter.unusedSimpArgs false
namespace Go.Proofs.YtmdjoaipkbnelaaGreat
open Go.RowKit Go.Shelf
theorem info3P {P:Program} {E:TypeId} {z:Value} {size bytes:Nat} (h:(P.info? E).map (fun i=>(i.zero,i.size,i.bytes)) = some (some z,size,bytes)):∃ i,P.info? E = some i /\ i.zero = some z /\ i.size = size /\ i.bytes = bytes:=by
 obtain ⟨i,h1,h2⟩:=Option.map_eq_some_iff.1 h
 simp only [Prod.mk.injEq] at h2
 exact ⟨i,h1,h2.1,h2.2.1,h2.2.2⟩
def Gx (W w':World) (v v':Value) (n m:Nat):Prop:=
 (∃ g cap,v = .slice (some ⟨g,0,none⟩) n cap /\ v' = .slice (some ⟨g,0,none⟩) (n + m) cap /\ W.grownBy w' (some g)) ∨
 ((∀ g cap,v = .slice (some ⟨g,0,none⟩) n cap -> cap < n + m) /\ W.grownBy w' none /\ ∀ k,v'.ownBlock = some k -> W.heap.size <= k)
def OwX (W:World) (base:Nat) (E:TypeId) (v:Value) (n:Nat) (xs:List Value):Prop:=xs.length = n /\ ((v = .slice none 0 0 /\ n = 0) \/ ∃ g cap cur,v = .slice (some ⟨g,0,none⟩) n cap /\ base <= g /\ W.heap[g]? = some (.cells cur E) /\ n <= cap /\ cap <= maxLen /\ n <= cur.size /\ (n < cap -> cur.size = cap) /\ cur.toList.take n = xs)
theorem OwX.of {W:World} {base:Nat} {E:TypeId} {v:Value} {n:Nat} {xs:List Value} (h:W.ownsRow base E 1 v n xs):OwX W base E v n xs:=by
 refine ⟨by rw [h.1,Nat.mul_one],?_⟩
 rcases h.2 with h1 | ⟨g,cap,cur,h1,h2,h3,h4,h5,h6,h7⟩
 ·exact .inl h1
 ·rw [Nat.mul_one] at h6 h7
  exact .inr ⟨g,cap,cur,h1,h2,h3,h4,h5,by omega,fun _=>h6,h7⟩
theorem OwX.lt {W:World} {base:Nat} {E:TypeId} {v:Value} {n:Nat} {xs:List Value} (h:OwX W base E v n xs) (k:Nat) (hk:v.ownBlock = some k):base <= k /\ k < W.heap.size:=by
 rcases h.2 with ⟨rfl,_⟩ | ⟨g,cap,cur,rfl,h2,h3,_⟩
 ·cases hk
 ·cases hk;exact ⟨h2,blk_lt h3⟩
theorem OwX.ty {W:World} {base:Nat} {E:TypeId} {v:Value} {n:Nat} {xs:List Value} (h:OwX W base E v n xs) (k:Nat) (hk:v.ownBlock = some k):∃ cur,W.heap[k]? = some (.cells cur E):=by
 rcases h.2 with ⟨rfl,_⟩ | ⟨g,cap,cur,rfl,h2,h3,_⟩
 ·cases hk
 ·cases hk;exact ⟨cur,h3⟩
theorem OwX.ne {W:World} {base base':Nat} {E E':TypeId} {v v':Value} {n n':Nat} {xs xs':List Value} (h:OwX W base E v n xs) (h':OwX W base' E' v' n' xs') (hne:E ≠ E') (k:Nat) (e:v.ownBlock = some k):v'.ownBlock ≠ some k:=by
 intro e'
 obtain ⟨c,hc⟩:=h.ty k e
 obtain ⟨c',hc'⟩:=h'.ty k e'
 rw [hc] at hc'
 injection hc' with hc'
 injection hc' with _ hc'
 exact hne hc'
theorem OwX.keep {W W':World} {base:Nat} {E:TypeId} {v:Value} {n:Nat} {xs:List Value} (h:OwX W base E v n xs) (hk:∀ k,v.ownBlock = some k -> W'.heap[k]? = W.heap[k]?):OwX W' base E v n xs:=by
 refine ⟨h.1,?_⟩
 rcases h.2 with h1 | ⟨g,cap,cur,h1,h2,h3,r⟩
 ·exact .inl h1
 ·exact .inr ⟨g,cap,cur,h1,h2,(hk g (by rw [h1];rfl)).trans h3,r⟩
theorem OwX.alloc {W:World} {base:Nat} {E:TypeId} {v:Value} {n:Nat} {xs:List Value} (h:OwX W base E v n xs) (o:Obj):OwX (W.alloc o) base E v n xs:=h.keep fun k hk=>Below.heap_alloc W o k (h.lt k hk).2
theorem OwX.form {W:World} {base:Nat} {E:TypeId} {v:Value} {n:Nat} {xs:List Value} (h:OwX W base E v n xs):∃ ao cap,v = .slice ao n cap /\ n <= maxLen:=by
 rcases h.2 with ⟨rfl,rfl⟩ | ⟨g,cap,cur,rfl,h2,h3,h4,h5,_⟩
 ·exact ⟨none,0,rfl,Nat.zero_le _⟩
 ·exact ⟨_,cap,rfl,by omega⟩
theorem append_gx {P:Program} {SE E:TypeId} {z:Value} {bytes:Nat} (hu:P.underlying SE = some (.slice E)) (hinfo:(P.info? E).map (fun i=>(i.zero,i.size,i.bytes)) = some (some z,1,bytes)) (hzc:z.cells.size = 1) (hby:bytes <= 64)
  {ops:Array Oper} {rest:List Oper} {o:Oper} {a:Act} {Q:Exit -> Act -> World -> Prop} (W:World) (hgd:o.guard = none) (s x:Operand) (ho:o.op = .call { callee:=.builtin .append,args:=#[s,x],argTypes:=#[SE,SE] })
  (base:Nat) (v:Value) (n:Nat) (xs:List Value) (hs:a.eval s = v) (hown:OwX W base E v n xs)
  (ad:Addr) (m c:Nat) (news:List Value) (hx:a.eval x = .slice (some ad) m c) (hl:news.length = m) (hm:0 < m) (hnews:∀ j u,news[j]? = some u -> W.cell? (ad.add j) = some u) (h1:∀ u ∈ news,u.oneCell' = true)
  (hlen:n + m <= 200000000) (hbase:base <= W.heap.size)
  (h:∀ v' w',w'.ownsRow base E 1 v' (n + m) (xs ++ news) -> Gx W w' v v' n m -> wpList P ops Q rest (a.put o.dst v') w'):wpList P ops Q (o :: rest) a W:=by
 obtain ⟨i0,hi,hz0,hz1,hz2⟩:=info3P hinfo
 have hb2:(n + m) * bytes <= 140737488355328:=Nat.le_trans (Nat.mul_le_mul hlen hby) (by decide)
 have hmx:n + m <= maxLen:=Nat.le_trans hlen (by decide)
 have grow:∀ (w':World) (v':Value),(∀ g cap,v = .slice (some ⟨g,0,none⟩) n cap -> cap < n + m) -> w'.ownsRow W.heap.size E 1 v' (n + m) (xs ++ news) -> W.grownBy w' none -> wpList P ops Q rest (a.put o.dst v') w':=by
  intro w' v' g0 g1 g2
  exact h v' w' (owns_monoJ g1 hbase) (.inr ⟨g0,g2,fun k hk=>(World.ownsRow.lt g1 k hk).1⟩)
 rcases hown.2 with ⟨rfl,rfl⟩ | ⟨g,cap,cur,hv,hg,hh,k1,k2,k3,k4,k5⟩
 ·have hx0:xs = []:=List.eq_nil_of_length_eq_zero hown.1
  subst hx0
  refine wpList_append_grows W hgd s x SE ho E i0 z 1 bytes hu hi hz0 hz1 hz2 hzc (by decide) none 0 0 [] hs (fun _=>⟨rfl,rfl⟩) (by simp) (fun b hb=>by cases hb) ad m c news hx (by omega) hnews h1 (by omega) hmx hb2 ?_
  intro v' w' r1 r2
  exact grow w' v' (fun g cap e=>by cases e) r1 r2
 ·by_cases hr:n + m <= cap
  ·subst hv
   have hcs:=k4 (by omega)
   refine wpList_append_fits W hgd s x SE ho base E i0 1 hu hi hz1 g n cap xs hs ⟨by rw [hown.1,Nat.mul_one],.inr ⟨g,cap,cur,rfl,hg,hh,k1,k2,by omega,by rw [Nat.mul_one];exact k5⟩⟩ ad m c news hx (by omega) hnews h1 hr ?_
   intro w' r1 r2
   exact h _ w' r1 (.inl ⟨g,cap,rfl,rfl,r2⟩)
  ·refine wpList_append_grows W hgd s x SE ho E i0 z 1 bytes hu hi hz0 hz1 hz2 hzc (by decide) (some ⟨g,0,none⟩) n cap xs (by rw [hs,hv]) (fun c=>by cases c) (by rw [hown.1,Nat.mul_one]) ?_ ad m c news hx (by omega) hnews h1 (by omega) hmx hb2 ?_
   ·intro b hb j u hj
    cases hb
    have hj':j < n:=by have:=(List.getElem?_eq_some_iff.1 hj).1;rw [hown.1] at this;exact this
    rw [Addr.add_lit,cell_of_row _ g _ _ _ _ hh,Nat.zero_add,<- hj,<- k5,List.getElem?_take,if_pos hj',Array.getElem?_toList]
   ·intro v' w' r1 r2
    exact grow w' v' (fun g' cap' e=>by rw [hv] at e;cases e;omega) r1 r2
theorem setP_cells {c:Array Value} {k:Nat} {v:Value} (hk:k < c.size) (hv:v.cells.toList = [v]):∃ d:Array Value,(c.toList.take k ++ v.cells.toList ++ c.toList.drop (k + 1)).toArray = d /\ d.size = c.size /\ d[k]? = some v /\ ∀ j,j ≠ k -> d[j]? = c[j]?:=by
 refine ⟨_,rfl,?_,?_,fun j hj=>?_⟩
 ·rw [hv];simp;omega
 ·rw [hv]
  simp only [List.getElem?_toArray]
  rw [List.getElem?_append_left (by simp;omega),List.getElem?_append_right (by simp;omega)]
  have h3:min k c.size = k:=by omega
  simp [h3]
 ·rw [hv]
  simp only [List.getElem?_toArray]
  by_cases h1:j < k
  ·rw [List.append_assoc,List.getElem?_append_left (by simp;omega),List.getElem?_take_of_lt h1,Array.getElem?_toList]
  ·have hlen:(c.toList.take k ++ [v]).length = k + 1:=by simp;omega
   rw [List.getElem?_append_right (by omega),hlen,List.getElem?_drop,show k + 1 + (j - (k + 1)) = j by omega,Array.getElem?_toList]
theorem Gx.size {W W':World} {v v':Value} {n m:Nat} (h:Gx W W' v v' n m):W.heap.size <= W'.heap.size:=by
 rcases h with ⟨_,_,_,_,h⟩ | ⟨_,h,_⟩ <;> exact h.size
theorem Gx.alloc {W W':World} {v v':Value} {n m:Nat} {o:Obj} (h:Gx (W.alloc o) W' v v' n m):Gx W W' v v' n m:=by
 have hsz:(W.alloc o).heap.size = W.heap.size + 1:=Array.size_push ..
 rcases h with ⟨g,cap,h1,h2,g1⟩ | ⟨h1,g1,h2⟩
 ·exact .inl ⟨g,cap,h1,h2,g1.os,g1.tape,g1.output,by have:=g1.size;omega,fun j hj hne=>by rw [g1.block j (by omega) hne,Below.heap_alloc W _ j hj]⟩
 ·exact .inr ⟨h1,⟨g1.os,g1.tape,g1.output,by have:=g1.size;omega,fun j hj hne=>by rw [g1.block j (by omega) hne,Below.heap_alloc W _ j hj]⟩,fun k hk=>by have:=h2 k hk;omega⟩
def OwV (W:World) (base:Nat) (E:TypeId) (G n c:Nat) (vs:List Value):Prop:=W.ownsRow base E 1 (.slice (some ⟨G,0,none⟩) n c) n vs
theorem OwV.get {W:World} {base G n c:Nat} {E:TypeId} {vs:List Value} (h:OwV W base E G n c vs):vs.length = n /\ base <= G /\ n <= c /\ c <= maxLen /\ ∃ cur,W.heap[G]? = some (.cells cur E) /\ cur.size = c /\ cur.toList.take n = vs:=by
 have h1:=h.1
 rw [Nat.mul_one] at h1
 rcases h.2 with ⟨h2,_⟩ | ⟨g,cap,cur,hv,hg,hh,k1,k2,k3,k4⟩
 ·cases h2
 ·cases hv
  rw [Nat.mul_one] at k3 k4
  exact ⟨h1,hg,k1,k2,cur,hh,k3,k4⟩
theorem OwV.mk {W:World} {base G n c:Nat} {E:TypeId} {vs:List Value} (h1:vs.length = n) (h2:base <= G) (h3:n <= c) (h4:c <= maxLen) (cur:Array Value) (h5:W.heap[G]? = some (.cells cur E)) (h6:cur.size = c) (h7:cur.toList.take n = vs):OwV W base E G n c vs:=
 ⟨by rw [Nat.mul_one];exact h1,.inr ⟨G,c,cur,rfl,h2,h5,h3,h4,by rw [Nat.mul_one];exact h6,by rw [Nat.mul_one];exact h7⟩⟩
theorem OwV.b {W:World} {base G n c:Nat} {E:TypeId} {vs:List Value} (h:OwV W base E G n c vs):base <= G:=h.get.2.1
theorem OwV.lt {W:World} {base G n c:Nat} {E:TypeId} {vs:List Value} (h:OwV W base E G n c vs):G < W.heap.size:=by
 obtain ⟨_,_,_,_,cur,h1,_⟩:=h.get
 exact blk_lt h1
theorem OwV.keep {W W':World} {base G n c:Nat} {E:TypeId} {vs:List Value} (h:OwV W base E G n c vs) (hk:W'.heap[G]? = W.heap[G]?):OwV W' base E G n c vs:=owns_keep h fun k hk'=>by cases hk';exact hk
theorem OwV.later {W W':World} {base G n c:Nat} {E:TypeId} {vs:List Value} (h:OwV W base E G n c vs) (hb:Below W.heap.size W W'):OwV W' base E G n c vs:=h.keep (hb.block G h.lt)
theorem OwV.mono {W:World} {base base' G n c:Nat} {E:TypeId} {vs:List Value} (h:OwV W base E G n c vs) (hb:base' <= base):OwV W base' E G n c vs:=owns_monoJ h hb
theorem OwV.at {W:World} {base G n c:Nat} {E:TypeId} {vs:List Value} (h:OwV W base E G n c vs) (j:Nat) (hj:j < n):W.cell? ⟨G,j,none⟩ = vs[j]?:=World.ownsRow.cellAt h j (by omega)
theorem OwV.write {P:Program} {ops:Array Oper} {rest:List Oper} {op:Oper} {a:Act} {W:World} {Q:Exit -> Act -> World -> Prop} {E:TypeId} (hgd:op.guard = none) (x y:Operand) (hop:op.op = .store E x y) (hi:(P.info? E).map (·.size) = some 1)
  (w:World) (base base' G n c s:Nat) (vs:List Value) (v:Value) (hv1:v.cells = #[v]) (hv2:v.oneCell' = true) (hx:a.eval x = .pointer (some ⟨G,s,none⟩)) (hy:a.eval y = v) (hG:OwV W base' E G n c vs) (hs:s < n) (hb:Below base w W) (hbb:base <= base')
  (h:∀ W',OwV W' base' E G n c (vs.set s v) -> Below base w W' -> W'.heap.size = W.heap.size -> (∀ k,k ≠ G -> W'.heap[k]? = W.heap[k]?) -> wpList P ops Q rest (a.put op.dst undef) W'):wpList P ops Q (op :: rest) a W:=by
 obtain ⟨hl,h1,h2,h3,cur,h4,h5,h6⟩:=hG.get
 obtain ⟨d,hd,hsz,hds,hdo⟩:=setP_cells (c:=cur) (k:=s) (v:=v) (by omega) (by rw [hv1])
 refine wpList_store_at hgd E x y hop w base G s v cur d E hx hy h4 hb (Nat.le_trans hbb h1) 1 hi (by rw [hv1];rfl) (by omega) (by intro u hu;rw [hv1] at hu;simp only [List.mem_cons,List.not_mem_nil,or_false] at hu;subst hu;exact hv2) hd ?_
 intro W' e b sz o
 refine h W' (OwV.mk (by rw [List.length_set];exact hl) h1 h2 h3 d e (by omega) ?_) b sz o
 apply List.ext_getElem?
 intro j
 have h6j:=congrArg (fun l=>l[j]?) h6
 simp only [List.getElem?_take] at h6j ⊢
 by_cases hj:j < n
 ·rw [if_pos hj] at h6j ⊢
  rw [Array.getElem?_toList] at h6j ⊢
  by_cases hj2:j = s
  ·subst hj2
   rw [hds,List.getElem?_set_self (by omega)]
  ·rw [hdo j hj2,List.getElem?_set_ne (Ne.symm hj2),h6j]
 ·rw [if_neg hj,List.getElem?_eq_none (by rw [List.length_set];omega)]
def Grx (w w':World) (r r':Option Nat):Prop:=(w.grownBy w' r /\ r' = r) \/ (w.grownBy w' none /\ ∀ k,r' = some k -> w.heap.size <= k)
theorem Gx.grx {W W':World} {v v':Value} {n m:Nat} (h:Gx W W' v v' n m):Grx W W' v.ownBlock v'.ownBlock:=by
 rcases h with ⟨g,cap,rfl,rfl,h⟩ | ⟨_,h1,h2⟩
 ·exact .inl ⟨h,rfl⟩
 ·exact .inr ⟨h1,h2⟩
theorem Grx.by' {w w':World} {r r':Option Nat} (h:Grx w w' r r'):w.grownBy w' r:=by
 rcases h with ⟨h1,_⟩ | ⟨h1,_⟩
 ·exact h1
 ·exact ⟨h1.os,h1.tape,h1.output,h1.size,fun k hk _=>h1.block k hk (by simp)⟩
theorem OwX.cellF {W:World} {base n:Nat} {E:TypeId} {v:Value} {xs:List Value} (h:OwX W base E v n xs) {a l c:Nat} (e:v = .slice (some ⟨a,0,none⟩) l c) {j:Nat} (hj:j < n):W.cell? ⟨a,j,none⟩ = xs[j]?:=by
 rcases h.2 with ⟨h1,_⟩ | ⟨g,cap,cur,h1,h2,h3,h4,h5,h6,h7,h8⟩
 ·rw [h1] at e;cases e
 ·rw [h1] at e
  cases e
  rw [cell_of_row _ a _ _ _ _ h3,<- h8,List.getElem?_take,if_pos hj,Array.getElem?_toList]
theorem OwX.monoF {W:World} {base b n:Nat} {E:TypeId} {v:Value} {xs:List Value} (h:OwX W base E v n xs) (hb:b <= base):OwX W b E v n xs:=by
 refine ⟨h.1,?_⟩
 rcases h.2 with h1 | ⟨g,cap,cur,h1,h2,r⟩
 ·exact .inl h1
 ·exact .inr ⟨g,cap,cur,h1,Nat.le_trans hb h2,r⟩
theorem OwX.formF {W:World} {base n:Nat} {E:TypeId} {v:Value} {xs:List Value} (h:OwX W base E v n xs):∃ ao cap,v = .slice ao n cap /\ n <= maxLen /\ (0 < n -> ∃ g,ao = some ⟨g,0,none⟩):=by
 rcases h.2 with ⟨rfl,rfl⟩ | ⟨g,cap,cur,rfl,h2,h3,h4,h5,_⟩
 ·exact ⟨none,0,rfl,Nat.zero_le _,fun h=>absurd h (by omega)⟩
 ·exact ⟨_,cap,rfl,by omega,fun _=>⟨g,rfl⟩⟩
theorem OwX.write {P:Program} {ops:Array Oper} {rest:List Oper} {op:Oper} {a:Act} {W:World} {Q:Exit -> Act -> World -> Prop} {E:TypeId} (hgd:op.guard = none) (x y:Operand) (hop:op.op = .store E x y) (hi:(P.info? E).map (·.size) = some 1)
  (w:World) (base base' G n c s:Nat) (vs:List Value) (v:Value) (hv1:v.cells = #[v]) (hv2:v.oneCell' = true) (hx:a.eval x = .pointer (some ⟨G,s,none⟩)) (hy:a.eval y = v) (hG:OwX W base' E (.slice (some ⟨G,0,none⟩) n c) n vs) (hs:s < n) (hb:Below base w W) (hbb:base <= base')
  (h:∀ W',OwX W' base' E (.slice (some ⟨G,0,none⟩) n c) n (vs.set s v) -> Below base w W' -> W'.heap.size = W.heap.size -> (∀ k,k ≠ G -> W'.heap[k]? = W.heap[k]?) -> wpList P ops Q rest (a.put op.dst undef) W'):wpList P ops Q (op :: rest) a W:=by
 have hl:=hG.1
 rcases hG.2 with ⟨h0,_⟩ | ⟨g,cap,cur,h0,h1,h4,h2,h3,h5,h6c,h6⟩
 ·cases h0
 cases h0
 obtain ⟨d,hd,hsz,hds,hdo⟩:=setP_cells (c:=cur) (k:=s) (v:=v) (by omega) (by rw [hv1])
 refine wpList_store_at hgd E x y hop w base G s v cur d E hx hy h4 hb (Nat.le_trans hbb h1) 1 hi (by rw [hv1];rfl) (by omega) (by intro u hu;rw [hv1] at hu;simp only [List.mem_cons,List.not_mem_nil,or_false] at hu;subst hu;exact hv2) hd ?_
 intro W' e b sz o
 refine h W' ⟨by rw [List.length_set];exact hl,.inr ⟨G,c,d,rfl,h1,e,h2,h3,by omega,fun hc=>by have:=h6c hc;omega,?_⟩⟩ b sz o
 apply List.ext_getElem?
 intro j
 have h6j:=congrArg (fun l=>l[j]?) h6
 simp only [List.getElem?_take] at h6j ⊢
 by_cases hj:j < n
 ·rw [if_pos hj] at h6j ⊢
  rw [Array.getElem?_toList] at h6j ⊢
  by_cases hj2:j = s
  ·subst hj2
   rw [hds,List.getElem?_set_self (by omega)]
  ·rw [hdo j hj2,List.getElem?_set_ne (Ne.symm hj2),h6j]
 ·rw [if_neg hj,List.getElem?_eq_none (by rw [List.length_set];omega)]
structure Fam (W:World) (E:TypeId) (base K:Nat) (v:Nat -> Value) (n:Nat -> Nat) (C:Nat -> List Value):Prop where
 f:∀ k,k < K -> OwX W base E (v k) (n k) (C k)
 a:∀ i j,i < j -> j < K -> ∀ q,(v i).ownBlock = some q -> (v j).ownBlock ≠ some q
theorem Fam.ap {W:World} {E:TypeId} {base K:Nat} {v:Nat -> Value} {n:Nat -> Nat} {C:Nat -> List Value} (h:Fam W E base K v n C) {i j q:Nat} (hi:i < K) (hj:j < K) (hij:i ≠ j) (e:(v i).ownBlock = some q):(v j).ownBlock ≠ some q:=by
 by_cases h1:i < j
 ·exact h.a i j h1 hj q e
 ·exact fun e2=>h.a j i (by omega) hi q e2 e
theorem Fam.len {W:World} {E:TypeId} {base K:Nat} {v:Nat -> Value} {n:Nat -> Nat} {C:Nat -> List Value} (h:Fam W E base K v n C) {k:Nat} (hk:k < K):(C k).length = n k:=(h.f k hk).1
theorem Fam.lt {W:World} {E:TypeId} {base K:Nat} {v:Nat -> Value} {n:Nat -> Nat} {C:Nat -> List Value} (h:Fam W E base K v n C) {k q:Nat} (hk:k < K) (e:(v k).ownBlock = some q):base <= q /\ q < W.heap.size:=OwX.lt (h.f k hk) q e
theorem Fam.later {W W':World} {E:TypeId} {base K:Nat} {v:Nat -> Value} {n:Nat -> Nat} {C:Nat -> List Value} (h:Fam W E base K v n C) (hb:Below W.heap.size W W'):Fam W' E base K v n C:=
 ⟨fun k hk=>OwX.keep (h.f k hk) fun q e=>hb.block q (h.lt hk e).2,h.a⟩
theorem Fam.write {W W':World} {E:TypeId} {base K:Nat} {v:Nat -> Value} {n:Nat -> Nat} {C:Nat -> List Value} (h:Fam W E base K v n C) {i:Nat} (hi:i < K) {vs:List Value} (e:OwX W' base E (v i) (n i) vs) (o:∀ k,(v i).ownBlock ≠ some k -> W'.heap[k]? = W.heap[k]?):Fam W' E base K v n (fun k=>if k = i then vs else C k):=by
 refine ⟨fun k hk=>?_,h.a⟩
 by_cases hki:k = i
 ·subst hki
  simp only [if_pos]
  exact e
 ·simp only [if_neg hki]
  exact OwX.keep (h.f k hk) fun q eq=>o q (h.ap hk hi hki eq)
def RdV (W:World) (v:Value) (xs:List Value):Prop:=∀ a l c,v = .slice (some ⟨a,0,none⟩) l c -> ∀ j u,xs[j]? = some u -> W.cell? ⟨a,j,none⟩ = some u
theorem RdV.of {W:World} {E:TypeId} {base n:Nat} {v:Value} {xs:List Value} (h:OwX W base E v n xs):RdV W v xs:=by
 intro a l c e j u hj
 have hl:=(List.getElem?_eq_some_iff.1 hj).1
 rw [h.cellF e (by rw [h.1] at hl;exact hl)]
 exact hj
theorem RdV.keep {W W':World} {v:Value} {xs:List Value} (h:RdV W v xs) (hb:∀ k,v.ownBlock = some k -> k < W.heap.size -> W'.heap[k]? = W.heap[k]?):RdV W' v xs:=by
 rintro a l c rfl j u hj
 have h1:=h a l c rfl j u hj
 rw [World.cell?_of_block (w:=W) (hb a rfl (World.block_lt_of_cell? _ _ h1))]
 exact h1
structure FamB (W0 W:World) (E LE:TypeId) (X H base K i:Nat) (v u:Nat -> Value) (n:Nat -> Nat) (C:Nat -> List Value) (D:Nat -> Value) (gv:Value):Prop where
 b:Below base W0 W
 l:W.ownsRow H LE 1 gv i ((List.range i).map u)
 f:∀ k,i <= k -> k < K -> OwX W base E (v k) (n k) (C k)
 r:∀ k,k < K -> RdV W (v k) (C k)
 w:∀ k,k < i -> OwX W base E (u k) (n k + X) (C k ++ List.replicate X (D k))
 s:∀ k,k < i -> ∀ q,(u k).ownBlock = some q -> (v k).ownBlock = some q \/ H <= q
 z:H <= W.heap.size
 o:∀ k,k < H -> (∀ i,i < K -> (v i).ownBlock ≠ some k) -> W.heap[k]? = W0.heap[k]?
structure FamC (Wy W:World) (E:TypeId) (base:Nat) (vi:Value) (ni:Nat) (Ci:List Value) (d:Value) (j:Nat) (uu:Value):Prop where
 gr:Wy.grownBy W vi.ownBlock
 o:OwX W base E uu (ni + j) (Ci ++ List.replicate j d)
 s:∀ q,uu.ownBlock = some q -> vi.ownBlock = some q \/ Wy.heap.size <= q
 r:RdV W vi Ci
theorem grownBy_reflF (W:World) (r:Option Nat):W.grownBy W r:=⟨rfl,rfl,rfl,Nat.le_refl _,fun _ _ _=>rfl⟩
theorem FamB.begin {W0 W:World} {E LE:TypeId} {X H base K i:Nat} {v u:Nat -> Value} {n:Nat -> Nat} {C:Nat -> List Value} {D:Nat -> Value} {gv:Value} (S:FamB W0 W E LE X H base K i v u n C D gv) (hi:i < K):FamC W W E base (v i) (n i) (C i) (D i) 0 (v i):=
 ⟨grownBy_reflF _ _,by rw [show List.replicate 0 (D i) = [] from rfl,List.append_nil];exact S.f i (Nat.le_refl _) hi,fun q e=>.inl e,S.r i hi⟩
theorem FamC.step {Wy W w':World} {E:TypeId} {base:Nat} {vi:Value} {ni:Nat} {Ci:List Value} {d:Value} {j:Nat} {uu v':Value} (h:FamC Wy W E base vi ni Ci d j uu) (hl:∀ q,vi.ownBlock = some q -> q < Wy.heap.size) (hc:Ci.length = ni) (o':w'.ownsRow base E 1 v' (ni + j + 1) ((Ci ++ List.replicate j d) ++ [d])) (g':Grx W w' uu.ownBlock v'.ownBlock) :
  FamC Wy w' E base vi ni Ci d (j + 1) v':=by
 have o2:w'.ownsRow base E 1 v' (ni + (j + 1)) (Ci ++ List.replicate (j + 1) d):=by
  rw [List.append_assoc,show List.replicate j d ++ [d] = List.replicate (j + 1) d from (List.replicate_succ' ..).symm] at o'
  exact o'
 have hs:=h.gr.size
 have G:=g'.by'
 have rd:RdV w' vi Ci:=by
  by_cases hv:∃ q,vi.ownBlock = some q /\ uu.ownBlock = some q
  ·obtain ⟨q,e1,e2⟩:=hv
   rcases g' with ⟨g1,g2⟩ | ⟨g1,_⟩
   ·rw [e2] at g2
    rintro a l c rfl j' u hj'
    cases e1
    rcases o2.2 with ⟨h2,_⟩ | ⟨g,cap,cur,h2,_⟩
    ·rw [h2] at g2;cases g2
    ·rw [h2] at g2
     cases g2
     rw [h2] at o2
     have hl':=(List.getElem?_eq_some_iff.1 hj').1
     rw [World.ownsRow.cellAt o2 j' (by simp;omega),List.getElem?_append_left hl']
     exact hj'
   ·exact h.r.keep fun k _ hk=>g1.block k hk (by simp)
  ·refine h.r.keep fun k e hk=>G.block k hk fun e2=>hv ⟨k,e,e2.symm⟩
 rcases g' with ⟨g1,g2⟩ | ⟨g1,g2⟩
 ·refine ⟨⟨g1.os.trans h.gr.os,g1.tape.trans h.gr.tape,g1.output.trans h.gr.output,Nat.le_trans hs g1.size,fun k hk hne=>?_⟩,OwX.of o2,fun q e=>h.s q (g2 ▸ e),rd⟩
  refine (g1.block k (by omega) fun e=>?_).trans (h.gr.block k hk hne)
  rcases h.s k e.symm with h1 | h1
  ·exact hne h1.symm
  ·omega
 ·exact ⟨⟨g1.os.trans h.gr.os,g1.tape.trans h.gr.tape,g1.output.trans h.gr.output,Nat.le_trans hs g1.size,fun k hk hne=>(g1.block k (by omega) (by simp)).trans (h.gr.block k hk hne)⟩,OwX.of o2,fun q e=>.inr (by have:=g2 q e;omega),rd⟩
theorem FamC.l {W0 Wy W:World} {E LE:TypeId} {X H base K i j:Nat} {v u:Nat -> Value} {n:Nat -> Nat} {C:Nat -> List Value} {D:Nat -> Value} {gv uu:Value} (S:FamB W0 Wy E LE X H base K i v u n C D gv) (T:FamC Wy W E base (v i) (n i) (C i) (D i) j uu) (hg:∀ q,(v i).ownBlock = some q -> q < H):W.ownsRow H LE 1 gv i ((List.range i).map u):=
 owns_keep S.l fun k e=>T.gr.block k (World.ownsRow.lt S.l k e).2 fun e2=>by have:=hg k e2.symm;have:=(World.ownsRow.lt S.l k e).1;omega
theorem FamB.next {W0 Wy W w':World} {E LE:TypeId} (hEL:E ≠ LE) {X H base K i:Nat} {v u:Nat -> Value} {n:Nat -> Nat} {C:Nat -> List Value} {D:Nat -> Value} {gv gv' uu:Value} (S:FamB W0 Wy E LE X H base K i v u n C D gv) (T:FamC Wy W E base (v i) (n i) (C i) (D i) X uu) (hi:i < K) (hg:∀ k,k < K -> ∀ q,(v k).ownBlock = some q -> base <= q /\ q < H) (ha:∀ i j,i < K -> j < K -> i ≠ j -> ∀ q,(v i).ownBlock = some q -> (v j).ownBlock ≠ some q) (hbH:base <= H)
  (o':w'.ownsRow H LE 1 gv' (i + 1) ((List.range i).map u ++ [uu])) (g':Grx W w' gv.ownBlock gv'.ownBlock):FamB W0 w' E LE X H base K (i + 1) v (fun k=>if k = i then uu else u k) n C D gv':=by
 have G:=g'.by'
 have hz:=T.gr.size
 have hz2:=G.size
 have hz0:=S.z
 have hgv:∀ k,gv.ownBlock = some k -> H <= k:=fun k hk=>(World.ownsRow.lt S.l k hk).1
 have hlw:=FamC.l S T fun q e=>(hg i hi q e).2
 have keep:∀ {b N:Nat} {x:Value} {xs:List Value},OwX W b E x N xs -> OwX w' b E x N xs:=by
  intro b N x xs hx
  refine OwX.keep hx fun k hk=>G.block k (OwX.lt hx k hk).2 fun e=>?_
  obtain ⟨c1,h1⟩:=OwX.ty hx k hk
  obtain ⟨c2,h2⟩:=owns_type hlw e.symm
  rw [h1] at h2
  injection h2 with h2
  injection h2 with _ h2
  exact hEL h2
 refine ⟨?_,?_,fun k hk hkK=>?_,fun k hk=>?_,fun k hk=>?_,fun k hk q e=>?_,by omega,fun k hk hne=>?_⟩
 ·have B1:Below base Wy W:=⟨T.gr.os,T.gr.tape,T.gr.output,hz,fun k hk=>T.gr.block k (by omega) fun e=>by have:=(hg i hi k e.symm).1;omega⟩
  have B2:Below base W w':=⟨G.os,G.tape,G.output,hz2,fun k hk=>G.block k (by omega) fun e=>by have:=hgv k e.symm;omega⟩
  exact (S.b.trans B1).trans B2
 ·have e1:(List.range (i + 1)).map (fun k=>if k = i then uu else u k) = (List.range i).map u ++ [uu]:=by
   rw [List.range_succ,List.map_append]
   congr 1
   ·refine List.map_congr_left fun k hk=>?_
    rw [if_neg (by have:=List.mem_range.1 hk;omega)]
   ·simp
  rw [e1]
  exact o'
 ·exact keep (OwX.keep (S.f k (by omega) hkK) fun q e=>T.gr.block q (OwX.lt (S.f k (by omega) hkK) q e).2 fun e2=>ha k i hkK hi (by omega) q e e2.symm)
 ·have h1:RdV W (v k) (C k):=by
   by_cases hki:k = i
   ·subst hki;exact T.r
   ·exact (S.r k hk).keep fun q e hq=>T.gr.block q hq fun e2=>ha k i hk hi hki q e e2.symm
  exact h1.keep fun q e hq=>G.block q hq fun e2=>by have:=hgv q e2.symm;have:=(hg k hk q e).2;omega
 ·by_cases hki:k = i
  ·subst hki
   simp only [if_pos]
   exact keep T.o
  ·simp only [if_neg hki]
   have hki':k < i:=by omega
   refine keep (OwX.keep (S.w k hki') fun q e=>T.gr.block q (OwX.lt (S.w k hki') q e).2 fun e2=>?_)
   rcases S.s k hki' q e with h3 | h3
   ·exact ha k i (by omega) hi hki q h3 e2.symm
   ·have:=(hg i hi q e2.symm).2;omega
 ·by_cases hki:k = i
  ·subst hki
   simp only [if_pos] at e
   rcases T.s q e with h1 | h1
   ·exact .inl h1
   ·exact .inr (by omega)
  ·simp only [if_neg hki] at e
   exact S.s k (by omega) q e
 ·rw [G.block k (by omega) fun e=>by have:=hgv k e.symm;omega,T.gr.block k (by omega) fun e=>hne i hi e.symm]
  exact S.o k hk hne
theorem Fam.toB {W:World} {E LE:TypeId} {X base K:Nat} {v u:Nat -> Value} {n:Nat -> Nat} {C:Nat -> List Value} {D:Nat -> Value} (h:Fam W E base K v n C):FamB W W E LE X W.heap.size base K 0 v u n C D (.slice none 0 0):=
 ⟨Below.refl _ _,World.ownsRow_nil _ _ _ _,fun k _ hk=>h.f k hk,fun k hk=>RdV.of (h.f k hk),fun k hk=>absurd hk (by omega),fun k hk=>absurd hk (by omega),Nat.le_refl _,fun _ _ _=>rfl⟩
end Go.Proofs.YtmdjoaipkbnelaaGreat
