import Derived.Test.YtmdjoaipkbnelaaGreatPYj
set_option linter.unusedVariables false
set_option linter.unusedSimpArgs false
namespace Go.Proofs.YtmdjoaipkbnelaaGreat
open Go.RowKit Go.Shelf
structure Fr2 (W w':World) (r1 r2:Option Nat):Prop where
 os:w'.os = W.os
 tape:w'.tape = W.tape
 output:w'.output = W.output
 size:W.heap.size <= w'.heap.size
 block:∀ k,k < W.heap.size -> r1 ≠ some k -> r2 ≠ some k -> w'.heap[k]? = W.heap[k]?
theorem Fr2.refl (W:World) (r1 r2:Option Nat):Fr2 W W r1 r2:=⟨rfl,rfl,rfl,Nat.le_refl _,fun _ _ _ _=>rfl⟩
theorem Fr2.swap {W w':World} {r1 r2:Option Nat} (h:Fr2 W w' r1 r2):Fr2 W w' r2 r1:=⟨h.os,h.tape,h.output,h.size,fun k hk h1 h2=>h.block k hk h2 h1⟩
theorem Fr2.grow {Wy W w':World} {r1 r2 r:Option Nat} (h:Fr2 Wy W r1 r2) (g:W.grownBy w' r) (hr:∀ q,r = some q -> r1 = some q \/ Wy.heap.size <= q):Fr2 Wy w' r1 r2:=by
 refine ⟨g.os.trans h.os,g.tape.trans h.tape,g.output.trans h.output,Nat.le_trans h.size g.size,fun k hk h1 h2=>?_⟩
 have:=h.size
 refine (g.block k (by omega) fun e=>?_).trans (h.block k hk h1 h2)
 rcases hr k e.symm with h3 | h3
 ·exact h1 h3
 ·omega
theorem Fr2.below {W w':World} {r1 r2:Option Nat} {base:Nat} (h:Fr2 W w' r1 r2) (h1:∀ q,r1 = some q -> base <= q) (h2:∀ q,r2 = some q -> base <= q) (hb:base <= W.heap.size):Below base W w':=
 ⟨h.os,h.tape,h.output,h.size,fun k hk=>h.block k (by omega) (fun e=>by have:=h1 k e;omega) (fun e=>by have:=h2 k e;omega)⟩
structure FcG (Wy W:World) (E:TypeId) (base:Nat) (vi:Value) (ni:Nat) (Ci ds:List Value) (j:Nat) (uu:Value):Prop where
 l:ds.length = j
 c:Ci.length = ni
 o:OwX W base E uu (ni + j) (Ci ++ ds)
 s:∀ q,uu.ownBlock = some q -> vi.ownBlock = some q \/ Wy.heap.size <= q
 r:RdV W vi Ci
 t:∀ q,vi.ownBlock = some q -> ∃ cur,W.heap[q]? = some (.cells cur E)
theorem FcG.begin {W:World} {E:TypeId} {base:Nat} {vi:Value} {ni:Nat} {Ci:List Value} (h:OwX W base E vi ni Ci):FcG W W E base vi ni Ci [] 0 vi:=
 ⟨rfl,h.1,by rw [List.append_nil];exact h,fun q e=>.inl e,RdV.of h,fun q e=>h.ty q e⟩
theorem FcG.other {Wy W w':World} {E:TypeId} {base:Nat} {vi uu:Value} {ni j:Nat} {Ci ds:List Value} {r:Option Nat} (h:FcG Wy W E base vi ni Ci ds j uu) (g:W.grownBy w' r) (hr:∀ q,r = some q -> ∃ cur t,W.heap[q]? = some (.cells cur t) /\ t ≠ E):FcG Wy w' E base vi ni Ci ds j uu:=by
 have keep:∀ q:Nat,(∃ cur,W.heap[q]? = some (Obj.cells cur E)) -> w'.heap[q]? = W.heap[q]?:=by
  rintro q ⟨cur,hc⟩
  refine g.block q (blk_lt hc) fun e=>?_
  obtain ⟨c2,t,h2,h3⟩:=hr q e.symm
  rw [hc] at h2
  injection h2 with h2
  injection h2 with _ h2
  exact h3 h2.symm
 exact ⟨h.l,h.c,h.o.keep fun q e=>keep q (h.o.ty q e),h.s,h.r.keep fun q e _=>keep q (h.t q e),fun q e=>by obtain ⟨cur,hc⟩:=h.t q e;exact ⟨cur,(keep q ⟨cur,hc⟩).trans hc⟩⟩
theorem FcG.step {Wy W w':World} {E:TypeId} {base:Nat} {vi uu v':Value} {ni j:Nat} {Ci ds:List Value} {d:Value} (h:FcG Wy W E base vi ni Ci ds j uu) (hz:Wy.heap.size <= W.heap.size) (o':w'.ownsRow base E 1 v' (ni + j + 1) ((Ci ++ ds) ++ [d])) (g':Grx W w' uu.ownBlock v'.ownBlock):FcG Wy w' E base vi ni Ci (ds ++ [d]) (j + 1) v':=by
 have o2:OwX w' base E v' (ni + (j + 1)) (Ci ++ (ds ++ [d])):=by
  rw [List.append_assoc] at o'
  exact OwX.of o'
 have G:=g'.by'
 have tt:∀ q,vi.ownBlock = some q -> ∃ cur,w'.heap[q]? = some (.cells cur E):=by
  intro q e
  obtain ⟨cur,hc⟩:=h.t q e
  by_cases hq:uu.ownBlock = some q
  ·rcases g' with ⟨g1,g2⟩ | ⟨g1,_⟩
   ·exact o2.ty q (g2.trans hq)
   ·exact ⟨cur,(g1.block q (blk_lt hc) (by simp)).trans hc⟩
  ·exact ⟨cur,(G.block q (blk_lt hc) fun e2=>hq e2.symm).trans hc⟩
 have rd:RdV w' vi Ci:=by
  by_cases hv:∃ q,vi.ownBlock = some q /\ uu.ownBlock = some q
  ·obtain ⟨q,e1,e2⟩:=hv
   rcases g' with ⟨g1,g2⟩ | ⟨g1,_⟩
   ·rw [e2] at g2
    rintro a l c rfl j' u hj'
    cases e1
    obtain ⟨ao,cap,h2,_,_⟩:=o2.formF
    rw [h2] at g2
    obtain ⟨x,h3⟩:∃ x,ao = some ⟨a,0,none⟩:=by
     rcases o2.2 with ⟨h4,_⟩ | ⟨g,cap2,cur,h4,_⟩
     ·rw [h2] at h4;cases h4
     ·rw [h2] at h4;cases h4;cases g2;exact ⟨0,rfl⟩
    have hl':=(List.getElem?_eq_some_iff.1 hj').1
    have hcl:=h.c
    rw [o2.cellF (by rw [h2,h3]) (by omega),List.getElem?_append_left hl']
    exact hj'
   ·exact h.r.keep fun k _ hk=>g1.block k hk (by simp)
  ·exact h.r.keep fun k e hk=>G.block k hk fun e2=>hv ⟨k,e,e2.symm⟩
 refine ⟨by rw [List.length_append,h.l];rfl,h.c,o2,fun q e=>?_,rd,tt⟩
 rcases g' with ⟨_,g2⟩ | ⟨_,g2⟩
 ·exact h.s q (g2 ▸ e)
 ·exact .inr (by have:=g2 q e;omega)
structure FbG (W:World) (E LE:TypeId) (X H base K i:Nat) (v u:Nat -> Value) (n:Nat -> Nat) (C D:Nat -> List Value) (gv:Value):Prop where
 l:W.ownsRow H LE 1 gv i ((List.range i).map u)
 f:∀ k,i <= k -> k < K -> OwX W base E (v k) (n k) (C k)
 r:∀ k,k < K -> RdV W (v k) (C k)
 w:∀ k,k < i -> (D k).length = X /\ OwX W base E (u k) (n k + X) (C k ++ D k)
 s:∀ k,k < i -> ∀ q,(u k).ownBlock = some q -> (v k).ownBlock = some q \/ H <= q
 t:∀ k,k < K -> ∀ q,(v k).ownBlock = some q -> ∃ cur,W.heap[q]? = some (Obj.cells cur E)
theorem Fam.toG {W:World} {E LE:TypeId} {X H base K:Nat} {v u:Nat -> Value} {n:Nat -> Nat} {C D:Nat -> List Value} (h:Fam W E base K v n C):FbG W E LE X H base K 0 v u n C D (.slice none 0 0):=
 ⟨World.ownsRow_nil _ _ _ _,fun k _ hk=>h.f k hk,fun k hk=>RdV.of (h.f k hk),fun k hk=>absurd hk (by omega),fun k hk=>absurd hk (by omega),fun k hk q e=>(h.f k hk).ty q e⟩
theorem FbG.other {W w':World} {E LE:TypeId} {X H base K i:Nat} {v u:Nat -> Value} {n:Nat -> Nat} {C D:Nat -> List Value} {gv:Value} {r:Option Nat} (S:FbG W E LE X H base K i v u n C D gv) (g:W.grownBy w' r) (hr:∀ q,r = some q -> ∃ cur t,W.heap[q]? = some (Obj.cells cur t) /\ t ≠ E /\ t ≠ LE):FbG w' E LE X H base K i v u n C D gv:=by
 have keep:∀ (q:Nat) (cur:Array Value) (t:TypeId),W.heap[q]? = some (Obj.cells cur t) -> t = E \/ t = LE -> w'.heap[q]? = W.heap[q]?:=by
  intro q cur t hc ht
  refine g.block q (blk_lt hc) fun e=>?_
  obtain ⟨c2,t2,h2,h3,h4⟩:=hr q e.symm
  rw [hc] at h2
  injection h2 with h2
  injection h2 with _ h2
  subst h2
  rcases ht with ht | ht
  ·exact h3 ht
  ·exact h4 ht
 have kx:∀ {N:Nat} {x:Value} {xs:List Value},OwX W base E x N xs -> OwX w' base E x N xs:=fun hx=>hx.keep fun q e=>by obtain ⟨cur,hc⟩:=hx.ty q e;exact keep q cur E hc (.inl rfl)
 refine ⟨owns_keep S.l fun q e=>?_,fun k hk hkK=>kx (S.f k hk hkK),fun k hk=>(S.r k hk).keep fun q e _=>?_,fun k hk=>⟨(S.w k hk).1,kx (S.w k hk).2⟩,S.s,fun k hk q e=>?_⟩
 ·obtain ⟨cur,hc⟩:=owns_type S.l e
  exact keep q cur LE hc (.inr rfl)
 ·obtain ⟨cur,hc⟩:=S.t k hk q e
  exact keep q cur E hc (.inl rfl)
 ·obtain ⟨cur,hc⟩:=S.t k hk q e
  exact ⟨cur,(keep q cur E hc (.inl rfl)).trans hc⟩
theorem FbG.next {Wy W w':World} {E LE:TypeId} (hEL:E ≠ LE) {X H base K i:Nat} {v u:Nat -> Value} {n:Nat -> Nat} {C D:Nat -> List Value} {gv gv' uu:Value} {ds:List Value} {r2:Option Nat} (S:FbG Wy E LE X H base K i v u n C D gv) (F:Fr2 Wy W (v i).ownBlock r2) (hr2:∀ q,r2 = some q -> ∃ cur t,Wy.heap[q]? = some (Obj.cells cur t) /\ t ≠ E /\ t ≠ LE)
  (T:FcG Wy W E base (v i) (n i) (C i) ds X uu) (hi:i < K) (hg:∀ k,k < K -> ∀ q,(v k).ownBlock = some q -> base <= q /\ q < H) (ha:∀ i j,i < K -> j < K -> i ≠ j -> ∀ q,(v i).ownBlock = some q -> (v j).ownBlock ≠ some q) (hH:H <= Wy.heap.size)
  (o':w'.ownsRow H LE 1 gv' (i + 1) ((List.range i).map u ++ [uu])) (g':Grx W w' gv.ownBlock gv'.ownBlock):FbG w' E LE X H base K (i + 1) v (fun k=>if k = i then uu else u k) n C (fun k=>if k = i then ds else D k) gv':=by
 have G:=g'.by'
 have hgv:∀ k,gv.ownBlock = some k -> H <= k:=fun k hk=>(World.ownsRow.lt S.l k hk).1
 have keepY:∀ (q:Nat) (cur:Array Value) (t:TypeId),Wy.heap[q]? = some (Obj.cells cur t) -> t = E \/ t = LE -> (v i).ownBlock ≠ some q -> W.heap[q]? = Wy.heap[q]?:=by
  intro q cur t hc ht hq
  refine F.block q (blk_lt hc) hq fun e=>?_
  obtain ⟨c2,t2,h2,h3,h4⟩:=hr2 q e
  rw [hc] at h2
  injection h2 with h2
  injection h2 with _ h2
  subst h2
  rcases ht with ht | ht
  ·exact h3 ht
  ·exact h4 ht
 have hlw:W.ownsRow H LE 1 gv i ((List.range i).map u):=owns_keep S.l fun q e=>by
  obtain ⟨cur,hc⟩:=owns_type S.l e
  exact keepY q cur LE hc (.inr rfl) fun e2=>by have:=(hg i hi q e2).2;have:=hgv q e;omega
 have keepW:∀ (q:Nat) (cur:Array Value),W.heap[q]? = some (Obj.cells cur E) -> w'.heap[q]? = W.heap[q]?:=by
  intro q cur hc
  refine G.block q (blk_lt hc) fun e=>?_
  obtain ⟨c2,h2⟩:=owns_type hlw e.symm
  rw [hc] at h2
  injection h2 with h2
  injection h2 with _ h2
  exact hEL h2
 have kx:∀ {N:Nat} {x:Value} {xs:List Value},OwX W base E x N xs -> OwX w' base E x N xs:=fun hx=>hx.keep fun q e=>by obtain ⟨cur,hc⟩:=hx.ty q e;exact keepW q cur hc
 have tw:∀ k,k < K -> ∀ q,(v k).ownBlock = some q -> ∃ cur,W.heap[q]? = some (Obj.cells cur E):=by
  intro k hk q e
  by_cases hki:k = i
  ·subst hki;exact T.t q e
  ·obtain ⟨cur,hc⟩:=S.t k hk q e
   exact ⟨cur,(keepY q cur E hc (.inl rfl) fun e2=>ha k i hk hi hki q e e2).trans hc⟩
 refine ⟨?_,fun k hk hkK=>?_,fun k hk=>?_,fun k hk=>?_,fun k hk q e=>?_,fun k hk q e=>?_⟩
 ·have e1:(List.range (i + 1)).map (fun k=>if k = i then uu else u k) = (List.range i).map u ++ [uu]:=by
   rw [List.range_succ,List.map_append]
   congr 1
   ·refine List.map_congr_left fun k hk=>?_
    rw [if_neg (by have:=List.mem_range.1 hk;omega)]
   ·simp
  rw [e1]
  exact o'
 ·have h1:=S.f k (by omega) hkK
  exact kx (h1.keep fun q e=>by obtain ⟨cur,hc⟩:=h1.ty q e;exact keepY q cur E hc (.inl rfl) fun e2=>ha k i hkK hi (by omega) q e e2)
 ·have h1:RdV W (v k) (C k):=by
   by_cases hki:k = i
   ·subst hki;exact T.r
   ·exact (S.r k hk).keep fun q e _=>by obtain ⟨cur,hc⟩:=S.t k hk q e;exact keepY q cur E hc (.inl rfl) fun e2=>ha k i hk hi hki q e e2
  exact h1.keep fun q e _=>by obtain ⟨cur,hc⟩:=tw k hk q e;exact keepW q cur hc
 ·by_cases hki:k = i
  ·subst hki
   simp only [if_pos]
   exact ⟨T.l,kx T.o⟩
  ·simp only [if_neg hki]
   have hki':k < i:=by omega
   have h1:=(S.w k hki').2
   refine ⟨(S.w k hki').1,kx (h1.keep fun q e=>?_)⟩
   obtain ⟨cur,hc⟩:=h1.ty q e
   refine keepY q cur E hc (.inl rfl) fun e2=>?_
   rcases S.s k hki' q e with h3 | h3
   ·exact ha k i (by omega) hi hki q h3 e2
   ·have:=(hg i hi q e2).2;omega
 ·by_cases hki:k = i
  ·subst hki
   simp only [if_pos] at e
   rcases T.s q e with h1 | h1
   ·exact .inl h1
   ·exact .inr (by omega)
  ·simp only [if_neg hki] at e
   exact S.s k (by omega) q e
 ·obtain ⟨cur,hc⟩:=tw k hk q e
  exact ⟨cur,(keepW q cur hc).trans hc⟩
end Go.Proofs.YtmdjoaipkbnelaaGreat
