import Derived.Test.YtmdjoaipkbnelaaGreatPYk
set_option linter.unusedVariables false
set_option linter.unusedSimpArgs false
namespace Go.Proofs.YtmdjoaipkbnelaaGreat
open Go.RowKit Go.Shelf
def zsL (ys:List ZD):List Value:=ys.flatMap fun y=>(zRow y).toList
theorem zsL_cons (y:ZD) (ys:List ZD):zsL (y :: ys) = (zRow y).toList ++ zsL ys:=rfl
theorem zsL_app (xs ys:List ZD):zsL (xs ++ ys) = zsL xs ++ zsL ys:=by unfold zsL;rw [List.flatMap_append]
theorem zsL_len (ys:List ZD):(zsL ys).length = ys.length * 6:=by
 induction ys with
 | nil=>rfl
 | cons y ys ih=>rw [zsL_cons,List.length_append,ih,List.length_cons];show 6 + _ = _;omega
theorem zsL_at (ys:List ZD):∀ (i f:Nat) (h:i < ys.length),f < 6 -> (zsL ys)[i * 6 + f]? = (zRow ys[i])[f]?:=by
 induction ys with
 | nil=>intro i f h;exact absurd h (Nat.not_lt_zero _)
 | cons y ys ih=>
  intro i f h hf
  rw [zsL_cons]
  cases i with
  | zero=>rw [List.getElem?_append_left (by show 0 * 6 + f < 6;omega),Nat.zero_mul,Nat.zero_add,Array.getElem?_toList];rfl
  | succ i=>
   rw [List.getElem?_append_right (by show 6 <= _;omega),show (i + 1) * 6 + f - (zRow y).toList.length = i * 6 + f by show (i + 1) * 6 + f - 6 = _;omega]
   exact ih i f (by simpa using h) hf
theorem RdZs.of {W:World} {E:TypeId} {b I0 cp:Nat} {ys:List ZD} (h:W.ownsRow b E 6 (.slice (some ⟨I0,0,none⟩) ys.length cp) ys.length (zsL ys)):RdZs W I0 ys:=by
 refine ⟨fun i hi=>?_⟩
 have c:=fun f (hf:f < 6)=>(World.ownsRow.cellAt h (i * 6 + f) (by omega)).trans (zsL_at ys i f hi hf)
 exact ⟨c 1 (by omega),c 2 (by omega),c 3 (by omega),c 4 (by omega)⟩
structure FbM (W:World) (E LE:TypeId) (X H base K i:Nat) (v u:Nat -> Value) (n:Nat -> Nat) (C D:Nat -> List Value) (uu:Value) (ds:List Value) (gv:Value):Prop where
 l:W.ownsRow H LE 1 gv i ((List.range i).map u)
 f:∀ k,i < k -> k < K -> OwX W base E (v k) (n k) (C k)
 r:∀ k,k < K -> RdV W (v k) (C k)
 w:∀ k,k < i -> (D k).length = X /\ OwX W base E (u k) (n k + X) (C k ++ D k)
 wi:ds.length = X /\ OwX W base E uu (n i + X) (C i ++ ds)
 s:∀ k,k < i -> ∀ q,(u k).ownBlock = some q -> (v k).ownBlock = some q \/ H <= q
 si:∀ q,uu.ownBlock = some q -> (v i).ownBlock = some q \/ H <= q
 t:∀ k,k < K -> ∀ q,(v k).ownBlock = some q -> ∃ cur,W.heap[q]? = some (Obj.cells cur E)
theorem FbG.mid {Wy W:World} {E LE:TypeId} {X H base K i:Nat} {v u:Nat -> Value} {n:Nat -> Nat} {C D:Nat -> List Value} {gv uu:Value} {ds:List Value} {r2:Option Nat} (S:FbG Wy E LE X H base K i v u n C D gv) (F:Fr2 Wy W (v i).ownBlock r2) (hr2:∀ q,r2 = some q -> ∃ cur t,Wy.heap[q]? = some (Obj.cells cur t) /\ t ≠ E /\ t ≠ LE)
  (T:FcG Wy W E base (v i) (n i) (C i) ds X uu) (hi:i < K) (hg:∀ k,k < K -> ∀ q,(v k).ownBlock = some q -> base <= q /\ q < H) (ha:∀ i j,i < K -> j < K -> i ≠ j -> ∀ q,(v i).ownBlock = some q -> (v j).ownBlock ≠ some q) (hH:H <= Wy.heap.size):FbM W E LE X H base K i v u n C D uu ds gv:=by
 have hgv:∀ k,gv.ownBlock = some k -> H <= k:=fun k hk=>(World.ownsRow.lt S.l k hk).1
 have keepY:∀ (q:Nat) (cur:Array Value) (t:TypeId),Wy.heap[q]? = some (Obj.cells cur t) -> t = E \/ t = LE -> (v i).ownBlock ≠ some q -> W.heap[q]? = Wy.heap[q]?:=by
  intro q cur t hc ht hq
  refine F.block q (blk_lt hc) hq fun e=>?_
  obtain ⟨c2,t2,h2,h3,h4⟩:=hr2 q e
  rw [hc] at h2
  injection h2 with h2
  injection h2 with _ h2
  subst h2
  rcases ht with ht | ht
  ·exact h3 ht
  ·exact h4 ht
 refine ⟨owns_keep S.l fun q e=>?_,fun k hk hkK=>?_,fun k hk=>?_,fun k hk=>?_,⟨T.l,T.o⟩,S.s,fun q e=>?_,fun k hk q e=>?_⟩
 ·obtain ⟨cur,hc⟩:=owns_type S.l e
  exact keepY q cur LE hc (.inr rfl) fun e2=>by have:=(hg i hi q e2).2;have:=hgv q e;omega
 ·have h1:=S.f k (by omega) hkK
  exact h1.keep fun q e=>by obtain ⟨cur,hc⟩:=h1.ty q e;exact keepY q cur E hc (.inl rfl) fun e2=>ha k i hkK hi (by omega) q e e2
 ·by_cases hki:k = i
  ·subst hki;exact T.r
  ·exact (S.r k hk).keep fun q e _=>by obtain ⟨cur,hc⟩:=S.t k hk q e;exact keepY q cur E hc (.inl rfl) fun e2=>ha k i hk hi hki q e e2
 ·have h1:=(S.w k hk).2
  refine ⟨(S.w k hk).1,h1.keep fun q e=>?_⟩
  obtain ⟨cur,hc⟩:=h1.ty q e
  refine keepY q cur E hc (.inl rfl) fun e2=>?_
  rcases S.s k hk q e with h3 | h3
  ·exact ha k i (by omega) hi (by omega) q h3 e2
  ·have:=(hg i hi q e2).2;omega
 ·rcases T.s q e with h1 | h1
  ·exact .inl h1
  ·exact .inr (by omega)
 ·by_cases hki:k = i
  ·subst hki;exact T.t q e
  ·obtain ⟨cur,hc⟩:=S.t k hk q e
   exact ⟨cur,(keepY q cur E hc (.inl rfl) fun e2=>ha k i hk hi hki q e e2).trans hc⟩
theorem FbM.other {W w':World} {E LE:TypeId} {X H base K i:Nat} {v u:Nat -> Value} {n:Nat -> Nat} {C D:Nat -> List Value} {gv uu:Value} {ds:List Value} {r:Option Nat} (S:FbM W E LE X H base K i v u n C D uu ds gv) (g:W.grownBy w' r) (hr:∀ q,r = some q -> ∃ cur t,W.heap[q]? = some (Obj.cells cur t) /\ t ≠ E /\ t ≠ LE):FbM w' E LE X H base K i v u n C D uu ds gv:=by
 have keep:∀ (q:Nat) (cur:Array Value) (t:TypeId),W.heap[q]? = some (Obj.cells cur t) -> t = E \/ t = LE -> w'.heap[q]? = W.heap[q]?:=by
  intro q cur t hc ht
  refine g.block q (blk_lt hc) fun e=>?_
  obtain ⟨c2,t2,h2,h3,h4⟩:=hr q e.symm
  rw [hc] at h2
  injection h2 with h2
  injection h2 with _ h2
  subst h2
  rcases ht with ht | ht
  ·exact h3 ht
  ·exact h4 ht
 have kx:∀ {N:Nat} {x:Value} {xs:List Value},OwX W base E x N xs -> OwX w' base E x N xs:=fun hx=>hx.keep fun q e=>by obtain ⟨cur,hc⟩:=hx.ty q e;exact keep q cur E hc (.inl rfl)
 refine ⟨owns_keep S.l fun q e=>?_,fun k hk hkK=>kx (S.f k hk hkK),fun k hk=>(S.r k hk).keep fun q e _=>?_,fun k hk=>⟨(S.w k hk).1,kx (S.w k hk).2⟩,⟨S.wi.1,kx S.wi.2⟩,S.s,S.si,fun k hk q e=>?_⟩
 ·obtain ⟨cur,hc⟩:=owns_type S.l e
  exact keep q cur LE hc (.inr rfl)
 ·obtain ⟨cur,hc⟩:=S.t k hk q e
  exact keep q cur E hc (.inl rfl)
 ·obtain ⟨cur,hc⟩:=S.t k hk q e
  exact ⟨cur,(keep q cur E hc (.inl rfl)).trans hc⟩
theorem FbM.push {W w':World} {E LE:TypeId} (hEL:E ≠ LE) {X H base K i:Nat} {v u:Nat -> Value} {n:Nat -> Nat} {C D:Nat -> List Value} {gv gv' uu:Value} {ds:List Value} (S:FbM W E LE X H base K i v u n C D uu ds gv)
  (o':w'.ownsRow H LE 1 gv' (i + 1) ((List.range i).map u ++ [uu])) (g':Grx W w' gv.ownBlock gv'.ownBlock):FbG w' E LE X H base K (i + 1) v (fun k=>if k = i then uu else u k) n C (fun k=>if k = i then ds else D k) gv':=by
 have G:=g'.by'
 have keepW:∀ (q:Nat) (cur:Array Value),W.heap[q]? = some (Obj.cells cur E) -> w'.heap[q]? = W.heap[q]?:=by
  intro q cur hc
  refine G.block q (blk_lt hc) fun e=>?_
  obtain ⟨c2,h2⟩:=owns_type S.l e.symm
  rw [hc] at h2
  injection h2 with h2
  injection h2 with _ h2
  exact hEL h2
 have kx:∀ {N:Nat} {x:Value} {xs:List Value},OwX W base E x N xs -> OwX w' base E x N xs:=fun hx=>hx.keep fun q e=>by obtain ⟨cur,hc⟩:=hx.ty q e;exact keepW q cur hc
 refine ⟨?_,fun k hk hkK=>kx (S.f k (by omega) hkK),fun k hk=>(S.r k hk).keep fun q e _=>?_,fun k hk=>?_,fun k hk q e=>?_,fun k hk q e=>?_⟩
 ·have e1:(List.range (i + 1)).map (fun k=>if k = i then uu else u k) = (List.range i).map u ++ [uu]:=by
   rw [List.range_succ,List.map_append]
   congr 1
   ·refine List.map_congr_left fun k hk=>?_
    rw [if_neg (by have:=List.mem_range.1 hk;omega)]
   ·simp
  rw [e1]
  exact o'
 ·obtain ⟨cur,hc⟩:=S.t k hk q e
  exact keepW q cur hc
 ·by_cases hki:k = i
  ·subst hki
   simp only [if_pos]
   exact ⟨S.wi.1,kx S.wi.2⟩
  ·simp only [if_neg hki]
   exact ⟨(S.w k (by omega)).1,kx (S.w k (by omega)).2⟩
 ·by_cases hki:k = i
  ·subst hki
   simp only [if_pos] at e
   exact S.si q e
  ·simp only [if_neg hki] at e
   exact S.s k (by omega) q e
 ·obtain ⟨cur,hc⟩:=S.t k hk q e
  exact ⟨cur,(keepW q cur hc).trans hc⟩
end Go.Proofs.YtmdjoaipkbnelaaGreat
