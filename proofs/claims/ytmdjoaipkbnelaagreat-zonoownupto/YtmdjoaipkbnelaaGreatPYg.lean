import Derived.Test.YtmdjoaipkbnelaaGreatPYf
set_option linter.unusedVariables false
set_option linter.unusedSimpArgs false
namespace Go.Proofs.YtmdjoaipkbnelaaGreat
open Go.RowKit Go.Shelf
theorem OwB.ox {W:World} {base n b:Nat} {us:List Nat} (h:OwB W base n b us):OwX W base 45 (slN n b) n (us.map (Value.float .f64)):=by
 obtain ⟨cur,hc⟩:=h.cur
 have hl:=h.rd.length
 have hmx:n <= maxLen:=h.rd.max
 have hat:∀ j,j < n -> cur[j]? = some (.float .f64 (us[j]?.getD 0)):=by
  intro j hj
  rcases h.rd.cells with h0 | ⟨g,off,he,hr⟩
  ·omega
  ·cases he
   have h1:=hr j hj
   rw [cell_of_row _ b _ _ _ _ hc,Nat.zero_add] at h1
   rw [h1,List.getElem?_eq_getElem (by omega)]
 have hsz:n <= cur.size:=by
  by_cases h0:n = 0
  ·omega
  ·have h1:=hat (n - 1) (by omega)
   have:=(Array.getElem?_eq_some_iff.1 h1).1
   omega
 refine ⟨by rw [List.length_map];exact hl,.inr ⟨b,n,cur,rfl,h.lo,hc,Nat.le_refl _,hmx,hsz,fun h9=>absurd h9 (by omega),?_⟩⟩
 refine List.ext_getElem? fun j=>?_
 rw [List.getElem?_take,List.getElem?_map]
 by_cases hj:j < n
 ·rw [if_pos hj,Array.getElem?_toList,hat j hj,List.getElem?_eq_getElem (by omega)]
  rfl
 ·rw [if_neg hj,List.getElem?_eq_none (by omega)]
  rfl
structure FamL (W:World) (E:TypeId) (base:Nat) (L:List Value):Prop where
 f:∀ v ∈ L,∃ n C,OwX W base E v n C /\ n <= 1100000
 a:L.Pairwise fun u v=>∀ q,u.ownBlock = some q -> v.ownBlock ≠ some q
theorem FamL.nil (W:World) (E:TypeId) (base:Nat):FamL W E base []:=⟨fun v hv=>absurd hv (by simp),List.Pairwise.nil⟩
theorem FamL.later {W W':World} {E:TypeId} {base:Nat} {L:List Value} (h:FamL W E base L) (hb:Below W.heap.size W W'):FamL W' E base L:=
 ⟨fun v hv=>by obtain ⟨n,C,h1,h2⟩:=h.f v hv;exact ⟨n,C,h1.keep fun k hk=>hb.block k (h1.lt k hk).2,h2⟩,h.a⟩
theorem FamL.lt {W:World} {E:TypeId} {base:Nat} {L:List Value} (h:FamL W E base L) {v:Value} (hv:v ∈ L) {q:Nat} (e:v.ownBlock = some q):base <= q /\ q < W.heap.size:=by
 obtain ⟨n,C,h1,_⟩:=h.f v hv
 exact h1.lt q e
theorem FamL.append {W:World} {E:TypeId} {b t:Nat} {L1 L2:List Value} (h1:FamL W E b L1) (h2:FamL W E t L2) (hbt:b <= t) (hlt:∀ v ∈ L1,∀ q,v.ownBlock = some q -> q < t):FamL W E b (L1 ++ L2):=by
 refine ⟨fun v hv=>?_,List.pairwise_append.2 ⟨h1.a,h2.a,fun u hu v hv q e1 e2=>?_⟩⟩
 ·rcases List.mem_append.1 hv with h | h
  ·exact h1.f v h
  ·obtain ⟨n,C,h3,h4⟩:=h2.f v h
   exact ⟨n,C,h3.monoF hbt,h4⟩
 ·have:=hlt u hu q e1
  have:=(h2.lt hv e2).1
  omega
theorem FamL.toFam {W:World} {E:TypeId} {base:Nat} {L:List Value} (h:FamL W E base L):∃ (v:Nat -> Value) (n:Nat -> Nat) (C:Nat -> List Value),Fam W E base L.length v n C /\ (∀ k,k < L.length -> n k <= 1100000) /\ (List.range L.length).map v = L:=by
 have hx:∀ k,∃ nC:Nat × List Value,k < L.length -> OwX W base E (L[k]?.getD (.slice none 0 0)) nC.1 nC.2 /\ nC.1 <= 1100000:=by
  intro k
  by_cases hk:k < L.length
  ·obtain ⟨n,C,h1,h2⟩:=h.f L[k] (List.getElem_mem hk)
   exact ⟨(n,C),fun _=>by rw [List.getElem?_eq_getElem hk];exact ⟨h1,h2⟩⟩
  ·exact ⟨(0,[]),fun h=>absurd h hk⟩
 obtain ⟨g,hg⟩:=Classical.axiomOfChoice hx
 refine ⟨fun k=>L[k]?.getD (.slice none 0 0),fun k=>(g k).1,fun k=>(g k).2,⟨fun k hk=>(hg k hk).1,fun i j hij hj q e=>?_⟩,fun k hk=>(hg k hk).2,?_⟩
 ·simp only [List.getElem?_eq_getElem hj,List.getElem?_eq_getElem (Nat.lt_trans hij hj),Option.getD_some] at e ⊢
  exact List.pairwise_iff_getElem.1 h.a i j (Nat.lt_trans hij hj) hj hij q e
 ·refine List.ext_getElem (by simp) fun k h1 h2=>?_
  simp only [List.getElem_map,List.getElem_range,List.getElem?_eq_getElem h2,Option.getD_some]
def OwnY (W:World) (base:Nat) (y:ZD):Prop:=(y.co = none /\ y.cn = 0 /\ y.cc = 0 /\ y.io = none /\ y.dn = 0 /\ y.dc = 0 /\ y.go = none /\ y.gn = 0 /\ y.gc = 0 /\ y.ro = none /\ y.rn = 0 /\ y.rc = 0) \/ FrY W base y
theorem OwnY.later {W W':World} {base:Nat} {y:ZD} (h:OwnY W base y) (hb:Below W.heap.size W W'):OwnY W' base y:=by
 rcases h with h | ⟨n,bc,br,vi,vg,gl,h1,h2⟩
 ·exact .inl h
 ·exact .inr ⟨n,bc,br,vi,vg,gl,h1,h2.later hb⟩
theorem FrL.gvL {W:World} {base:Nat} {y:ZD} {n bc br:Nat} {vi vg:Value} {gl:List Nat} (hz:ZR W y) (e:zRow y = #[.int .i64 y.N,slN n bc,vi,vg,slN n br,.bool y.bad]) (h:FrL W base n bc br y.cs y.rs y.ids y.gs vi vg gl):gvL y = gl.map (slN n):=by
 unfold zRow at e
 simp only [Array.mk.injEq,List.cons.injEq,and_true,true_and] at e
 obtain ⟨e1,e2,e3,e4⟩:=e
 have hg:=h.g
 have hgn:y.gn = gl.length:=by rw [<- hz.g.length,<- h.col.len]
 refine List.ext_getElem? fun j=>?_
 by_cases hj:j < gl.length
 ·have hjj:j < (gl.map (slN n)).length:=by simpa using hj
  rcases hz.g.cells with h0 | ⟨b,off,he,hc⟩
  ·omega
  ·rw [<- e3,he] at hg
   rcases hg.2 with ⟨h1,_⟩ | ⟨g,cap,cur,h1,_⟩
   ·cases h1
   ·rw [h1] at hg
    have e5:=(Value.slice.inj h1).1
    injection e5 with e5
    injection e5 with e5 e6
    subst e5 e6
    have c1:=hc j (by omega)
    have c2:=World.ownsRow.cellAt hg j (by rw [Nat.mul_one];exact hjj)
    rw [Nat.zero_add,c2] at c1
    unfold Go.Proofs.YtmdjoaipkbnelaaGreat.gvL
    rw [List.getElem?_map,List.getElem?_range (by omega),Option.map_some,c1]
 ·rw [List.getElem?_eq_none (by rw [gvL_len];omega),List.getElem?_eq_none (by simp;omega)]
theorem OwnY.fam {W:World} {base:Nat} {y:ZD} (hz:ZR W y) (h:OwnY W base y) (hn:y.cn <= 1100000):FamL W 45 base (lsV y):=by
 rcases h with ⟨h1,h2,h3,h4,h5,h6,h7,h8,h9,h10,h11,h12⟩ | ⟨n,bc,br,vi,vg,gl,e,h⟩
 ·have e1:lsV y = [.slice none 0 0,.slice none 0 0]:=by
   unfold lsV gvL
   rw [h1,h2,h3,h10,h11,h12,h8]
   rfl
  have hx:OwX W base 45 (.slice none 0 0) 0 []:=⟨rfl,.inl ⟨rfl,rfl⟩⟩
  rw [e1]
  refine ⟨fun v hv=>⟨0,[],?_,by omega⟩,?_⟩
  ·simp only [List.mem_cons,List.not_mem_nil,or_false,or_self] at hv
   rw [hv]
   exact hx
  ·simp [Value.ownBlock]
 ·have hgv:=FrL.gvL hz e h
  have e':=e
  unfold zRow at e'
  simp only [Array.mk.injEq,List.cons.injEq,and_true,true_and] at e'
  obtain ⟨e1,e2,e3,e4⟩:=e'
  have hcn:y.cn = n:=by unfold slN at e1;injection e1
  have el:lsV y = slN n bc :: slN n br :: gl.map (slN n):=by
   unfold lsV
   rw [hgv,e1,e4]
   rfl
  have hob:∀ b,(slN n b).ownBlock = some b:=fun b=>rfl
  rw [el]
  refine ⟨fun v hv=>?_,?_⟩
  ·simp only [List.mem_cons,List.mem_map] at hv
   rcases hv with rfl | rfl | ⟨b,hb,rfl⟩
   ·exact ⟨n,_,h.c.ox,by omega⟩
   ·exact ⟨n,_,h.r.ox,by omega⟩
   ·obtain ⟨j,hj,rfl⟩:=List.getElem_of_mem hb
    have h9:=h.col.row j hj
    rw [List.getElem?_eq_getElem hj] at h9
    exact ⟨n,_,OwB.ox h9,by omega⟩
  ·rw [List.pairwise_cons,List.pairwise_cons,List.pairwise_map]
   refine ⟨fun v hv q e1 e2=>?_,fun v hv q e1 e2=>?_,?_⟩
   ·cases e1
    simp only [List.mem_cons,List.mem_map] at hv
    rcases hv with rfl | ⟨b,hb,rfl⟩
    ·cases e2;exact h.cr rfl
    ·cases e2;exact h.cg hb
   ·cases e1
    obtain ⟨b,hb,rfl⟩:=List.mem_map.1 hv
    cases e2
    exact h.rg hb
   ·refine h.col.nodup.imp fun hne q e1 e2=>?_
    cases e1
    cases e2
    exact hne rfl
end Go.Proofs.YtmdjoaipkbnelaaGreat
