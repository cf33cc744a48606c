import Derived.Shelf.SlIterI.Nil
import Derived.Shelf.SlIterI.Stops
import Derived.Shelf.SortM.Plain
import Derived.Shelf.SortM.SortNone
import Derived.Maps.OwnSet
import Derived.Maps.OwnOps
import Derived.Maps.Range
import Derived.Test.YtmdjoaipkbnelaaGreatPPb10
set_option linter.unusedVariables false
set_option linter.unusedSimpArgs false
namespace Go.Proofs.YtmdjoaipkbnelaaGreat
open Go.RowKit Go.Shelf
def elR (v:Value):Option (DataW Value × List MemPlace):=some (.held v,[])
def KL (id:Int):Lit:=.int .i64 id
theorem KL_key (id:Int):WideAt.IsKeyLit (KL id):=trivial
theorem KL_ne {x y:Int} (h:x ≠ y):KL x ≠ KL y:=fun e=>h (by unfold KL at e;injection e)
def colS (z:ZD) (nz:Value) (p:List Nat) (id:Int):Value:=if z.ids.findIdx (· == id) ∈ p then .slice (z.gv (z.ids.findIdx (· == id))).1 (z.gv (z.ids.findIdx (· == id))).2.1 (z.gv (z.ids.findIdx (· == id))).2.2 else nz
def idL (z:ZD) (p:List Nat):List Int:=p.map fun j=>z.ids[j]?.getD 0
theorem idL_snoc (z:ZD) (p:List Nat) (k:Nat):idL z (p ++ [k]) = idL z p ++ [z.ids[k]?.getD 0]:=by unfold idL;simp
theorem idL_range (z:ZD):idL z (List.range z.ids.length) = z.ids:=by
 unfold idL
 apply List.ext_getElem
 ·simp
 ·intro i h1 h2
  simp [List.getElem?_eq_getElem h2]
theorem idx_at {l:List Int} (hr:l.Pairwise (· < ·)) {k:Nat} (hk:k < l.length):l.findIdx (· == l[k]) = k:=by
 have h1:l.findIdx (· == l[k]) < l.length:=List.findIdx_lt_length.2 ⟨l[k],List.getElem_mem hk,by simp⟩
 have h2:=List.findIdx_getElem (p:=(· == l[k])) (xs:=l) (w:=h1)
 simp only [beq_iff_eq] at h2
 rcases Nat.lt_trichotomy (l.findIdx (· == l[k])) k with c | c | c
 ·have:=List.pairwise_iff_getElem.1 hr _ _ h1 hk c;omega
 ·exact c
 ·have:=List.pairwise_iff_getElem.1 hr _ _ hk h1 c;omega
theorem idx_ne {l:List Int} {k:Nat} (hk:k < l.length) {id:Int} (h:id ≠ l[k]):l.findIdx (· == id) ≠ k:=fun e=>by
 have h1:l.findIdx (· == id) < l.length:=by omega
 have h2:=List.findIdx_getElem (p:=(· == id)) (xs:=l) (w:=h1)
 simp only [beq_iff_eq] at h2
 subst e
 exact h h2.symm
theorem colS_nil (z:ZD) (nz:Value) (id:Int):colS z nz [] id = nz:=by unfold colS;rw [if_neg List.not_mem_nil]
theorem colS_at {z:ZD} {nz:Value} (hr:z.ids.Pairwise (· < ·)) {k:Nat} (hk:k < z.ids.length) {p:List Nat} (hm:k ∈ p):colS z nz p z.ids[k] = .slice (z.gv k).1 (z.gv k).2.1 (z.gv k).2.2:=by
 unfold colS
 rw [idx_at hr hk,if_pos hm]
theorem colS_ne {z:ZD} {nz:Value} {k:Nat} (hk:k < z.ids.length) {id:Int} (h:id ≠ z.ids[k]) (p:List Nat):colS z nz (p ++ [k]) id = colS z nz p id:=by
 have:=idx_ne hk h
 unfold colS
 by_cases c:z.ids.findIdx (· == id) ∈ p
 ·rw [if_pos c,if_pos (List.mem_append.2 (.inl c))]
 ·rw [if_neg c,if_neg]
  intro hx
  rcases List.mem_append.1 hx with hx | hx
  ·exact c hx
  ·exact this (List.mem_singleton.1 hx)
theorem colS_no {z:ZD} {nz:Value} {id:Int} {p:List Nat} (hp:∀ j ∈ p,j < z.ids.length) (h:id ∉ idL z p):colS z nz p id = nz:=by
 unfold colS
 rw [if_neg]
 intro c
 have h1:=hp _ c
 have h2:=List.findIdx_getElem (p:=(· == id)) (xs:=z.ids) (w:=h1)
 simp only [beq_iff_eq] at h2
 refine h (List.mem_map.2 ⟨_,c,?_⟩)
 rw [List.getElem?_eq_getElem h1,Option.getD_some]
 exact h2
structure PrM (a b:ZD) (nz:Value) (pa pb:List Nat) (D:DataW Value):Prop where
 map:Maps.IsMap D
 la:∀ j ∈ pa,j < a.ids.length
 lb:∀ j ∈ pb,j < b.ids.length
 has:∀ id,Maps.has D (KL id) = (decide (id ∈ idL a pa) || decide (id ∈ idL b pb))
 at':∀ id,Maps.has D (KL id) = true -> ∀ z,D.atKey (KL id) z = .held (.agg #[colS a nz pa id,colS b nz pb id])
theorem PrM.nil (a b:ZD) (nz:Value):PrM a b nz [] [] (.map []):=⟨Maps.isMap_empty,by simp,by simp,fun id=>by simp [Maps.has,idL],fun id h=>by simp [Maps.has] at h⟩
theorem mem_snoc1 {l:List Int} {y id:Int}:decide (id ∈ l ++ [y]) = (decide (id ∈ l) || decide (id = y)):=by
 simp only [List.mem_append,List.mem_singleton,Bool.decide_or]
theorem PrM.stepA {a b:ZD} {nz:Value} {pa:List Nat} {k:Nat} {D:DataW Value} (h:PrM a b nz pa [] D) (hr:a.ids.Pairwise (· < ·)) (hk:k < a.ids.length):PrM a b nz (pa ++ [k]) [] (D.put (KL a.ids[k]) (.held (.agg #[.slice (a.gv k).1 (a.gv k).2.1 (a.gv k).2.2,nz]))):=by
 have ek:a.ids[k]?.getD 0 = a.ids[k]:=by rw [List.getElem?_eq_getElem hk];rfl
 refine ⟨h.map.put _ _,fun j hj=>?_,h.lb,fun id=>?_,fun id hh z=>?_⟩
 ·rcases List.mem_append.1 hj with hj | hj
  ·exact h.la j hj
  ·rw [List.mem_singleton.1 hj];exact hk
 ·by_cases e:id = a.ids[k]
  ·rw [e,Maps.has_put_same h.map (KL_key _),idL_snoc,ek,mem_snoc1];simp
  ·rw [Maps.has_put_other (KL_ne e),h.has,idL_snoc,ek,mem_snoc1];simp [e]
 ·by_cases e:id = a.ids[k]
  ·rw [e,Maps.atKey_put_same h.map (KL_key _),colS_at hr hk (List.mem_append.2 (.inr (List.mem_singleton.2 rfl))),colS_nil]
  ·rw [Maps.has_put_other (KL_ne e)] at hh
   rw [Maps.atKey_put_other (KL_ne e),h.at' id hh z,colS_ne hk e]
theorem PrM.stepB {a b:ZD} {nz:Value} {pa pb:List Nat} {k:Nat} {D:DataW Value} (h:PrM a b nz pa pb D) (hr:b.ids.Pairwise (· < ·)) (hk:k < b.ids.length):PrM a b nz pa (pb ++ [k]) (D.put (KL b.ids[k]) (.held (.agg #[colS a nz pa b.ids[k],.slice (b.gv k).1 (b.gv k).2.1 (b.gv k).2.2]))):=by
 have ek:b.ids[k]?.getD 0 = b.ids[k]:=by rw [List.getElem?_eq_getElem hk];rfl
 refine ⟨h.map.put _ _,h.la,fun j hj=>?_,fun id=>?_,fun id hh z=>?_⟩
 ·rcases List.mem_append.1 hj with hj | hj
  ·exact h.lb j hj
  ·rw [List.mem_singleton.1 hj];exact hk
 ·by_cases e:id = b.ids[k]
  ·rw [e,Maps.has_put_same h.map (KL_key _),idL_snoc,ek,mem_snoc1];simp
  ·rw [Maps.has_put_other (KL_ne e),h.has,idL_snoc,ek,mem_snoc1];simp [e]
 ·by_cases e:id = b.ids[k]
  ·rw [e,Maps.atKey_put_same h.map (KL_key _),colS_at hr hk (List.mem_append.2 (.inr (List.mem_singleton.2 rfl)))]
  ·rw [Maps.has_put_other (KL_ne e)] at hh
   rw [Maps.atKey_put_other (KL_ne e),h.at' id hh z,colS_ne hk e]
theorem PrM.look {a b:ZD} {nz v zv:Value} {pa pb:List Nat} {D:DataW Value} {y:Int} {ps:List MemPlace} (h:PrM a b nz pa pb D) (hv:elR v = some (D.atKey (KL y) (.held zv),ps)) :
  (Maps.has D (KL y) = true /\ v = .agg #[colS a nz pa y,colS b nz pb y]) \/ (Maps.has D (KL y) = false /\ v = zv /\ colS a nz pa y = nz):=by
 unfold elR at hv
 injection hv with hv
 injection hv with hv
 cases hh:Maps.has D (KL y) with
 | true=>
  rw [h.at' _ hh] at hv
  injection hv with hv
  exact .inl ⟨rfl,hv⟩
 | false=>
  rw [Maps.atKey_of_not_has hh] at hv
  injection hv with hv
  refine .inr ⟨rfl,hv,colS_no h.la fun hx=>?_⟩
  rw [h.has,decide_eq_true hx] at hh
  cases hh
theorem mg_mem (x:Int):∀ (xs ys:List Int),x ∈ mg xs ys ↔ x ∈ xs \/ x ∈ ys
 | [],ys=>by simp [mg]
 | a :: xs,[]=>by simp [mg]
 | a :: xs,b :: ys=>by
  have h1:=mg_mem x xs (b :: ys)
  have h2:=mg_mem x (a :: xs) ys
  have h3:=mg_mem x xs ys
  simp only [List.mem_cons] at h1 h2 h3 ⊢
  rw [mg]
  split
  ·rw [List.mem_cons,h1]
   by_cases p:x = a <;> by_cases q:x ∈ xs <;> by_cases r:x = b <;> by_cases s:x ∈ ys <;> simp [p,q,r,s]
  ·split
   ·rw [List.mem_cons,h2]
    by_cases p:x = a <;> by_cases q:x ∈ xs <;> by_cases r:x = b <;> by_cases s:x ∈ ys <;> simp [p,q,r,s]
   ·have e:a = b:=by omega
    rw [List.mem_cons,h3,<- e]
    by_cases p:x = a <;> by_cases q:x ∈ xs <;> by_cases s:x ∈ ys <;> simp [p,q,s]
 termination_by xs ys=>xs.length + ys.length
theorem mg_pair:∀ (xs ys:List Int),xs.Pairwise (· < ·) -> ys.Pairwise (· < ·) -> (mg xs ys).Pairwise (· < ·)
 | [],ys,_,h=>by simpa [mg] using h
 | a :: xs,[],h,_=>by simpa [mg] using h
 | a :: xs,b :: ys,h,k=>by
  have h1:=List.pairwise_cons.1 h
  have k1:=List.pairwise_cons.1 k
  have p1:=mg_pair xs (b :: ys) h1.2 k
  have p2:=mg_pair (a :: xs) ys h k1.2
  have p3:=mg_pair xs ys h1.2 k1.2
  rw [mg]
  split
  ·refine List.pairwise_cons.2 ⟨fun x hx=>?_,p1⟩
   rcases (mg_mem x _ _).1 hx with hx | hx
   ·exact h1.1 x hx
   ·rcases List.mem_cons.1 hx with rfl | hx
    ·assumption
    ·have:=k1.1 x hx;omega
  ·split
   ·refine List.pairwise_cons.2 ⟨fun x hx=>?_,p2⟩
    rcases (mg_mem x _ _).1 hx with hx | hx
    ·rcases List.mem_cons.1 hx with rfl | hx
     ·assumption
     ·have:=h1.1 x hx;omega
    ·exact k1.1 x hx
   ·have e:a = b:=by omega
    refine List.pairwise_cons.2 ⟨fun x hx=>?_,p3⟩
    rcases (mg_mem x _ _).1 hx with hx | hx
    ·exact h1.1 x hx
    ·rw [e];exact k1.1 x hx
 termination_by xs ys=>xs.length + ys.length
theorem PrM.sorted {a b:ZD} {nz:Value} {D:DataW Value} (h:PrM a b nz (List.range a.ids.length) (List.range b.ids.length) D) (ha:a.ids.Pairwise (· < ·)) (hb:b.ids.Pairwise (· < ·)) {P:Program} {k:TypeId} {w:World} {B n:Nat} (hown:w.ownsMap P k elR B n D) (K:Maps.Keyed P k) (hk:P.underlying k = some (.int .i64)) {ss:List Int} (hp:ss.Perm (Go.intKeys D)):ss.mergeSort (fun x y=>decide (x <= y)) = mg a.ids b.ids:=by
 have hm:=mg_pair _ _ ha hb
 have hc:Go.CollectedI D (fun _=>false) (mg a.ids b.ids):=⟨hm.imp fun {x y} h=>by omega,fun x=>by
  rw [mg_mem,show (Lit.int .i64 x) = KL x from rfl,h.has,idL_range,idL_range]
  simp⟩
 have hq:=hc.perm hown K hk fun _=>rfl
 rw [show ss.mergeSort (fun x y=>decide (x <= y)) = ss.mergeSort Go.leI from rfl,Go.mergeSort_of_perm_i (hp.trans hq.symm)]
 refine List.mergeSort_of_pairwise (hm.imp fun {x y} h=>?_)
 simp only [Go.leI,decide_eq_true_eq]
 omega
end Go.Proofs.YtmdjoaipkbnelaaGreat
