import Derived.Test.YtgialbaeekkkhaaGreatPPq
set_option linter.unusedVariables false
set_option linter.unusedSimpArgs false
namespace Go.Proofs.YtgialbaeekkkhaaGreat
open Go.RowKit Go.Shelf
theorem tk_badB (z:ZD):(tkZ z).bad = !(!z.bad && wholeB z):=by
 unfold tkZ checkB
 cases hb:z.bad with
 | true=>
  simp only [if_true,Bool.not_true,Bool.false_and,Bool.not_false]
  split
  ·exact hb
  ·rfl
 | false=>
  simp only [Bool.false_eq_true,if_false,Bool.not_false,Bool.true_and]
  split
  ·rename_i h;rw [h];exact hb
  ·rename_i h;rw [Bool.not_eq_true] at h;rw [h];rfl
theorem gz_eq {u q x y:ZD} (s:SmZ u x) (t:SmZ q y) (n:Nat):gzD n u q = gzD n x y:=by
 unfold gzD
 rw [s.ids,t.ids]
 refine List.map_congr_left fun id _=>?_
 unfold sumC
 rw [s.ids,s.gs,t.ids,t.gs]
theorem pls_eq {u q x y:ZD} (s:SmZ u x) (t:SmZ q y) {n:Nat} {us:List Nat} {WL:List (List Nat)} (h:PlS u q n us WL):PlS x y n us WL:=by
 refine ⟨?_,?_⟩
 ·have:=h.c;rwa [s.cs,t.cs] at this
 ·have:=h.g;rwa [gz_eq s t,s.ids,t.ids] at this
theorem fs_eq {u q x y:ZD} (s:SmZ u x) (t:SmZ q y) (n:Nat) (us:List Nat) (WL:List (List Nat)) (j:Nat):fsD u q n us WL j = fsD x y n us WL j:=by
 unfold fsD
 rw [gz_eq s t,s.cs,t.cs,s.rs,t.rs]
theorem no_two {d V:Int} {D a b:Nat} (h:RndZ d V D (a,true)) (k:RndZ d V D (b,false)):False:=by
 have:=RndZ.uniq h k
 simp only [Prod.mk.injEq] at this
 exact absurd this.2 (by decide)
theorem col_sum {x y:ZD} {n k j:Nat} (lx:x.ids.length = x.gs.length) (ly:y.ids.length = y.gs.length) (hk:k < (mg x.ids y.ids).length) (hj:j < n):((gzD n x y)[k]?.getD [])[j]?.getD 0 = fval ((colL x n ((mg x.ids y.ids)[k]?.getD 0))[j]?.getD 0) + fval ((colL y n ((mg x.ids y.ids)[k]?.getD 0))[j]?.getD 0):=by
 rw [gzD_at hk]
 unfold sumC
 rw [fnL_at _ hj,colZ_L lx,colZ_L ly]
theorem PlR.doc {w w':World} {x y u q v:ZD} {base:Nat} {c:Array Value} (h:PlR (tkZ x) (tkZ y) base w' c) (k:PlD u q v) (hx:ZR w x) (hy:ZR w y) (dx:x.dn <= 1050000) (dy:y.dn <= 1050000) (s:SmZ u x) (t:SmZ q y) :
  ∃ z:ZD,(Value.agg c) = .agg (zRow z) /\ ZR w' z /\ bitsB z v = true:=by
 have gu:=s.good
 have gq:=t.good
 have bx:=tk_badB x
 have bq:=tk_badB y
 by_cases e:(tkZ x).N = (tkZ y).N
 ·by_cases hb:(tkZ x).bad = true \/ (tkZ y).bad = true
  ·have hc:=h.bd e hb
   rcases k.is with ⟨k1,k2,_⟩ | ⟨_,k2,k3,k4,k5,k6,k7⟩
   ·exfalso
    rw [gu] at k1
    rw [gq] at k2
    rw [k1] at bx
    rw [k2] at bq
    rcases hb with hb | hb
    ·rw [bx] at hb;cases hb
    ·rw [bq] at hb;cases hb
   ·refine ⟨_,by rw [hc];rfl,badR (tkZ x).N w',?_⟩
    unfold bitsB
    rw [k2,k3,k4,k5,k6,k7,s.tkN,t.tkN,if_pos e]
    simp
  ·have hbx:(tkZ x).bad = false:=by cases hq:(tkZ x).bad with | true=>exact absurd (.inl hq) hb | false=>rfl
   have hby:(tkZ y).bad = false:=by cases hq:(tkZ y).bad with | true=>exact absurd (.inr hq) hb | false=>rfl
   obtain ⟨ga,gb,hrn,hh⟩:=h.gd e hbx hby
   have goodx:(!x.bad && wholeB x) = true:=by rw [hbx] at bx;cases hq:(!x.bad && wholeB x) with | true=>rfl | false=>rw [hq] at bx;cases bx
   have goody:(!y.bad && wholeB y) = true:=by rw [hby] at bq;cases hq:(!y.bad && wholeB y) with | true=>rfl | false=>rw [hq] at bq;cases bq
   rw [tk_self (tk_good goodx).2.2] at ga e hrn hh
   rw [tk_self (tk_good goody).2.2] at gb e hrn hh
   have lx:x.ids.length = x.gs.length:=by rw [hx.i.length,hx.g.length];exact ga.wh.dg
   have ly:y.ids.length = y.gs.length:=by rw [hy.i.length,hy.g.length];exact gb.wh.dg
   have hm:(mg x.ids y.ids).length <= 4000000:=by
    have h1:=mg_len x.ids y.ids
    rw [hx.i.length,hy.i.length] at h1
    omega
   have same:=fun {cu cv us:List Nat} {UL VL WL:List (List Nat)} (h1:NeR x.rn x.cs y.cs cu cv x.rn) (h2:SuK x y x.rn (mg x.ids y.ids) UL VL (mg x.ids y.ids).length) (k:PlS x y x.rn us WL)=>pl_same (a:=x) (b:=y) ga.wh.fin gb.wh.fin gb.wh.pos lx ly hm h1 h2 k
   have eN:u.N = (x.rn:Int):=by rw [s.N];exact ga.wh.N
   have hur:u.rn = x.rn:=s.rn
   have hcc:∀ j,j < x.rn -> (sumF x.rn x.cs y.cs)[j]?.getD 0 = fval (x.cs[j]?.getD 0) + fval (y.cs[j]?.getD 0):=fun j hj=>sumF_at _ _ hj
   rcases k.is with ⟨k1,k2,k3,k4,k5,us,WL,kS,k6,k7,k8,k9,k10⟩ | ⟨k1,k2,k3,k4,k5,k6,k7⟩
   ·have kX:=pls_eq s t kS
    rw [hur] at kX k7 k8
    have k8':∀ j,j < x.rn -> RndZ 1 (fsD x y x.rn us WL j) 1 (v.rs[j]?.getD 0,true):=fun j hj=>by rw [<- fs_eq s t];exact k8 j hj
    rcases hh with ⟨_,hno⟩ | hsu
    ·exfalso
     rcases hno with ⟨j,r,hj,hr⟩ | ⟨i,j,r,hi,hj,hr⟩ | ⟨cu,cv,UL,VL,j,r,h1,h2,hj,hr⟩
     ·have h3:=kX.c.is j hj
      rw [hcc j hj] at h3
      exact no_two h3 hr
     ·have h3:=(kX.g.is i hi).is j hj
      rw [col_sum lx ly hi hj] at h3
      exact no_two h3 hr
     ·exact no_two (k8' j hj) ((same h1 h2 kX).2.2 j hj r false hr)
    ·obtain ⟨bc,br,vi,vg,gl,cu,cv,UL,VL,rs,rfl,hf,h1,h2,h3⟩:=hsu.yes rfl
     obtain ⟨e1,e2,e3⟩:=same h1 h2 kX
     subst e1
     subst e2
     obtain ⟨z,hz,hzr,z1,z2,z3,z4,z5,z6,z7,z8,_⟩:=hf.zr (x.rn:Int) false
     refine ⟨z,hz,hzr,?_⟩
     have hrl:z.rs.length = x.rn:=by rw [hzr.r.length];exact z8
     have er:z.rs = v.rs:=by
      apply List.ext_getElem
      ·rw [hrl,k7]
      ·intro i p1 p2
       have q1:=e3 i (by omega) _ _ (h3 i (by omega))
       have q2:=k8' i (by omega)
       rw [<- z4,List.getElem?_eq_getElem p1,Option.getD_some] at q1
       rw [List.getElem?_eq_getElem p2,Option.getD_some] at q2
       have q3:=RndZ.uniq q1 q2
       simp only [Prod.mk.injEq] at q3
       exact q3.1
     unfold bitsB
     rw [z1,z2,z3,er,z5,z6,k4,k5,k6,k9,k10,eN,s.ids,t.ids]
     simp
   ·rcases hh with ⟨hc,_⟩ | hsu
    ·refine ⟨_,by rw [hc];rfl,badR x.N w',?_⟩
     unfold bitsB
     rw [k2,k3,k4,k5,k6,k7,s.tkN,t.tkN,tk_self (tk_good goodx).2.2,tk_self (tk_good goody).2.2,if_pos e]
     simp
    ·exfalso
     obtain ⟨bc,br,vi,vg,gl,cu,cv,UL,VL,rs,_,hf,h1,h2,h3⟩:=hsu.yes rfl
     rcases k1 with k1 | k1 | k1 | k1
     ·rw [gu,goodx] at k1;cases k1
     ·rw [gq,goody] at k1;cases k1
     ·exact k1 (by rw [s.N,t.N];exact e)
     ·rw [hur,s.cs,t.cs,s.rs,t.rs,gz_eq s t,s.ids,t.ids] at k1
      rcases k1 with ⟨j,r,hj,hr⟩ | ⟨i,j,r,hi,hj,hr⟩ | ⟨us,WL,j,r,hne,hco,hj,hr⟩
      ·rw [hcc j hj] at hr
       exact no_two (h1.is j hj).1 hr
      ·rw [col_sum lx ly hi hj] at hr
       exact no_two ((h2.is i hi).is j hj).1 hr
      ·exact no_two ((same h1 h2 ⟨hne,hco⟩).2.2 j hj _ _ (h3 j hj)) hr
 ·have hc:=h.un e
  rcases k.is with ⟨k1,k2,k3,_⟩ | ⟨_,k2,k3,k4,k5,k6,k7⟩
  ·exfalso
   rw [gu] at k1
   rw [gq] at k2
   rw [tk_self (tk_good k1).2.2,tk_self (tk_good k2).2.2,<- s.N,<- t.N] at e
   exact e k3
  ·refine ⟨_,by rw [hc];rfl,badR 0 w',?_⟩
   unfold bitsB
   rw [k2,k3,k4,k5,k6,k7,s.tkN,t.tkN,if_neg e]
   simp
end Go.Proofs.YtgialbaeekkkhaaGreat
