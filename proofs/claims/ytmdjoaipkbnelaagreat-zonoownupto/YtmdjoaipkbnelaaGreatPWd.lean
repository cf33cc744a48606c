import Derived.Test.YtmdjoaipkbnelaaGreatPWc
set_option linter.unusedVariables false
set_option linter.unusedSimpArgs false
namespace Go.Proofs.YtmdjoaipkbnelaaGreat
open Go.RowKit Go.Shelf
theorem sumF_comm (n:Nat) (xs ys:List Nat):sumF n xs ys = sumF n ys xs:=fnL_congr fun j _=>Int.add_comm _ _
theorem gzD_comm (n:Nat) (x y:ZD):gzD n x y = gzD n y x:=by
 unfold gzD
 rw [mg_comm]
 exact List.map_congr_left fun id _=>fnL_congr fun j _=>Int.add_comm _ _
theorem fsD_comm (x y:ZD) (n:Nat) (us:List Nat) (UL:List (List Nat)) (j:Nat):fsD x y n us UL j = fsD y x n us UL j:=by
 unfold fsD
 rw [gzD_comm,sumF_comm n x.cs,sumF_comm n x.rs]
theorem PlS.comm {x y:ZD} {n:Nat} {us:List Nat} {UL:List (List Nat)} (h:PlS x y n us UL):PlS y x n us UL:=
 ⟨by rw [sumF_comm];exact h.c,by rw [gzD_comm,mg_comm];exact h.g⟩
theorem NeD.uniq {zs:List Int} {us vs:List Nat} {n:Nat} (h:NeD zs us n) (k:NeD zs vs n):us = vs:=by
 apply List.ext_getElem
 ·rw [h.len,k.len]
 ·intro i p1 p2
  have h3:=RndZ.uniq (h.is i (by rw [<- h.len];exact p1)) (k.is i (by rw [<- h.len];exact p1))
  rw [List.getElem?_eq_getElem p1,List.getElem?_eq_getElem p2] at h3
  simp only [Prod.mk.injEq,Option.getD_some] at h3
  exact h3.1
theorem CoD.uniq {gz:List (List Int)} {UL VL:List (List Nat)} {n m:Nat} (h:CoD gz n UL m) (k:CoD gz n VL m):UL = VL:=by
 apply List.ext_getElem
 ·rw [h.len,k.len]
 ·intro i p1 p2
  have h3:=(h.is i (by rw [<- h.len];exact p1)).uniq (k.is i (by rw [<- h.len];exact p1))
  rwa [List.getElem?_eq_getElem p1,List.getElem?_eq_getElem p2,Option.getD_some,Option.getD_some] at h3
def PlN (x y:ZD) (n:Nat):Prop:=LdNo (sumF n x.cs y.cs) (sumF n x.rs y.rs) (gzD n x y) n (mg x.ids y.ids).length
theorem PlN.comm {x y:ZD} {n:Nat} (h:PlN x y n):PlN y x n:=by
 unfold PlN at h ⊢
 rw [sumF_comm n y.cs,sumF_comm n y.rs,gzD_comm,mg_comm]
 exact h
theorem PlN.not {x y:ZD} {n:Nat} {us rs:List Nat} {UL:List (List Nat)} (h:PlN x y n) (k:PlS x y n us UL) (hr:∀ j,j < n -> RndZ 1 (fsD x y n us UL j) 1 (rs[j]?.getD 0,true)):False:=by
 rcases h with ⟨j,r,hj,h1⟩ | ⟨i,j,r,hi,hj,h1⟩ | ⟨vs,VL,j,r,hv,hV,hj,h1⟩
 ·exact no_two (k.c.is j hj) h1
 ·exact no_two ((k.g.is i hi).is j hj) h1
 ·have e1:=k.c.uniq hv
  have e2:=k.g.uniq hV
  subst e1
  subst e2
  exact no_two (hr j hj) h1
theorem pls_of {a b:ZD} {n:Nat} {cu cv:List Nat} {UL VL:List (List Nat)} (la:a.ids.length = a.gs.length) (lb:b.ids.length = b.gs.length) (h1:NeR n a.cs b.cs cu cv n) (h2:SuK a b n (mg a.ids b.ids) UL VL (mg a.ids b.ids).length):PlS a b n cu UL:=
 ⟨⟨h1.lu,h1.tu,fun j hj=>by rw [sumF_at _ _ hj];exact (h1.is j hj).1⟩,⟨h2.lu,fun i hi=>⟨(h2.is i hi).lu,(h2.is i hi).tu,fun j hj=>by rw [col_sum la lb hi hj];exact ((h2.is i hi).is j hj).1⟩⟩⟩
structure PlG (x y z:ZD) (n:Nat) (us:List Nat) (UL:List (List Nat)):Prop where
 s:PlS x y n us UL
 N:z.N = (n:Int)
 bad:z.bad = false
 cs:z.cs = us
 rl:z.rs.length = n
 rs:∀ j,j < n -> RndZ 1 (fsD x y n us UL j) 1 (z.rs[j]?.getD 0,true)
 ids:z.ids = (kpP (mg x.ids y.ids) UL).map (·.1)
 gs:z.gs = (kpP (mg x.ids y.ids) UL).map (·.2)
structure PlB (z:ZD) (N:Int):Prop where
 N:z.N = N
 bad:z.bad = true
 cs:z.cs = []
 rs:z.rs = []
 ids:z.ids = []
 gs:z.gs = []
structure PlP (x y z:ZD):Prop where
 is:((!x.bad && wholeB x) = true /\ (!y.bad && wholeB y) = true /\ x.N = y.N /\ x.rn = y.rn /\ ∃ us UL,PlG x y z x.rn us UL) ∨
  (((!x.bad && wholeB x) = false \/ (!y.bad && wholeB y) = false \/ x.N ≠ y.N \/ (x.rn = y.rn /\ PlN x y x.rn)) /\ PlB z (if (tkZ x).N = (tkZ y).N then (tkZ x).N else 0))
theorem PlP.comm {x y z s:ZD} (h:PlP x y z) (k:PlP y x s):z.N = s.N /\ z.bad = s.bad /\ z.cs = s.cs /\ z.rs = s.rs /\ z.ids = s.ids /\ z.gs = s.gs:=by
 rcases h.is with ⟨h1,h2,h3,h4,us,UL,hg⟩ | ⟨h1,hb⟩
 ·rcases k.is with ⟨_,_,_,k4,vs,VL,kg⟩ | ⟨k1,kb⟩
  ·rw [<- h4] at kg
   have hS:=kg.s.comm
   have e1:=hg.s.c.uniq hS.c
   have e2:=hg.s.g.uniq hS.g
   subst e1
   subst e2
   refine ⟨by rw [hg.N,kg.N],by rw [hg.bad,kg.bad],by rw [hg.cs,kg.cs],?_,by rw [hg.ids,kg.ids,mg_comm],by rw [hg.gs,kg.gs,mg_comm]⟩
   apply List.ext_getElem
   ·rw [hg.rl,kg.rl]
   ·intro i p1 p2
    have q1:=hg.rs i (by rw [<- hg.rl];exact p1)
    have q2:=kg.rs i (by rw [<- kg.rl];exact p2)
    rw [fsD_comm] at q2
    have q3:=RndZ.uniq q1 q2
    rw [List.getElem?_eq_getElem p1,List.getElem?_eq_getElem p2] at q3
    simp only [Prod.mk.injEq,Option.getD_some] at q3
    exact q3.1
  ·exfalso
   rcases k1 with k1 | k1 | k1 | ⟨k0,k1⟩
   ·rw [h2] at k1;cases k1
   ·rw [h1] at k1;cases k1
   ·exact k1 h3.symm
   ·rw [k0] at k1
    exact k1.comm.not hg.s hg.rs
 ·rcases k.is with ⟨k1,k2,k3,k4,vs,VL,kg⟩ | ⟨k1,kb⟩
  ·exfalso
   rcases h1 with h1 | h1 | h1 | ⟨h0,h1⟩
   ·rw [k2] at h1;cases h1
   ·rw [k1] at h1;cases h1
   ·exact h1 k3.symm
   ·rw [h0] at h1
    exact h1.comm.not kg.s kg.rs
  ·refine ⟨?_,by rw [hb.bad,kb.bad],by rw [hb.cs,kb.cs],by rw [hb.rs,kb.rs],by rw [hb.ids,kb.ids],by rw [hb.gs,kb.gs]⟩
   rw [hb.N,kb.N]
   by_cases e:(tkZ x).N = (tkZ y).N
   ·rw [if_pos e,if_pos e.symm,e]
   ·rw [if_neg e,if_neg (fun c=>e c.symm)]
theorem PlP.same {w w2:World} {x y z s:ZD} (h:PlP x y z) (k:PlP y x s) (hz:ZR w z) (hs:ZR w2 s):sameZ (tkZ z) (tkZ s) = true:=by
 obtain ⟨e1,e2,e3,e4,e5,e6⟩:=h.comm k
 have m:SmZ s z:=⟨e1.symm,e2.symm,e3.symm,e4.symm,e5.symm,e6.symm,by rw [<- hs.i.length,<- hz.i.length,e5],by rw [<- hs.g.length,<- hz.g.length,e6],by rw [<- hs.c.length,<- hz.c.length,e3],by rw [<- hs.r.length,<- hz.r.length,e4]⟩
 have hk:tkZ s = tkZ s:=rfl
 unfold tkZ
 rw [checkB_eq s z m.N m.bad m.cs m.rs m.ids m.gs m.cn m.dn m.gn m.rn]
 split
 ·unfold sameZ sameL sameG
  rw [e1,e2,e3,e4,e5,e6]
  simp
 ·unfold sameZ sameL sameG
  simp
theorem lostD_pos (zs:List Int) (us:List Nat) (j:Nat):0 <= lostD zs us j:=Int.natCast_nonneg _
theorem sum_pos {PL:List (List Int × List Nat)} {j:Nat}:0 <= (PL.map fun p=>lostD p.1 p.2 j).sum:=by
 induction PL with
 | nil=>exact Int.le_refl _
 | cons p PL ih=>
  rw [List.map_cons,List.sum_cons]
  exact Int.add_nonneg (lostD_pos _ _ _) ih
theorem fsD_is {x y:ZD} {n j:Nat} {us:List Nat} {UL:List (List Nat)} (hj:j < n):fsD x y n us UL j = fval (x.rs[j]?.getD 0) + fval (y.rs[j]?.getD 0) + lostD (sumF n x.cs y.cs) us j + (((gzD n x y).zip UL).map fun p=>lostD p.1 p.2 j).sum:=by
 unfold fsD
 rw [osD_sum hj]
 congr 1
 unfold addF
 rw [if_pos hj]
 congr 1
 exact sumF_at _ _ hj
end Go.Proofs.YtmdjoaipkbnelaaGreat
