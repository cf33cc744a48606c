import Derived.Test.YtmdjoaipkbnelaaGreatPYi
set_option linter.unusedVariables false
set_option linter.unusedSimpArgs false
namespace Go.Proofs.YtmdjoaipkbnelaaGreat
open Go.RowKit Go.Shelf
theorem PlR.toO {w w':World} {x y:ZD} {base:Nat} {c:Array Value} (h:PlR (tkZ x) (tkZ y) base w' c) (hx:ZR w x) (hy:ZR w y) (dx:x.dn <= 1050000) (dy:y.dn <= 1050000) :
  ∃ z:ZD,(Value.agg c) = .agg (zRow z) /\ ZR w' z /\ PlP x y z /\ OwnY w' base z:=by
 have bx:=tk_badB x
 have bq:=tk_badB y
 by_cases e:(tkZ x).N = (tkZ y).N
 ·by_cases hb:(tkZ x).bad = true \/ (tkZ y).bad = true
  ·have hc:=h.bd e hb
   refine ⟨_,by rw [hc];rfl,badR (tkZ x).N w',⟨.inr ⟨?_,by rw [if_pos e],rfl,rfl,rfl,rfl,rfl⟩⟩,badZ0_own _ _ _⟩
   rcases hb with hb | hb
   ·rw [hb] at bx
    exact .inl (by cases hq:(!x.bad && wholeB x) with | false=>rfl | true=>rw [hq] at bx;cases bx)
   ·rw [hb] at bq
    exact .inr (.inl (by cases hq:(!y.bad && wholeB y) with | false=>rfl | true=>rw [hq] at bq;cases bq))
  ·have hbx:(tkZ x).bad = false:=by cases hq:(tkZ x).bad with | true=>exact absurd (.inl hq) hb | false=>rfl
   have hby:(tkZ y).bad = false:=by cases hq:(tkZ y).bad with | true=>exact absurd (.inr hq) hb | false=>rfl
   obtain ⟨ga,gb,hrn,hh⟩:=h.gd e hbx hby
   have goodx:(!x.bad && wholeB x) = true:=by rw [hbx] at bx;cases hq:(!x.bad && wholeB x) with | true=>rfl | false=>rw [hq] at bx;cases bx
   have goody:(!y.bad && wholeB y) = true:=by rw [hby] at bq;cases hq:(!y.bad && wholeB y) with | true=>rfl | false=>rw [hq] at bq;cases bq
   rw [tk_self (tk_good goodx).2.2] at ga e hrn hh
   rw [tk_self (tk_good goody).2.2] at gb e hrn hh
   have lx:x.ids.length = x.gs.length:=by rw [hx.i.length,hx.g.length];exact ga.wh.dg
   have ly:y.ids.length = y.gs.length:=by rw [hy.i.length,hy.g.length];exact gb.wh.dg
   have hm:(mg x.ids y.ids).length <= 4000000:=by
    have h1:=mg_len x.ids y.ids
    rw [hx.i.length,hy.i.length] at h1
    omega
   have same:=fun {cu cv us:List Nat} {UL VL WL:List (List Nat)} (h1:NeR x.rn x.cs y.cs cu cv x.rn) (h2:SuK x y x.rn (mg x.ids y.ids) UL VL (mg x.ids y.ids).length) (k:PlS x y x.rn us WL)=>pl_same (a:=x) (b:=y) ga.wh.fin gb.wh.fin gb.wh.pos lx ly hm h1 h2 k
   rcases hh with ⟨hc,hno⟩ | hsu
   ·refine ⟨_,by rw [hc];rfl,badR x.N w',⟨.inr ⟨.inr (.inr (.inr ⟨hrn,?_⟩)),by rw [tk_self (tk_good goodx).2.2,tk_self (tk_good goody).2.2,if_pos e],rfl,rfl,rfl,rfl,rfl⟩⟩,badZ0_own _ _ _⟩
    rcases hno with ⟨j,r,hj,hr⟩ | ⟨i,j,r,hi,hj,hr⟩ | ⟨cu,cv,UL,VL,j,r,h1,h2,hj,hr⟩
    ·exact .inl ⟨j,r,hj,by rw [sumF_at _ _ hj];exact hr⟩
    ·exact .inr (.inl ⟨i,j,r,hi,hj,by rw [col_sum lx ly hi hj];exact hr⟩)
    ·have hS:=pls_of lx ly h1 h2
     exact .inr (.inr ⟨cu,UL,j,r,hS.c,hS.g,hj,(same h1 h2 hS).2.2 j hj r false hr⟩)
   ·obtain ⟨bc,br,vi,vg,gl,cu,cv,UL,VL,rs,rfl,hf,h1,h2,h3⟩:=hsu.yes rfl
    have hS:=pls_of lx ly h1 h2
    obtain ⟨z,hz,hzr,z1,z2,z3,z4,z5,z6,z7,z8,_⟩:=hf.zr (x.rn:Int) false
    exact ⟨z,hz,hzr,⟨.inl ⟨goodx,goody,e,hrn,cu,UL,hS,z1,z2,z3,by rw [hzr.r.length];exact z8,fun j hj=>by rw [z4];exact (same h1 h2 hS).2.2 j hj _ _ (h3 j hj),z5,z6⟩⟩,.inr (hf.fry hz z1 z2 z3 z4 z5 z6)⟩
 ·have hc:=h.un e
  refine ⟨_,by rw [hc];rfl,badR 0 w',⟨.inr ⟨?_,by rw [if_neg e],rfl,rfl,rfl,rfl,rfl⟩⟩,badZ0_own _ _ _⟩
  cases gx:(!x.bad && wholeB x) with
  | false=>exact .inl rfl
  | true=>
   cases gy:(!y.bad && wholeB y) with
   | false=>exact .inr (.inl rfl)
   | true=>
    rw [tk_self (tk_good gx).2.2,tk_self (tk_good gy).2.2] at e
    exact .inr (.inr (.inl e))
theorem plusO_any (a b:ZD) (w:World) (ha:ZR w a) (hb:ZR w b) (da:a.dn <= 1050000) (db:b.dn <= 1050000) :
  Calls Tryz.prog 7 #[.agg (zRow a),.agg (zRow b)] w fun e w'=>∃ y:ZD,e = .returned (.agg (zRow y)) /\ ZR w' y /\ PlP a b y /\ OwnY w' w.heap.size y /\ Below w.heap.size w w':=by
 refine Calls.mono (plusP_any a b w ha hb da db) ?_
 rintro e w' ⟨⟨c,rfl,h⟩,hB⟩
 obtain ⟨y,hy,h1,h2,h3⟩:=PlR.toO h ha hb da db
 exact ⟨y,by rw [hy],h1,h2,h3,hB⟩
def SmD (z s:ZD):Prop:=z.N = s.N /\ z.bad = s.bad /\ z.cs = s.cs /\ z.rs = s.rs /\ z.ids = s.ids /\ z.gs = s.gs
theorem LfO.det {x y y':ZD} {next:Int} (h:LfO x next y) (k:LfO x next y'):SmD y y':=by
 rcases h.is with ⟨h1,h2,h3⟩ | ⟨h1,rfl⟩
 ·rcases k.is with ⟨_,_,k3⟩ | ⟨k1,_⟩
  ·exact ⟨by rw [h3.N,k3.N],by rw [h3.bad,k3.bad],by rw [h3.cs,k3.cs],by rw [h3.rs,k3.rs],by rw [h3.ids,k3.ids],by rw [h3.gs,k3.gs]⟩
  ·rcases k1 with k1 | k1
   ·rw [h1] at k1;cases k1
   ·rw [h2] at k1;cases k1
 ·rcases k.is with ⟨k1,k2,_⟩ | ⟨_,rfl⟩
  ·rcases h1 with h1 | h1
   ·rw [k1] at h1;cases h1
   ·rw [k2] at h1;cases h1
  ·exact ⟨rfl,rfl,rfl,rfl,rfl,rfl⟩
theorem BxR.det {w:World} {x y y':ZD} (h:BxR x y) (k:BxR x y') (hx:ZR w x) (hd:x.dn <= 1050000):SmD y y':=by
 obtain ⟨a,ha⟩:∃ a:Nat,a = 1166:=⟨_,rfl⟩
 have conv:∀ (hf:WhF x) (j r:Nat) (b:Bool),j < x.rn -> RndO 1 (farZ x j) r b -> RndZ 1 (reA x j) 1 (r,b):=fun hf j r b hj hr=>by
  rw [farZ_is ha hf.fin hj] at hr
  exact RndZ.of_ratio (RndO.some_iff ha hr) (by omega) (by rw [Int.natCast_one,Int.mul_one])
 rcases h.is with ⟨h1,h2,h3,h4,h5,h6,h7,h8,_⟩ | ⟨h1,rfl⟩
 ·obtain ⟨_,hw,_⟩:=tk_good h1
  have hf:=WhF.of hx hd hw
  rcases k.is with ⟨k1,k2,k3,k4,k5,k6,k7,k8,_⟩ | ⟨k1,_⟩
  ·refine ⟨by rw [h2,k2],by rw [h3,k3],by rw [h4,k4],?_,by rw [h7,k7],by rw [h8,k8]⟩
   apply List.ext_getElem
   ·rw [h5,k5]
   ·intro i p1 p2
    have q1:=conv hf i _ _ (by omega) (h6 i (by omega))
    have q2:=conv hf i _ _ (by omega) (k6 i (by omega))
    rw [List.getElem?_eq_getElem p1,Option.getD_some] at q1
    rw [List.getElem?_eq_getElem p2,Option.getD_some] at q2
    have q3:=RndZ.uniq q1 q2
    simp only [Prod.mk.injEq,and_true] at q3
    exact q3
  ·rcases k1 with k1 | ⟨j,u,hj,hu⟩
   ·rw [h1] at k1;cases k1
   ·have q3:=RndZ.uniq (conv hf j _ _ hj (h6 j hj)) (conv hf j _ _ hj hu)
    simp at q3
 ·rcases k.is with ⟨k1,k2,k3,k4,k5,k6,k7,k8,_⟩ | ⟨_,rfl⟩
  ·obtain ⟨_,hw,_⟩:=tk_good k1
   have hf:=WhF.of hx hd hw
   rcases h1 with h1 | ⟨j,u,hj,hu⟩
   ·rw [k1] at h1;cases h1
   ·have q3:=RndZ.uniq (conv hf j _ _ hj (k6 j hj)) (conv hf j _ _ hj hu)
    simp at q3
  ·exact ⟨rfl,rfl,rfl,rfl,rfl,rfl⟩
theorem PlP.det {x y z s:ZD} (h:PlP x y z) (k:PlP x y s):z.N = s.N /\ z.bad = s.bad /\ z.cs = s.cs /\ z.rs = s.rs /\ z.ids = s.ids /\ z.gs = s.gs:=by
 rcases h.is with ⟨h1,h2,h3,h4,us,UL,hg⟩ | ⟨h1,hb⟩
 ·rcases k.is with ⟨_,_,_,k4,vs,VL,kg⟩ | ⟨k1,kb⟩
  ·have hS:=kg.s
   have e1:=hg.s.c.uniq hS.c
   have e2:=hg.s.g.uniq hS.g
   subst e1
   subst e2
   refine ⟨by rw [hg.N,kg.N],by rw [hg.bad,kg.bad],by rw [hg.cs,kg.cs],?_,by rw [hg.ids,kg.ids],by rw [hg.gs,kg.gs]⟩
   apply List.ext_getElem
   ·rw [hg.rl,kg.rl]
   ·intro i p1 p2
    have q1:=hg.rs i (by rw [<- hg.rl];exact p1)
    have q2:=kg.rs i (by rw [<- kg.rl];exact p2)
    have q3:=RndZ.uniq q1 q2
    rw [List.getElem?_eq_getElem p1,List.getElem?_eq_getElem p2] at q3
    simp only [Prod.mk.injEq,Option.getD_some] at q3
    exact q3.1
  ·exfalso
   rcases k1 with k1 | k1 | k1 | ⟨k0,k1⟩
   ·rw [h1] at k1;cases k1
   ·rw [h2] at k1;cases k1
   ·exact k1 h3
   ·exact k1.not hg.s hg.rs
 ·rcases k.is with ⟨k1,k2,k3,k4,vs,VL,kg⟩ | ⟨k1,kb⟩
  ·exfalso
   rcases h1 with h1 | h1 | h1 | ⟨h0,h1⟩
   ·rw [k1] at h1;cases h1
   ·rw [k2] at h1;cases h1
   ·exact h1 k3
   ·exact h1.not kg.s kg.rs
  ·refine ⟨?_,by rw [hb.bad,kb.bad],by rw [hb.cs,kb.cs],by rw [hb.rs,kb.rs],by rw [hb.ids,kb.ids],by rw [hb.gs,kb.gs]⟩
   rw [hb.N,kb.N]
end Go.Proofs.YtmdjoaipkbnelaaGreat
