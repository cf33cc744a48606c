import Derived.Test.YtmdjoaipkbnelaaGreatPYn
set_option linter.unusedVariables false
set_option linter.unusedSimpArgs false
namespace Go.Proofs.YtmdjoaipkbnelaaGreat
open Go.RowKit Go.Shelf
theorem OwnY.zw {W:World} {base:Nat} {y:ZD} (hz:ZR W y) (h:OwnY W base y) (h1:y.cn <= 1050000 /\ y.dn <= 1050000 /\ y.gn <= 1050000):ZW y:=by
 rcases h with ⟨c1,c2,c3,c4,c5,c6,c7,c8,c9,c10,c11,c12⟩ | ⟨n,bc,br,vi,vg,gl,e,h⟩
 ·exact ⟨fun _=>⟨c2,c3⟩,fun _=>⟨c5,c6⟩,fun _=>⟨c11,c12⟩,fun k hk=>absurd hk (by omega),h1.1,h1.2.1,h1.2.2,by omega,fun k hk=>absurd hk (by omega)⟩
 ·have hgv:=FrL.gvL hz e h
  unfold zRow at e
  simp only [Array.mk.injEq,List.cons.injEq,and_true,true_and] at e
  obtain ⟨e1,e2,e3,e4⟩:=e
  unfold slN at e1 e4
  obtain ⟨a1,a2,a3⟩:=Value.slice.inj e1
  obtain ⟨b1,b2,b3⟩:=Value.slice.inj e4
  have hcol:∀ k,k < y.gn -> ∃ q,(y.gv k).1 = some ⟨q,0,none⟩ /\ (y.gv k).2.1 = n:=by
   intro k hk
   have h2:(gvL y)[k]? = some (.slice (y.gv k).1 (y.gv k).2.1 (y.gv k).2.2):=by
    unfold gvL
    rw [List.getElem?_map,List.getElem?_range hk]
    rfl
   rw [hgv,List.getElem?_map] at h2
   obtain ⟨q,h3,h4⟩:=Option.map_eq_some_iff.1 h2
   unfold slN at h4
   obtain ⟨d1,d2,d3⟩:=Value.slice.inj h4
   exact ⟨q,d1.symm,d2.symm⟩
  refine ⟨fun h0=>(by rw [a1] at h0;cases h0),fun h0=>?_,fun h0=>(by rw [b1] at h0;cases h0),fun k hk h0=>?_,h1.1,h1.2.1,h1.2.2,by omega,fun k hk=>?_⟩
  ·have h2:=h.i
   rw [<- e2,h0] at h2
   rcases h2.2 with ⟨h4,_⟩ | ⟨g,cap,cur,h4,_⟩
   ·obtain ⟨_,q2,q3⟩:=Value.slice.inj h4
    exact ⟨q2,q3⟩
   ·cases h4
  ·obtain ⟨q,h2,_⟩:=hcol k hk
   rw [h2] at h0;cases h0
  ·obtain ⟨q,_,h2⟩:=hcol k hk
   rw [h2];omega
theorem LfO.lens {w W:World} {x y:ZD} {next:Int} (hx:ZR w x) (hd:x.dn <= 1048576) (h:LfO x next y) (hy:ZR W y):y.cn <= 1050000 /\ y.dn <= 1050000 /\ y.gn <= 1050000:=by
 rcases h.is with ⟨h1,h2,h3⟩ | ⟨_,rfl⟩
 ·obtain ⟨hb0,hw,hc⟩:=tk_good h1
  have hf:=WhF.of hx (by omega) hw
  have h2':=hf.n2
  have hlen:=lfS_len x.rn (x.rs.map plainM) next x.rn
  have hi:=hx.i.length
  have hg:=hx.g.length
  have hdg:=hf.dg
  refine ⟨by rw [h3.cn];omega,?_,?_⟩
  ·rw [h3.dn,h3.ids,List.length_append];omega
  ·rw [h3.gn,h3.gs,List.length_append,List.length_map];omega
 ·exact ⟨Nat.zero_le _,Nat.zero_le _,Nat.zero_le _⟩
theorem BxR.lens {w W:World} {x y:ZD} (hx:ZR w x) (hd:x.dn <= 1048576) (h:BxR x y):y.cn <= 1050000 /\ y.dn <= 1050000 /\ y.gn <= 1050000:=by
 rcases h.is with ⟨h1,_,_,_,_,_,_,_,c1,c2,c3,c4⟩ | ⟨_,rfl⟩
 ·obtain ⟨hb0,hw,hc⟩:=tk_good h1
  have hf:=WhF.of hx (by omega) hw
  have h2':=hf.n2
  omega
 ·exact ⟨Nat.zero_le _,Nat.zero_le _,Nat.zero_le _⟩
theorem PlP.lens {w W:World} {x y z:ZD} (hx:ZR w x) (hy:ZR w y) (ds:x.dn + y.dn <= 1048576) (h:PlP x y z) (hz:ZR W z):z.cn <= 1050000 /\ z.dn <= 1050000 /\ z.gn <= 1050000:=by
 rw [<- hz.c.length,<- hz.i.length,<- hz.g.length]
 rcases h.is with ⟨h1,_,_,_,us,UL,hG⟩ | ⟨_,hB⟩
 ·obtain ⟨hb0,hw,hc⟩:=tk_good h1
  have hf:=WhF.of hx (by omega) hw
  have h2':=hf.n2
  have hkl:(kpP (mg x.ids y.ids) UL).length <= 1050000:=by
   have h6:(kpP (mg x.ids y.ids) UL).length <= (mg x.ids y.ids).length:=Nat.le_trans (List.length_filter_le _ _) (by rw [List.length_zip];exact Nat.min_le_left _ _)
   have h7:=mg_len x.ids y.ids
   rw [hx.i.length,hy.i.length] at h7
   omega
  rw [hG.cs,hG.ids,hG.gs,List.length_map,List.length_map]
  refine ⟨?_,hkl,hkl⟩
  have:=hG.s.c.len
  omega
 ·rw [hB.cs,hB.ids,hB.gs]
  exact ⟨Nat.zero_le _,Nat.zero_le _,Nat.zero_le _⟩
def NwR (x y:ZD):Prop:=y.N = (nwA x.cs x.gs).N /\ y.bad = (nwA x.cs x.gs).bad /\ y.cs = (nwA x.cs x.gs).cs /\ y.rs = (nwA x.cs x.gs).rs /\ y.ids = (nwA x.cs x.gs).ids /\ y.gs = (nwA x.cs x.gs).gs
theorem NwR.lens {w W:World} {x y:ZD} (hx:ZR w x) (hw:ZW x) (h:NwR x y) (hy:ZR W y):y.cn <= 1050000 /\ y.dn <= 1050000 /\ y.gn <= 1050000:=by
 obtain ⟨_,_,h3,_,h5,h6⟩:=h
 rw [<- hy.c.length,<- hy.i.length,<- hy.g.length,h3,h5,h6]
 have c1:=hx.c.length
 have c2:=hx.g.length
 have c3:=hw.cl
 have c4:=hw.gl
 unfold nwA
 split
 ·show (x.cs.map plainM).length <= _ /\ (rgI (x.gs.map (·.map plainM)).length).length <= _ /\ (x.gs.map (·.map plainM)).length <= _
  rw [rgI_len,List.length_map,List.length_map]
  omega
 ·exact ⟨Nat.zero_le _,Nat.zero_le _,Nat.zero_le _⟩
def Kd (a b:ZD) (next:Int) (m:Nat) (y:ZD):Prop:=(m = 0 -> LfO a next y) /\ (m = 1 -> BxR a y) /\ (m = 2 -> PlP a b y) /\ (m = 3 -> NwR a y)
theorem Kd.k0 {a b y:ZD} {next:Int} (h:LfO a next y):Kd a b next 0 y:=⟨fun _=>h,fun e=>absurd e (by decide),fun e=>absurd e (by decide),fun e=>absurd e (by decide)⟩
theorem Kd.k1 {a b y:ZD} {next:Int} (h:BxR a y):Kd a b next 1 y:=⟨fun e=>absurd e (by decide),fun _=>h,fun e=>absurd e (by decide),fun e=>absurd e (by decide)⟩
theorem Kd.k2 {a b y:ZD} {next:Int} (h:PlP a b y):Kd a b next 2 y:=⟨fun e=>absurd e (by decide),fun e=>absurd e (by decide),fun _=>h,fun e=>absurd e (by decide)⟩
theorem Kd.k3 {a b y:ZD} {next:Int} (h:NwR a y):Kd a b next 3 y:=⟨fun e=>absurd e (by decide),fun e=>absurd e (by decide),fun e=>absurd e (by decide),fun _=>h⟩
theorem Kd.det {w:World} {a b y y':ZD} {next:Int} {m:Nat} (hm:m < 4) (ha:ZR w a) (hd:a.dn <= 1048576) (h:Kd a b next m y) (k:Kd a b next m y'):SmD y y':=by
 match m,hm with
 | 0,_=>exact (h.1 rfl).det (k.1 rfl)
 | 1,_=>exact BxR.det (h.2.1 rfl) (k.2.1 rfl) ha (by omega)
 | 2,_=>exact PlP.det (h.2.2.1 rfl) (k.2.2.1 rfl)
 | 3,_=>
  obtain ⟨a1,a2,a3,a4,a5,a6⟩:=h.2.2.2 rfl
  obtain ⟨b1,b2,b3,b4,b5,b6⟩:=k.2.2.2 rfl
  exact ⟨a1.trans b1.symm,a2.trans b2.symm,a3.trans b3.symm,a4.trans b4.symm,a5.trans b5.symm,a6.trans b6.symm⟩
def KdL (a b:ZD) (next:Int) (ys:List ZD):Prop:=∀ i (h:i < ys.length),Kd a b next (i % 4) ys[i]
theorem bits_true {a b:ZD} (h1:a.N = b.N) (h2:a.bad = b.bad) (h3:a.cs = b.cs) (h4:a.rs = b.rs) (h5:a.ids = b.ids) (h6:a.gs = b.gs):bitsB a b = true:=by
 unfold bitsB
 simp [h1,h2,h3,h4,h5,h6]
def WsL (W:World) (H:Nat) (us ys:List ZD):Prop:=∀ i (h:i < us.length),∃ y,ys[i]? = some y /\ OfO W H us[i] /\ SmZ us[i] y
end Go.Proofs.YtmdjoaipkbnelaaGreat
