import Derived.Test.YtmdjoaipkbnelaaGreatPPo
import Derived.Test.YtmdjoaipkbnelaaGreatPWe
set_option maxRecDepth 100000
set_option linter.unusedVariables false
set_option linter.unusedSimpArgs false
namespace Go.Proofs.YtmdjoaipkbnelaaGreat
open Go.RowKit Go.Shelf
theorem FrL.zw {w:World} {base n bc br:Nat} {cs rs:List Nat} {ids:List Int} {gs:List (List Nat)} {vi vg:Value} {gl:List Nat} (h:FrL w base n bc br cs rs ids gs vi vg gl) (N:Int) (bad:Bool) (hn:n <= 1050000) (hi:ids.length <= 1050000) (hg:gs.length <= 1050000) :
  ∃ y:ZD,(.agg #[.int .i64 N,slN n bc,vi,vg,slN n br,.bool bad]:Value) = .agg (zRow y) /\ ZR w y /\ y.N = N /\ y.bad = bad /\ y.cs = cs /\ y.rs = rs /\ y.ids = ids /\ y.gs = gs /\ y.cn = n /\ y.rn = n /\ y.dn = ids.length /\ y.gn = gs.length /\ ZW y:=by
 have hI:∀ a l c,vi = .slice a l c -> a = none -> l = 0 /\ c = 0:=fun a l c e ea=>by
  rcases h.i.2 with ⟨h0,_⟩ | ⟨g,cap,cur,h0,_⟩
  ·rw [e] at h0;cases h0;exact ⟨rfl,rfl⟩
  ·rw [e] at h0;cases h0;cases ea
 obtain ⟨io,dc,rfl,hm1,h1⟩:=owns_slice h.i
 obtain ⟨go,gc,rfl,hm2,h2⟩:=owns_slice h.g
 have e1:(ids.map (Value.int .i64)).length = ids.length:=List.length_map _
 have e2:(gl.map (slN n)).length = gs.length:=(List.length_map _).trans h.col.len
 rw [e1] at hm1 h1
 rw [e2] at hm2 h2
 rw [e1,e2]
 refine ⟨⟨N,some ⟨bc,0,none⟩,n,n,io,ids.length,dc,go,gs.length,gc,some ⟨br,0,none⟩,n,n,bad,cs,ids,fun j=>(some ⟨gl[j]?.getD 0,0,none⟩,n,n),gs,rs⟩,rfl,⟨h.c.rd,⟨rfl,hm1,?_⟩,⟨rfl,hm2,?_,fun j hj=>(h.col.row j (by rw [h.col.len];exact hj)).rd⟩,h.r.rd⟩,rfl,rfl,rfl,rfl,rfl,rfl,rfl,rfl,rfl,rfl,⟨(fun e=>by cases e),(fun e=>by have h9:=hI _ _ _ rfl e;rw [e1] at h9;exact h9),(fun e=>by cases e),(fun k hk e=>by cases e),hn,hi,hg,hn,fun k hk=>hn⟩⟩
 ·rcases h1 with h0 | ⟨g,rfl,hc⟩
  ·exact .inl h0
  ·refine .inr ⟨g,0,rfl,fun j hj=>?_⟩
   dsimp only at hj ⊢
   rw [Nat.zero_add,hc j hj,List.getElem?_map,List.getElem?_eq_getElem hj]
   rfl
 ·rcases h2 with h0 | ⟨g,rfl,hc⟩
  ·exact .inl h0
  ·refine .inr ⟨g,0,rfl,fun j hj=>?_⟩
   dsimp only at hj ⊢
   have hj':j < gl.length:=by rw [h.col.len];exact hj
   rw [Nat.zero_add,hc j hj,List.getElem?_map,List.getElem?_eq_getElem hj']
   rfl
theorem zono_openB {H:Type} {enc:TypeId × Value -> H} {W:World} {b0:Nat} {v:Value} {d:DataW H} {p:List MemPlace}
  (hv:Value.okWide Tryz.prog W .any b0 26 v) (h:DataW.Trod enc Tryz.prog W 0 (fun _=>true) true 26 v d p) (hk:Rows.uptoBulk d <= 1048576) :
  ∃ z:ZD,v = .agg (zRow z) /\ ZR W z /\ ZW z /\ z.dn <= Rows.uptoBulk d:=by
 obtain ⟨v0,v1,v2,v3,v4,v5,y0,y1,y2,y3,y4,y5,m,rfl,hb,g0,g1,g2,g3,g4,g5⟩:=agg6 Tryz.underlying26 (by kernel_rfl) (by kernel_rfl) hv h
 obtain ⟨N,e0,_,_⟩:=DataW.trod_int Tryz.underlying3 g0
 obtain ⟨co,cn,cc,cs,e1,r1,s1,t1⟩:=floatsJ_open Tryz.underlying22 Tryz.underlying45 (by kernel_rfl) g1
 obtain ⟨io,dn,dc,ids,e2,r2,s2,t2⟩:=intsJ_open Tryz.underlying23 Tryz.underlying3 (by kernel_rfl) g2
 obtain ⟨go,gn,gc,gv,gs,e3,r3,s3,t3⟩:=rowsJ_open Tryz.underlying24 Tryz.underlying22 Tryz.underlying45 (by kernel_rfl) (by kernel_rfl) g3
 obtain ⟨ro,rn,rc,rs,e4,r4,s4,t4⟩:=floatsJ_open Tryz.underlying22 Tryz.underlying45 (by kernel_rfl) g4
 obtain ⟨bad,e5⟩:=trodJ_bool Tryz.underlying4 g5
 simp only [List.cons.injEq,and_true] at e0 e1 e2 e3 e4 e5
 subst e0 e1 e2 e3 e4 e5
 have b1:=hb y1 (by simp)
 have b2:=hb y2 (by simp)
 have b3:=hb y3 (by simp)
 have b4:=hb y4 (by simp)
 exact ⟨⟨N,co,cn,cc,io,dn,dc,go,gn,gc,ro,rn,rc,bad,cs,ids,gv,gs,rs⟩,rfl,⟨r1,r2,r3,r4⟩,⟨s1,s2,s4,fun k hk'=>(t3 k hk').1,by dsimp only;omega,by dsimp only;omega,by dsimp only;omega,by dsimp only;omega,fun k hk'=>by have:=(t3 k hk').2;dsimp only;omega⟩,by dsimp only;omega⟩
end Go.Proofs.YtmdjoaipkbnelaaGreat
