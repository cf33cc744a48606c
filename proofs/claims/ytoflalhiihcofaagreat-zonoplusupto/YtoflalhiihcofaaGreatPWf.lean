import Derived.Test.YtoflalhiihcofaaGreatPPo
import Derived.Test.YtoflalhiihcofaaGreatPWe
set_option maxRecDepth 100000
set_option linter.unusedVariables false
set_option linter.unusedSimpArgs false
namespace Go.Proofs.YtoflalhiihcofaaGreat
open Go.RowKit Go.Shelf
theorem FrL.zw {w:World} {base n bc br:Nat} {cs rs:List Nat} {ids:List Int} {gs:List (List Nat)} {vi vg:Value} {gl:List Nat} (h:FrL w base n bc br cs rs ids gs vi vg gl) (N:Int) (bad:Bool) (hn:n <= 1050000) (hi:ids.length <= 1050000) (hg:gs.length <= 1050000) :
  ∃ y:ZD,(.agg #[.int .i64 N,slN n bc,vi,vg,slN n br,.bool bad]:Value) = .agg (zRow y) /\ ZR w y /\ y.N = N /\ y.bad = bad /\ y.cs = cs /\ y.rs = rs /\ y.ids = ids /\ y.gs = gs /\ y.cn = n /\ y.rn = n /\ y.dn = ids.length /\ y.gn = gs.length /\ ZW y:=by
 have hI:∀ a l c,vi = .slice a l c -> a = none -> l = 0 /\ c = 0:=fun a l c e ea=>by
  rcases h.i.2 with ⟨h0,_⟩ | ⟨g,cap,cur,h0,_⟩
  ·rw [e] at h0;cases h0;exact ⟨rfl,rfl⟩
  ·rw [e] at h0;cases h0;cases ea
 obtain ⟨io,dc,rfl,hm1,h1⟩:=owns_slice h.i
 obtain ⟨go,gc,rfl,hm2,h2⟩:=owns_slice h.g
 have e1:(ids.map (Value.int .i64)).length = ids.length:=List.length_map _
 have e2:(gl.map (slN n)).length = gs.length:=(List.length_map _).trans h.col.len
 rw [e1] at hm1 h1
 rw [e2] at hm2 h2
 rw [e1,e2]
 refine ⟨⟨N,some ⟨bc,0,none⟩,n,n,io,ids.length,dc,go,gs.length,gc,some ⟨br,0,none⟩,n,n,bad,cs,ids,fun j=>(some ⟨gl[j]?.getD 0,0,none⟩,n,n),gs,rs⟩,rfl,⟨h.c.rd,⟨rfl,hm1,?_⟩,⟨rfl,hm2,?_,fun j hj=>(h.col.row j (by rw [h.col.len];exact hj)).rd⟩,h.r.rd⟩,rfl,rfl,rfl,rfl,rfl,rfl,rfl,rfl,rfl,rfl,⟨(fun e=>by cases e),(fun e=>by have h9:=hI _ _ _ rfl e;rw [e1] at h9;exact h9),(fun e=>by cases e),(fun k hk e=>by cases e),hn,hi,hg,hn,fun k hk=>hn⟩⟩
 ·rcases h1 with h0 | ⟨g,rfl,hc⟩
  ·exact .inl h0
  ·refine .inr ⟨g,0,rfl,fun j hj=>?_⟩
   dsimp only at hj ⊢
   rw [Nat.zero_add,hc j hj,List.getElem?_map,List.getElem?_eq_getElem hj]
   rfl
 ·rcases h2 with h0 | ⟨g,rfl,hc⟩
  ·exact .inl h0
  ·refine .inr ⟨g,0,rfl,fun j hj=>?_⟩
   dsimp only at hj ⊢
   have hj':j < gl.length:=by rw [h.col.len];exact hj
   rw [Nat.zero_add,hc j hj,List.getElem?_map,List.getElem?_eq_getElem hj']
   rfl
theorem PlR.toW {w w':World} {x y:ZD} {base:Nat} {c:Array Value} (h:PlR (tkZ x) (tkZ y) base w' c) (hx:ZR w x) (hy:ZR w y) (dx:x.dn <= 1050000) (dy:y.dn <= 1050000) (ds:x.dn + y.dn <= 1050000) :
  ∃ z:ZD,(Value.agg c) = .agg (zRow z) /\ ZR w' z /\ PlP x y z /\ ZW z:=by
 have zb:∀ n:Int,ZW (⟨n,none,0,0,none,0,0,none,0,0,none,0,0,true,[],[],fun _=>(none,0,0),[],[]⟩:ZD):=fun n=>⟨(fun _=>⟨rfl,rfl⟩),(fun _=>⟨rfl,rfl⟩),(fun _=>⟨rfl,rfl⟩),(fun k hk=>absurd hk (Nat.not_lt_zero _)),Nat.zero_le _,Nat.zero_le _,Nat.zero_le _,Nat.zero_le _,fun k hk=>Nat.zero_le _⟩
 have bx:=tk_badB x
 have bq:=tk_badB y
 by_cases e:(tkZ x).N = (tkZ y).N
 ·by_cases hb:(tkZ x).bad = true \/ (tkZ y).bad = true
  ·have hc:=h.bd e hb
   refine ⟨_,by rw [hc];rfl,badR (tkZ x).N w',⟨.inr ⟨?_,by rw [if_pos e],rfl,rfl,rfl,rfl,rfl⟩⟩,zb _⟩
   rcases hb with hb | hb
   ·rw [hb] at bx
    exact .inl (by cases hq:(!x.bad && wholeB x) with | false=>rfl | true=>rw [hq] at bx;cases bx)
   ·rw [hb] at bq
    exact .inr (.inl (by cases hq:(!y.bad && wholeB y) with | false=>rfl | true=>rw [hq] at bq;cases bq))
  ·have hbx:(tkZ x).bad = false:=by cases hq:(tkZ x).bad with | true=>exact absurd (.inl hq) hb | false=>rfl
   have hby:(tkZ y).bad = false:=by cases hq:(tkZ y).bad with | true=>exact absurd (.inr hq) hb | false=>rfl
   obtain ⟨ga,gb,hrn,hh⟩:=h.gd e hbx hby
   have goodx:(!x.bad && wholeB x) = true:=by rw [hbx] at bx;cases hq:(!x.bad && wholeB x) with | true=>rfl | false=>rw [hq] at bx;cases bx
   have goody:(!y.bad && wholeB y) = true:=by rw [hby] at bq;cases hq:(!y.bad && wholeB y) with | true=>rfl | false=>rw [hq] at bq;cases bq
   rw [tk_self (tk_good goodx).2.2] at ga e hrn hh
   rw [tk_self (tk_good goody).2.2] at gb e hrn hh
   have lx:x.ids.length = x.gs.length:=by rw [hx.i.length,hx.g.length];exact ga.wh.dg
   have ly:y.ids.length = y.gs.length:=by rw [hy.i.length,hy.g.length];exact gb.wh.dg
   have hm:(mg x.ids y.ids).length <= 4000000:=by
    have h1:=mg_len x.ids y.ids
    rw [hx.i.length,hy.i.length] at h1
    omega
   have same:=fun {cu cv us:List Nat} {UL VL WL:List (List Nat)} (h1:NeR x.rn x.cs y.cs cu cv x.rn) (h2:SuK x y x.rn (mg x.ids y.ids) UL VL (mg x.ids y.ids).length) (k:PlS x y x.rn us WL)=>pl_same (a:=x) (b:=y) ga.wh.fin gb.wh.fin gb.wh.pos lx ly hm h1 h2 k
   rcases hh with ⟨hc,hno⟩ | hsu
   ·refine ⟨_,by rw [hc];rfl,badR x.N w',⟨.inr ⟨.inr (.inr (.inr ⟨hrn,?_⟩)),by rw [tk_self (tk_good goodx).2.2,tk_self (tk_good goody).2.2,if_pos e],rfl,rfl,rfl,rfl,rfl⟩⟩,zb _⟩
    rcases hno with ⟨j,r,hj,hr⟩ | ⟨i,j,r,hi,hj,hr⟩ | ⟨cu,cv,UL,VL,j,r,h1,h2,hj,hr⟩
    ·exact .inl ⟨j,r,hj,by rw [sumF_at _ _ hj];exact hr⟩
    ·exact .inr (.inl ⟨i,j,r,hi,hj,by rw [col_sum lx ly hi hj];exact hr⟩)
    ·have hS:=pls_of lx ly h1 h2
     exact .inr (.inr ⟨cu,UL,j,r,hS.c,hS.g,hj,(same h1 h2 hS).2.2 j hj r false hr⟩)
   ·obtain ⟨bc,br,vi,vg,gl,cu,cv,UL,VL,rs,rfl,hf,h1,h2,h3⟩:=hsu.yes rfl
    have hS:=pls_of lx ly h1 h2
    have hkl:(kpP (mg x.ids y.ids) UL).length <= 1050000:=by
     have h6:(kpP (mg x.ids y.ids) UL).length <= (mg x.ids y.ids).length:=Nat.le_trans (List.length_filter_le _ _) (by rw [List.length_zip];exact Nat.min_le_left _ _)
     have h7:=mg_len x.ids y.ids
     rw [hx.i.length,hy.i.length] at h7
     omega
    obtain ⟨z,hz,hzr,z1,z2,z3,z4,z5,z6,z7,z8,_,_,zw⟩:=hf.zw (x.rn:Int) false (by have:=ga.wh.n2;omega) (by rw [List.length_map];exact hkl) (by rw [List.length_map];exact hkl)
    exact ⟨z,hz,hzr,⟨.inl ⟨goodx,goody,e,hrn,cu,UL,hS,z1,z2,z3,by rw [hzr.r.length];exact z8,fun j hj=>by rw [z4];exact (same h1 h2 hS).2.2 j hj _ _ (h3 j hj),z5,z6⟩⟩,zw⟩
 ·have hc:=h.un e
  refine ⟨_,by rw [hc];rfl,badR 0 w',⟨.inr ⟨?_,by rw [if_neg e],rfl,rfl,rfl,rfl,rfl⟩⟩,zb _⟩
  cases gx:(!x.bad && wholeB x) with
  | false=>exact .inl rfl
  | true=>
   cases gy:(!y.bad && wholeB y) with
   | false=>exact .inr (.inl rfl)
   | true=>
    rw [tk_self (tk_good gx).2.2,tk_self (tk_good gy).2.2] at e
    exact .inr (.inr (.inl e))
theorem zono_openB {H:Type} {enc:TypeId × Value -> H} {W:World} {b0:Nat} {v:Value} {d:DataW H} {p:List MemPlace}
  (hv:Value.okWide Tryz.prog W .any b0 26 v) (h:DataW.Trod enc Tryz.prog W 0 (fun _=>true) true 26 v d p) (hk:Rows.uptoBulk d <= 1048576) :
  ∃ z:ZD,v = .agg (zRow z) /\ ZR W z /\ ZW z /\ z.dn <= Rows.uptoBulk d:=by
 obtain ⟨v0,v1,v2,v3,v4,v5,y0,y1,y2,y3,y4,y5,m,rfl,hb,g0,g1,g2,g3,g4,g5⟩:=agg6 Tryz.underlying26 (by kernel_rfl) (by kernel_rfl) hv h
 obtain ⟨N,e0,_,_⟩:=DataW.trod_int Tryz.underlying3 g0
 obtain ⟨co,cn,cc,cs,e1,r1,s1,t1⟩:=floatsJ_open Tryz.underlying22 Tryz.underlying61 (by kernel_rfl) g1
 obtain ⟨io,dn,dc,ids,e2,r2,s2,t2⟩:=intsJ_open Tryz.underlying23 Tryz.underlying3 (by kernel_rfl) g2
 obtain ⟨go,gn,gc,gv,gs,e3,r3,s3,t3⟩:=rowsJ_open Tryz.underlying24 Tryz.underlying22 Tryz.underlying61 (by kernel_rfl) (by kernel_rfl) g3
 obtain ⟨ro,rn,rc,rs,e4,r4,s4,t4⟩:=floatsJ_open Tryz.underlying22 Tryz.underlying61 (by kernel_rfl) g4
 obtain ⟨bad,e5⟩:=trodJ_bool Tryz.underlying4 g5
 simp only [List.cons.injEq,and_true] at e0 e1 e2 e3 e4 e5
 subst e0 e1 e2 e3 e4 e5
 have b1:=hb y1 (by simp)
 have b2:=hb y2 (by simp)
 have b3:=hb y3 (by simp)
 have b4:=hb y4 (by simp)
 exact ⟨⟨N,co,cn,cc,io,dn,dc,go,gn,gc,ro,rn,rc,bad,cs,ids,gv,gs,rs⟩,rfl,⟨r1,r2,r3,r4⟩,⟨s1,s2,s4,fun k hk'=>(t3 k hk').1,by dsimp only;omega,by dsimp only;omega,by dsimp only;omega,by dsimp only;omega,fun k hk'=>by have:=(t3 k hk').2;dsimp only;omega⟩,by dsimp only;omega⟩
theorem realsQ {a u:ZD} {w w0:World} {ou:Bool} {E:Nat} (hE:E = 1074) (hu:ZU w u) (hsu:SmZ u a) (ha:ZR w0 a) (hw:ZW a) (ho:(!a.bad && wholeB a) = ou) :
  Calls Tryz.prog 4 #[.agg (zRow u)] w fun e w'=>(∃ N' a1 l1 c1 a2 l2 c2 a3 l3 c3 a4 l4 c4,e = .returned (.tuple #[.agg #[.int .i64 N',.slice a1 l1 c1,.slice a2 l2 c2,.slice a3 l3 c3,.slice a4 l4 c4],.bool ou]) /\ (ou = true -> N' = a.N /\ ∃ gl,RlS w' w.heap.size E a.cs a.rs a.ids a.gs (.slice a1 l1 c1) (.slice a4 l4 c4) (.slice a2 l2 c2) (.slice a3 l3 c3) gl)) /\ Below w.heap.size w w':=by
 have h:=reals_any u E hE w hu (SmZ.uw hsu ha hw hu)
 rw [hsu.good,ho,hsu.N,hsu.cs,hsu.rs,hsu.ids,hsu.gs] at h
 exact h
theorem by_key9 {F G:Value -> Value -> Bool -> Option Addr -> Nat -> Nat -> Int -> Nat -> World -> Prop} {goal:Prop} (main:(∀ a b n o l c e B W,F a b n o l c e B W -> G a b n o l c e B W) -> goal) (pf:∀ a b n o l c e B W,F a b n o l c e B W -> G a b n o l c e B W):goal:=main pf
theorem by_key4 {F G:Value -> Nat -> Value -> World -> Prop} {goal:Prop} (main:(∀ a B v W,F a B v W -> G a B v W) -> goal) (pf:∀ a B v W,F a B v W -> G a B v W):goal:=main pf
theorem ex_makeP {P:Program} {ρ:Operand -> Value} (o:Oper) (t:TypeId) (x y:Operand) (ho:o.op = .makeSlice t x y) (u1 u2:Value) (hx:ρ x = u1) (hy:ρ y = u2) (v:Value) (w w':World) (h:(Instr.makeSlice t u1 u2).run P w = .ok v w'):(execOp ρ o).run P w = .ok (.value v) w':=by
 unfold execOp
 simp only [ho,hx,hy,h,Sem.run_bind,Sem.run_pure,Result.andThen_ok]
theorem hopMN {ops:Array Oper} {Q:Exit -> Act -> World -> Prop} {i:Nat} {o:Oper} {K:Act -> World -> Prop} {a:Act} {w:World} (d:Nat) (ho:ops[i]? = some o) (hg:o.guard = none) (hd:o.dst = some d) (x y:Operand) (n s:Nat) (T:Int) (hT:0 <= T) (hn:n <= 1000000) (hop:o.op = .makeSlice 27 x y) (hx:a.eval x = .int .i64 (n:Int)) (hy:a.eval y = .int .i64 (n:Int))
  (h:∀ D W',RowZ W' D (.slice (some ⟨D,0,none⟩) n n) s T (List.replicate n 0) -> Below w.heap.size w W' -> K (a.put (some d) (.slice (some ⟨D,0,none⟩) n n)) W'):wpOp Tryz.prog ops Q i K a w:=by
 obtain ⟨w',hr,hz,hb⟩:=makeNJ n hn s T hT w
 exact hopV d ho hg hd (ex_makeP _ _ x y hop _ _ hx hy _ _ _ hr) (h _ _ hz hb)
theorem allocNP (w:World):(Instr.alloc 46 true (.tuple #[])).run Tryz.prog w = .ok (.pointer (some ⟨w.heap.size,0,none⟩)) (w.alloc (.cells #[.bool false,.slice none 0 0,.int .i64 0] 46)):=by kernel_rfl
end Go.Proofs.YtoflalhiihcofaaGreat
