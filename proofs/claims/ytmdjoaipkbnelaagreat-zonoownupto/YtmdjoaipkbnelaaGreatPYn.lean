import Derived.Test.YtmdjoaipkbnelaaGreatPYm
set_option linter.unusedVariables false
set_option linter.unusedSimpArgs false
namespace Go.Proofs.YtmdjoaipkbnelaaGreat
open Go.RowKit Go.Shelf
def SpN (W:World) (g n:Nat):Prop:=∃ arr:Array Value,W.heap[g]? = some (.cells arr 47) /\ arr.size = n * 3 /\ ∀ j,j < n -> ∃ a b c,arr[j * 3]? = some (.float .f64 a) /\ arr[j * 3 + 1]? = some (.float .f64 b) /\ arr[j * 3 + 2]? = some (.bool c) /\ frung a <= infK /\ frung b <= infK
def SpB (W:World) (g n:Nat):Prop:=∃ arr:Array Value,W.heap[g]? = some (.cells arr 47) /\ arr.size = n * 3
theorem SpN.heap {W W':World} {g n:Nat} (h:SpN W g n) (hk:W'.heap[g]? = W.heap[g]?):SpN W' g n:=by obtain ⟨arr,h1,h2⟩:=h;exact ⟨arr,hk.trans h1,h2⟩
theorem SpN.lt {W:World} {g n:Nat} (h:SpN W g n):g < W.heap.size:=by obtain ⟨arr,h1,_⟩:=h;exact blk_lt h1
theorem SpN.b {W:World} {g n:Nat} (h:SpN W g n):SpB W g n:=by obtain ⟨arr,h1,h2,_⟩:=h;exact ⟨arr,h1,h2⟩
theorem plainM_le {a:Nat} (h:Fin a):frung (plainM a) <= infK:=by
 unfold plainM
 split
 ·decide
 ·exact Nat.le_of_lt h
theorem makeS_le (lo hi:Nat):frung (makeS lo hi).1 <= infK /\ frung (makeS lo hi).2.1 <= infK:=by
 unfold makeS
 split
 ·rename_i h
  exact ⟨plainM_le h.2.1,plainM_le h.2.2.1⟩
 ·exact ⟨by decide,by decide⟩
theorem AroR_le {c:Nat} {o:Option Int} {r:Nat × Nat × Bool} (h:AroR c o r):frung r.1 <= infK /\ frung r.2.1 <= infK:=by
 obtain ⟨lo,low,hi,high,_,_,rfl⟩:=h
 split
 ·exact makeS_le lo hi
 ·exact ⟨by decide,by decide⟩
structure BdO (W:World) (base:Nat) (x:ZD) (v:Value):Prop where
 is:((!x.bad && wholeB x) = true /\ x.rn <= 256 /\ ∃ g,v = .slice (some ⟨g,0,none⟩) x.rn x.rn /\ base <= g /\ SpN W g x.rn) \/ ((!x.bad && wholeB x) = false /\ v = .slice none 0 0)
theorem BdO.keep {W W':World} {base:Nat} {x:ZD} {v:Value} (h:BdO W base x v) (hk:∀ k,base <= k -> k < W.heap.size -> W'.heap[k]? = W.heap[k]?):BdO W' base x v:=by
 rcases h.is with ⟨h1,h2,g,h3,h4,h5⟩ | h1
 ·exact ⟨.inl ⟨h1,h2,g,h3,h4,h5.heap (hk g h4 h5.lt)⟩⟩
 ·exact ⟨.inr h1⟩
theorem BdO.mono {W:World} {base b:Nat} {x:ZD} {v:Value} (h:BdO W base x v) (hb:b <= base):BdO W b x v:=by
 rcases h.is with ⟨h1,h2,g,h3,h4,h5⟩ | h1
 ·exact ⟨.inl ⟨h1,h2,g,h3,Nat.le_trans hb h4,h5⟩⟩
 ·exact ⟨.inr h1⟩
theorem boundsO_any (x:ZD) (w:World) (hx:ZR w x) (hd:x.dn <= 1050000) :
  Calls Tryz.prog 9 #[.agg (zRow x)] w fun e w'=>∃ v,e = .returned v /\ BdO w' w.heap.size x v /\ Below w.heap.size w w':=by
 cases hg:(!x.bad && wholeB x) with
 | true=>
  obtain ⟨h1,h2,h3⟩:=tk_good hg
  have hf:=WhF.of hx hd h2
  refine Calls.mono (bounds_ok x w hx (check_whole h1 h2) h1 hf.N (by have:=hf.n2;omega) (Nat.le_of_eq hf.dg) hf.cn hf.gl) ?_
  rintro e w' ⟨⟨g,he,h4,hs⟩,hb⟩
  refine ⟨_,he,⟨.inl ⟨hg,hf.n2,g,rfl,h4,?_⟩⟩,hb⟩
  obtain ⟨arr,ha,hz,hj⟩:=hs.ex
  refine ⟨arr,ha,hz,fun j hjn=>?_⟩
  obtain ⟨r,hr,c0,c1,c2⟩:=hj j hjn
  exact ⟨r.1,r.2.1,r.2.2,c0,c1,c2,(AroR_le hr).1,(AroR_le hr).2⟩
 | false=>
  refine Calls.mono (bounds_no x w hx (tk_bad hg)) ?_
  rintro e w' ⟨he,hb⟩
  exact ⟨_,he,⟨.inr ⟨hg,rfl⟩⟩,hb⟩
theorem ofO (z:ZD) (w:World) (hz:ZR w z) (hw:ZW z) :
  Calls Tryz.prog 4 #[.agg (zRow z)] w fun e w'=>∃ u:ZD,e = .returned (.agg (zRow u)) /\ OfO w' w.heap.size u /\ SmZ u z /\ Below w.heap.size w w':=by
 refine Calls.mono (of10_any z w hz hw) ?_
 rintro e w1 ⟨u,he,hu,u1,u2,u3,u4,u5,u6,u7,u8,u9,u10,b1,ho⟩
 exact ⟨u,he,ho,⟨u1,u2,u3,u4,u5,u6,u7,u8,u9,u10⟩,b1⟩
theorem OfL.keepB {w w':World} {base:Nat} {cs rs:List Nat} {ids:List Int} {gs:List (List Nat)} {vc vr vi vg:Value} {gl:List Value} (h:OfL w base cs rs ids gs vc vr vi vg gl) (hk:∀ k,base <= k -> k < w.heap.size -> w'.heap[k]? = w.heap[k]?):OfL w' base cs rs ids gs vc vr vi vg gl:=by
 have kx:∀ {E:TypeId} {n:Nat} {v:Value} {xs:List Value},w.ownsRow base E 1 v n xs -> w'.ownsRow base E 1 v n xs:=fun h=>owns_keep h fun k e=>hk k (World.ownsRow.lt h k e).1 (World.ownsRow.lt h k e).2
 exact ⟨kx h.c,kx h.r,kx h.i,kx h.g,h.len,fun j u hj=>kx (h.col j u hj)⟩
theorem OfO.keepB {w w':World} {base:Nat} {u:ZD} (h:OfO w base u) (hk:∀ k,base <= k -> k < w.heap.size -> w'.heap[k]? = w.heap[k]?):OfO w' base u:=by
 obtain ⟨gl,h⟩:=h
 exact ⟨gl,h.keepB hk⟩
theorem OfO.keepT {w w':World} {base:Nat} {u:ZD} (h:OfO w base u) (hk:∀ (k:Nat) (cur:Array Value) (t:TypeId),t ≠ 30 -> w.heap[k]? = some (.cells cur t) -> w'.heap[k]? = w.heap[k]?):OfO w' base u:=by
 obtain ⟨gl,h⟩:=h
 exact ⟨gl,h.keep hk⟩
theorem OfO.later {w w':World} {base:Nat} {u:ZD} (h:OfO w base u) (hb:Below w.heap.size w w'):OfO w' base u:=by
 obtain ⟨gl,h⟩:=h
 exact ⟨gl,h.later hb⟩
theorem OfO.mono {w:World} {base b:Nat} {u:ZD} (h:OfO w base u) (hb:b <= base):OfO w b u:=by
 obtain ⟨gl,h⟩:=h
 exact ⟨gl,owns_monoJ h.c hb,owns_monoJ h.r hb,owns_monoJ h.i hb,owns_monoJ h.g hb,h.len,fun j v hj=>owns_monoJ (h.col j v hj) hb⟩
theorem OfO.zu {w:World} {base:Nat} {u:ZD} (h:OfO w base u):∃ u',zRow u' = zRow u /\ ZU w u' /\ u'.N = u.N /\ u'.bad = u.bad /\ u'.cs = u.cs /\ u'.rs = u.rs /\ u'.ids = u.ids /\ u'.gs = u.gs:=by
 obtain ⟨gl,h⟩:=h
 obtain ⟨u',e,h1,h2,h3,h4,h5,h6,h7,_⟩:=h.zu u.N u.bad
 exact ⟨u',(Value.agg.inj e).symm,h1,h2,h3,h4,h5,h6,h7⟩
def TyA (W:World) (t0:TypeId) (ao:Option Addr):Prop:=∀ b off,ao = some ⟨b,off,none⟩ -> ∃ cur t,W.heap[b]? = some (.cells cur t) /\ t ≠ t0
theorem RdF.keepT {W W':World} {t0:TypeId} {ao:Option Addr} {len cap:Nat} {us:List Nat} (h:RdF W ao len cap us) (ht:TyA W t0 ao) (hk:∀ (k:Nat) (cur:Array Value) (t:TypeId),t ≠ t0 -> W.heap[k]? = some (.cells cur t) -> W'.heap[k]? = W.heap[k]?):RdF W' ao len cap us:=by
 refine ⟨h.length,h.max,h.lt,?_⟩
 rcases h.cells with h0 | ⟨b,off,ha,hc⟩
 ·exact .inl h0
 ·obtain ⟨cur,t,h1,h2⟩:=ht b off ha
  exact .inr ⟨b,off,ha,fun j hj=>(World.cell?_of_block (a:=⟨b,off + j,none⟩) (hk b cur t h2 h1)).trans (hc j hj)⟩
theorem RdIs.keepT {W W':World} {t0:TypeId} {ao:Option Addr} {len cap:Nat} {us:List Int} (h:RdIs W ao len cap us) (ht:TyA W t0 ao) (hk:∀ (k:Nat) (cur:Array Value) (t:TypeId),t ≠ t0 -> W.heap[k]? = some (.cells cur t) -> W'.heap[k]? = W.heap[k]?):RdIs W' ao len cap us:=by
 refine ⟨h.length,h.max,?_⟩
 rcases h.cells with h0 | ⟨b,off,ha,hc⟩
 ·exact .inl h0
 ·obtain ⟨cur,t,h1,h2⟩:=ht b off ha
  exact .inr ⟨b,off,ha,fun j hj=>(World.cell?_of_block (a:=⟨b,off + j,none⟩) (hk b cur t h2 h1)).trans (hc j hj)⟩
theorem RdGs.keepT {W W':World} {t0:TypeId} {ao:Option Addr} {len cap:Nat} {gv:Nat -> Option Addr × Nat × Nat} {gs:List (List Nat)} (h:RdGs W ao len cap gv gs) (ht:TyA W t0 ao) (hg:∀ j,j < len -> TyA W t0 (gv j).1) (hk:∀ (k:Nat) (cur:Array Value) (t:TypeId),t ≠ t0 -> W.heap[k]? = some (.cells cur t) -> W'.heap[k]? = W.heap[k]?):RdGs W' ao len cap gv gs:=by
 refine ⟨h.length,h.max,?_,fun j hj=>(h.each j hj).keepT (hg j hj) hk⟩
 rcases h.cells with h0 | ⟨b,off,ha,hc⟩
 ·exact .inl h0
 ·obtain ⟨cur,t,h1,h2⟩:=ht b off ha
  exact .inr ⟨b,off,ha,fun j hj=>(World.cell?_of_block (a:=⟨b,off + j,none⟩) (hk b cur t h2 h1)).trans (hc j hj)⟩
def ivY (y:ZD):Value:=.slice y.io y.dn y.dc
def gvY (y:ZD):Value:=.slice y.go y.gn y.gc
theorem FamL.ty {W:World} {E:TypeId} {base:Nat} {L:List Value} (h:FamL W E base L) {v:Value} (hv:v ∈ L) {q:Nat} (e:v.ownBlock = some q):∃ cur,W.heap[q]? = some (.cells cur E):=by
 obtain ⟨n,C,h1,_⟩:=h.f v hv
 exact h1.ty q e
theorem FamL.keepT {W W':World} {E:TypeId} {base:Nat} {L:List Value} (h:FamL W E base L) (hk:∀ (k:Nat) (cur:Array Value),W.heap[k]? = some (.cells cur E) -> W'.heap[k]? = W.heap[k]?):FamL W' E base L:=
 ⟨fun v hv=>by obtain ⟨n,C,h1,h2⟩:=h.f v hv;exact ⟨n,C,h1.keep fun k e=>by obtain ⟨cur,hc⟩:=h1.ty k e;exact hk k cur hc,h2⟩,h.a⟩
theorem FamL.one {W:World} {E:TypeId} {base n:Nat} {v:Value} {C:List Value} (h:OwX W base E v n C) (hn:n <= 1100000):FamL W E base [v]:=
 ⟨fun u hu=>by rw [List.mem_singleton.1 hu];exact ⟨n,C,h,hn⟩,List.pairwise_singleton _ _⟩
structure AnL (W:World) (base:Nat) (ys:List ZD):Prop where
 z:∀ y ∈ ys,ZR W y /\ ZW y /\ (y.go = none -> y.gn = 0 /\ y.gc = 0)
 f:FamL W 45 base (lsF ys)
 i:FamL W 3 base (ys.map ivY)
 g:FamL W 22 base (ys.map gvY)
theorem AnL.nil (W:World) (base:Nat):AnL W base []:=⟨fun y hy=>absurd hy (by simp),FamL.nil _ _ _,FamL.nil _ _ _,FamL.nil _ _ _⟩
theorem AnL.later {W W':World} {base:Nat} {ys:List ZD} (h:AnL W base ys) (hb:Below W.heap.size W W'):AnL W' base ys:=
 ⟨fun y hy=>⟨(h.z y hy).1.later hb,(h.z y hy).2⟩,h.f.later hb,h.i.later hb,h.g.later hb⟩
theorem lsV_mem {ys:List ZD} {y:ZD} (hy:y ∈ ys) {v:Value} (hv:v ∈ lsV y):v ∈ lsF ys:=by
 unfold lsF
 exact List.mem_flatMap.2 ⟨y,hy,hv⟩
theorem AnL.keepT {W W':World} {base:Nat} {ys:List ZD} (h:AnL W base ys) (t0:TypeId) (h1:45 ≠ t0) (h2:3 ≠ t0) (h3:22 ≠ t0) (hk:∀ (k:Nat) (cur:Array Value) (t:TypeId),t ≠ t0 -> W.heap[k]? = some (.cells cur t) -> W'.heap[k]? = W.heap[k]?):AnL W' base ys:=by
 refine ⟨fun y hy=>⟨⟨?_,?_,?_,?_⟩,(h.z y hy).2⟩,h.f.keepT fun k cur hc=>hk k cur _ h1 hc,h.i.keepT fun k cur hc=>hk k cur _ h2 hc,h.g.keepT fun k cur hc=>hk k cur _ h3 hc⟩
 ·refine (h.z y hy).1.c.keepT (t0:=t0) (fun b off e=>?_) hk
  obtain ⟨cur,hc⟩:=h.f.ty (lsV_mem hy (v:=.slice y.co y.cn y.cc) (by simp [lsV])) (by rw [e];rfl)
  exact ⟨cur,_,hc,h1⟩
 ·refine (h.z y hy).1.i.keepT (t0:=t0) (fun b off e=>?_) hk
  obtain ⟨cur,hc⟩:=h.i.ty (List.mem_map.2 ⟨y,hy,rfl⟩) (q:=b) (by unfold ivY;rw [e];rfl)
  exact ⟨cur,_,hc,h2⟩
 ·refine (h.z y hy).1.g.keepT (t0:=t0) (fun b off e=>?_) (fun j hj b off e=>?_) hk
  ·obtain ⟨cur,hc⟩:=h.g.ty (List.mem_map.2 ⟨y,hy,rfl⟩) (q:=b) (by unfold gvY;rw [e];rfl)
   exact ⟨cur,_,hc,h3⟩
  ·obtain ⟨cur,hc⟩:=h.f.ty (lsV_mem hy (v:=.slice (y.gv j).1 (y.gv j).2.1 (y.gv j).2.2) (by unfold lsV gvL;exact List.mem_append.2 (.inr (List.mem_map.2 ⟨j,List.mem_range.2 hj,rfl⟩)))) (by rw [e];rfl)
   exact ⟨cur,_,hc,h1⟩
 ·refine (h.z y hy).1.r.keepT (t0:=t0) (fun b off e=>?_) hk
  obtain ⟨cur,hc⟩:=h.f.ty (lsV_mem hy (v:=.slice y.ro y.rn y.rc) (by simp [lsV])) (by rw [e];rfl)
  exact ⟨cur,_,hc,h1⟩
theorem OwnY.iv {W:World} {base:Nat} {y:ZD} (hz:ZR W y) (h:OwnY W base y):∃ C,OwX W base 3 (ivY y) y.dn C:=by
 unfold ivY
 rcases h with ⟨h1,h2,h3,h4,h5,h6,h7,h8,h9,h10,h11,h12⟩ | ⟨n,bc,br,vi,vg,gl,e,h⟩
 ·rw [h4,h5,h6]
  exact ⟨[],rfl,.inl ⟨rfl,rfl⟩⟩
 ·unfold zRow at e
  simp only [Array.mk.injEq,List.cons.injEq,and_true,true_and] at e
  obtain ⟨_,e2,_,_⟩:=e
  rw [e2]
  have h2:=OwX.of h.i
  rw [List.length_map,hz.i.length] at h2
  exact ⟨_,h2⟩
theorem OwnY.gv {W:World} {base:Nat} {y:ZD} (hz:ZR W y) (h:OwnY W base y):(∃ C,OwX W base 22 (gvY y) y.gn C) /\ (y.go = none -> y.gn = 0 /\ y.gc = 0):=by
 unfold gvY
 rcases h with ⟨h1,h2,h3,h4,h5,h6,h7,h8,h9,h10,h11,h12⟩ | ⟨n,bc,br,vi,vg,gl,e,h⟩
 ·rw [h7,h8,h9]
  exact ⟨⟨[],rfl,.inl ⟨rfl,rfl⟩⟩,fun _=>⟨rfl,rfl⟩⟩
 ·unfold zRow at e
  simp only [Array.mk.injEq,List.cons.injEq,and_true,true_and] at e
  obtain ⟨_,_,e3,_⟩:=e
  have h2:=OwX.of h.g
  rw [List.length_map,h.col.len,hz.g.length] at h2
  rw [e3]
  refine ⟨⟨_,h2⟩,fun hn=>?_⟩
  rw [<- e3,hn] at h2
  rcases h2.2 with ⟨h4,_⟩ | ⟨g,cap,cur,h4,_⟩
  ·injection h4 with _ h5 h6;exact ⟨h5,h6⟩
  ·injection h4 with h5;cases h5
theorem AnL.push {W W':World} {base:Nat} {ys:List ZD} {y:ZD} (h:AnL W base ys) (hb:Below W.heap.size W W') (hs:base <= W.heap.size) (zr:ZR W' y) (zw:ZW y) (o:OwnY W' W.heap.size y):AnL W' base (ys ++ [y]):=by
 obtain ⟨C,oi⟩:=OwnY.iv zr o
 obtain ⟨⟨D,og⟩,hn⟩:=OwnY.gv zr o
 have h':=h.later hb
 refine ⟨fun x hx=>?_,?_,?_,?_⟩
 ·rcases List.mem_append.1 hx with h1 | h1
  ·exact h'.z x h1
  ·rw [List.mem_singleton.1 h1];exact ⟨zr,zw,hn⟩
 ·rw [lsF_snoc]
  exact h'.f.append (OwnY.fam zr o (by have:=zw.cl;omega)) hs fun v hv q e=>(h.f.lt hv e).2
 ·rw [List.map_append]
  exact h'.i.append (FamL.one oi (by have:=zw.il;omega)) hs fun v hv q e=>(h.i.lt hv e).2
 ·rw [List.map_append]
  exact h'.g.append (FamL.one og (by have:=zw.gl;omega)) hs fun v hv q e=>(h.g.lt hv e).2
theorem FamL.idx {W:World} {E:TypeId} {base:Nat} {ys:List ZD} {s:ZD -> Value} {nn:ZD -> Nat} (hs:∀ y,∃ a c,s y = .slice a (nn y) c) (h:FamL W E base (ys.map s)):∃ C,Fam W E base ys.length (fun k=>s (ys[k]?.getD (badZ0 0))) (fun k=>nn (ys[k]?.getD (badZ0 0))) C:=by
 have hx:∀ k,∃ C:List Value,k < ys.length -> OwX W base E (s (ys[k]?.getD (badZ0 0))) (nn (ys[k]?.getD (badZ0 0))) C:=by
  intro k
  by_cases hk:k < ys.length
  ·rw [List.getElem?_eq_getElem hk,Option.getD_some]
   obtain ⟨n,C,h1,h2⟩:=h.f (s ys[k]) (List.mem_map.2 ⟨ys[k],List.getElem_mem hk,rfl⟩)
   obtain ⟨a,c,e⟩:=hs ys[k]
   obtain ⟨ao,cap,e2,_⟩:=h1.formF
   rw [e] at e2
   have e3:=(Value.slice.inj e2).2.1
   rw [e3]
   exact ⟨C,fun _=>h1⟩
  ·exact ⟨[],fun h=>absurd h hk⟩
 obtain ⟨C,hC⟩:=Classical.axiomOfChoice hx
 refine ⟨C,fun k hk=>hC k hk,fun i j hij hj q e=>?_⟩
 have h1:=List.pairwise_iff_getElem.1 h.a i j (by rw [List.length_map];omega) (by rw [List.length_map];exact hj) hij q
 simp only [List.getElem_map] at h1
 simp only [List.getElem?_eq_getElem hj,List.getElem?_eq_getElem (Nat.lt_trans hij hj),Option.getD_some] at e ⊢
 exact h1 e
end Go.Proofs.YtmdjoaipkbnelaaGreat
