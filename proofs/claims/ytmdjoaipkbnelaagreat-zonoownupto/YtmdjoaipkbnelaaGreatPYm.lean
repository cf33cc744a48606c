import Derived.Test.YtmdjoaipkbnelaaGreatPYl
set_option maxRecDepth 100000
set_option maxHeartbeats 4000000
set_option linter.unusedVariables false
set_option linter.unusedSimpArgs false
namespace Go.Proofs.YtmdjoaipkbnelaaGreat
open Go.RowKit Go.Shelf
theorem Tryz.szIO:(Tryz.prog.info? 3).map (·.size) = some 1:=by kernel_rfl
theorem Tryz.szFsO:(Tryz.prog.info? 22).map (·.size) = some 1:=by kernel_rfl
def vM (i:Nat):Value:=.int .i64 (1000 + (i:Int))
def fL (i:Nat):Nat:=FloatKind.f64.nearest (i:Int)
theorem cv_L (i:Nat) (w:World):(convert 3 45 (.int .i64 (i:Int))).run Tryz.prog w = .ok (.float .f64 (fL i)) w:=by kernel_rfl
def OneF (W:World) (x:Nat) (v:Value):Prop:=∃ b c,v = .slice (some ⟨b,0,none⟩) 1 c /\ ∃ cur,W.heap[b]? = some (Obj.cells cur 45) /\ cur[0]? = some (.float .f64 x)
theorem OneF.keep {W W':World} {x:Nat} {v:Value} (h:OneF W x v) (hk:∀ (k:Nat) (cur:Array Value),W.heap[k]? = some (Obj.cells cur 45) -> W'.heap[k]? = W.heap[k]?):OneF W' x v:=by
 obtain ⟨b,c,h1,cur,h2,h3⟩:=h
 exact ⟨b,c,h1,cur,(hk b cur h2).trans h2,h3⟩
def vI (ys:List ZD) (k:Nat):Value:=.slice (ys[k]?.getD (badZ0 0)).io (ys[k]?.getD (badZ0 0)).dn (ys[k]?.getD (badZ0 0)).dc
def vG (ys:List ZD) (k:Nat):Value:=.slice (ys[k]?.getD (badZ0 0)).go (ys[k]?.getD (badZ0 0)).gn (ys[k]?.getD (badZ0 0)).gc
def nI (ys:List ZD) (k:Nat):Nat:=(ys[k]?.getD (badZ0 0)).dn
def nG (ys:List ZD) (k:Nat):Nat:=(ys[k]?.getD (badZ0 0)).gn
structure Id1 (W0 W:World) (base K i:Nat) (ys:List ZD) (CI CG:Nat -> List Value):Prop where
 b:Below base W0 W
 fI:Fam W 3 base K (vI ys) (nI ys) CI
 fG:Fam W 22 base K (vG ys) (nG ys) CG
 o:∀ k,k < W0.heap.size -> (∀ j,j < K -> (vI ys j).ownBlock ≠ some k) -> (∀ j,j < K -> (vG ys j).ownBlock ≠ some k) -> W.heap[k]? = W0.heap[k]?
 mI:∀ k,k < i -> CI k = List.replicate (nI ys k) (vM k)
 mG:∀ k,k < i -> ∀ v ∈ CG k,OneF W (fL k) v
theorem Tryz.infoIsO:(Tryz.prog.info? 23).map (fun i=>(i.zero,i.size,i.bytes)) = some (some (.slice none 0 0),1,24):=by kernel_rfl
theorem Tryz.infoIO:(Tryz.prog.info? 3).map (fun i=>(i.zero,i.size,i.bytes)) = some (some (.int .i64 0),1,8):=by kernel_rfl
def KpF (W W':World):Prop:=∀ (q:Nat) (cur:Array Value),W.heap[q]? = some (Obj.cells cur 45) -> W'.heap[q]? = W.heap[q]?
def vN (i:Nat):Value:=.int .i64 (-(i:Int))
def fM (i:Nat):Nat:=FloatKind.f64.nearest (-(i:Int))
theorem cv_M (i:Nat) (w:World):(convert 3 45 (.int .i64 (-(i:Int)))).run Tryz.prog w = .ok (.float .f64 (fM i)) w:=by kernel_rfl
theorem Tryz.infoFssO:(Tryz.prog.info? 24).map (fun i=>(i.zero,i.size,i.bytes)) = some (some (.slice none 0 0),1,24):=by kernel_rfl
theorem grown_below {W w':World} {base:Nat} {r:Option Nat} (g:W.grownBy w' r) (hr:∀ q,r = some q -> base <= q) (hb:base <= W.heap.size):Below base W w':=⟨g.os,g.tape,g.output,g.size,fun k hk=>g.block k (by omega) fun e=>by have:=hr k e.symm;omega⟩
structure Id2 (W1 W:World) (base H K i:Nat) (ys:List ZD) (CI CG:Nat -> List Value) (uI uG:Nat -> Value) (DI DG:Nat -> List Value) (mv ov:Value):Prop where
 fI:FbG W 3 23 20 H base K i (vI ys) uI (nI ys) CI DI mv
 fG:FbG W 22 24 20 H base K i (vG ys) uG (nG ys) CG DG ov
 b:Below base W1 W
 z:H <= W.heap.size
 o:∀ k,k < H -> (∀ j,j < K -> (vI ys j).ownBlock ≠ some k) -> (∀ j,j < K -> (vG ys j).ownBlock ≠ some k) -> W.heap[k]? = W1.heap[k]?
 mG:∀ k,k < K -> ∀ v ∈ CG k,OneF W (fL k) v
 dI:∀ k,k < i -> DI k = List.replicate 20 (vN k)
 dG:∀ k,k < i -> ∀ v ∈ DG k,OneF W (fM k) v
theorem ne_L:∀ k:Nat,k < 8 -> (FloatKind.f64.format.order (fL k) (fL k) != some Ordering.eq) = false
 | 0,_=>by kernel_rfl
 | 1,_=>by kernel_rfl
 | 2,_=>by kernel_rfl
 | 3,_=>by kernel_rfl
 | 4,_=>by kernel_rfl
 | 5,_=>by kernel_rfl
 | 6,_=>by kernel_rfl
 | 7,_=>by kernel_rfl
 | n + 8,h=>absurd h (by omega)
theorem ne_M:∀ k:Nat,k < 8 -> (FloatKind.f64.format.order (fM k) (Op.negFloat .f64 (fL k)) != some Ordering.eq) = false
 | 0,_=>by kernel_rfl
 | 1,_=>by kernel_rfl
 | 2,_=>by kernel_rfl
 | 3,_=>by kernel_rfl
 | 4,_=>by kernel_rfl
 | 5,_=>by kernel_rfl
 | 6,_=>by kernel_rfl
 | 7,_=>by kernel_rfl
 | n + 8,h=>absurd h (by omega)
theorem run_negO (x:Nat):∀ w,(Op.unary .neg (.float .f64 x)).run Tryz.prog w = .ok (.float .f64 (Op.negFloat .f64 x)) w:=fun w=>rfl
theorem idsO_any (ys:List ZD) (K base I0 cp:Nat) (CI0 CG0:Nat -> List Value) (W0:World) (hK:ys.length = K) (hK8:K <= 8) (hn:∀ k,k < K -> nI ys k <= 1100000 /\ nG ys k <= 1100000) (hb0:base <= W0.heap.size) (hZ:RdZs W0 I0 ys) (hZt:∃ cur,W0.heap[I0]? = some (Obj.cells cur 26)) (hI:Fam W0 3 base K (vI ys) (nI ys) CI0) (hG:Fam W0 22 base K (vG ys) (nG ys) CG0) :
  Calls Tryz.prog 12 #[.slice (some ⟨I0,0,none⟩) K cp] W0 fun e w'=>e = .returned (.bool true) /\ Below base W0 w' /\ ∀ k,k < W0.heap.size -> (∀ j,j < K -> (vI ys j).ownBlock ≠ some k) -> (∀ j,j < K -> (vG ys j).ownBlock ≠ some k) -> w'.heap[k]? = W0.heap[k]?:=by
 have HNN:Hid (∀ k,k < K -> nI ys k <= 1100000 /\ nG ys k <= 1100000):=hn
 have HB0:Hid (base <= W0.heap.size):=hb0
 have HZI:Hid (I0 < W0.heap.size /\ (∀ j,j < K -> (vI ys j).ownBlock ≠ some I0) /\ (∀ j,j < K -> (vG ys j).ownBlock ≠ some I0)):=by
  obtain ⟨cur,hc⟩:=hZt
  refine ⟨blk_lt hc,fun j hj e=>?_,fun j hj e=>?_⟩
  ·obtain ⟨c2,h2⟩:=(hI.f j hj).ty _ e
   rw [hc] at h2
   injection h2 with h2
   injection h2 with _ h2
   exact absurd h2 (by decide)
  ·obtain ⟨c2,h2⟩:=(hG.f j hj).ty _ e
   rw [hc] at h2
   injection h2 with h2
   injection h2 with _ h2
   exact absurd h2 (by decide)
 have HZ:Hid (∀ W:World,W.heap[I0]? = W0.heap[I0]? -> ∀ k,k < K -> W.cell? ⟨I0,k * 6 + 2,none⟩ = some (vI ys k) /\ W.cell? ⟨I0,k * 6 + 3,none⟩ = some (vG ys k)):=fun W hW k hk=>by
  have h1:=hZ.c k (by omega)
  unfold vI vG
  rw [List.getElem?_eq_getElem (by omega),Option.getD_some]
  exact ⟨(World.cell?_of_block (a:=⟨I0,k * 6 + 2,none⟩) hW).trans h1.2.1,(World.cell?_of_block (a:=⟨I0,k * 6 + 3,none⟩) hW).trans h1.2.2.1⟩
 have PA:Hid (∃ CI CG,Id1 W0 W0 base K 0 ys CI CG):=⟨CI0,CG0,Below.refl _ _,hI,hG,fun _ _ _ _=>rfl,fun k hk=>absurd hk (by omega),fun k hk=>absurd hk (by omega)⟩
 have HK8:Hid (K <= 8):=hK8
 clear hn hb0 hZ hZt hI hG
 go_enter Tryz.func12,Tryz.ntmps12
 go_wp2_with fail
 go_loopg [5] K (fun gg iv wx=>∃ i:Nat,iv = .int .i64 i /\ i + gg = K /\ Hid (∃ CI CG,Id1 W0 wx base K i ys CI CG))
 case atStart=>exact ⟨0,rfl,by omega,PA⟩
 case round=>
  clear PA
  obtain ⟨i,rfl,hj,P5⟩:=hrel
  by_cases hiK:i < K
  ·have e1:decide ((i:Int) < (K:Int)) = true:=decide_eq_true (by omega)
   obtain ⟨qq,rfl⟩:∃ q,gk = q + 1:=⟨gk - 1,by omega⟩
   have HIG:Hid (i + (qq + 1) = K):=hj
   have hiK':(i:Int) < (K:Int):=by omega
   have P6:Hid (∃ CI CG,Id1 W0 wr base K i ys CI CG /\ ∀ j',j' < 0 -> (CI i)[j']? = some (vM i)):=by obtain ⟨CI,CG,S⟩:=P5.out;exact ⟨CI,CG,S,fun j' h=>absurd h (by omega)⟩
   obtain ⟨ni,hni⟩:∃ m,nI ys i = m:=⟨_,rfl⟩
   obtain ⟨ng,hng⟩:∃ m,nG ys i = m:=⟨_,rfl⟩
   obtain ⟨ai,ci,hvi,hvis⟩:∃ ao cap,vI ys i = .slice ao ni cap /\ (0 < ni -> ∃ g,ao = some ⟨g,0,none⟩):=by
    obtain ⟨CI,CG,S⟩:=P5.out
    obtain ⟨ao,cap,h1,_,h3⟩:=OwX.formF (S.fI.f i hiK)
    rw [hni] at h1 h3
    exact ⟨ao,cap,h1,h3⟩
   obtain ⟨ag,cg,hvg,hvgs⟩:∃ ao cap,vG ys i = .slice ao ng cap /\ (0 < ng -> ∃ g,ao = some ⟨g,0,none⟩):=by
    obtain ⟨CI,CG,S⟩:=P5.out
    obtain ⟨ao,cap,h1,_,h3⟩:=OwX.formF (S.fG.f i hiK)
    rw [hng] at h1 h3
    exact ⟨ao,cap,h1,h3⟩
   have HV:Hid (vI ys i = .slice ai ni ci /\ vG ys i = .slice ag ng cg /\ nI ys i = ni /\ nG ys i = ng /\ (0 < ni -> ∃ g,ai = some ⟨g,0,none⟩) /\ (0 < ng -> ∃ g,ag = some ⟨g,0,none⟩)):=⟨hvi,hvg,hni,hng,hvis,hvgs⟩
   have hnm:=HNN.out i hiK
   rw [hni,hng] at hnm
   have HCC:Hid (∀ W:World,W.heap[I0]? = W0.heap[I0]? -> W.cell? ⟨I0,i * 6 + 2,none⟩ = some (.slice ai ni ci) /\ W.cell? ⟨I0,i * 6 + 3,none⟩ = some (.slice ag ng cg)):=fun W hW=>by
    have h9:=HZ.out W hW i hiK
    rw [hvi,hvg] at h9
    exact h9
   clear hj P5 hni hng hvi hvg hvis hvgs
   go_wp2_with fail
   go_loopg [6] ni (fun gg iv wx=>∃ j:Nat,iv = .int .i64 j /\ j + gg = ni /\ Hid (∃ CI CG,Id1 W0 wx base K i ys CI CG /\ ∀ j',j' < j -> (CI i)[j']? = some (vM i)))
   case atStart=>exact ⟨0,rfl,by omega,P6⟩
   case round=>
    clear P6
    obtain ⟨j,rfl,hj,P6⟩:=hrel
    obtain ⟨CI,CG,S',hM'⟩:=P6.out
    have S:Hid (Id1 W0 wr base K i ys CI CG):=S'
    have hM:Hid (∀ j',j' < j -> (CI i)[j']? = some (vM i)):=hM'
    clear P6 S' hM'
    obtain ⟨c2,c3⟩:=HCC.out wr (S.out.o I0 HZI.out.1 HZI.out.2.1 HZI.out.2.2)
    by_cases hjn:j < ni
    ·have e2:decide ((j:Int) < (ni:Int)) = true:=decide_eq_true (by omega)
     obtain ⟨qr,rfl⟩:∃ q,gk = q + 1:=⟨gk - 1,by omega⟩
     have HJG:Hid (j + (qr + 1) = ni):=hj
     have hjn':(j:Int) < (ni:Int):=by omega
     obtain ⟨G,rfl⟩:=HV.out.2.2.2.2.1 (by omega)
     have hk8:=HK8.out
     have v2:IntKind.i64.wrap (1000 + (i:Int)) = 1000 + (i:Int):=by simp [IntKind.wrap,IntKind.bits,IntKind.signed];omega
     have OV:OwX wr base 3 (.slice (some ⟨G,0,none⟩) ni ci) ni (CI i):=by
      have h1:=S.out.fI.f i hiK
      rw [HV.out.1,HV.out.2.2.1] at h1
      exact h1
     clear hj
     go_wp2_with (refine OwX.write (by rfl) _ _ (by rfl) Tryz.szIO W0 base base G ni ci j (CI i) (.int .i64 (1000 + (i:Int))) (by rfl) (by rfl) (by rfl) (by rfl) OV hjn S.out.b (Nat.le_refl _) ?_;intro W5 o5 b5 z5 k5)
     have P9:Hid (∃ CI CG,Id1 W0 W5 base K i ys CI CG /\ ∀ j',j' < j + 1 -> (CI i)[j']? = some (vM i)):=by
      have hne:∀ (q:Nat) (cur:Array Value) (t:TypeId),wr.heap[q]? = some (Obj.cells cur t) -> t ≠ 3 -> q ≠ G:=by
       rintro q cur t hc ht rfl
       obtain ⟨c4,h4⟩:=OV.ty q rfl
       rw [hc] at h4
       injection h4 with h4
       injection h4 with _ h4
       exact ht h4
      refine ⟨_,CG,⟨b5,S.out.fI.write hiK (vs:=(CI i).set j (vM i)) (by rw [HV.out.1,HV.out.2.2.1];exact o5) ?_,⟨fun k hk=>(S.out.fG.f k hk).keep fun q e=>?_,S.out.fG.a⟩,fun k hk h1 h2=>?_,fun k hk=>?_,fun k hk v hv=>(S.out.mG k hk v hv).keep fun q cur hc=>k5 q (hne q cur _ hc (by decide))⟩,fun j' hj'=>?_⟩
      ·intro k hk
       refine k5 k ?_
       rintro rfl
       exact hk (by rw [HV.out.1];rfl)
      ·obtain ⟨cur,hc⟩:=(S.out.fG.f k hk).ty q e
       exact k5 q (hne q cur _ hc (by decide))
      ·refine (k5 k ?_).trans (S.out.o k hk h1 h2)
       rintro rfl
       exact h1 i hiK (by rw [HV.out.1];rfl)
      ·simp only [if_neg (show k ≠ i by omega)]
       exact S.out.mI k hk
      ·simp only [if_pos]
       have hl:=OV.1
       by_cases hjj:j' = j
       ·subst hjj
        rw [List.getElem?_set_self (by omega)]
       ·rw [List.getElem?_set_ne (Ne.symm hjj)]
        exact hM.out j' (by omega)
     clear o5 b5 z5 k5 OV v2
     go_roundg qr
     case measure=>omega
     case rel=>exact ⟨j + 1,by go_num,by have:=HJG.out;omega,P9⟩
    ·have hd1:decide ((j:Int) < (ni:Int)) = false:=decide_eq_false (by omega)
     have hd2:decide (j < ni) = false:=decide_eq_false (by omega)
     have PB:Hid (∃ CI CG,Id1 W0 wr base K i ys CI CG /\ CI i = List.replicate ni (vM i) /\ ∀ j',j' < 0 -> ∃ v,(CG i)[j']? = some v /\ OneF wr (fL i) v):=by
      refine ⟨CI,CG,S.out,?_,fun j' h=>absurd h (by omega)⟩
      have hl:=S.out.fI.len hiK
      have h2:=HV.out.2.2.1
      refine List.ext_getElem? fun j'=>?_
      rw [List.getElem?_replicate]
      by_cases hjj:j' < ni
      ·rw [if_pos hjj];exact hM.out j' (by omega)
      ·rw [if_neg hjj,List.getElem?_eq_none (by omega)]
     clear hj S hM
     go_wp2_with fail
     clear c2 c3 hd1 hd2
     go_loopg [7] ng (fun gg iv wx=>∃ j:Nat,iv = .int .i64 j /\ j + gg = ng /\ Hid (∃ CI CG,Id1 W0 wx base K i ys CI CG /\ CI i = List.replicate ni (vM i) /\ ∀ j',j' < j -> ∃ v,(CG i)[j']? = some v /\ OneF wx (fL i) v))
     case atStart=>exact ⟨0,rfl,by omega,PB⟩
     case round=>
      clear PB
      obtain ⟨j2,rfl,hj,P6⟩:=hrel
      obtain ⟨CI,CG,S',hE',hM'⟩:=P6.out
      have S:Hid (Id1 W0 wr base K i ys CI CG):=S'
      have hE:Hid (CI i = List.replicate ni (vM i)):=hE'
      have hM:Hid (∀ j',j' < j2 -> ∃ v,(CG i)[j']? = some v /\ OneF wr (fL i) v):=hM'
      clear P6 S' hM' hE'
      obtain ⟨c2,c3⟩:=HCC.out wr (S.out.o I0 HZI.out.1 HZI.out.2.1 HZI.out.2.2)
      by_cases hjn:j2 < ng
      ·have e2:decide ((j2:Int) < (ng:Int)) = true:=decide_eq_true (by omega)
       obtain ⟨qr,rfl⟩:∃ q,gk = q + 1:=⟨gk - 1,by omega⟩
       have HJG:Hid (j2 + (qr + 1) = ng):=hj
       have hjn':(j2:Int) < (ng:Int):=by omega
       obtain ⟨G,rfl⟩:=HV.out.2.2.2.2.2 (by omega)
       have hcv:=cv_L i
       have OV:OwX wr base 22 (.slice (some ⟨G,0,none⟩) ng cg) ng (CG i):=by
        have h1:=S.out.fG.f i hiK
        rw [HV.out.2.1,HV.out.2.2.2.1] at h1
        exact h1
       have hbs:base <= wr.heap.size:=Nat.le_trans HB0.out S.out.b.size
       have BA:Below wr.heap.size wr (wr.alloc (.cells #[.float .f64 (fL i)] 45)):=(Below.refl _ wr).alloc (Nat.le_refl _) _
       have hnew:=heap_alloc_new wr (.cells #[.float .f64 (fL i)] 45)
       clear hj
       go_wp2_with (refine OwX.write (by rfl) _ _ (by rfl) Tryz.szFsO W0 base base G ng cg j2 (CG i) (.slice (some ⟨wr.heap.size,0,none⟩) 1 1) (by rfl) (by rfl) (by rfl) (by rfl) (OwX.alloc OV _) hjn (S.out.b.trans (BA.mono hbs)) (Nat.le_refl _) ?_;intro W5 o5 b5 z5 k5)
       have hGlt:=(OV.lt G rfl).2
       have k6:∀ k,k < wr.heap.size -> k ≠ G -> W5.heap[k]? = wr.heap[k]?:=fun k hk hne=>(k5 k hne).trans (BA.block k hk)
       have P9:Hid (∃ CI CG,Id1 W0 W5 base K i ys CI CG /\ CI i = List.replicate ni (vM i) /\ ∀ j',j' < j2 + 1 -> ∃ v,(CG i)[j']? = some v /\ OneF W5 (fL i) v):=by
        have hne:∀ (q:Nat) (cur:Array Value) (t:TypeId),wr.heap[q]? = some (Obj.cells cur t) -> t ≠ 22 -> q ≠ G:=by
         rintro q cur t hc ht rfl
         obtain ⟨c4,h4⟩:=OV.ty q rfl
         rw [hc] at h4
         injection h4 with h4
         injection h4 with _ h4
         exact ht h4
        have kF:∀ (q:Nat) (cur:Array Value),wr.heap[q]? = some (Obj.cells cur 45) -> W5.heap[q]? = wr.heap[q]?:=fun q cur hc=>k6 q (blk_lt hc) (hne q cur _ hc (by decide))
        have hnw:OneF W5 (fL i) (.slice (some ⟨wr.heap.size,0,none⟩) 1 1):=⟨wr.heap.size,1,rfl,_,(k5 _ (by omega)).trans hnew,rfl⟩
        refine ⟨CI,fun k=>if k = i then (CG i).set j2 (.slice (some ⟨wr.heap.size,0,none⟩) 1 1) else CG k,⟨b5,⟨fun k hk=>(S.out.fI.f k hk).keep fun q e=>?_,S.out.fI.a⟩,⟨fun k hk=>?_,S.out.fG.a⟩,fun k hk h1 h2=>?_,S.out.mI,fun k hk v hv=>?_⟩,hE.out,fun j' hj'=>?_⟩
        ·obtain ⟨cur,hc⟩:=(S.out.fI.f k hk).ty q e
         exact k6 q (blk_lt hc) (hne q cur _ hc (by decide))
        ·by_cases hki:k = i
         ·subst hki
          simp only [if_pos]
          rw [HV.out.2.1,HV.out.2.2.2.1]
          exact o5
         ·simp only [if_neg hki]
          refine (S.out.fG.f k hk).keep fun q e=>k6 q ((S.out.fG.f k hk).lt q e).2 ?_
          rintro rfl
          exact S.out.fG.ap hk hiK hki e (by rw [HV.out.2.1];rfl)
        ·refine (k6 k (by have:=S.out.b.size;omega) ?_).trans (S.out.o k hk h1 h2)
         rintro rfl
         exact h2 i hiK (by rw [HV.out.2.1];rfl)
        ·simp only [if_neg (show k ≠ i by omega)] at hv
         exact (S.out.mG k hk v hv).keep kF
        ·simp only [if_pos]
         have hl:=OV.1
         by_cases hjj:j' = j2
         ·subst hjj
          exact ⟨_,List.getElem?_set_self (by omega),hnw⟩
         ·rw [List.getElem?_set_ne (Ne.symm hjj)]
          obtain ⟨v,h1,h2⟩:=hM.out j' (by omega)
          exact ⟨v,h1,h2.keep kF⟩
       clear o5 b5 z5 k5 k6 OV hcv BA hnew
       go_roundg qr
       case measure=>omega
       case rel=>exact ⟨j2 + 1,by go_num,by have:=HJG.out;omega,P9⟩
      ·have hd1:decide ((j2:Int) < (ng:Int)) = false:=decide_eq_false (by omega)
       have hd2:decide (j2 < ng) = false:=decide_eq_false (by omega)
       have P9:Hid (∃ CI CG,Id1 W0 wr base K (i + 1) ys CI CG):=by
        refine ⟨CI,CG,S.out.b,S.out.fI,S.out.fG,S.out.o,fun k hk=>?_,fun k hk v hv=>?_⟩
        ·by_cases hki:k = i
         ·subst hki;rw [HV.out.2.2.1];exact hE.out
         ·exact S.out.mI k (by omega)
        ·by_cases hki:k = i
         ·subst hki
          obtain ⟨j',hj',rfl⟩:=List.getElem_of_mem hv
          have hl:=S.out.fG.len hiK
          have h2:=HV.out.2.2.2.1
          obtain ⟨v,h1,h3⟩:=hM.out j' (by omega)
          rw [List.getElem?_eq_getElem hj'] at h1
          injection h1 with h1
          rw [h1]
          exact h3
         ·exact S.out.mG k (by omega) v hv
       have hk8:=HK8.out
       clear hj S hM hE
       go_wp2_with fail
       go_roundg qq
       case measure=>omega
       case rel=>exact ⟨i + 1,by go_num,by have:=HIG.out;omega,P9⟩
  ·have hd1:decide ((i:Int) < (K:Int)) = false:=decide_eq_false (by omega)
   have hd2:decide (i < K) = false:=decide_eq_false (by omega)
   have hiE:i = K:=by omega
   clear hj
   subst hiE
   obtain ⟨CI,CG,S1'⟩:=P5.out
   obtain ⟨W1,rfl⟩:∃ x,x = wr:=⟨_,rfl⟩
   have S1:Hid (Id1 W0 W1 base i i ys CI CG):=S1'
   have P8:Hid (∃ uI uG DI DG,Id2 W1 W1 base W1.heap.size i 0 ys CI CG uI uG DI DG (.slice none 0 0) (.slice none 0 0)):=
    ⟨fun _=>.slice none 0 0,fun _=>.slice none 0 0,fun _=>[],fun _=>[],⟨Fam.toG S1'.fI,Fam.toG S1'.fG,Below.refl _ _,Nat.le_refl _,fun _ _ _ _=>rfl,fun k hk=>S1'.mG k hk,fun k hk=>absurd hk (by omega),fun k hk=>absurd hk (by omega)⟩⟩
   obtain ⟨Hn,hHn⟩:∃ h,W1.heap.size = h:=⟨_,rfl⟩
   have HHN:Hid (W0.heap.size <= Hn /\ base <= Hn /\ W1.heap.size = Hn):=⟨hHn ▸ S1'.b.size,Nat.le_trans HB0.out (hHn ▸ S1'.b.size),hHn⟩
   have HGI:Hid (∀ k,k < i -> ∀ q,(vI ys k).ownBlock = some q -> base <= q /\ q < Hn):=fun k hk q e=>hHn ▸ S1'.fI.lt hk e
   have HGG:Hid (∀ k,k < i -> ∀ q,(vG ys k).ownBlock = some q -> base <= q /\ q < Hn):=fun k hk q e=>hHn ▸ S1'.fG.lt hk e
   have HAI:Hid (∀ a b,a < i -> b < i -> a ≠ b -> ∀ q,(vI ys a).ownBlock = some q -> (vI ys b).ownBlock ≠ some q):=fun a b ha hb hab q=>S1'.fI.ap ha hb hab
   have HAG:Hid (∀ a b,a < i -> b < i -> a ≠ b -> ∀ q,(vG ys a).ownBlock = some q -> (vG ys b).ownBlock ≠ some q):=fun a b ha hb hab q=>S1'.fG.ap ha hb hab
   rw [hHn] at P8
   clear P5 S1' hHn hK8
   go_wp2_with fail
   go_loopg [3,4,8] i (fun gg mv ov iv wx=>∃ k:Nat,iv = .int .i64 k /\ k + gg = i /\ Hid (∃ uI uG DI DG,Id2 W1 wx base Hn i k ys CI CG uI uG DI DG mv ov))
   case atStart=>exact ⟨0,rfl,by omega,P8⟩
   case round=>
    clear P8
    obtain ⟨k,rfl,hj,P9⟩:=hrel
    by_cases hkK:k < i
    ·have e1:decide ((k:Int) < (i:Int)) = true:=decide_eq_true (by omega)
     obtain ⟨qq,rfl⟩:∃ q,gk = q + 1:=⟨gk - 1,by omega⟩
     have HIG:Hid (k + (qq + 1) = i):=hj
     have hkK':(k:Int) < (i:Int):=by omega
     obtain ⟨uI,uG,DI,DG,S'⟩:=P9.out
     have S:Hid (Id2 W1 wr base Hn i k ys CI CG uI uG DI DG u3 u4):=S'
     have hI0:wr.heap[I0]? = W0.heap[I0]?:=(S'.o I0 (Nat.lt_of_lt_of_le HZI.out.1 HHN.out.1) HZI.out.2.1 HZI.out.2.2).trans (S1.out.o I0 HZI.out.1 HZI.out.2.1 HZI.out.2.2)
     obtain ⟨c2,c3⟩:=HZ.out wr hI0 k hkK
     obtain ⟨ai,ci,hvi⟩:∃ a c,vI ys k = .slice a (nI ys k) c:=⟨_,_,rfl⟩
     obtain ⟨ag,cg,hvg⟩:∃ a c,vG ys k = .slice a (nG ys k) c:=⟨_,_,rfl⟩
     have hnm:=HNN.out k hkK
     have PB:Hid (∃ dI dG,FcG wr wr 3 base (vI ys k) (nI ys k) (CI k) dI 0 (vI ys k) /\ FcG wr wr 22 base (vG ys k) (nG ys k) (CG k) dG 0 (vG ys k) /\ Fr2 wr wr (vI ys k).ownBlock (vG ys k).ownBlock /\ KpF wr wr /\ dI = List.replicate 0 (vN k) /\ ∀ x ∈ dG,OneF wr (fM k) x):=
      ⟨[],[],FcG.begin (S'.fI.f k (Nat.le_refl _) hkK),FcG.begin (S'.fG.f k (Nat.le_refl _) hkK),Fr2.refl _ _ _,fun _ _ _=>rfl,rfl,fun x hx=>absurd hx (by simp)⟩
     rw [hvi] at c2
     rw [hvg] at c3
     clear hj P9 S' hI0
     go_wp2_with fail
     clear c2 c3
     rw [<- hvi,<- hvg]
     clear hvi hvg
     obtain ⟨Wy,hWy⟩:∃ W,wr = W:=⟨_,rfl⟩
     rw [hWy] at S PB
     go_loopg [9,10,11] 20 (fun gg av bv iv wx=>∃ j:Nat,iv = .int .i64 j /\ j + gg = 20 /\ Hid (∃ dI dG,FcG Wy wx 3 base (vI ys k) (nI ys k) (CI k) dI j av /\ FcG Wy wx 22 base (vG ys k) (nG ys k) (CG k) dG j bv /\ Fr2 Wy wx (vI ys k).ownBlock (vG ys k).ownBlock /\ KpF Wy wx /\ dI = List.replicate j (vN k) /\ ∀ x ∈ dG,OneF wx (fM k) x))
     case atStart=>exact ⟨0,rfl,by omega,by rw [hWy];exact PB⟩
     case round=>
      clear PB hWy
      obtain ⟨j,rfl,hj,T⟩:=hrel
      by_cases hj9:j < 20
      ·have e2:decide ((j:Int) < 20) = true:=decide_eq_true (by omega)
       obtain ⟨qr,rfl⟩:∃ q,gk = q + 1:=⟨gk - 1,by omega⟩
       have HJG:Hid (j + (qr + 1) = 20):=hj
       obtain ⟨dI,dG,TI',TG',F',K',eI',oG'⟩:=T.out
       have hTI:Hid (FcG Wy wr 3 base (vI ys k) (nI ys k) (CI k) dI j u9):=TI'
       have hTG:Hid (FcG Wy wr 22 base (vG ys k) (nG ys k) (CG k) dG j u10):=TG'
       have FR:Hid (Fr2 Wy wr (vI ys k).ownBlock (vG ys k).ownBlock):=F'
       have KF:Hid (KpF Wy wr /\ dI = List.replicate j (vN k) /\ ∀ x ∈ dG,OneF wr (fM k) x):=⟨K',eI',oG'⟩
       have hbw:base <= wr.heap.size:=Nat.le_trans HHN.out.2.1 (Nat.le_trans S.out.z F'.size)
       have hl9:nI ys k + j + 1 <= 200000000:=by omega
       have hl10:nG ys k + j + 1 <= 200000000:=by omega
       have hk8:=HK8.out
       have v2:IntKind.i64.wrap (-(k:Int)) = -(k:Int):=by simp [IntKind.wrap,IntKind.bits,IntKind.signed];omega
       have hcv:=cv_M k
       obtain ⟨mI,hmI⟩:∃ m,nI ys k = m:=⟨_,rfl⟩
       obtain ⟨mG,hmG⟩:∃ m,nG ys k = m:=⟨_,rfl⟩
       rw [hmI] at hTI hl9
       rw [hmG] at hTG hl10
       clear hj T TI' TG' F' K' eI' oG'
       go_upto_region 22 with fail
       go_upto_region 23 with (first
        | (at_builtin;refine append_gx Tryz.underlying23 Tryz.infoIO rfl (by decide) _ (by rfl) _ _ (by rfl) base u9 (mI + j) (CI k ++ dI) (by rfl) (OwX.alloc hTI.out.o _) ⟨wr.heap.size,0,none⟩ 1 1 [.int .i64 (-(k:Int))] (by rfl) rfl (by decide) (news_oneJ (heap_alloc_new wr _)) (by intro u hu;simp at hu;subst hu;rfl) hl9 (by rw [alloc_size];exact Nat.le_succ_of_le hbw) ?_;intro v5 w5 o5 g5))
       have ty9:∀ q,u9.ownBlock = some q -> ∃ cur t,wr.heap[q]? = some (Obj.cells cur t) /\ t ≠ 22 /\ t ≠ 45:=fun q e=>by obtain ⟨cur,hc⟩:=hTI.out.o.ty q e;exact ⟨cur,_,hc,by decide,by decide⟩
       have hTI2:Hid (FcG Wy w5 3 base (vI ys k) mI (CI k) (dI ++ [vN k]) (j + 1) v5):=hTI.out.step FR.out.size o5 g5.alloc.grx
       have hTG2:Hid (FcG Wy w5 22 base (vG ys k) mG (CG k) dG j u10):=hTG.out.other g5.alloc.grx.by' fun q e=>by obtain ⟨cur,t,h1,h2,_⟩:=ty9 q e;exact ⟨cur,t,h1,h2⟩
       have FR2:Hid (Fr2 Wy w5 (vI ys k).ownBlock (vG ys k).ownBlock):=FR.out.grow g5.alloc.grx.by' hTI.out.s
       have kf5:∀ (q:Nat) (cur:Array Value),wr.heap[q]? = some (Obj.cells cur 45) -> w5.heap[q]? = wr.heap[q]?:=fun q cur hc=>g5.alloc.grx.by'.block q (blk_lt hc) fun e=>by
        obtain ⟨c2,t,h1,_,h3⟩:=ty9 q e.symm
        rw [hc] at h1
        injection h1 with h1
        injection h1 with _ h1
        exact h3 h1.symm
       have KF2:Hid (KpF Wy w5 /\ dI = List.replicate j (vN k) /\ ∀ x ∈ dG,OneF w5 (fM k) x):=⟨fun q cur hc=>(kf5 q cur ((KF.out.1 q cur hc).trans hc)).trans (KF.out.1 q cur hc),KF.out.2.1,fun x hx=>(KF.out.2.2 x hx).keep kf5⟩
       have hbw5:base <= w5.heap.size:=Nat.le_trans hbw g5.alloc.size
       clear hTI hTG FR KF o5 g5 ty9 kf5 hbw v2
       go_wp2_with (first
        | (at_builtin;refine append_gx Tryz.underlying24 Tryz.infoFsO rfl (by decide) _ (by rfl) _ _ (by rfl) base u10 (mG + j) (CG k ++ dG) (by rfl) (OwX.alloc (OwX.alloc hTG2.out.o _) _) ⟨w5.heap.size + 1,0,none⟩ 1 1 [.slice (some ⟨w5.heap.size,0,none⟩) 1 1] (by rfl) rfl (by decide) (news_oneJ (heap_at _ _ (w5.heap.size + 1) (by simp only [alloc_size]))) (by intro u hu;simp at hu;subst hu;rfl) hl10 (by simp only [alloc_size];omega) ?_;intro v6 w6 o6 g6))
       have ty10:∀ q,u10.ownBlock = some q -> ∃ cur t,w5.heap[q]? = some (Obj.cells cur t) /\ t ≠ 3 /\ t ≠ 45:=fun q e=>by obtain ⟨cur,hc⟩:=hTG2.out.o.ty q e;exact ⟨cur,_,hc,by decide,by decide⟩
       have g7:=g6.alloc.alloc
       have kf6:∀ (q:Nat) (cur:Array Value),w5.heap[q]? = some (Obj.cells cur 45) -> w6.heap[q]? = w5.heap[q]?:=fun q cur hc=>g7.grx.by'.block q (blk_lt hc) fun e=>by
        obtain ⟨c2,t,h1,_,h3⟩:=ty10 q e.symm
        rw [hc] at h1
        injection h1 with h1
        injection h1 with _ h1
        exact h3 h1.symm
       have hnw:OneF w6 (fM k) (.slice (some ⟨w5.heap.size,0,none⟩) 1 1):=by
        refine ⟨w5.heap.size,1,rfl,#[.float .f64 (fM k)],?_,rfl⟩
        refine (g6.grx.by'.block _ (by simp only [alloc_size];omega) fun e=>?_).trans (alloc_kept (heap_alloc_new w5 _) _)
        have:=(hTG2.out.o.lt _ e.symm).2
        omega
       have PZ:Hid (∃ dI dG,FcG Wy w6 3 base (vI ys k) mI (CI k) dI (j + 1) v5 /\ FcG Wy w6 22 base (vG ys k) mG (CG k) dG (j + 1) v6 /\ Fr2 Wy w6 (vI ys k).ownBlock (vG ys k).ownBlock /\ KpF Wy w6 /\ dI = List.replicate (j + 1) (vN k) /\ ∀ x ∈ dG,OneF w6 (fM k) x):=by
        refine ⟨_,_,hTI2.out.other g7.grx.by' fun q e=>?_,hTG2.out.step FR2.out.size o6 g7.grx,(FR2.out.swap.grow g7.grx.by' hTG2.out.s).swap,fun q cur hc=>(kf6 q cur ((KF2.out.1 q cur hc).trans hc)).trans (KF2.out.1 q cur hc),?_,fun x hx=>?_⟩
        ·obtain ⟨cur,t,h1,h2,_⟩:=ty10 q e
         exact ⟨cur,t,h1,h2⟩
        ·rw [KF2.out.2.1];exact (List.replicate_succ' ..).symm
        ·rcases List.mem_append.1 hx with h | h
         ·exact (KF2.out.2.2 x h).keep kf6
         ·rw [List.mem_singleton.1 h];exact hnw
       rw [<- hmI,<- hmG] at PZ
       clear hTI2 hTG2 FR2 KF2 o6 g6 g7 ty10 kf6 hnw hbw5 hmI hmG hcv
       go_roundg qr
       case measure=>omega
       case rel=>exact ⟨j + 1,by go_num,by have:=HJG.out;omega,PZ⟩
      ·have e2:decide ((j:Int) < 20) = false:=decide_eq_false (by omega)
       have e3:decide (j < 20) = false:=decide_eq_false hj9
       obtain rfl:j = 20:=by omega
       obtain ⟨dI,dG,TI',TG',F',K',eI',oG'⟩:=T.out
       have MI:Hid (FbM wr 3 23 20 Hn base i k (vI ys) uI (nI ys) CI DI u9 dI u3):=S.out.fI.mid F' (fun q e=>by obtain ⟨cur,hc⟩:=S.out.fG.t k hkK q e;exact ⟨cur,_,hc,by decide,by decide⟩) TI' hkK HGI.out HAI.out S.out.z
       have MG:Hid (FbM wr 22 24 20 Hn base i k (vG ys) uG (nG ys) CG DG u10 dG u4):=S.out.fG.mid F'.swap (fun q e=>by obtain ⟨cur,hc⟩:=S.out.fI.t k hkK q e;exact ⟨cur,_,hc,by decide,by decide⟩) TG' hkK HGG.out HAG.out S.out.z
       obtain ⟨a9,c9,h9,_⟩:=TI'.o.formF
       obtain ⟨a10,c10,h10,_⟩:=TG'.o.formF
       subst h9
       subst h10
       have hH:Hn <= wr.heap.size:=Nat.le_trans S.out.z F'.size
       have hk8:=HK8.out
       have hl9:k + 1 <= 200000000:=by omega
       have FR:Hid (Fr2 Wy wr (vI ys k).ownBlock (vG ys k).ownBlock /\ KpF Wy wr /\ dI = List.replicate 20 (vN k) /\ ∀ x ∈ dG,OneF wr (fM k) x):=⟨F',K',eI',oG'⟩
       obtain ⟨mI,hmI⟩:∃ m,nI ys k + 20 = m:=⟨_,rfl⟩
       obtain ⟨mG,hmG⟩:∃ m,nG ys k + 20 = m:=⟨_,rfl⟩
       rw [hmI] at MI ⊢
       rw [hmG] at MG ⊢
       clear hj T TI' TG' F' K' eI' oG'
       go_upto_region 25 with (first | (at_builtin;refine append_gx Tryz.underlying62 Tryz.infoIsO rfl (by decide) _ (by rfl) _ _ (by rfl) Hn u3 k ((List.range k).map uI) (by rfl) (OwX.alloc (OwX.of MI.out.l) _) ⟨wr.heap.size,0,none⟩ 1 1 [.slice a9 mI c9] (by rfl) rfl (by decide) (news_oneJ (heap_alloc_new wr _)) (by intro x hx;simp at hx;subst hx;rfl) hl9 (by rw [alloc_size];exact Nat.le_succ_of_le hH) ?_;intro v5 w5 o5 g5))
       have gr5:=g5.alloc.grx.by'
       have tI:∀ q,u3.ownBlock = some q -> Hn <= q /\ ∃ cur,wr.heap[q]? = some (Obj.cells cur 23):=fun q e=>⟨(World.ownsRow.lt MI.l q e).1,owns_type MI.l e⟩
       have NI:Hid (FbG w5 3 23 20 Hn base i (k + 1) (vI ys) (fun k'=>if k' = k then .slice a9 mI c9 else uI k') (nI ys) CI (fun k'=>if k' = k then dI else DI k') v5):=FbM.push (by decide) MI o5 g5.alloc.grx
       have MG5:Hid (FbM w5 22 24 20 Hn base i k (vG ys) uG (nG ys) CG DG (.slice a10 mG c10) dG u4):=MG.other gr5 fun q e=>by obtain ⟨cur,hc⟩:=(tI q e).2;exact ⟨cur,_,hc,by decide,by decide⟩
       have hk5:KpF wr w5:=fun q cur hc=>gr5.block q (blk_lt hc) fun e=>by
        obtain ⟨c2,h1⟩:=(tI q e.symm).2
        rw [hc] at h1
        injection h1 with h1
        injection h1 with _ h1
        exact absurd h1 (by decide)
       have P5:Hid (Hn <= w5.heap.size /\ Below Hn wr w5 /\ KpF wr w5):=⟨Nat.le_trans hH gr5.size,grown_below gr5 (fun q e=>(tI q e).1) hH,hk5⟩
       have hH5:=P5.out.1
       clear MI MG o5 g5 gr5 tI hk5
       go_wp2_with (first | (at_builtin;refine append_gx Tryz.underlying63 Tryz.infoFssO rfl (by decide) _ (by rfl) _ _ (by rfl) Hn u4 k ((List.range k).map uG) (by rfl) (OwX.alloc (OwX.of MG5.out.l) _) ⟨w5.heap.size,0,none⟩ 1 1 [.slice a10 mG c10] (by rfl) rfl (by decide) (news_oneJ (heap_alloc_new w5 _)) (by intro x hx;simp at hx;subst hx;rfl) hl9 (by rw [alloc_size];exact Nat.le_succ_of_le hH5) ?_;intro v6 w6 o6 g6))
       have gr6:=g6.alloc.grx.by'
       have tG:∀ q,u4.ownBlock = some q -> Hn <= q /\ ∃ cur,w5.heap[q]? = some (Obj.cells cur 24):=fun q e=>⟨(World.ownsRow.lt MG5.out.l q e).1,owns_type MG5.out.l e⟩
       have hk6:KpF wr w6:=fun q cur hc=>by
        have h5:=P5.out.2.2 q cur hc
        refine (gr6.block q (by have:=blk_lt hc;have:=P5.out.2.1.size;omega) fun e=>?_).trans h5
        obtain ⟨c2,h1⟩:=(tG q e.symm).2
        rw [h5,hc] at h1
        injection h1 with h1
        injection h1 with _ h1
        exact absurd h1 (by decide)
       have B6:Below Hn wr w6:=P5.out.2.1.trans (grown_below gr6 (fun q e=>(tG q e).1) hH5)
       have hkW:KpF Wy w6:=fun q cur hc=>(hk6 q cur ((FR.out.2.1 q cur hc).trans hc)).trans (FR.out.2.1 q cur hc)
       have PZ:Hid (∃ uI uG DI DG,Id2 W1 w6 base Hn i (k + 1) ys CI CG uI uG DI DG v5 v6):=by
        refine ⟨_,_,_,_,NI.out.other gr6 fun q e=>?_,FbM.push (by decide) MG5.out o6 g6.alloc.grx,?_,Nat.le_trans hH5 gr6.size,fun q hq h1 h2=>?_,fun k' hk' v hv=>(S.out.mG k' hk' v hv).keep hkW,fun k' hk'=>?_,fun k' hk' v hv=>?_⟩
        ·obtain ⟨cur,hc⟩:=(tG q e).2
         exact ⟨cur,_,hc,by decide,by decide⟩
        ·refine (S.out.b.trans (FR.out.1.below (fun q e=>(HGI.out k hkK q e).1) (fun q e=>(HGG.out k hkK q e).1) (Nat.le_trans HHN.out.2.1 S.out.z))).trans (B6.mono HHN.out.2.1)
        ·exact ((B6.block q hq).trans (FR.out.1.block q (by have:=S.out.z;omega) (h1 k hkK) (h2 k hkK))).trans (S.out.o q hq h1 h2)
        ·by_cases hkk:k' = k
         ·subst hkk;simp only [if_pos];exact FR.out.2.2.1
         ·simp only [if_neg hkk];exact S.out.dI k' (by omega)
        ·by_cases hkk:k' = k
         ·subst hkk;simp only [if_pos] at hv;exact (FR.out.2.2.2 v hv).keep hk6
         ·simp only [if_neg hkk] at hv;exact (S.out.dG k' (by omega) v hv).keep hkW
       clear NI MG5 P5 FR S o6 g6 gr6 tG hk6 B6 hkW hH hH5
       go_roundg qq
       case measure=>omega
       case rel=>exact ⟨k + 1,by go_num,by have:=HIG.out;omega,PZ⟩
    ·have e1:decide ((k:Int) < (i:Int)) = false:=decide_eq_false (by omega)
     have e2:decide (k < i) = false:=decide_eq_false (by omega)
     have hkE:k = i:=by omega
     clear hj
     go_wp2_with fail
     rw [hkE] at P9
     clear hkE e1 e2
     obtain ⟨uI,uG,DI,DG,S'⟩:=P9.out
     obtain ⟨W3,rfl⟩:∃ x,x = wr:=⟨_,rfl⟩
     have S:Hid (Id2 W1 W3 base Hn i i ys CI CG uI uG DI DG u3 u4):=S'
     obtain ⟨a3,c3,h3,_⟩:=own_formO S'.fI.l
     subst h3
     obtain ⟨a4,c4,h4,_⟩:=own_formO S'.fG.l
     subst h4
     have HI0:Hid (W3.heap[I0]? = W0.heap[I0]?):=(S'.o I0 (Nat.lt_of_lt_of_le HZI.out.1 HHN.out.1) HZI.out.2.1 HZI.out.2.2).trans (S1.out.o I0 HZI.out.1 HZI.out.2.1 HZI.out.2.2)
     clear S' P9
     go_loopg [12] i (fun gg iv wx=>∃ k:Nat,iv = .int .i64 k /\ k + gg = i /\ wx = W3)
     case atStart=>exact ⟨0,rfl,by omega,rfl⟩
     case round=>
      obtain ⟨k,rfl,hj,rfl⟩:=hrel
      by_cases hkK:k < i
      ·have e1:decide ((k:Int) < (i:Int)) = true:=decide_eq_true (by omega)
       obtain ⟨qq,rfl⟩:∃ q,gk = q + 1:=⟨gk - 1,by omega⟩
       have HIG:Hid (k + (qq + 1) = i):=hj
       have hkK':(k:Int) < (i:Int):=by omega
       obtain ⟨p,rfl⟩:=own_someO S.out.fI.l (by omega)
       obtain ⟨r,rfl⟩:=own_someO S.out.fG.l (by omega)
       obtain ⟨ai,ci,hvi,_,hvs⟩:=OwX.formF (S1.out.fI.f k hkK)
       obtain ⟨ag,cg,hvg,_,hvt⟩:=OwX.formF (S1.out.fG.f k hkK)
       obtain ⟨au,cu,hui,_,hus⟩:=OwX.formF (S.out.fI.w k hkK).2
       obtain ⟨gi,rfl⟩:=hus (by omega)
       obtain ⟨ah,ch,huh,_,hug⟩:=OwX.formF (S.out.fG.w k hkK).2
       obtain ⟨gh,rfl⟩:=hug (by omega)
       obtain ⟨c2,c3⟩:=HZ.out wr HI0.out k hkK
       have HI1:Hid (wr.cell? ⟨I0,k * 6 + 2,none⟩ = some (vI ys k) /\ wr.cell? ⟨I0,k * 6 + 3,none⟩ = some (vG ys k)):=⟨c2,c3⟩
       have CM:wr.cell? ⟨p,k,none⟩ = some (.slice (some ⟨gi,0,none⟩) (nI ys k + 20) cu):=by
        have h9:=World.ownsRow.cellAt S.out.fI.l k (by rw [Nat.mul_one];exact hkK)
        rw [List.getElem?_map,List.getElem?_range hkK,Option.map_some,hui] at h9
        exact h9
       have CN:wr.cell? ⟨r,k,none⟩ = some (.slice (some ⟨gh,0,none⟩) (nG ys k + 20) ch):=by
        have h9:=World.ownsRow.cellAt S.out.fG.l k (by rw [Nat.mul_one];exact hkK)
        rw [List.getElem?_map,List.getElem?_range hkK,Option.map_some,huh] at h9
        exact h9
       have eC:=S1.out.mI k hkK
       have RW:Hid (∀ j,j < nI ys k + 20 -> wr.cell? ⟨gi,j,none⟩ = some (if j < nI ys k then vM k else vN k)):=fun j hj=>by
        have h9:=(S.out.fI.w k hkK).2
        rw [hui] at h9
        rw [OwX.cellF h9 rfl hj,eC,S.out.dI k hkK]
        by_cases hjn:j < nI ys k
        ·rw [if_pos hjn,List.getElem?_append_left (by rw [List.length_replicate];exact hjn),List.getElem?_replicate,if_pos hjn]
        ·rw [if_neg hjn,List.getElem?_append_right (by rw [List.length_replicate];omega),List.length_replicate,List.getElem?_replicate,if_pos (by omega)]
       have RV:Hid (∀ g j,ai = some ⟨g,0,none⟩ -> j < nI ys k -> wr.cell? ⟨g,j,none⟩ = some (vM k)):=fun g j e hj=>S.out.fI.r k hkK g (nI ys k) ci (by rw [hvi,e]) j _ (by rw [eC,List.getElem?_replicate,if_pos hj])
       have RG:Hid (∀ j,j < nG ys k + 20 -> ∃ b c,wr.cell? ⟨gh,j,none⟩ = some (.slice (some ⟨b,0,none⟩) 1 c) /\ wr.cell? ⟨b,0,none⟩ = some (.float .f64 (if j < nG ys k then fL k else fM k))):=fun j hj=>by
        have h9:=(S.out.fG.w k hkK).2
        rw [huh] at h9
        have hl:=h9.1
        have hlc:=S1.out.fG.len hkK
        have h8:=OwX.cellF h9 rfl hj
        rw [List.getElem?_eq_getElem (by omega)] at h8
        have h7:OneF wr (if j < nG ys k then fL k else fM k) (CG k ++ DG k)[j]:=by
         by_cases hjn:j < nG ys k
         ·rw [if_pos hjn,List.getElem_append_left (by omega)]
          exact S.out.mG k hkK _ (List.getElem_mem _)
         ·rw [if_neg hjn,List.getElem_append_right (by omega)]
          exact S.out.dG k hkK _ (List.getElem_mem _)
        obtain ⟨b,c,h6,cur,h5,h4⟩:=h7
        rw [h6] at h8
        exact ⟨b,c,h8,cellAtJ h5 0 _ h4⟩
       rw [hvi] at c2
       obtain ⟨ni,hni⟩:∃ m,nI ys k = m:=⟨_,rfl⟩
       obtain ⟨ng,hng⟩:∃ m,nG ys k = m:=⟨_,rfl⟩
       have HNK:Hid (ni <= 1100000 /\ ng <= 1100000):=hni ▸ hng ▸ HNN.out k hkK
       have HI2:Hid (wr.cell? ⟨I0,k * 6 + 2,none⟩ = some (.slice ai ni ci) /\ wr.cell? ⟨I0,k * 6 + 3,none⟩ = some (.slice ag ng cg)):=by
        have h9:=HI1.out
        rw [hvi,hvg,hni,hng] at h9
        exact h9
       rw [hni] at c2 CM RW RV hvs
       rw [hng] at CN RG hvt
       have HVS:Hid (0 < ni -> ∃ g,ai = some ⟨g,0,none⟩):=hvs
       have HCN:Hid (wr.cell? ⟨r,k,none⟩ = some (.slice (some ⟨gh,0,none⟩) (ng + 20) ch)):=CN
       clear hj hvi hvg hui huh hug hus hni hng hvs hvt eC c2 c3 HI1 CN
       go_wp2_with fail
       go_loopg [13] (ni + 20) (fun gg iv wx=>∃ j:Nat,iv = .int .i64 j /\ j + gg = ni + 20 /\ wx = wr)
       case atStart=>exact ⟨0,rfl,by omega,rfl⟩
       case round=>
        obtain ⟨j,rfl,hj,rfl⟩:=hrel
        obtain ⟨c2,_⟩:=HI2.out
        by_cases hjn:j < ni + 20
        ·have e2:decide ((j:Int) < ((ni + 20:Nat):Int)) = true:=decide_eq_true (by omega)
         have e2b:decide ((j:Int) < (ni:Int) + 20) = true:=decide_eq_true (by omega)
         obtain ⟨qr,rfl⟩:∃ q,gk = q + 1:=⟨gk - 1,by omega⟩
         have HJG:Hid (j + (qr + 1) = ni + 20):=hj
         have hk8:=HK8.out
         have hn3:ni <= 1100000:=HNK.out.1
         have v2:IntKind.i64.wrap (1000 + (k:Int)) = 1000 + (k:Int):=by simp [IntKind.wrap,IntKind.bits,IntKind.signed];omega
         have v3:IntKind.i64.wrap (-(k:Int)) = -(k:Int):=by simp [IntKind.wrap,IntKind.bits,IntKind.signed];omega
         have c1:=RW.out j hjn
         clear hj
         by_cases hjk:j < ni
         ·obtain ⟨g,rfl⟩:=HVS.out (by omega)
          rw [if_pos hjk] at c1
          have c4:=RV.out g j rfl hjk
          unfold vM at c1 c4
          have e4:decide ((ni:Int) <= (j:Int)) = false:=decide_eq_false (by omega)
          have e5:decide ((j:Int) < (ni:Int)) = true:=decide_eq_true (by omega)
          have hjk':(j:Int) < (ni:Int):=by omega
          go_wp2_with fail
          go_roundg qr
          case measure=>omega
          case rel=>exact ⟨j + 1,by go_num,by have:=HJG.out;omega,rfl⟩
         ·rw [if_neg hjk] at c1
          unfold vN at c1
          have e4:decide ((ni:Int) <= (j:Int)) = true:=decide_eq_true (by omega)
          have e5:decide ((j:Int) < (ni:Int)) = false:=decide_eq_false (by omega)
          have hjk':(ni:Int) <= (j:Int):=by omega
          go_wp2_with fail
          go_roundg qr
          case measure=>omega
          case rel=>exact ⟨j + 1,by go_num,by have:=HJG.out;omega,rfl⟩
        ·have e2:decide ((j:Int) < ((ni + 20:Nat):Int)) = false:=decide_eq_false (by omega)
         have e2b:decide ((j:Int) < (ni:Int) + 20) = false:=decide_eq_false (by omega)
         have e3:decide (j < ni + 20) = false:=decide_eq_false hjn
         have hk8:=HK8.out
         clear hj c2
         go_wp2_with fail
         clear e2 e2b e3
         have CN:=HCN.out
         go_loopg [15] (ng + 20) (fun gg iv wx=>∃ j:Nat,iv = .int .i64 j /\ j + gg = ng + 20 /\ wx = wr)
         case atStart=>exact ⟨0,rfl,by omega,rfl⟩
         case round=>
          obtain ⟨t,rfl,hj,rfl⟩:=hrel
          obtain ⟨_,c3⟩:=HI2.out
          by_cases htn:t < ng + 20
          ·have e2:decide ((t:Int) < ((ng + 20:Nat):Int)) = true:=decide_eq_true (by omega)
           have e2b:decide ((t:Int) < (ng:Int) + 20) = true:=decide_eq_true (by omega)
           obtain ⟨qr,rfl⟩:∃ q,gk = q + 1:=⟨gk - 1,by omega⟩
           have HJG:Hid (t + (qr + 1) = ng + 20):=hj
           have hn3:ng <= 1100000:=HNK.out.2
           have hcvL:=cv_L k
           obtain ⟨b,c,c5,c6⟩:=RG.out t htn
           clear hj
           by_cases htk:t < ng
           ·rw [if_pos htk] at c6
            have e4:decide ((ng:Int) <= (t:Int)) = false:=decide_eq_false (by omega)
            have htk':(t:Int) < (ng:Int):=by omega
            have hne:=ne_L k (by omega)
            go_wp2_with fail
            go_roundg qr
            case measure=>omega
            case rel=>exact ⟨t + 1,by go_num,by have:=HJG.out;omega,rfl⟩
           ·rw [if_neg htk] at c6
            have e4:decide ((ng:Int) <= (t:Int)) = true:=decide_eq_true (by omega)
            have htk':(ng:Int) <= (t:Int):=by omega
            have hne:=ne_M k (by omega)
            have hng:=run_negO (fL k)
            go_wp2_with fail
            go_roundg qr
            case measure=>omega
            case rel=>exact ⟨t + 1,by go_num,by have:=HJG.out;omega,rfl⟩
          ·have e2:decide ((t:Int) < ((ng + 20:Nat):Int)) = false:=decide_eq_false (by omega)
           have e2b:decide ((t:Int) < (ng:Int) + 20) = false:=decide_eq_false (by omega)
           have e3:decide (t < ng + 20) = false:=decide_eq_false htn
           clear hj
           go_wp2_with fail
           go_roundg qq
           case measure=>omega
           case rel=>exact ⟨k + 1,by go_num,by have:=HIG.out;omega,rfl⟩
      ·have e1:decide ((k:Int) < (i:Int)) = false:=decide_eq_false (by omega)
       have e2:decide (k < i) = false:=decide_eq_false (by omega)
       clear hj
       go_wp2_with fail
       go_ret
       exact ⟨rfl,S1.out.b.trans S.out.b,fun q hq h1 h2=>(S.out.o q (Nat.lt_of_lt_of_le hq HHN.out.1) h1 h2).trans (S1.out.o q hq h1 h2)⟩
end Go.Proofs.YtmdjoaipkbnelaaGreat
