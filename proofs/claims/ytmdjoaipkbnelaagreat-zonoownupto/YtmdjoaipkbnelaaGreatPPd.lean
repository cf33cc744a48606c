import Derived.Test.YtmdjoaipkbnelaaGreatPPc
set_option maxRecDepth 100000
set_option maxHeartbeats 8000000
set_option linter.unusedVariables false
set_option linter.unusedSimpArgs false
namespace Go.Proofs.YtmdjoaipkbnelaaGreat
open Go.RowKit Go.Shelf
theorem ex_load1B {P:Program} {ρ:Operand -> Value} (o:Oper) (ty:TypeId) (p:Operand) (ho:o.op = .load ty p) (A:Addr) (hp:ρ p = .pointer (some A)) (w:World) (v:Value) (h:w.cell? A = some v) (hag:∀ w,(isAgg ty).run P w = .ok false w):(execOp ρ o).run P w = .ok (.value v) w:=by
 unfold execOp
 simp only [ho,hp]
 simp [go_sem,hag,h,Result.andThen]
theorem rmag_zeroJ:rmag 0 = 0:=by decide
theorem fval_of_srung {u:Nat} (h:srung u = 0):fval u = 0:=by
 unfold fval
 rw [frung_of_srung h,rmag_zeroJ]
 split <;> rfl
theorem fval_plainM (u:Nat):fval (plainM u) = fval u:=by
 unfold plainM
 split
 ·rename_i h
  rw [fval_zeroJ,fval_of_srung h]
 ·rfl
def S2R (V:Int) (u v:Nat) (o:Bool):Prop:=(o = true /\ RndZ 0 V 1 (u,true) /\ Fin v /\ fval v = V - fval u /\ v < 18446744073709551616) \/ (o = false /\ ∃ p,RndZ 0 V 1 (p,false))
theorem plainM_finX {r:Nat} (h:Fin r):Fin (plainM r):=by
 unfold plainM
 split
 ·unfold Fin frung infK;decide
 ·exact h
theorem sum2X_any (a b:Nat) (ha:a < 18446744073709551616) (hb:b < 18446744073709551616):∃ u v o,(Fin a /\ Fin b -> S2R (fval a + fval b) u v o) /\ (¬ (Fin a /\ Fin b) -> u = 0 /\ v = 0 /\ o = false) ∧
  ∀ w,Calls Tryz.prog 65 #[.float .f64 a,.float .f64 b] w fun e w'=>e = .returned (.tuple #[.float .f64 u,.float .f64 v,.bool o]) /\ w' = w:=by
 obtain ⟨⟨p,ok⟩,h1,h2,c1⟩:=add_any 0 a b ha hb
 simp only at c1
 by_cases hf:Fin a /\ Fin b
 ·have hR:=h1 hf.1 hf.2
  clear h1 h2
  cases ok
  ·refine ⟨0,0,false,fun _=>.inr ⟨rfl,p,hR⟩,fun h=>absurd hf h,fun w=>?_⟩
   clear hR
   go_enter Tryz.func65,Tryz.ntmps65
   go_wp2_with (go_at_call 93;refine (c1 _).mono ?_;rintro e w' ⟨rfl,rfl⟩)
   all_goals (go_ret3;exact ⟨rfl,rfl⟩)
  ·have key:∃ x y t r,(x,y) = (if frung a < frung b then (b,a) else (a,b)) /\ Ieee.double.sub p x = some t /\ Ieee.double.sub y t = some r /\ Fin r /\ fval r = fval a + fval b - fval p:=by
    have go:∀ x y,Fin x -> Fin y -> frung y <= frung x -> fval x + fval y = fval a + fval b -> ∃ t r,Ieee.double.sub p x = some t /\ Ieee.double.sub y t = some r /\ Fin r /\ fval r = fval a + fval b - fval p:=by
     intro x y hx hy hle hs
     obtain ⟨s',hs',g',hg',hsg'⟩:=add_fin hx hy
     rw [hs] at hg' hsg'
     obtain ⟨n1,n2,n3,n4⟩:=near_of hR hg' hsg'
     obtain ⟨t,r,t1,t2,t3,t4⟩:=sum_rest_v hx hy hle hs' n1 n3 n2
     exact ⟨t,r,t1,t2,t3,by rw [t4,hs,n2]⟩
    by_cases h:frung a < frung b
    ·obtain ⟨t,r,t1,t2,t3,t4⟩:=go b a hf.2 hf.1 (by omega) (Int.add_comm ..)
     exact ⟨b,a,t,r,by rw [if_pos h],t1,t2,t3,t4⟩
    ·obtain ⟨t,r,t1,t2,t3,t4⟩:=go a b hf.1 hf.2 (by omega) rfl
     exact ⟨a,b,t,r,by rw [if_neg h],t1,t2,t3,t4⟩
   obtain ⟨x,y,t,r,hxy,t1,t2,t3,t4⟩:=key
   have hrl:r < 18446744073709551616:=Ieee.Format.sub_lt _ t2
   refine ⟨p,plainM r,true,fun _=>.inl ⟨rfl,hR,plainM_finX t3,by rw [fval_plainM,t4],plainM_ltJ hrl⟩,fun h=>absurd hf h,fun w=>?_⟩
   have HX:Hid _:=hxy
   have H1:Hid _:=t1
   have H2:Hid _:=t2
   have hfr:frung r <= infK:=Nat.le_of_lt t3
   clear hR hxy t1 t2 t4
   go_enter Tryz.func65,Tryz.ntmps65
   go_wp2_with (first
    | (go_at_call 93;refine (c1 _).mono ?_;rintro e w' ⟨rfl,rfl⟩)
    | (go_at_call 94;refine (sumRest_any ha hb HX.out H1.out H2.out hf.1 hf.2 _).mono ?_;rintro e w' ⟨rfl,rfl⟩)
    | (go_at_call 92;refine (plain_any r hrl hfr _).mono ?_;rintro e w' ⟨rfl,rfl⟩))
   all_goals (go_ret3;exact ⟨rfl,rfl⟩)
 ·have e:=h2 hf
  simp only [Prod.mk.injEq] at e
  obtain ⟨rfl,rfl⟩:=e
  clear h1 h2
  refine ⟨0,0,false,fun h=>absurd h hf,fun _=>⟨rfl,rfl,rfl⟩,fun w=>?_⟩
  go_enter Tryz.func65,Tryz.ntmps65
  go_wp2_with (go_at_call 93;refine (c1 _).mono ?_;rintro e w' ⟨rfl,rfl⟩)
  all_goals (go_ret3;exact ⟨rfl,rfl⟩)
theorem Tryz.szF1q:(Tryz.prog.info? 45).map (·.size) = some 1:=by kernel_rfl
structure NeR (n:Nat) (ps qs us vs:List Nat) (k:Nat):Prop where
 lu:us.length = n
 tu:∀ u ∈ us,u < 18446744073709551616
 lv:vs.length = n
 tv:∀ u ∈ vs,u < 18446744073709551616
 is:∀ j,j < k -> RndZ 0 (fval (ps[j]?.getD 0) + fval (qs[j]?.getD 0)) 1 (us[j]?.getD 0,true) /\ Fin (vs[j]?.getD 0) /\ fval (vs[j]?.getD 0) = fval (ps[j]?.getD 0) + fval (qs[j]?.getD 0) - fval (us[j]?.getD 0)
structure NeI (w:World) (gB n:Nat) (p:Nat -> Nat) (os:Nat -> Option Int) (ps qs:List Nat) (po qo:Option Addr) (pc qc k:Nat) (wx:World) (us vs:List Nat):Prop where
 pr:wx.heap[w.heap.size]? = some (.cells #[.slice po n pc,.slice qo n qc] 84)
 l:wx.heap[w.heap.size + 1]? = some (.cells (fl2 us).toArray 45)
 r:NeR n ps qs us vs k
 a:AcL wx gB n p (addJ vs os k)
 b:Below gB w wx
 o:∀ i,i < w.heap.size -> (∀ j,j < n -> i ≠ p j) -> wx.heap[i]? = w.heap[i]?
theorem addJ_set {vs:List Nat} {os:Nat -> Option Int} {k v:Nat} (hk:k < vs.length) (j:Nat):addJ (vs.set k v) os k j = addJ vs os k j:=by
 unfold addJ
 by_cases h:j < k
 ·rw [if_pos h,if_pos h,List.getElem?_set_ne (by omega)]
 ·rw [if_neg h,if_neg h]
theorem nearest_any (gB n:Nat) (p:Nat -> Nat) (os:Nat -> Option Int) (po qo:Option Addr) (pc qc:Nat) (ps qs:List Nat) (w:World) (hg:gB < w.heap.size) (hn:n <= 100000) (hA:AcL w gB n p os) (hr:∀ W,Below gB w W -> (∀ i,i < w.heap.size -> (∀ j,j < n -> i ≠ p j) -> W.heap[i]? = w.heap[i]?) -> RdF W po n pc ps /\ RdF W qo n qc qs) (hf:∀ j,j < n -> Fin (ps[j]?.getD 0) /\ Fin (qs[j]?.getD 0)) :
  Calls Tryz.prog 37 #[.agg #[.slice po n pc,.slice qo n qc],.slice (some ⟨gB,0,none⟩) n n] w fun e w'=>((∃ (us vs:List Nat),e = .returned (.tuple #[slN n (w.heap.size + 1),.bool true]) /\ OwB w' w.heap.size n (w.heap.size + 1) us /\ NeR n ps qs us vs n /\ AcL w' gB n p (addJ vs os n)) \/ (∃ j x,j < n /\ RndZ 0 (fval (ps[j]?.getD 0) + fval (qs[j]?.getD 0)) 1 (x,false) /\ e = .returned (.tuple #[.slice none 0 0,.bool false]))) /\ Below gB w w' /\ (∀ i,i < w.heap.size -> (∀ j,j < n -> i ≠ p j) -> w'.heap[i]? = w.heap[i]?):=by
 have HR:Hid (∀ W,Below gB w W -> (∀ i,i < w.heap.size -> (∀ j,j < n -> i ≠ p j) -> W.heap[i]? = w.heap[i]?) -> RdF W po n pc ps /\ RdF W qo n qc qs):=hr
 have HF:Hid (∀ j,j < n -> Fin (ps[j]?.getD 0) /\ Fin (qs[j]?.getD 0)):=hf
 have HA:Hid (AcL w gB n p os /\ gB < w.heap.size /\ ∀ j,j < n -> p j < w.heap.size):=⟨hA,hg,fun j hj=>(hA.acc j hj).block⟩
 have hmk:=makeFJ n (by omega)
 clear hr hf hA hg
 go_enter Tryz.func37,Tryz.ntmps37
 go_upto_region 2 with fail
 have P0:Hid (NeI w gB n p os ps qs po qo pc qc 0 ((w.alloc (.cells #[.slice po n pc,.slice qo n qc] 84)).alloc (.cells (flN n) 45)) (List.replicate n 0) (List.replicate n 0)):=by
  have b1:Below w.heap.size w ((w.alloc (.cells #[.slice po n pc,.slice qo n qc] 84)).alloc (.cells (flN n) 45)):=((Below.refl _ w).alloc (Nat.le_refl _) _).alloc (by simp only [alloc_size];omega) _
  refine ⟨alloc_kept (heap_alloc_new w _) _,by rw [<- flN_fl2];exact heap_at _ _ _ (by simp only [alloc_size]),⟨List.length_replicate,(fun u hu=>by rw [List.eq_of_mem_replicate hu];omega),List.length_replicate,(fun u hu=>by rw [List.eq_of_mem_replicate hu];omega),fun j hj=>absurd hj (Nat.not_lt_zero _)⟩,?_,b1.mono (Nat.le_of_lt HA.out.2.1),fun i hi _=>b1.block i hi⟩
  have h:=HA.out.1.later b1 HA.out.2.1
  exact ⟨h.row,fun j hj=>by unfold addJ;rw [if_neg (Nat.not_lt_zero _)];exact h.acc j hj,h.gt,h.inj⟩
 obtain ⟨X,hX⟩:∃ X,((w.alloc (.cells #[.slice po n pc,.slice qo n qc] 84)).alloc (.cells (flN n) 45)) = X:=⟨_,rfl⟩
 rw [hX] at P0 ⊢
 clear hX hmk
 go_wp2_with fail
 go_loopg [16] n (fun g iv wx=>∃ k:Nat,iv = .int .i64 k /\ k + g = n /\ ∃ us vs:List Nat,Hid (NeI w gB n p os ps qs po qo pc qc k wx us vs))
 case atStart=>exact ⟨0,rfl,by omega,_,_,P0⟩
 case round=>
  clear P0
  obtain ⟨k,rfl,hk,us,vs,HI⟩:=hrel
  by_cases h1:k < n
  ·have hd1:decide ((k:Int) < (n:Int)) = true:=decide_eq_true (by omega)
   obtain ⟨q,rfl⟩:∃ q,gk = q + 1:=⟨gk - 1,by omega⟩
   have HIG:Hid (k + (q + 1) = n):=hk
   have hki:(k:Int) < (n:Int):=by omega
   clear hk
   have hrr:=HR.out wr HI.out.b HI.out.o
   rcases hrr.1.cells with h0 | ⟨pb,poff,epo,hcp⟩
   ·omega
   rcases hrr.2.cells with h0 | ⟨qb,qoff,eqo,hcq⟩
   ·omega
   have gp:=hcp k h1
   have gq:=hcq k h1
   have lp:=hrr.1.lt _ (getD_mem (us:=ps) (j:=k) (by rw [hrr.1.length];exact h1))
   have lq:=hrr.2.lt _ (getD_mem (us:=qs) (j:=k) (by rw [hrr.2.length];exact h1))
   obtain ⟨x,hx⟩:∃ x,ps[k]?.getD 0 = x:=⟨_,rfl⟩
   obtain ⟨y,hy⟩:∃ y,qs[k]?.getD 0 = y:=⟨_,rfl⟩
   have HXY:Hid (ps[k]?.getD 0 = x /\ qs[k]?.getD 0 = y):=⟨hx,hy⟩
   rw [hx] at gp lp
   rw [hy] at gq lq
   obtain ⟨u,v,o,hs1,-,hs2⟩:=sum2X_any x y lp lq
   have HS1:Hid (S2R (fval x + fval y) u v o):=hs1 ⟨hx ▸ (HF.out k h1).1,hy ▸ (HF.out k h1).2⟩
   have HS2:Hid (∀ w,_):=hs2
   have HG:Hid (wr.cell? ⟨pb,poff + k,none⟩ = some (.float .f64 x) /\ wr.cell? ⟨qb,qoff + k,none⟩ = some (.float .f64 y) /\ wr.heap[w.heap.size]? = some (.cells #[.slice (some ⟨pb,poff,none⟩) n pc,.slice (some ⟨qb,qoff,none⟩) n qc] 84)):=⟨gp,gq,by rw [<- epo,<- eqo];exact HI.out.pr⟩
   clear hrr hcp hcq gp gq hs1 hs2 hx hy lp lq epo eqo
   go_upto_region 5 with fail
   refine wp_region_noPanic ?_
   refine wp_region_held_drew (S:=fun V=>Below wr.heap.size wr V) (by kernel_rfl) ((Below.refl _ wr).drew) (fun _=>?_)
   have SQ:Below wr.heap.size wr wr.drew:=(Below.refl _ wr).drew
   refine tzI 20 0 ?_ ?_ SQ ?_
   rotate_left
   ·intro w' hSw;go_simp;try with_reducible rfl
   try simp only [pA,pE,pB,pC,pD]
   refine tzH 21 1 ((.slice (some ⟨pb,poff,none⟩) n pc)) (Or.inl ⟨by kernel_rfl,fun w' hSw=>ex_load1B _ _ _ rfl ⟨w.heap.size,0,none⟩ (by kernel_rfl) w' _ (cellAtJ (kept hSw HG.out.2.2) 0 (.slice (some ⟨pb,poff,none⟩) n pc) rfl) (fun w=>by kernel_rfl)⟩) SQ ?_
   try simp only [pA,pE,pB,pC,pD]
   refine tzI 22 2 ?_ ?_ SQ ?_
   rotate_left
   ·intro w' hSw;go_simp;try with_reducible rfl
   try simp only [pA,pE,pB,pC,pD]
   refine tzI 23 3 ?_ ?_ SQ ?_
   rotate_left
   ·intro w' hSw;go_simp;try with_reducible rfl
   try simp only [pA,pE,pB,pC,pD]
   refine tzH 24 4 ((.float .f64 x)) (Or.inl ⟨by kernel_rfl,fun w' hSw=>ex_load1B _ _ _ rfl ⟨pb,poff + k,none⟩ (by kernel_rfl) w' _ ((hSw.cell (World.block_lt_of_cell? _ _ (HG.out.1))).trans (HG.out.1)) (fun w=>by kernel_rfl)⟩) SQ ?_
   try simp only [pA,pE,pB,pC,pD]
   refine tzI 25 5 ?_ ?_ SQ ?_
   rotate_left
   ·intro w' hSw;go_simp;try with_reducible rfl
   try simp only [pA,pE,pB,pC,pD]
   refine tzH 26 6 ((.slice (some ⟨qb,qoff,none⟩) n qc)) (Or.inl ⟨by kernel_rfl,fun w' hSw=>ex_load1B _ _ _ rfl ⟨w.heap.size,1,none⟩ (by kernel_rfl) w' _ (cellAtJ (kept hSw HG.out.2.2) 1 (.slice (some ⟨qb,qoff,none⟩) n qc) rfl) (fun w=>by kernel_rfl)⟩) SQ ?_
   try simp only [pA,pE,pB,pC,pD]
   refine tzI 27 7 ?_ ?_ SQ ?_
   rotate_left
   ·intro w' hSw;go_simp;try with_reducible rfl
   try simp only [pA,pE,pB,pC,pD]
   refine tzI 28 8 ?_ ?_ SQ ?_
   rotate_left
   ·intro w' hSw;go_simp;try with_reducible rfl
   try simp only [pA,pE,pB,pC,pD]
   refine tzH 29 9 ((.float .f64 y)) (Or.inl ⟨by kernel_rfl,fun w' hSw=>ex_load1B _ _ _ rfl ⟨qb,qoff + k,none⟩ (by kernel_rfl) w' _ ((hSw.cell (World.block_lt_of_cell? _ _ (HG.out.2.1))).trans (HG.out.2.1)) (fun w=>by kernel_rfl)⟩) SQ ?_
   try simp only [pA,pE,pB,pC,pD]
   refine rzH [10] ?_
   refine consH _ rfl (hzC 30 (Calls.mono (HS2.out _) ?_)) AllReadyH.nil
   rintro e V1 ⟨rfl,hV1⟩
   subst hV1
   refine ⟨_,rfl,SQ,?_⟩
   try simp only [pA,pE,pB,pC,pD]
   refine tzI 19 11 ?_ ?_ SQ ?_
   rotate_left
   ·intro w' hSw;go_simp;try with_reducible rfl
   try simp only [pA,pE,pB,pC,pD]
   refine tzI 31 12 ?_ ?_ SQ ?_
   rotate_left
   ·intro w' hSw;go_simp;try with_reducible rfl
   try simp only [pA,pE,pB,pC,pD]
   refine tzI 32 13 ?_ ?_ SQ ?_
   rotate_left
   ·intro w' hSw;go_simp;try with_reducible rfl
   try simp only [pA,pE,pB,pC,pD]
   refine tzI 33 14 ?_ ?_ SQ ?_
   rotate_left
   ·intro w' hSw;go_simp;try with_reducible rfl
   try simp only [pA,pE,pB,pC,pD]
   refine tzI 8 15 ?_ ?_ SQ ?_
   rotate_left
   ·intro w' hSw;go_simp;try with_reducible rfl
   try simp only [pA,pE,pB,pC,pD]
   refine tzI 9 16 ?_ ?_ SQ ?_
   rotate_left
   ·intro w' hSw;go_simp;try with_reducible rfl
   try simp only [pA,pE,pB,pC,pD]
   refine tzI 10 17 ?_ ?_ SQ ?_
   rotate_left
   ·intro w' hSw;go_simp;try with_reducible rfl
   try simp only [pA,pE,pB,pC,pD]
   refine wpAnyH_done (by kernel_rfl) ?_ _
   refine NoPanic.normal ?_
   try simp only [pA,pE,pB,pC,pD]
   clear SQ HG HS2
   rcases HS1.out with ⟨ho,ru,fv,ev,lv⟩ | ⟨ho,x',rp⟩
   ·subst ho
    have HU:Hid (RndZ 0 (fval x + fval y) 1 (u,true) /\ Fin v /\ fval v = fval x + fval y - fval u /\ v < 18446744073709551616 /\ u < 18446744073709551616):=⟨ru,fv,ev,lv,(rz_canon ru).2.1⟩
    clear HS1 ru fv ev
    have HAC:Hid (AccO wr.drew (p k) (addJ vs os k k) /\ wr.drew.cell? ⟨gB,k,none⟩ = some (.pointer (some ⟨p k,0,none⟩)) /\ gB < p k /\ p k < w.heap.size):=⟨(HI.out.a.acc k h1).drew,HI.out.a.row k h1,HI.out.a.gt k h1,HA.out.2.2 k h1⟩
    obtain ⟨pk,hpk⟩:∃ pk,p k = pk:=⟨_,rfl⟩
    rw [hpk] at HAC
    go_upto_region 8 with fail
    refine wp_region_noPanic ?_
    refine wp_region_held_drew (S:=fun V=>V.cell? ⟨gB,k,none⟩ = some (.pointer (some ⟨pk,0,none⟩))) (by kernel_rfl) HAC.out.2.1 (fun _=>?_)
    have SQ:(fun V:World=>V.cell? ⟨gB,k,none⟩ = some (.pointer (some ⟨pk,0,none⟩))) wr.drew.drew:=HAC.out.2.1
    refine tzI 36 0 ?_ ?_ SQ ?_
    rotate_left
    ·intro w' hSw;go_simp;try with_reducible rfl
    try simp only [pA,pE,pB,pC,pD]
    refine tzI 37 1 ?_ ?_ SQ ?_
    rotate_left
    ·intro w' hSw;go_simp;try with_reducible rfl
    try simp only [pA,pE,pB,pC,pD]
    refine tzI 38 2 ?_ ?_ SQ ?_
    rotate_left
    ·intro w' hSw;go_simp;try with_reducible rfl
    try simp only [pA,pE,pB,pC,pD]
    refine tzH 39 3 (.pointer (some ⟨pk,0,none⟩)) (Or.inl ⟨by kernel_rfl,fun w' hSw=>ex_load1B _ _ _ rfl ⟨gB,k,none⟩ (by kernel_rfl) w' _ hSw (fun w=>by kernel_rfl)⟩) SQ ?_
    try simp only [pA,pE,pB,pC,pD]
    refine tzI 40 4 ?_ ?_ SQ ?_
    rotate_left
    ·intro w' hSw;go_simp;try with_reducible rfl
    try simp only [pA,pE,pB,pC,pD]
    refine rzH [5] ?_
    refine consH _ rfl (hzC 41 (Calls.mono (abs_any v lv _) ?_)) AllReadyH.nil
    rintro e m ⟨rfl,hm⟩
    subst hm
    refine ⟨_,rfl,SQ,?_⟩
    try simp only [pA,pE,pB,pC,pD]
    refine rzH [6] ?_
    refine consH _ rfl (hzC 42 (Calls.mono (accAdd_any pk _ (frung v) (frung_ltJ lv) _ HAC.out.1.drew) ?_)) AllReadyH.nil
    rintro e w5 ⟨rfl,a5,c5⟩
    have SQ5:w5.cell? ⟨gB,k,none⟩ = some (.pointer (some ⟨pk,0,none⟩)):=(cell_heapJ (c5.other gB (Nat.lt_of_lt_of_le HA.out.2.1 HI.out.b.size) (by have:=HAC.out.2.2.1;omega)) k).trans HAC.out.2.1
    refine ⟨_,rfl,SQ5,?_⟩
    try simp only [pA,pE,pB,pC,pD]
    refine wpAnyH_done (by kernel_rfl) ?_ _
    refine NoPanic.normal ?_
    try simp only [pA,pE,pB,pC,pD]
    have HN:Hid (AccO w5 pk (prodO (addJ vs os k k) (frung v) 4607182418800017408 0) /\ Chg pk wr.drew.drew w5):=⟨a5,c5⟩
    clear a5 c5 SQ5 SQ
    have HK5:Hid (∀ i,i < wr.heap.size -> i ≠ pk -> w5.heap[i]? = wr.heap[i]?):=fun i hi hne=>HN.out.2.other i hi hne
    have l5:w5.heap[w.heap.size + 1]? = some (.cells (fl2 us).toArray 45):=(HK5.out _ (blk_lt HI.out.l) (by have:=HAC.out.2.2.2;omega)).trans HI.out.l
    have b5:Below gB w w5:=HI.out.b.drew.drew.trans (HN.out.2.below.mono (Nat.le_of_lt HAC.out.2.2.1))
    have lu5:k < us.length:=by rw [HI.out.r.lu];exact h1
    have lv5:k < vs.length:=by rw [HI.out.r.lv];exact h1
    have gle:gB <= w.heap.size + 1:=by have:=HA.out.2.1;omega
    go_upto_region 10 with (refine wpList_store_at (by rfl) 45 _ _ (by rfl) w gB (w.heap.size + 1) k (.float .f64 u) _ (fl2 (us.set k u)).toArray 45 (by rfl) (by rfl) l5 b5 gle 1 Tryz.szF1q rfl (by rw [List.size_toArray,fl2_len];omega) (oneF _) (fl2_set _ _ _ lu5) ?_;intro W2 e2 b2 s2 o2)
    have HI2:Hid (NeI w gB n p os ps qs po qo pc qc (k + 1) W2 (us.set k u) (vs.set k v)):=by
     have ok2:∀ i,i < wr.heap.size -> i ≠ pk -> i ≠ w.heap.size + 1 -> W2.heap[i]? = wr.heap[i]?:=fun i hi h2 h3=>(o2 i h3).trans (HK5.out i hi h2)
     have hzs:wr.heap.size > w.heap.size + 1:=blk_lt HI.out.l
     refine ⟨(ok2 _ (by omega) (by have:=HAC.out.2.2.2;omega) (by omega)).trans HI.out.pr,e2,⟨by rw [List.length_set];exact HI.out.r.lu,fun x hx=>?_,by rw [List.length_set];exact HI.out.r.lv,fun x hx=>?_,fun j hj=>?_⟩,⟨fun j hj=>?_,fun j hj=>?_,HI.out.a.gt,HI.out.a.inj⟩,b2,fun i hi hne=>?_⟩
     ·rcases List.mem_or_eq_of_mem_set hx with h | h
      ·exact HI.out.r.tu x h
      ·rw [h];exact HU.out.2.2.2.2
     ·rcases List.mem_or_eq_of_mem_set hx with h | h
      ·exact HI.out.r.tv x h
      ·rw [h];exact HU.out.2.2.2.1
     ·rw [set_getD lu5,set_getD lv5]
      by_cases e:j = k
      ·rw [if_pos e,if_pos e,e,HXY.out.1,HXY.out.2];exact ⟨HU.out.1,HU.out.2.1,HU.out.2.2.1⟩
      ·rw [if_neg e,if_neg e];exact HI.out.r.is j (by omega)
     ·exact (cell_heapJ (ok2 gB (by have:=HA.out.2.1;omega) (by have:=HAC.out.2.2.1;omega) (by have:=HA.out.2.1;omega)) j).trans (HI.out.a.row j hj)
     ·rw [addJ_succ]
      by_cases e:j = k
      ·rw [if_pos e,e,hpk,addJ_set lv5,set_getD lv5,if_pos rfl]
       exact HN.out.1.heap (o2 pk (by have:=HAC.out.2.2.2;omega))
      ·rw [if_neg e,addJ_set lv5]
       exact (HI.out.a.acc j hj).heap (ok2 _ (HI.out.a.acc j hj).block (fun h=>e (HI.out.a.inj j k hj h1 (h.trans hpk.symm))) (by have:=HA.out.2.2 j hj;omega))
     ·have h2:=hne k h1
      rw [hpk] at h2
      exact (ok2 i (by omega) h2 (by omega)).trans (HI.out.o i hi hne)
    clear HN HK5 l5 b5 e2 b2 s2 o2 HAC hpk
    go_wp2_with fail
    go_roundg q
    case measure=>omega
    case rel=>exact ⟨k + 1,by go_num,by have:=HIG.out;omega,_,_,HI2⟩
   ·subst ho
    have HX:Hid (RndZ 0 (fval (ps[k]?.getD 0) + fval (qs[k]?.getD 0)) 1 (x',false)):=by unfold Hid;rw [HXY.out.1,HXY.out.2];exact rp
    clear HS1 rp
    go_wp2_with fail
    refine bodyPost_ret (res_tmp2J _ 4 5 (by kernel_rfl) _ _ _ _ (by rfl) (by rfl)) rfl ?_
    exact ⟨.inr ⟨k,x',h1,HX.out,rfl⟩,HI.out.b.drew,HI.out.o⟩
  ·have hd1:decide ((k:Int) < (n:Int)) = false:=decide_eq_false (by omega)
   have hkn:k = n:=by omega
   have HN:Hid (NeI w gB n p os ps qs po qo pc qc n wr us vs):=hkn ▸ HI
   clear hkn hk
   go_wp2_with fail
   refine bodyPost_ret (res_tmp2J _ 4 5 (by kernel_rfl) _ _ _ _ (by rfl) (by rfl)) rfl ?_
   exact ⟨.inl ⟨us,vs,rfl,owB_blk (by omega) HN.out.l HN.out.r.lu (by omega) HN.out.r.tu,HN.out.r,HN.out.a⟩,HN.out.b,HN.out.o⟩
end Go.Proofs.YtmdjoaipkbnelaaGreat
