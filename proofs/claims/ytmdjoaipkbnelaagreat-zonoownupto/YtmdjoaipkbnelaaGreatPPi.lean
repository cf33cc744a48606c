import Derived.Test.YtmdjoaipkbnelaaGreatPPk
set_option maxRecDepth 100000
set_option maxHeartbeats 20000000
set_option linter.unusedVariables false
set_option linter.unusedSimpArgs false
namespace Go.Proofs.YtmdjoaipkbnelaaGreat
open Go.RowKit Go.Shelf
def NoS (a b:ZD) (n:Nat):Prop:=(∃ j x,j < n /\ RndZ 0 (fval (a.cs[j]?.getD 0) + fval (b.cs[j]?.getD 0)) 1 (x,false)) ∨
 (∃ k j x,k < (mg a.ids b.ids).length /\ j < n /\ RndZ 0 (fval ((colL a n ((mg a.ids b.ids)[k]?.getD 0))[j]?.getD 0) + fval ((colL b n ((mg a.ids b.ids)[k]?.getD 0))[j]?.getD 0)) 1 (x,false)) ∨
 (∃ cu cv UL VL j x,NeR n a.cs b.cs cu cv n /\ SuK a b n (mg a.ids b.ids) UL VL (mg a.ids b.ids).length /\ j < n /\ RndO 1 (osK n (addJ cv (addJ b.rs (accB a.rs) n) n) VL j) x false)
structure SuPost (a b:ZD) (n base:Nat) (w':World) (c:Array Value) (ok:Bool):Prop where
 sz:c.size = 6
 one:c.all (·.oneCell') = true
 yes:ok = true -> ∃ bc br vi vg gl cu cv UL VL rs,c = #[.int .i64 (n:Int),slN n bc,vi,vg,slN n br,.bool false] /\ FrL w' base n bc br cu rs ((kpP (mg a.ids b.ids) UL).map (·.1)) ((kpP (mg a.ids b.ids) UL).map (·.2)) vi vg gl /\ NeR n a.cs b.cs cu cv n /\ SuK a b n (mg a.ids b.ids) UL VL (mg a.ids b.ids).length /\ ∀ j,j < n -> RndO 1 (osK n (addJ cv (addJ b.rs (accB a.rs) n) n) VL j) (rs[j]?.getD 0) true
 no:ok = false -> NoS a b n
theorem SuPost.mk_no {a b:ZD} {n base:Nat} {w':World} (h:NoS a b n):SuPost a b n base w' #[.int .i64 0,.slice none 0 0,.slice none 0 0,.slice none 0 0,.slice none 0 0,.bool false] false:=⟨rfl,oneZ _ _ _ _ _ rfl rfl rfl rfl _,(fun c=>by cases c),fun _=>h⟩
def SuAns (a b:ZD) (n base:Nat) (e:Ending) (w':World):Prop:=∃ (c:Array Value) (ok:Bool),e = .returned (.tuple #[.agg c,.bool ok]) /\ SuPost a b n base w' c ok
theorem AcL.only {w w':World} {g n:Nat} {p:Nat -> Nat} {os:Nat -> Option Int} (h:AcL w g n p os) (hg:w'.heap[g]? = w.heap[g]?) (hp:∀ j,j < n -> w'.heap[p j]? = w.heap[p j]?):AcL w' g n p os:=⟨fun j hj=>(cell_heapJ hg j).trans (h.row j hj),fun j hj=>(h.acc j hj).heap (hp j hj),h.gt,h.inj⟩
theorem nz_rd {W:World} {nb n:Nat} (hn:n <= 1000000) (h:W.heap[nb]? = some (.cells (flN n) 45)):RdF W (some ⟨nb,0,none⟩) n n (List.replicate n 0):=
 ⟨by simp,by simp only [maxLen];omega,fun u hu=>by rw [(List.mem_replicate.1 hu).2];decide,.inr ⟨_,0,rfl,fun j hj=>by rw [Nat.zero_add,List.getElem?_replicate,if_pos hj];exact cellAtJ h j _ (flN_at n j hj)⟩⟩
theorem NeR.fin {n:Nat} {ps qs us vs:List Nat} (h:NeR n ps qs us vs n):∀ u ∈ us,Fin u:=by
 intro u hu
 obtain ⟨j,hj,rfl⟩:=List.mem_iff_getElem.1 hu
 have h1:=(h.is j (by rw [<- h.lu];exact hj)).1
 rw [List.getElem?_eq_getElem hj] at h1
 exact (rz_canon h1).1
theorem zRow_n {z:ZD} {n:Nat} (hN:z.N = (n:Int)) (hc:z.cn = n) (hr:z.rn = n):zRow z = #[.int .i64 (n:Int),.slice z.co n z.cc,.slice z.io z.dn z.dc,.slice z.go z.gn z.gc,.slice z.ro n z.rc,.bool z.bad]:=by
 unfold zRow
 rw [hN,hc,hr]
theorem sumOf_any (a b:ZD) (n:Nat) (w:World) (ha:ZR w a) (hb:ZR w b) (fa:WhF a) (fb:WhF b) (wa:wholeB a = true) (wb:wholeB b = true) (za:FinZ a) (zb:FinZ b) (hna:a.rn = n) (hnb:b.rn = n) (da:a.dn <= 1050000) (db:b.dn <= 1050000) :
  Calls Tryz.prog 23 #[.agg (zRow a),.agg (zRow b)] w fun e w'=>SuAns a b n w.heap.size e w' /\ Below w.heap.size w w':=by
 have HA:Hid (∀ W',Below w.heap.size w W' -> ZR W' a):=fun W' h=>ha.later h
 have HB:Hid (∀ W',Below w.heap.size w W' -> ZR W' b):=fun W' h=>hb.later h
 have hca:a.cn = n:=by rw [fa.cn,hna]
 have hcb:b.cn = n:=by rw [fb.cn,hnb]
 have hn:1 <= n /\ n <= 256:=by have:=fa.n1;have:=fa.n2;omega
 have ia:=whole_ids wa ha.i.length
 have ib:=whole_ids wb hb.i.length
 have HIA:Hid _:=ia
 have HIB:Hid _:=ib
 have ZA0:Hid _:=zRow_n (by rw [fa.N,hna]) hca hna
 have ZB0:Hid _:=zRow_n (by rw [fb.N,hnb]) hcb hnb
 have HRA:Hid (∀ W',Below w.heap.size w W' -> RdF W' a.co n a.cc a.cs /\ RdF W' a.ro n a.rc a.rs):=fun W' h=>by
  have h1:=(HA.out W' h).c
  have h2:=(HA.out W' h).r
  rw [hca] at h1
  rw [hna] at h2
  exact ⟨h1,h2⟩
 have HRB:Hid (∀ W',Below w.heap.size w W' -> RdF W' b.co n b.cc b.cs /\ RdF W' b.ro n b.rc b.rs):=fun W' h=>by
  have h1:=(HB.out W' h).c
  have h2:=(HB.out W' h).r
  rw [hcb] at h1
  rw [hnb] at h2
  exact ⟨h1,h2⟩
 have HMG:Hid (∀ W',Below w.heap.size w W' -> _):=fun W' h=>mergedP_any a b n W' (HA.out W' h) (HB.out W' h) (by rw [fa.N,hna]) (by omega) ia.1 ib.1 (Nat.le_of_eq fa.dg) (Nat.le_of_eq fb.dg) da db ia.2 ib.2
 have HF:Hid (∀ j:Nat,Fin (a.cs[j]?.getD 0) /\ Fin (b.cs[j]?.getD 0)):=fun j=>⟨fa.fin.c j,fb.fin.c j⟩
 have X0:Below w.heap.size w (((w.alloc (.cells (zRow a) 26)).alloc (.cells (zRow b) 26)).alloc (.cells #[.int .i64 0,.slice none 0 0,.slice none 0 0,.slice none 0 0,.slice none 0 0,.bool false] 26)):=(((Below.refl _ w).alloc (Nat.le_refl _) _).alloc (by simp only [alloc_size];omega) _).alloc (by simp only [alloc_size];omega) _
 have Y0:(((w.alloc (.cells (zRow a) 26)).alloc (.cells (zRow b) 26)).alloc (.cells #[.int .i64 0,.slice none 0 0,.slice none 0 0,.slice none 0 0,.slice none 0 0,.bool false] 26)).heap[w.heap.size]? = some (.cells (zRow a) 26):=alloc_kept (alloc_kept (heap_alloc_new w _) _) _
 have Y1:(((w.alloc (.cells (zRow a) 26)).alloc (.cells (zRow b) 26)).alloc (.cells #[.int .i64 0,.slice none 0 0,.slice none 0 0,.slice none 0 0,.slice none 0 0,.bool false] 26)).heap[w.heap.size + 1]? = some (.cells (zRow b) 26):=alloc_kept (heap_at _ _ _ (by simp only [alloc_size])) _
 have Y2:(((w.alloc (.cells (zRow a) 26)).alloc (.cells (zRow b) 26)).alloc (.cells #[.int .i64 0,.slice none 0 0,.slice none 0 0,.slice none 0 0,.slice none 0 0,.bool false] 26)).heap[w.heap.size + 2]? = some (.cells #[.int .i64 0,.slice none 0 0,.slice none 0 0,.slice none 0 0,.slice none 0 0,.bool false] 26):=heap_at _ _ _ (by simp only [alloc_size])
 have YS:(((w.alloc (.cells (zRow a) 26)).alloc (.cells (zRow b) 26)).alloc (.cells #[.int .i64 0,.slice none 0 0,.slice none 0 0,.slice none 0 0,.slice none 0 0,.bool false] 26)).heap.size = w.heap.size + 3:=by simp only [alloc_size]
 go_enter Tryz.func23,Tryz.ntmps23
 go_upto_region 1 with fail
 obtain ⟨X,hX⟩:∃ X,(((w.alloc (.cells (zRow a) 26)).alloc (.cells (zRow b) 26)).alloc (.cells #[.int .i64 0,.slice none 0 0,.slice none 0 0,.slice none 0 0,.slice none 0 0,.bool false] 26)) = X:=⟨_,rfl⟩
 rw [hX] at X0 Y0 Y1 Y2 YS ⊢
 clear hX ha hb
 have Z0:=Y0
 rw [ZA0.out] at Z0
 have Z1:=Y1
 rw [ZB0.out] at Z1
 obtain ⟨a0,a1,a2,a3,a4,a5⟩:=cells6 Z0
 clear a0 a1 a2 a3 a5
 go_upto_region 2 with (first | (go_at_call 34;refine Calls.mono (accsOf_any a.ro n a.rc a.rs (by omega) _ (HRA.out _ X0).2) ?_;rintro e w1 ⟨rfl,q1,b1,s1⟩))
 obtain ⟨p,hp⟩:=q1
 obtain ⟨gB,hgB⟩:∃ m,w.heap.size + 3 = m:=⟨_,rfl⟩
 rw [YS] at hp b1 s1
 rw [hgB] at hp b1 s1
 rw [hgB]
 clear YS
 obtain ⟨a0,a1,a2,a3,a4',a5⟩:=cells6 ((b1.block _ (by omega)).trans Z1)
 clear a0 a1 a2 a3 a5
 go_upto_region 3 with (first | (go_at_call 35;refine Calls.mono (addSizes_any gB n n p _ b.ro n b.rc b.rs (Nat.le_refl _) w1 s1 hp (fun W' h=>(HRB.out W' (X0.trans ((b1.mono (by omega)).trans (h.mono (by omega))))).2)) ?_;rintro e w2 ⟨rfl,q2,b2,o2⟩))
 clear a4 a4'
 have HP:Hid ((∀ j,j < n -> gB < p j /\ p j < w1.heap.size) /\ gB < w1.heap.size):=⟨fun j hj=>⟨hp.gt j hj,(hp.acc j hj).block⟩,s1⟩
 have B2:Below w.heap.size w w2:=(X0.trans (b1.mono (by omega))).trans (b2.mono (by omega))
 have Q0:w2.heap[w.heap.size]? = some (.cells (zRow a) 26):=(b2.block _ (by omega)).trans ((b1.block _ (by omega)).trans Y0)
 have Q1:w2.heap[w.heap.size + 1]? = some (.cells (zRow b) 26):=(b2.block _ (by omega)).trans ((b1.block _ (by omega)).trans Y1)
 have Q2:w2.heap[w.heap.size + 2]? = some (.cells #[.int .i64 0,.slice none 0 0,.slice none 0 0,.slice none 0 0,.slice none 0 0,.bool false] 26):=(b2.block _ (by omega)).trans ((b1.block _ (by omega)).trans Y2)
 have s2:w1.heap.size <= w2.heap.size:=b2.size
 have HC:Hid (Below w.heap.size w w2 /\ w2.heap[w.heap.size]? = some (.cells (zRow a) 26) /\ w2.heap[w.heap.size + 1]? = some (.cells (zRow b) 26) /\ w2.heap[w.heap.size + 2]? = some (.cells #[.int .i64 0,.slice none 0 0,.slice none 0 0,.slice none 0 0,.slice none 0 0,.bool false] 26) /\ AcL w2 gB n p (addJ b.rs (accB a.rs) n)):=⟨B2,Q0,Q1,Q2,q2⟩
 obtain ⟨c0,c1,c2,c3,c4,c5⟩:=cells6 (Q0.trans (congrArg (fun r=>some (Obj.cells r 26)) ZA0.out))
 obtain ⟨d0,d1,d2,d3,d4,d5⟩:=cells6 (Q1.trans (congrArg (fun r=>some (Obj.cells r 26)) ZB0.out))
 clear c0 c2 c3 c4 c5 d0 d2 d3 d4 d5 B2 Q0 Q1 Q2 Z0 Z1 Y0 Y1 Y2 X0 b1 b2 o2 q2 hp s1
 have HNE:Hid _:=nearest2_any gB n p _ a.co b.co a.cc b.cc a.cs b.cs w2 (by have:=HP.out.2;omega) (by omega) HC.out.2.2.2.2 (fun W h _=>⟨(HRA.out _ (HC.out.1.trans (h.mono (by omega)))).1,(HRB.out _ (HC.out.1.trans (h.mono (by omega)))).1⟩) (fun j _=>HF.out j)
 go_upto_region 4 with (first | (go_at_call 37;refine Calls.mono HNE.out ?_;rintro e w3 ⟨o3,l3,q3,ok3,rfl,h3⟩))
 clear c1 d1 HNE
 have HNIL:Hid (w3.heap[w.heap.size + 2]? = some (.cells #[.int .i64 0,.slice none 0 0,.slice none 0 0,.slice none 0 0,.slice none 0 0,.bool false] 26) /\ Below w.heap.size w w3):=⟨(h3.out.2.2.1.block _ (by omega)).trans HC.out.2.2.2.1,HC.out.1.trans (h3.out.2.2.1.mono (by omega))⟩
 cases ok3 with
 | false=>
  have HNO:Hid _:=h3.out.2.1 rfl
  go_wp2_with (refine wpList_store_row (by rfl) 26 _ _ (by rfl) w w.heap.size (w.heap.size + 2) #[.int .i64 0,.slice none 0 0,.slice none 0 0,.slice none 0 0,.slice none 0 0,.bool false] _ (by rfl) (by rfl) HNIL.out.1 HNIL.out.2 (by omega) 6 Tryz.infoZq (by rfl) (by rfl) (oneZ _ _ _ _ _ rfl rfl rfl rfl _) ?_;intro W9 e9 b9 s9 o9)
  refine bodyPost_ret (res_ctJ _ 4 5 26 (by kernel_rfl) _ _ (w.heap.size + 2) #[.int .i64 0,.slice none 0 0,.slice none 0 0,.slice none 0 0,.slice none 0 0,.bool false] _ (by rfl) (by rfl) _ Tryz.underlying26 rfl 6 Tryz.infoZq rfl e9) rfl ?_
  exact ⟨⟨_,_,rfl,SuPost.mk_no (.inl HNO.out)⟩,b9⟩
 | true=>
  obtain ⟨cu,cv,e1,e2,e3,oc3,ne3,ac3⟩:=h3.out.1 rfl
  replace e2:=e2.symm
  replace e3:=e3.symm
  subst e1
  subst e2
  subst e3
  have oc3':OwB w3 w2.heap.size n (w2.heap.size + 1) cu:=oc3
  obtain ⟨bc,hbc⟩:∃ m,w2.heap.size + 1 = m:=⟨_,rfl⟩
  rw [hbc] at oc3
  rw [hbc]
  have HBX:Hid (w3.heap[w.heap.size]? = some (.cells (zRow a) 26) /\ w3.heap[w.heap.size + 1]? = some (.cells (zRow b) 26)):=⟨(h3.out.2.2.1.block _ (by omega)).trans HC.out.2.1,(h3.out.2.2.1.block _ (by omega)).trans HC.out.2.2.1⟩
  have HNE:Hid (NeR n a.cs b.cs cu cv n):=ne3
  obtain ⟨k0,k1,k2,k3,k4,k5⟩:=cells6 (HBX.out.1.trans (congrArg (fun r=>some (Obj.cells r 26)) ZA0.out))
  clear k1 k2 k3 k4 k5
  go_upto_region 7 with (refine wpList_store_row (by rfl) 26 _ _ (by rfl) w w.heap.size w3.heap.size #[.int .i64 (n:Int),slN n bc,.slice none 0 0,.slice none 0 0,.slice none 0 0,.bool false] _ (by rfl) (by rfl) (heap_alloc_new w3 _) (HNIL.out.2.alloc HNIL.out.2.size _) HNIL.out.2.size 6 Tryz.infoZq (by rfl) (by rfl) (oneZ _ _ _ _ _ rfl rfl rfl rfl _) ?_;intro W6 e6 b6 s6 o6)
  have K6:∀ k,k < w3.heap.size -> W6.heap[k]? = w3.heap[k]?:=fun k hk=>(o6 k (by omega)).trans (by first | exact heap_alloc_old w3 _ hk | exact heap_alloc_old w3 _ _ hk)
  have g3:w2.heap.size + 1 < w3.heap.size:=oc3'.lt
  have S6:W6.heap.size = w3.heap.size + 1:=by rw [s6];simp only [alloc_size]
  have A6:AcL W6 gB n p (addJ cv (addJ b.rs (accB a.rs) n) n):=ac3.heap (fun k _ hk=>K6 k hk) (by have:=HP.out.2;omega)
  have hp2:=HP.out.2
  have H6:Hid (W6.heap[w.heap.size]? = some (.cells (zRow a) 26) /\ W6.heap[w.heap.size + 1]? = some (.cells (zRow b) 26) /\ W6.heap[w.heap.size + 2]? = some (.cells #[.int .i64 0,.slice none 0 0,.slice none 0 0,.slice none 0 0,.slice none 0 0,.bool false] 26) /\ Below w.heap.size w W6 /\ OwB W6 w2.heap.size n bc cu /\ AcL W6 gB n p (addJ cv (addJ b.rs (accB a.rs) n) n) /\ W6.heap[w3.heap.size]? = some (.cells #[.int .i64 (n:Int),slN n bc,.slice none 0 0,.slice none 0 0,.slice none 0 0,.bool false] 26) /\ w3.heap.size < W6.heap.size):=⟨(K6 _ (by omega)).trans HBX.out.1,(K6 _ (by omega)).trans HBX.out.2,(K6 _ (by omega)).trans HNIL.out.1,b6,(oc3.keep fun k cur hc=>K6 k (blk_lt hc)),A6,e6,by omega⟩
  obtain ⟨D,hD⟩:∃ m,w3.heap.size = m:=⟨_,rfl⟩
  obtain ⟨b1,hb1⟩:∃ m,w2.heap.size = m:=⟨_,rfl⟩
  rw [hD] at H6 g3 ⊢
  rw [hb1] at H6 g3 hbc
  have HPL:Hid (w.heap.size + 2 < gB /\ gB < b1 /\ (∀ j,j < n -> gB < p j /\ p j < b1) /\ b1 <= D /\ bc = b1 + 1 /\ bc < D):=⟨by omega,by have:=HP.out.2;omega,fun j hj=>by have:=HP.out.1 j hj;omega,by omega,hbc.symm,by omega⟩
  clear hp2 e6 b6 s6 o6 k0 K6 S6 A6 g3 hD hb1 hbc oc3 oc3' ne3 ac3 h3 HNIL HBX HP HC
  go_upto_region 8 with (first
   | (refine wpList_load_row (by rfl) 26 _ (by rfl) w.heap.size _ (by rfl) H6.out.1 _ Tryz.underlying26 rfl 6 Tryz.infoZq (by rfl) ?_)
   | (refine wpList_load_row (by rfl) 26 _ (by rfl) (w.heap.size + 1) _ (by rfl) H6.out.2.1 _ Tryz.underlying26 rfl 6 Tryz.infoZq (by rfl) ?_)
   | (go_at_call 38;refine Calls.mono (HMG.out _ H6.out.2.2.2.1) ?_;rintro e w7 ⟨⟨B,nb,DM,rfl,hB,hnb,hM,hP,hnz⟩,b7⟩))
  have hdn:a.dn + b.dn <= 4000000:=by omega
  have H7:Hid (w7.heap[w.heap.size + 2]? = some (.cells #[.int .i64 0,.slice none 0 0,.slice none 0 0,.slice none 0 0,.slice none 0 0,.bool false] 26) /\ Below w.heap.size w w7 /\ OwB w7 b1 n bc cu /\ AcL w7 gB n p (addJ cv (addJ b.rs (accB a.rs) n) n) /\ w7.heap[D]? = some (.cells #[.int .i64 (n:Int),slN n bc,.slice none 0 0,.slice none 0 0,.slice none 0 0,.bool false] 26) /\ w7.ownsMap Tryz.prog 3 elR B (a.dn + b.dn) DM /\ PrM a b (nzV nb n) (List.range a.ids.length) (List.range b.ids.length) DM /\ w7.heap[nb]? = some (.cells (flN n) 45)):=by
   have h6:=H6.out
   exact ⟨kept b7 h6.2.2.1,to_call h6.2.2.2.1 b7,h6.2.2.2.2.1.later b7,h6.2.2.2.2.2.1.later b7 (by have:=HPL.out;omega),kept b7 h6.2.2.2.2.2.2.1,hM,hP,hnz⟩
  have HS7:Hid (D < B /\ D < nb /\ D < w7.heap.size):=by have:=H6.out.2.2.2.2.2.2.2;exact ⟨by omega,by omega,by have:=b7.size;omega⟩
  have HSM:Hid _:=sortedM_any a b (nzV nb n) B (a.dn + b.dn) DM w7 hM hdn hP HIA.out.1 HIB.out.1
  clear hM hP hnz b7 H6 hB hnb HMG
  go_wp2_with (first
   | (go_at_call 40;refine Calls.mono (keysM_any (some B) w7) ?_;rintro e w8 ⟨rfl,rfl⟩)
   | (go_at_call 39;refine Calls.mono HSM.out ?_;rintro e w8 ⟨vL,rfl,hL,b8⟩;obtain ⟨lo,lc,rfl,hmx,hcl⟩:=owns_slice hL))
  have HLM:Hid ((mg a.ids b.ids).length <= 3000000):=by
   have h1:=mg_len a.ids b.ids
   have h2:=(HA.out _ (Below.refl _ _)).i.length
   have h3:=(HB.out _ (Below.refl _ _)).i.length
   unfold Hid
   omega
  have H8:Hid (w8.heap[w.heap.size + 2]? = some (.cells #[.int .i64 0,.slice none 0 0,.slice none 0 0,.slice none 0 0,.slice none 0 0,.bool false] 26) /\ Below w.heap.size w w8 /\ OwB w8 b1 n bc cu /\ AcL w8 gB n p (addJ cv (addJ b.rs (accB a.rs) n) n) /\ w8.heap[D]? = some (.cells #[.int .i64 (n:Int),slN n bc,.slice none 0 0,.slice none 0 0,.slice none 0 0,.bool false] 26) /\ w8.ownsMap Tryz.prog 3 elR B (a.dn + b.dn) DM /\ PrM a b (nzV nb n) (List.range a.ids.length) (List.range b.ids.length) DM /\ w8.heap[nb]? = some (.cells (flN n) 45) /\ w7.heap.size <= w8.heap.size):=by
   have h:=H7.out
   have hs:=HS7.out
   have hp:=HPL.out
   obtain ⟨es,clock,hm,r⟩:=h.2.2.2.2.2.1
   exact ⟨kept b8 h.1,to_call h.2.1 b8,h.2.2.1.later b8,h.2.2.2.1.later b8 (by omega),kept b8 h.2.2.2.2.1,⟨es,clock,kept b8 hm,r⟩,h.2.2.2.2.2.2.1,kept b8 h.2.2.2.2.2.2.2,b8.size⟩
  have HBN:Hid (B < w7.heap.size /\ nb < w7.heap.size /\ bc < w7.heap.size):=⟨H7.out.2.2.2.2.2.1.lt,blk_lt H7.out.2.2.2.2.2.2.2,H7.out.2.2.1.lt⟩
  have HLB:Hid (∀ k,(Value.slice lo (mg a.ids b.ids).length lc).ownBlock = some k -> w7.heap.size <= k /\ k < w8.heap.size):=fun k hk=>World.ownsRow.lt hL k hk
  have HLO:Hid _:=hL
  have HCL:Hid _:=hcl
  clear b8 HSM H7 hL hcl hmx
  obtain ⟨b2,hb2⟩:∃ m,w8.heap.size = m:=⟨_,rfl⟩
  have HPP:Hid (SfP w gB n b1 b2 D B nb bc (.slice lo (mg a.ids b.ids).length lc) p):=by
   have h1:=HPL.out
   have h2:=HS7.out
   have h3:=HBN.out
   have h4:=H8.out.2.2.2.2.2.2.2.2
   exact ⟨h1.1,h1.2.1,h1.2.2.1,⟨h1.2.2.2.1,by omega⟩,⟨by omega,by omega⟩,⟨by omega,by omega⟩,⟨by omega,by omega⟩,fun k hk=>by have:=HLB.out k hk;omega,⟨by omega,by omega,by omega,by omega,fun k hk=>by have:=HLB.out k hk;omega⟩⟩
  have HSB:Hid (SfB w n b1 b2 D B nb bc cu (mg a.ids b.ids) (a.dn + b.dn) DM (.slice lo (mg a.ids b.ids).length lc) w8 ((kpP (mg a.ids b.ids) []).map (·.1)) ((kpP (mg a.ids b.ids) []).map (·.2)) (.slice none 0 0) (.slice none 0 0) []):=by
   have h:=H8.out
   have h2:=HS7.out
   have hk0:(kpP (mg a.ids b.ids) []) = []:=by simp [kpP]
   unfold Hid
   rw [hk0]
   exact ⟨h.2.2.2.2.1,h.2.2.1,World.ownsRow_nil _ _ _ _,World.ownsRow_nil _ _ _ _,ColL.nil _ _ _,h.2.2.2.2.2.1,owns_monoJ HLO.out (by have:=HPL.out;omega),h.2.2.2.2.2.2.2.1,h.1,h.2.1,Nat.le_of_eq hb2.symm⟩
  have HAC:Hid (AcL w8 gB n p (addJ cv (addJ b.rs (accB a.rs) n) n)):=H8.out.2.2.2.1
  have HPR:Hid (PrM a b (nzV nb n) (List.range a.ids.length) (List.range b.ids.length) DM):=H8.out.2.2.2.2.2.2.1
  have HS2:Hid (b1 <= b2 /\ D < b2 /\ gB < b1 /\ w.heap.size + 2 < gB /\ w.heap.size + 2 < D):=by
   have h1:=HPP.out
   have h2:=h1.hg
   have h3:=h1.hgb
   have h4:=h1.hD
   exact ⟨by omega,by omega,h3,h2,by omega⟩
  clear H8 HBN HLB HLO HS7 HPL hb2
  go_loopg [46] (mg a.ids b.ids).length (fun g iv wx=>∃ k:Nat,iv = .int .i64 k /\ k + g = (mg a.ids b.ids).length /\ ∃ (UL VL:List (List Nat)) (vi vg:Value) (gl:List Nat),Hid (SfB w n b1 b2 D B nb bc cu (mg a.ids b.ids) (a.dn + b.dn) DM (.slice lo (mg a.ids b.ids).length lc) wx ((kpP (mg a.ids b.ids) UL).map (·.1)) ((kpP (mg a.ids b.ids) UL).map (·.2)) vi vg gl) /\ Hid (AcL wx gB n p (osK n (addJ cv (addJ b.rs (accB a.rs) n) n) VL)) /\ Hid (SuK a b n (mg a.ids b.ids) UL VL k))
  case atStart=>exact ⟨0,rfl,by omega,[],[],_,_,_,HSB,HAC,⟨rfl,rfl,fun j hj=>absurd hj (Nat.not_lt_zero _)⟩⟩
  case round=>
   clear HSB HAC
   obtain ⟨k,rfl,hk,UL,VL,vi,vg,gl,HS,HO,HU⟩:=hrel
   by_cases h1:k < (mg a.ids b.ids).length
   ·have hd1:decide ((k:Int) < ((mg a.ids b.ids).length:Int)) = true:=decide_eq_true (by omega)
    obtain ⟨q,rfl⟩:∃ q,gk = q + 1:=⟨gk - 1,by omega⟩
    have HIG:Hid _:=hk
    obtain ⟨id,hid⟩:∃ x:Int,(mg a.ids b.ids)[k] = x:=⟨_,rfl⟩
    have hidM:id ∈ (mg a.ids b.ids):=hid ▸ List.getElem_mem h1
    obtain ⟨ao,cap,he,-,hc0⟩:=owns_slice HS.out.l
    cases he
    rcases hc0 with h0 | ⟨gL,rfl,hc0⟩
    ·omega
    have hcell:=hc0 k h1
    rw [List.getElem?_map,List.getElem?_eq_getElem h1,hid] at hcell
    replace hcell:wr.cell? ⟨gL,k,none⟩ = some (.int .i64 id):=hcell
    clear hc0
    have hidr:0 <= id /\ id <= 1073741824:=by
     rcases (mg_mem id _ _).1 hidM with h | h
     ·exact HIA.out.2 id h
     ·exact HIB.out.2 id h
    have hlk:=look_run HS.out.m HPR.out hidM (WalkArith.wf_i64 (by omega))
    have HZA:Hid (∀ k,k < a.dn -> (a.gs[k]?.getD []).length = n):=fun k hk=>(fa.gl k hk).trans hna
    have HZB:Hid (∀ k,k < b.dn -> (b.gs[k]?.getD []).length = n):=fun k hk=>(fb.gl k hk).trans hnb
    rw [col_val (HA.out _ HS.out.bl) fa.dg HZA.out id,col_val (HB.out _ HS.out.bl) fb.dg HZB.out id] at hlk
    have HCR:Hid (∀ W,Below gB wr W -> (∀ i,i < wr.heap.size -> (∀ j,j < n -> i ≠ p j) -> W.heap[i]? = wr.heap[i]?) -> RdF W (colO a nb n id).1 n (colO a nb n id).2 (colL a n id) /\ RdF W (colO b nb n id).1 n (colO b nb n id).2 (colL b n id)):=fun W hb ho=>by
     have hq:=HPP.out
     have hnz:=(ho nb (blk_lt HS.out.nz) (fun j hj e=>by have:=hq.hp j hj;have:=hq.hnb;omega)).trans HS.out.nz
     have hbw:=HS.out.bl.trans (hb.mono (by have:=hq.hg;omega))
     have hrn:=nz_rd (by omega) hnz
     exact ⟨col_rd (HA.out W hbw) fa.dg HZA.out hrn id,col_rd (HB.out W hbw) fb.dg HZB.out hrn id⟩
    obtain ⟨⟨o1,q1⟩,ho1⟩:∃ x,colO a nb n id = x:=⟨_,rfl⟩
    obtain ⟨⟨o2,q2⟩,ho2⟩:∃ x,colO b nb n id = x:=⟨_,rfl⟩
    rw [ho1,ho2] at hlk HCR
    dsimp only at hlk
    have HNE2:Hid _:=nearest2_any gB n p (osK n (addJ cv (addJ b.rs (accB a.rs) n) n) VL) o1 o2 q1 q2 (colL a n id) (colL b n id) wr (by have:=HS.out.sz;have:=HS2.out;omega) (by omega) HO.out HCR.out (fun j _=>⟨col_fin za.g id j,col_fin zb.g id j⟩)
    have HW1:Hid (Value.int .i64 (wrap64 ((k:Int) + 1)) = .int .i64 ((k + 1:Nat):Int)):=by
     have h2:=HLM.out
     have h3:k < 3000000:=by omega
     clear h2
     unfold Hid
     refine congrArg _ ?_
     unfold wrap64
     omega
    have HID:Hid ((mg a.ids b.ids)[k]?.getD 0 = id):=by unfold Hid;rw [List.getElem?_eq_getElem h1,hid];rfl
    clear HCR ho1 ho2 HZA HZB
    go_upto_region 12 with (first | (go_at_call 37;refine Calls.mono HNE2.out ?_;rintro e w4 ⟨o4,l4,q4,ok4,rfl,h4⟩))
    clear hlk hcell HNE2
    have HS4:Hid (SfB w n b1 b2 D B nb bc cu (mg a.ids b.ids) (a.dn + b.dn) DM (.slice (some ⟨gL,0,none⟩) (mg a.ids b.ids).length lc) w4 ((kpP (mg a.ids b.ids) UL).map (·.1)) ((kpP (mg a.ids b.ids) UL).map (·.2)) vi vg gl):=HS.out.near HPP.out h4.out.2.2.1 h4.out.2.2.2
    cases ok4 with
    | false=>
     have HNO:Hid _:=h4.out.2.1 rfl
     go_wp2_with (refine wpList_store_row (by rfl) 26 _ _ (by rfl) w w.heap.size (w.heap.size + 2) #[.int .i64 0,.slice none 0 0,.slice none 0 0,.slice none 0 0,.slice none 0 0,.bool false] _ (by rfl) (by rfl) HS4.out.r HS4.out.bl (by omega) 6 Tryz.infoZq (by rfl) (by rfl) (oneZ _ _ _ _ _ rfl rfl rfl rfl _) ?_;intro W9 e9 b9 s9 o9)
     refine bodyPost_ret (res_ctJ _ 4 5 26 (by kernel_rfl) _ _ (w.heap.size + 2) #[.int .i64 0,.slice none 0 0,.slice none 0 0,.slice none 0 0,.slice none 0 0,.bool false] _ (by rfl) (by rfl) _ Tryz.underlying26 rfl 6 Tryz.infoZq rfl e9) rfl ?_
     obtain ⟨j,x,hj,hx⟩:=HNO.out
     refine ⟨⟨_,_,rfl,SuPost.mk_no (.inr (.inl ⟨k,j,x,h1,hj,?_⟩))⟩,b9⟩
     rw [HID.out]
     exact hx
    | true=>
     obtain ⟨us,vs,e1,e2,e3,ou,ne,ac⟩:=h4.out.1 rfl
     replace e2:=e2.symm
     replace e3:=e3.symm
     subst e1
     subst e2
     subst e3
     obtain ⟨bu,hbu⟩:∃ m,wr.heap.size + 1 = m:=⟨_,rfl⟩
     rw [hbu] at ou ⊢
     have HOU:Hid (OwB w4 b2 n bu us):=ou.mono HS.out.sz
     have HNEW:Hid (bu ∉ gl):=fun h=>by have:=HS.out.col.mem_lt h;omega
     have HA4:Hid (AcL w4 gB n p (osK n (addJ cv (addJ b.rs (accB a.rs) n) n) (VL ++ [vs]))):=by unfold Hid;rw [osK_snoc];exact ac
     have HU4:Hid (SuK a b n (mg a.ids b.ids) (UL ++ [us]) (VL ++ [vs]) (k + 1)):=HU.out.snoc (by rw [HID.out];exact ne)
     have HKP:Hid _:=kpP_snoc h1 HU.out.lu us
     have HCF:Hid _:=containsF_any (some ⟨bu,0,none⟩) n n us w4 HOU.out.rd ne.fin
     clear ou ne ac h4 HO HU HS hbu
     cases hany:us.any nzB with
     | false=>
      rw [hany] at HKP HCF
      go_wp2_with (first | (go_at_call 41;refine Calls.mono HCF.out ?_;rintro e w5 ⟨rfl,rfl⟩))
      go_roundg q
      case measure=>omega
      case rel=>
       refine ⟨k + 1,HW1.out,by have:=HIG.out;omega,UL ++ [us],VL ++ [vs],vi,vg,gl,?_,HA4,HU4⟩
       unfold Hid
       rw [HKP.out,if_neg Bool.false_ne_true,List.append_nil]
       exact HS4.out
     | true=>
      rw [hany] at HKP HCF
      rw [if_pos rfl,hid] at HKP
      go_upto_region 15 with (first | (go_at_call 41;refine Calls.mono HCF.out ?_;rintro e w5 ⟨rfl,rfl⟩))
      clear HCF
      have HS5:Hid (SfB w n b1 b2 D B nb bc cu (mg a.ids b.ids) (a.dn + b.dn) DM (.slice (some ⟨gL,0,none⟩) (mg a.ids b.ids).length lc) w5 ((kpP (mg a.ids b.ids) UL).map (·.1)) ((kpP (mg a.ids b.ids) UL).map (·.2)) vi vg gl):=HS4.out
      clear HS4
      have HBW:Hid (Below w.heap.size w w5):=HS5.out.bl
      have HKL:Hid (((kpP (mg a.ids b.ids) UL)).length <= (mg a.ids b.ids).length):=by
       unfold Hid kpP
       exact Nat.le_trans (List.length_filter_le _ _) (by rw [List.length_zip];exact Nat.min_le_left _ _)
      have HLI:Hid (((((kpP (mg a.ids b.ids) UL).map (·.1))).map (Value.int .i64)).length + 1 <= 4000000):=by
       have h2:=HKL.out
       have h3:=HLM.out
       unfold Hid
       simp only [List.length_map]
       omega
      have HLG:Hid ((gl.map (slN n)).length + 1 <= 4000000):=by
       have h2:=HKL.out
       have h3:=HLM.out
       have h4:=HS5.out.col.len
       unfold Hid
       simp only [List.length_map] at h4 ⊢
       omega
      have HS3:=HS2
      replace HS2:Hid (b1 <= b2 /\ D < b2 /\ gB < b1 /\ w.heap.size + 2 < gB /\ w.heap.size + 2 < D /\ b2 <= w5.heap.size /\ w.heap.size <= b2 /\ w.heap.size <= D):=by
       have h2:=HS3.out
       have h3:=HS5.out.sz
       exact ⟨h2.1,h2.2.1,h2.2.2.1,h2.2.2.2.1,h2.2.2.2.2,h3,by omega,by omega⟩
      refine wp_region_noPanic ?_
      refine wp_region_P (fun V=>V.heap[D]? = some (.cells #[.int .i64 (n:Int),slN n bc,vi,vg,.slice none 0 0,.bool false] 26)) 11 (by kernel_rfl) ?_
      have sV:w5.drew.heap[D]? = some (.cells #[.int .i64 (n:Int),slN n bc,vi,vg,.slice none 0 0,.bool false] 26):=HS5.out.z
      have LV:IgC w5.drew b2 n _ _ vi vg gl:=HS5.out.ig.keep (w':=w5.drew) fun _ _ _ _ _=>rfl
      have oV:=HOU.out.keep (w':=w5.drew) fun _ _ _=>rfl
      have qV:Below b2 w5 w5.drew:=(Below.refl _ w5).drew
      obtain ⟨V,hV⟩:∃ V,w5.drew = V:=⟨_,rfl⟩
      rw [hV] at sV LV oV qV ⊢
      clear hV
      refine tzQ 63 0 ?_ ?_ (fun _=>sV) ?_
      rotate_left
      ·intro w' hSw;go_simp;try with_reducible rfl
      try simp only [pA,pE,pB,pC,pD]
      refine tzP 64 1 ?_ (Or.inl ⟨by kernel_rfl,?_⟩) sV ?_
      rotate_left
      ·intro w' hSw;(try obtain ⟨c0,c1,c2,c3,c4,c5⟩:=cells6 hSw);go_simp;try with_reducible rfl
      try simp only [pA,pE,pB,pC,pD]
      refine tzQ 65 2 ?_ ?_ (fun _=>sV) ?_
      rotate_left
      ·intro w' hSw;go_simp;try with_reducible rfl
      try simp only [pA,pE,pB,pC,pD]
      refine tzQ 68 5 ?_ ?_ (fun _=>sV) ?_
      rotate_left
      ·intro w' hSw;go_simp;try with_reducible rfl
      try simp only [pA,pE,pB,pC,pD]
      refine tzP 69 6 ?_ (Or.inl ⟨by kernel_rfl,?_⟩) sV ?_
      rotate_left
      ·intro w' hSw;(try obtain ⟨c0,c1,c2,c3,c4,c5⟩:=cells6 hSw);go_simp;try with_reducible rfl
      try simp only [pA,pE,pB,pC,pD]
      refine tzQ 70 7 ?_ ?_ (fun _=>sV) ?_
      rotate_left
      ·intro w' hSw;go_simp;try with_reducible rfl
      try simp only [pA,pE,pB,pC,pD]
      refine rzP [3,8] ?_
      refine consP _ rfl ?_ (consP _ rfl ?_ AllReadyP.nil)
      ·refine hopBJ 66 (.int .i64 id) 3 rfl rfl rfl (by kernel_rfl) fun I Vi hIVi hb=>?_
       have sVi:=kept hb sV
       have LVi:=LV.later hb
       have qVi:=qV.trans (hb.mono (Nat.le_trans HS2.out.2.2.2.2.2.1 qV.size))
       have oVi:=oV.later hb
       clear hb
       refine ⟨sVi,?_⟩
       (try simp only [pA,pE,pB,pC,pD])
       refine rzP [4,8] ?_
       refine consP _ rfl ?_ (consP _ rfl ?_ AllReadyP.nil)
       ·refine hopL rfl (append_grM Tryz.underlying23 Tryz.infoIJ rfl (by decide) Vi (by rfl) _ _ (by rfl) b2 vi _ (by kernel_rfl) LVi.i ⟨I,0,none⟩ 1 1 [.int .i64 id] (by kernel_rfl) rfl (by decide) (news_oneJ hIVi) (by intro u hu;simp only [List.mem_cons,List.not_mem_nil,or_false] at hu;subst hu;rfl) HLI.out (Nat.le_trans HS2.out.2.2.2.2.2.1 qVi.size) fun v4 Via o4 g4=>?_)
        change QK _ _ Exit.normal (Act.put _ (some 67) v4) Via
        have sVia:=(grw_types LVi.i g4 D _ _ (by decide) sVi).trans sVi
        have LVia:=LVi.pushI g4 o4
        have qVia:=qVi.trans (g4.below (fun k hk=>(World.ownsRow.lt LVi.i k hk).1) (Nat.le_trans HS2.out.2.2.2.2.2.1 qVi.size))
        have oVia:=oVi.keep fun k cur hc=>grw_types LVi.i g4 k cur _ (by decide) hc
        clear g4
        refine (And.intro sVia ?_:_ /\ _)
        (try simp only [pA,pE,pB,pC,pD])
        refine tzQ 73 10 ?_ ?_ (fun _=>sVia) ?_
        rotate_left
        ·intro w' hSw;go_simp;try with_reducible rfl
        try simp only [pA,pE,pB,pC,pD]
        refine rzP [8] ?_
        refine consP _ rfl ?_ AllReadyP.nil
        ·refine hopBJ 71 (slN n bu) 22 rfl rfl rfl (by kernel_rfl) fun J Viaj hJViaj hb=>?_
         have sViaj:=kept hb sVia
         have LViaj:=LVia.later hb
         have qViaj:=qVia.trans (hb.mono (Nat.le_trans HS2.out.2.2.2.2.2.1 qVia.size))
         have oViaj:=oVia.later hb
         clear hb
         refine ⟨sViaj,?_⟩
         (try simp only [pA,pE,pB,pC,pD])
         refine rzP [9] ?_
         refine consP _ rfl ?_ AllReadyP.nil
         ·refine hopL rfl (append_grM Tryz.underlying24 Tryz.infoFsJ rfl (by decide) Viaj (by rfl) _ _ (by rfl) b2 vg _ (by kernel_rfl) LViaj.g ⟨J,0,none⟩ 1 1 [slN n bu] (by kernel_rfl) rfl (by decide) (news_oneJ hJViaj) (by intro u hu;simp only [List.mem_cons,List.not_mem_nil,or_false] at hu;subst hu;rfl) HLG.out (Nat.le_trans HS2.out.2.2.2.2.2.1 qViaj.size) fun v6 w6 o6 g6=>?_)
          change QK _ _ Exit.normal (Act.put _ (some 72) v6) w6
          have s6:=(grw_types LViaj.g g6 D _ _ (by decide) sViaj).trans sViaj
          have L6:=LViaj.pushG g6 o6 oViaj HNEW.out
          have q6:=qViaj.trans (g6.below (fun k hk=>(World.ownsRow.lt LViaj.g k hk).1) (Nat.le_trans HS2.out.2.2.2.2.2.1 qViaj.size))
          have qq6:Below w.heap.size w w6:=HBW.out.trans (q6.mono HS2.out.2.2.2.2.2.2.1)
          clear g6
          refine (And.intro s6 ?_:_ /\ _)
          (try simp only [pA,pE,pB,pC,pD])
          refine rzP [11] ?_
          refine consPs _ rfl (by kernel_rfl) (hopL rfl (wpList_store_at (by rfl) 23 _ _ (by rfl) w w.heap.size D 2 v4 _ #[.int .i64 (n:Int),slN n bc,v4,vg,.slice none 0 0,.bool false] 26 (by kernel_rfl) (by kernel_rfl) s6 qq6 HS2.out.2.2.2.2.2.2.2 1 Tryz.szIs (by rw [(own_valJ L6.i).2];rfl) (Nat.le_of_ble_eq_true rfl) (by intro u hu;rw [(own_valJ L6.i).2] at hu;simp only [List.mem_cons,List.not_mem_nil,or_false] at hu;subst hu;exact (own_valJ L6.i).1) (by rw [(own_valJ L6.i).2];rfl) fun w7 e7 b7 s7 k7=>?_)) AllReadyP.nil
          refine (And.intro trivial ?_:_ /\ _)
          (try simp only [pA,pE,pB,pC,pD])
          refine tzQ 74 12 ?_ ?_ (fun e=>by cases e) ?_
          rotate_left
          ·intro w' hSw;go_simp;try with_reducible rfl
          try simp only [pA,pE,pB,pC,pD]
          refine rzP [13] ?_
          refine consPs _ rfl (by kernel_rfl) (hopL rfl (wpList_store_at (by rfl) 24 _ _ (by rfl) w w.heap.size D 3 v6 _ #[.int .i64 (n:Int),slN n bc,v4,v6,.slice none 0 0,.bool false] 26 (by kernel_rfl) (by kernel_rfl) e7 b7 HS2.out.2.2.2.2.2.2.2 1 Tryz.szFss (by rw [(own_valJ L6.g).2];rfl) (Nat.le_of_ble_eq_true rfl) (by intro u hu;rw [(own_valJ L6.g).2] at hu;simp only [List.mem_cons,List.not_mem_nil,or_false] at hu;subst hu;exact (own_valJ L6.g).1) (by rw [(own_valJ L6.g).2];rfl) fun w8 e8 b8 s8 k8=>?_)) AllReadyP.nil
          refine (And.intro trivial ?_:_ /\ _)
          (try simp only [pA,pE,pB,pC,pD])
          refine wpAnyP_done (by kernel_rfl) ?_ _
          refine NoPanic.normal ?_
          (try simp only [pA,pE,pB,pC,pD])
          have kk:∀ k,k ≠ D -> w8.heap[k]? = w6.heap[k]?:=fun k hk=>(k8 k hk).trans (k7 k hk)
          have L8:=L6.keep (w':=w8) fun k cur t ht hc=>kk k (by rintro rfl;rw [s6] at hc;cases hc;exact ht rfl)
          have z8:b2 <= w8.heap.size:=Nat.le_trans HS2.out.2.2.2.2.2.1 (Nat.le_trans q6.size (Nat.le_of_eq (s8.trans s7).symm))
          have k9:∀ k,k < b2 -> k ≠ D -> w8.heap[k]? = w5.heap[k]?:=fun k h1 h2=>(kk k h2).trans (q6.block k h1)
          have HS9:Hid (SfB w n b1 b2 D B nb bc cu (mg a.ids b.ids) (a.dn + b.dn) DM (.slice (some ⟨gL,0,none⟩) (mg a.ids b.ids).length lc) w8 ((kpP (mg a.ids b.ids) UL).map (·.1) ++ [id]) ((kpP (mg a.ids b.ids) UL).map (·.2) ++ [us]) v4 v6 (gl ++ [bu])):=HS5.out.keepD HPP.out e8 k9 b8 z8 L8
          have HA9:Hid (AcL w8 gB n p (osK n (addJ cv (addJ b.rs (accB a.rs) n) n) (VL ++ [vs]))):=HA4.out.only (k9 _ (by have:=HS2.out;omega) (by have:=HS2.out;have:=HPP.out.hD;omega)) fun j hj=>k9 _ (by have:=HS2.out;have:=HPP.out.hp j hj;omega) (by have:=HS2.out;have:=HPP.out.hD;have:=HPP.out.hp j hj;omega)
          clear L8 z8 k9 kk b8 e8 s8 k8 L6 s6 q6 qq6 b7 e7 s7 k7
          go_wp2_with fail
          go_roundg q
          case measure=>omega
          case rel=>
           refine ⟨k + 1,HW1.out,by have:=HIG.out;omega,UL ++ [us],VL ++ [vs],v4,v6,gl ++ [bu],?_,HA9,HU4⟩
           unfold Hid
           rw [HKP.out,List.map_append,List.map_append]
           exact HS9.out
       ·refine hopBJ 71 (slN n bu) 22 rfl rfl rfl (by kernel_rfl) fun J Vij hJVij hb=>?_
        have sVij:=kept hb sVi
        have LVij:=LVi.later hb
        have qVij:=qVi.trans (hb.mono (Nat.le_trans HS2.out.2.2.2.2.2.1 qVi.size))
        have oVij:=oVi.later hb
        have hIVij:=kept hb hIVi
        clear hb
        refine ⟨sVij,?_⟩
        (try simp only [pA,pE,pB,pC,pD])
        refine rzP [4] ?_
        refine consP _ rfl ?_ AllReadyP.nil
        ·refine hopL rfl (append_grM Tryz.underlying23 Tryz.infoIJ rfl (by decide) Vij (by rfl) _ _ (by rfl) b2 vi _ (by kernel_rfl) LVij.i ⟨I,0,none⟩ 1 1 [.int .i64 id] (by kernel_rfl) rfl (by decide) (news_oneJ hIVij) (by intro u hu;simp only [List.mem_cons,List.not_mem_nil,or_false] at hu;subst hu;rfl) HLI.out (Nat.le_trans HS2.out.2.2.2.2.2.1 qVij.size) fun v4 Vija o4 g4=>?_)
         change QK _ _ Exit.normal (Act.put _ (some 67) v4) Vija
         have sVija:=(grw_types LVij.i g4 D _ _ (by decide) sVij).trans sVij
         have LVija:=LVij.pushI g4 o4
         have qVija:=qVij.trans (g4.below (fun k hk=>(World.ownsRow.lt LVij.i k hk).1) (Nat.le_trans HS2.out.2.2.2.2.2.1 qVij.size))
         have oVija:=oVij.keep fun k cur hc=>grw_types LVij.i g4 k cur _ (by decide) hc
         have hJVija:=(grw_types LVij.i g4 J _ _ (by decide) hJVij).trans hJVij
         clear g4
         refine (And.intro sVija ?_:_ /\ _)
         (try simp only [pA,pE,pB,pC,pD])
         refine tzQ 73 10 ?_ ?_ (fun _=>sVija) ?_
         rotate_left
         ·intro w' hSw;go_simp;try with_reducible rfl
         try simp only [pA,pE,pB,pC,pD]
         refine rzP [9] ?_
         refine consP _ rfl ?_ AllReadyP.nil
         ·refine hopL rfl (append_grM Tryz.underlying24 Tryz.infoFsJ rfl (by decide) Vija (by rfl) _ _ (by rfl) b2 vg _ (by kernel_rfl) LVija.g ⟨J,0,none⟩ 1 1 [slN n bu] (by kernel_rfl) rfl (by decide) (news_oneJ hJVija) (by intro u hu;simp only [List.mem_cons,List.not_mem_nil,or_false] at hu;subst hu;rfl) HLG.out (Nat.le_trans HS2.out.2.2.2.2.2.1 qVija.size) fun v6 w6 o6 g6=>?_)
          change QK _ _ Exit.normal (Act.put _ (some 72) v6) w6
          have s6:=(grw_types LVija.g g6 D _ _ (by decide) sVija).trans sVija
          have L6:=LVija.pushG g6 o6 oVija HNEW.out
          have q6:=qVija.trans (g6.below (fun k hk=>(World.ownsRow.lt LVija.g k hk).1) (Nat.le_trans HS2.out.2.2.2.2.2.1 qVija.size))
          have qq6:Below w.heap.size w w6:=HBW.out.trans (q6.mono HS2.out.2.2.2.2.2.2.1)
          clear g6
          refine (And.intro s6 ?_:_ /\ _)
          (try simp only [pA,pE,pB,pC,pD])
          refine rzP [11] ?_
          refine consPs _ rfl (by kernel_rfl) (hopL rfl (wpList_store_at (by rfl) 23 _ _ (by rfl) w w.heap.size D 2 v4 _ #[.int .i64 (n:Int),slN n bc,v4,vg,.slice none 0 0,.bool false] 26 (by kernel_rfl) (by kernel_rfl) s6 qq6 HS2.out.2.2.2.2.2.2.2 1 Tryz.szIs (by rw [(own_valJ L6.i).2];rfl) (Nat.le_of_ble_eq_true rfl) (by intro u hu;rw [(own_valJ L6.i).2] at hu;simp only [List.mem_cons,List.not_mem_nil,or_false] at hu;subst hu;exact (own_valJ L6.i).1) (by rw [(own_valJ L6.i).2];rfl) fun w7 e7 b7 s7 k7=>?_)) AllReadyP.nil
          refine (And.intro trivial ?_:_ /\ _)
          (try simp only [pA,pE,pB,pC,pD])
          refine tzQ 74 12 ?_ ?_ (fun e=>by cases e) ?_
          rotate_left
          ·intro w' hSw;go_simp;try with_reducible rfl
          try simp only [pA,pE,pB,pC,pD]
          refine rzP [13] ?_
          refine consPs _ rfl (by kernel_rfl) (hopL rfl (wpList_store_at (by rfl) 24 _ _ (by rfl) w w.heap.size D 3 v6 _ #[.int .i64 (n:Int),slN n bc,v4,v6,.slice none 0 0,.bool false] 26 (by kernel_rfl) (by kernel_rfl) e7 b7 HS2.out.2.2.2.2.2.2.2 1 Tryz.szFss (by rw [(own_valJ L6.g).2];rfl) (Nat.le_of_ble_eq_true rfl) (by intro u hu;rw [(own_valJ L6.g).2] at hu;simp only [List.mem_cons,List.not_mem_nil,or_false] at hu;subst hu;exact (own_valJ L6.g).1) (by rw [(own_valJ L6.g).2];rfl) fun w8 e8 b8 s8 k8=>?_)) AllReadyP.nil
          refine (And.intro trivial ?_:_ /\ _)
          (try simp only [pA,pE,pB,pC,pD])
          refine wpAnyP_done (by kernel_rfl) ?_ _
          refine NoPanic.normal ?_
          (try simp only [pA,pE,pB,pC,pD])
          have kk:∀ k,k ≠ D -> w8.heap[k]? = w6.heap[k]?:=fun k hk=>(k8 k hk).trans (k7 k hk)
          have L8:=L6.keep (w':=w8) fun k cur t ht hc=>kk k (by rintro rfl;rw [s6] at hc;cases hc;exact ht rfl)
          have z8:b2 <= w8.heap.size:=Nat.le_trans HS2.out.2.2.2.2.2.1 (Nat.le_trans q6.size (Nat.le_of_eq (s8.trans s7).symm))
          have k9:∀ k,k < b2 -> k ≠ D -> w8.heap[k]? = w5.heap[k]?:=fun k h1 h2=>(kk k h2).trans (q6.block k h1)
          have HS9:Hid (SfB w n b1 b2 D B nb bc cu (mg a.ids b.ids) (a.dn + b.dn) DM (.slice (some ⟨gL,0,none⟩) (mg a.ids b.ids).length lc) w8 ((kpP (mg a.ids b.ids) UL).map (·.1) ++ [id]) ((kpP (mg a.ids b.ids) UL).map (·.2) ++ [us]) v4 v6 (gl ++ [bu])):=HS5.out.keepD HPP.out e8 k9 b8 z8 L8
          have HA9:Hid (AcL w8 gB n p (osK n (addJ cv (addJ b.rs (accB a.rs) n) n) (VL ++ [vs]))):=HA4.out.only (k9 _ (by have:=HS2.out;omega) (by have:=HS2.out;have:=HPP.out.hD;omega)) fun j hj=>k9 _ (by have:=HS2.out;have:=HPP.out.hp j hj;omega) (by have:=HS2.out;have:=HPP.out.hD;have:=HPP.out.hp j hj;omega)
          clear L8 z8 k9 kk b8 e8 s8 k8 L6 s6 q6 qq6 b7 e7 s7 k7
          go_wp2_with fail
          go_roundg q
          case measure=>omega
          case rel=>
           refine ⟨k + 1,HW1.out,by have:=HIG.out;omega,UL ++ [us],VL ++ [vs],v4,v6,gl ++ [bu],?_,HA9,HU4⟩
           unfold Hid
           rw [HKP.out,List.map_append,List.map_append]
           exact HS9.out
      ·refine hopBJ 71 (slN n bu) 22 rfl rfl rfl (by kernel_rfl) fun J Vj hJVj hb=>?_
       have sVj:=kept hb sV
       have LVj:=LV.later hb
       have qVj:=qV.trans (hb.mono (Nat.le_trans HS2.out.2.2.2.2.2.1 qV.size))
       have oVj:=oV.later hb
       clear hb
       refine ⟨sVj,?_⟩
       (try simp only [pA,pE,pB,pC,pD])
       refine rzP [3] ?_
       refine consP _ rfl ?_ AllReadyP.nil
       ·refine hopBJ 66 (.int .i64 id) 3 rfl rfl rfl (by kernel_rfl) fun I Vji hIVji hb=>?_
        have sVji:=kept hb sVj
        have LVji:=LVj.later hb
        have qVji:=qVj.trans (hb.mono (Nat.le_trans HS2.out.2.2.2.2.2.1 qVj.size))
        have oVji:=oVj.later hb
        have hJVji:=kept hb hJVj
        clear hb
        refine ⟨sVji,?_⟩
        (try simp only [pA,pE,pB,pC,pD])
        refine rzP [4] ?_
        refine consP _ rfl ?_ AllReadyP.nil
        ·refine hopL rfl (append_grM Tryz.underlying23 Tryz.infoIJ rfl (by decide) Vji (by rfl) _ _ (by rfl) b2 vi _ (by kernel_rfl) LVji.i ⟨I,0,none⟩ 1 1 [.int .i64 id] (by kernel_rfl) rfl (by decide) (news_oneJ hIVji) (by intro u hu;simp only [List.mem_cons,List.not_mem_nil,or_false] at hu;subst hu;rfl) HLI.out (Nat.le_trans HS2.out.2.2.2.2.2.1 qVji.size) fun v4 Vjia o4 g4=>?_)
         change QK _ _ Exit.normal (Act.put _ (some 67) v4) Vjia
         have sVjia:=(grw_types LVji.i g4 D _ _ (by decide) sVji).trans sVji
         have LVjia:=LVji.pushI g4 o4
         have qVjia:=qVji.trans (g4.below (fun k hk=>(World.ownsRow.lt LVji.i k hk).1) (Nat.le_trans HS2.out.2.2.2.2.2.1 qVji.size))
         have oVjia:=oVji.keep fun k cur hc=>grw_types LVji.i g4 k cur _ (by decide) hc
         have hJVjia:=(grw_types LVji.i g4 J _ _ (by decide) hJVji).trans hJVji
         clear g4
         refine (And.intro sVjia ?_:_ /\ _)
         (try simp only [pA,pE,pB,pC,pD])
         refine tzQ 73 10 ?_ ?_ (fun _=>sVjia) ?_
         rotate_left
         ·intro w' hSw;go_simp;try with_reducible rfl
         try simp only [pA,pE,pB,pC,pD]
         refine rzP [9] ?_
         refine consP _ rfl ?_ AllReadyP.nil
         ·refine hopL rfl (append_grM Tryz.underlying24 Tryz.infoFsJ rfl (by decide) Vjia (by rfl) _ _ (by rfl) b2 vg _ (by kernel_rfl) LVjia.g ⟨J,0,none⟩ 1 1 [slN n bu] (by kernel_rfl) rfl (by decide) (news_oneJ hJVjia) (by intro u hu;simp only [List.mem_cons,List.not_mem_nil,or_false] at hu;subst hu;rfl) HLG.out (Nat.le_trans HS2.out.2.2.2.2.2.1 qVjia.size) fun v6 w6 o6 g6=>?_)
          change QK _ _ Exit.normal (Act.put _ (some 72) v6) w6
          have s6:=(grw_types LVjia.g g6 D _ _ (by decide) sVjia).trans sVjia
          have L6:=LVjia.pushG g6 o6 oVjia HNEW.out
          have q6:=qVjia.trans (g6.below (fun k hk=>(World.ownsRow.lt LVjia.g k hk).1) (Nat.le_trans HS2.out.2.2.2.2.2.1 qVjia.size))
          have qq6:Below w.heap.size w w6:=HBW.out.trans (q6.mono HS2.out.2.2.2.2.2.2.1)
          clear g6
          refine (And.intro s6 ?_:_ /\ _)
          (try simp only [pA,pE,pB,pC,pD])
          refine rzP [11] ?_
          refine consPs _ rfl (by kernel_rfl) (hopL rfl (wpList_store_at (by rfl) 23 _ _ (by rfl) w w.heap.size D 2 v4 _ #[.int .i64 (n:Int),slN n bc,v4,vg,.slice none 0 0,.bool false] 26 (by kernel_rfl) (by kernel_rfl) s6 qq6 HS2.out.2.2.2.2.2.2.2 1 Tryz.szIs (by rw [(own_valJ L6.i).2];rfl) (Nat.le_of_ble_eq_true rfl) (by intro u hu;rw [(own_valJ L6.i).2] at hu;simp only [List.mem_cons,List.not_mem_nil,or_false] at hu;subst hu;exact (own_valJ L6.i).1) (by rw [(own_valJ L6.i).2];rfl) fun w7 e7 b7 s7 k7=>?_)) AllReadyP.nil
          refine (And.intro trivial ?_:_ /\ _)
          (try simp only [pA,pE,pB,pC,pD])
          refine tzQ 74 12 ?_ ?_ (fun e=>by cases e) ?_
          rotate_left
          ·intro w' hSw;go_simp;try with_reducible rfl
          try simp only [pA,pE,pB,pC,pD]
          refine rzP [13] ?_
          refine consPs _ rfl (by kernel_rfl) (hopL rfl (wpList_store_at (by rfl) 24 _ _ (by rfl) w w.heap.size D 3 v6 _ #[.int .i64 (n:Int),slN n bc,v4,v6,.slice none 0 0,.bool false] 26 (by kernel_rfl) (by kernel_rfl) e7 b7 HS2.out.2.2.2.2.2.2.2 1 Tryz.szFss (by rw [(own_valJ L6.g).2];rfl) (Nat.le_of_ble_eq_true rfl) (by intro u hu;rw [(own_valJ L6.g).2] at hu;simp only [List.mem_cons,List.not_mem_nil,or_false] at hu;subst hu;exact (own_valJ L6.g).1) (by rw [(own_valJ L6.g).2];rfl) fun w8 e8 b8 s8 k8=>?_)) AllReadyP.nil
          refine (And.intro trivial ?_:_ /\ _)
          (try simp only [pA,pE,pB,pC,pD])
          refine wpAnyP_done (by kernel_rfl) ?_ _
          refine NoPanic.normal ?_
          (try simp only [pA,pE,pB,pC,pD])
          have kk:∀ k,k ≠ D -> w8.heap[k]? = w6.heap[k]?:=fun k hk=>(k8 k hk).trans (k7 k hk)
          have L8:=L6.keep (w':=w8) fun k cur t ht hc=>kk k (by rintro rfl;rw [s6] at hc;cases hc;exact ht rfl)
          have z8:b2 <= w8.heap.size:=Nat.le_trans HS2.out.2.2.2.2.2.1 (Nat.le_trans q6.size (Nat.le_of_eq (s8.trans s7).symm))
          have k9:∀ k,k < b2 -> k ≠ D -> w8.heap[k]? = w5.heap[k]?:=fun k h1 h2=>(kk k h2).trans (q6.block k h1)
          have HS9:Hid (SfB w n b1 b2 D B nb bc cu (mg a.ids b.ids) (a.dn + b.dn) DM (.slice (some ⟨gL,0,none⟩) (mg a.ids b.ids).length lc) w8 ((kpP (mg a.ids b.ids) UL).map (·.1) ++ [id]) ((kpP (mg a.ids b.ids) UL).map (·.2) ++ [us]) v4 v6 (gl ++ [bu])):=HS5.out.keepD HPP.out e8 k9 b8 z8 L8
          have HA9:Hid (AcL w8 gB n p (osK n (addJ cv (addJ b.rs (accB a.rs) n) n) (VL ++ [vs]))):=HA4.out.only (k9 _ (by have:=HS2.out;omega) (by have:=HS2.out;have:=HPP.out.hD;omega)) fun j hj=>k9 _ (by have:=HS2.out;have:=HPP.out.hp j hj;omega) (by have:=HS2.out;have:=HPP.out.hD;have:=HPP.out.hp j hj;omega)
          clear L8 z8 k9 kk b8 e8 s8 k8 L6 s6 q6 qq6 b7 e7 s7 k7
          go_wp2_with fail
          go_roundg q
          case measure=>omega
          case rel=>
           refine ⟨k + 1,HW1.out,by have:=HIG.out;omega,UL ++ [us],VL ++ [vs],v4,v6,gl ++ [bu],?_,HA9,HU4⟩
           unfold Hid
           rw [HKP.out,List.map_append,List.map_append]
           exact HS9.out
   ·have hd1:decide ((k:Int) < ((mg a.ids b.ids).length:Int)) = false:=decide_eq_false (by omega)
    have hd2:decide (k < (mg a.ids b.ids).length) = false:=decide_eq_false (by omega)
    have hkE:k = (mg a.ids b.ids).length:=by omega
    subst hkE
    have HRU:Hid _:=roundedUp2_any gB n p (osK n (addJ cv (addJ b.rs (accB a.rs) n) n) VL) wr HO.out (by have:=HS.out.sz;have:=HS2.out;omega) (by omega)
    go_wp2_with (first
     | (go_at_call 20;refine Calls.mono HRU.out ?_;rintro e w4 ⟨o5,l5,q5,ok5,rfl,h5⟩;have HS5:Hid (SfB w n b1 b2 D B nb bc cu (mg a.ids b.ids) (a.dn + b.dn) DM (.slice lo (mg a.ids b.ids).length lc) w4 ((kpP (mg a.ids b.ids) UL).map (·.1)) ((kpP (mg a.ids b.ids) UL).map (·.2)) vi vg gl):=HS.out.later HPP.out h5.out.2.2)
     | (refine wpList_store_at (by rfl) 22 _ _ (by rfl) w w.heap.size D 4 (.slice o5 l5 q5) _ #[.int .i64 (n:Int),slN n bc,vi,vg,.slice o5 l5 q5,.bool false] 26 (by rfl) (by rfl) HS5.out.z HS5.out.bl (by have:=HS2.out;omega) 1 Tryz.szFs rfl (Nat.le_of_ble_eq_true rfl) (by intro u hu;simp [Value.cells] at hu;subst hu;rfl) rfl ?_;intro W6 e6 b6 s6 k6)
     | (refine wpList_load_row (by rfl) 26 _ (by rfl) D _ (by rfl) e6 _ Tryz.underlying26 rfl 6 Tryz.infoZq (by rfl) ?_)
     | (refine wpList_store_row (by rfl) 26 _ _ (by rfl) w w.heap.size (w.heap.size + 2) _ _ (by rfl) (by rfl) ((k6 _ (by have:=HS2.out;omega)).trans HS5.out.r) b6 (by omega) 6 Tryz.infoZq (by rfl) (by rfl) (oneZ _ _ _ _ _ rfl (own_valJ HS5.out.i).1 (own_valJ HS5.out.g).1 rfl _) ?_;intro W9 e9 b9 s9 k9))
    refine bodyPost_ret (res_ctJ _ 4 5 26 (by kernel_rfl) _ _ (w.heap.size + 2) #[.int .i64 (n:Int),slN n bc,vi,vg,.slice o5 l5 q5,.bool false] _ (by rfl) (by rfl) _ Tryz.underlying26 rfl 6 Tryz.infoZq rfl e9) rfl ?_
    refine ⟨⟨_,ok5,rfl,⟨rfl,oneZ _ _ _ _ _ rfl (own_valJ HS5.out.i).1 (own_valJ HS5.out.g).1 rfl _,fun ho=>?_,fun ho=>?_⟩⟩,b9⟩
    ·obtain ⟨br,rs,e1,e2,e3,hb,hr⟩:=h5.out.1 ho
     refine ⟨bc,br,vi,vg,gl,cu,cv,UL,VL,rs,by rw [e1,e2,e3];rfl,?_,HNE.out,HU.out,hr⟩
     have hlo:=hb.lo
     have F4:FrL w4 w.heap.size n bc br cu rs ((kpP (mg a.ids b.ids) UL).map (·.1)) ((kpP (mg a.ids b.ids) UL).map (·.2)) vi vg gl:=by
      have h1:=HS.out.sz
      have h2:=HS2.out
      have h3:=HPP.out
      have hbc:=h3.hbc
      refine ⟨HS5.out.c.mono (by omega),hb.mono (by omega),owns_monoJ HS5.out.i (by omega),owns_monoJ HS5.out.g (by omega),⟨HS5.out.col.len,fun j hj=>(HS5.out.col.row j hj).mono (by omega),HS5.out.col.nodup⟩,by omega,fun hm=>?_,fun hm=>?_⟩
      ·obtain ⟨j,hj,e⟩:=List.mem_iff_getElem.1 hm
       have:=(HS5.out.col.row j hj).lo
       rw [List.getElem?_eq_getElem hj,e] at this
       simp only [Option.getD_some] at this
       omega
      ·have:=HS.out.col.mem_lt hm
       omega
     refine (F4.keep (w':=W6) fun k cur t ht hc=>k6 k (by rintro rfl;rw [HS5.out.z] at hc;cases hc;exact ht rfl)).keep fun k cur t ht hc=>k9 k ?_
     rintro rfl
     rw [(k6 _ (by have:=HS2.out;omega)).trans HS5.out.r] at hc
     cases hc
     exact ht rfl
    ·obtain ⟨j,u,hj,hu⟩:=h5.out.2.1 ho
     exact .inr (.inr ⟨cu,cv,UL,VL,j,u,HNE.out,HU.out,hj,hu⟩)
end Go.Proofs.YtmdjoaipkbnelaaGreat
