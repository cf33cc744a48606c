import Derived.Maps.OwnIn
import Derived.Shelf.AbstractIn
import Derived.Test.YtmdjoaipkbnelaaGreatPPa
set_option maxRecDepth 100000
set_option maxHeartbeats 8000000
set_option linter.unusedVariables false
set_option linter.unusedSimpArgs false
namespace Go.Proofs.YtmdjoaipkbnelaaGreat
open Go.RowKit Go.Shelf
attribute [local go_sem] Oper.semAt_some
theorem Tryz.keyI:Maps.Keyed Tryz.prog 3:=Maps.int_keyed Tryz.underlying3
theorem Tryz.infoZq:(Tryz.prog.info? 26).map (·.size) = some 6:=by kernel_rfl
theorem Tryz.mapMk (k:Int) (w:World):(Instr.makeMap 85 (some (.int .i64 k))).run Tryz.prog w = .ok (.map (some w.heap.size)) (w.alloc (.map #[] 0)):=by kernel_rfl
def nzV (B n:Nat):Value:=.slice (some ⟨B,0,none⟩) n n
theorem colS_form (z:ZD) (nb n:Nat) (p:List Nat) (id:Int):∃ o l c,colS z (nzV nb n) p id = .slice o l c:=by
 unfold colS nzV
 split <;> exact ⟨_,_,_,rfl⟩
theorem fin_range (n:Nat):(List.finRange n).map (·.val) = List.range n:=by
 apply List.ext_getElem
 ·simp
 ·intro i h1 h2
  simp
theorem Tryz.zeroPr (w:World):(zeroValue 84).run Tryz.prog w = .ok (.agg #[.slice none 0 0,.slice none 0 0]) w:=by kernel_rfl
theorem lookP {F:Fence} {nF:Nat} (w:World) {ops:Array Oper} {rest:List Oper} {o:Oper} {ac:Act} {Q:Exit -> Act -> World -> Prop} (hg:o.guard = none) (m x:Operand) (hop:o.op = Op.lookup 85 m x true) (B L:Nat) (D:DataW Value)
  (hm:ac.eval m = .map (some B)) (hown:w.ownsMap Tryz.prog 3 elR B L D) (key:Value) (kl:Lit) (hx:ac.eval x = key) (hkey:keyOf Tryz.prog 3 key = some kl) (u v:Value) (hh:Bool) (hb:Maps.has D kl = hh) (hv:∀ y ps,elR y = some (D.atKey kl (.held (.agg #[.slice none 0 0,.slice none 0 0])),ps) -> y = .agg #[u,v])
  (hK:wpListIn F nF Tryz.prog ops Q rest (ac.put o.dst (.tuple #[.agg #[u,v],.bool hh])) w):wpListIn F nF Tryz.prog ops Q (o :: rest) ac w:=
 wpListIn_lookup_own_ok w hg m x 85 hop 3 84 Tryz.keyI Tryz.underlying85 elR (Tryz.zeroPr w) (.held (.agg #[.slice none 0 0,.slice none 0 0])) [] rfl B L D hm hown key kl hx hkey fun y ps hy=>by
  rw [hv y ps hy,hb]
  exact hK
structure MrI (w:World) (nb n X:Nat) (a b c:ZD) (pa pb:List Nat) (W:World):Prop where
 nz:W.heap[nb]? = some (.cells (flN n) 45)
 nx:W.heap[nb + 1]? = some (.cells #[.slice (some ⟨nb,0,none⟩) n n] 22)
 mx:W.heap[nb + 1 + 1 + 1]? = some (.cells #[.map (some (nb + 1 + 1))] 85)
 it:W.heap[X]? = some (.cells (zRow c) 26)
 bx:W.heap[w.heap.size + 1]? = some (.cells (zRow b) 26)
 mp:∃ D,W.ownsMap Tryz.prog 3 elR (nb + 1 + 1) (pa.length + pb.length) D /\ PrM a b (nzV nb n) pa pb D
 bl:Below w.heap.size w W
theorem MrI.grown {w W W':World} {nb n X:Nat} {a b c:ZD} {pa pb:List Nat} {row:Option Nat} (h:MrI w nb n X a b c pa pb W) (hx:nb + 1 + 1 + 1 < X) (hw:w.heap.size + 1 < nb) (hg:W.grownBy W' row) (hr:∀ r,row = some r -> X < r):MrI w nb n X a b c pa pb W':=by
 have kp:∀ k o,k <= X -> W.heap[k]? = some o -> W'.heap[k]? = some o:=fun k o hk ho=>(hg.block k (blk_lt ho) (fun e=>by have:=hr k e.symm;omega)).trans ho
 obtain ⟨D,h1,h2⟩:=h.mp
 exact ⟨kp _ _ (by omega) h.nz,kp _ _ (by omega) h.nx,kp _ _ (by omega) h.mx,kp _ _ (Nat.le_refl _) h.it,kp _ _ (by omega) h.bx,⟨D,h1.kept hg (fun e=>by have:=hr _ e.symm;omega),h2⟩,h.bl.trans ((Below.refl _ W).grown hg h.bl.size (fun k e=>by have:=hr k e;omega))⟩
theorem MrI.own {w:World} {nb n X:Nat} {a b c:ZD} {β:Type} {f g:β -> List Nat} (hx:nb + 1 + 1 + 1 < X) (hw:w.heap.size + 1 < nb):OwnFrom (X + 1) (fun (s:β) W=>MrI w nb n X a b c (f s) (g s) W):=fun s W W' row hs hg hr=>hs.grown hx hw hg fun r e=>(hr r e).1
theorem MrI.put {w W W':World} {nb n X:Nat} {a b c:ZD} {pa pb pa' pb':List Nat} {D:DataW Value} (h:MrI w nb n X a b c pa pb W) (hx:nb + 1 + 1 + 1 < X) (hw:w.heap.size + 1 < nb) (hg:W.grownBy W' (some (nb + 1 + 1))) (ho:W'.ownsMap Tryz.prog 3 elR (nb + 1 + 1) (pa'.length + pb'.length) D) (hp:PrM a b (nzV nb n) pa' pb' D):MrI w nb n X a b c pa' pb' W' /\ KeepsFrom (X + 1) W W' /\ KpZ w.heap.size X W W':=by
 have kp:∀ k o,k ≠ nb + 1 + 1 -> W.heap[k]? = some o -> W'.heap[k]? = some o:=fun k o hk ho=>(hg.block k (blk_lt ho) (fun e=>by injection e with e;omega)).trans ho
 have hb:Below w.heap.size W W':=(Below.refl _ W).grown hg h.bl.size (fun k e=>by injection e with e;omega)
 exact ⟨⟨kp _ _ (by omega) h.nz,kp _ _ (by omega) h.nx,kp _ _ (by omega) h.mx,kp _ _ (by omega) h.it,kp _ _ (by omega) h.bx,⟨D,ho,hp⟩,h.bl.trans hb⟩,KeepsFrom.of_grownBy hg (fun j e=>by injection e with e;omega),⟨hb,(kp _ _ (by omega) h.it).trans h.it.symm⟩⟩
theorem mergedP_any (a b:ZD) (n:Nat) (w:World) (ha:ZR w a) (hb:ZR w b) (hN:a.N = (n:Int)) (hn:n <= 100000) (hra:a.ids.Pairwise (· < ·)) (hrb:b.ids.Pairwise (· < ·)) (hda:a.dn <= a.gn) (hdb:b.dn <= b.gn) (fa:a.dn <= 1050000) (fb:b.dn <= 1050000) (ba:∀ x ∈ a.ids,0 <= x /\ x <= 1073741824) (bb:∀ x ∈ b.ids,0 <= x /\ x <= 1073741824) :
  Calls Tryz.prog 38 #[.agg (zRow a),.agg (zRow b)] w fun e w'=>(∃ (B nb:Nat) (D:DataW Value),e = .returned (.map (some B)) /\ w.heap.size <= B /\ w.heap.size <= nb /\ w'.ownsMap Tryz.prog 3 elR B (a.dn + b.dn) D /\ PrM a b (nzV nb n) (List.range a.ids.length) (List.range b.ids.length) D /\ w'.heap[nb]? = some (.cells (flN n) 45)) /\ Below w.heap.size w w':=by
 have HA:Hid (∀ W',Below w.heap.size w W' -> ZR W' a):=fun W' h=>ha.later h
 have HB:Hid (∀ W',Below w.heap.size w W' -> ZR W' b):=fun W' h=>hb.later h
 have hmk:=makeFJ n (by omega)
 have hmm:=Tryz.mapMk
 have X0:Below w.heap.size w ((w.alloc (.cells (zRow a) 26)).alloc (.cells (zRow b) 26)):=((Below.refl _ w).alloc (Nat.le_refl _) _).alloc (by simp only [alloc_size];omega) _
 have Y0:((w.alloc (.cells (zRow a) 26)).alloc (.cells (zRow b) 26)).heap[w.heap.size]? = some (.cells (zRow a) 26):=alloc_kept (heap_alloc_new w _) _
 have Y1:((w.alloc (.cells (zRow a) 26)).alloc (.cells (zRow b) 26)).heap[w.heap.size + 1]? = some (.cells (zRow b) 26):=heap_at _ _ _ (by simp only [alloc_size])
 refine (callsIn_wide (n:=3)).1 ?_
 refine callsIn_of_wp_marks Tryz.func38 rfl trivial ?_ rfl
 refine wpIn_wide.2 ?_
 simp only [Tryz.ntmps38,List.size_toArray,List.length_cons,List.length_nil,Nat.reduceAdd,Nat.reduceSub,Array.replicate_succ,Array.replicate_zero,List.push_toArray,List.append_toArray,List.nil_append,List.cons_append]
 go_upto_region 1 with fail
 obtain ⟨X,hX⟩:∃ X,((w.alloc (.cells (zRow a) 26)).alloc (.cells (zRow b) 26)) = X:=⟨_,rfl⟩
 rw [hX] at X0 Y0 Y1 ⊢
 clear hX ha hb
 obtain ⟨a0,a1,a2,a3,a4,a5⟩:=cells6 Y0
 obtain ⟨b0,b1,b2,b3,b4,b5⟩:=cells6 Y1
 rw [hN] at a0
 go_upto_region 2 with fail
 clear a0 a1 a2 a3 a4 a5 b0 b1 b2 b3 b4 b5
 have Z0:Below w.heap.size w ((X.alloc (.cells (flN n) 45)).alloc (.cells #[.slice (some ⟨X.heap.size,0,none⟩) n n] 22)):=(X0.alloc X0.size _).alloc (by simp only [alloc_size];have:=X0.size;omega) _
 have Z1:((X.alloc (.cells (flN n) 45)).alloc (.cells #[.slice (some ⟨X.heap.size,0,none⟩) n n] 22)).heap[w.heap.size]? = some (.cells (zRow a) 26):=alloc_kept (alloc_kept Y0 _) _
 have Z2:((X.alloc (.cells (flN n) 45)).alloc (.cells #[.slice (some ⟨X.heap.size,0,none⟩) n n] 22)).heap[w.heap.size + 1]? = some (.cells (zRow b) 26):=alloc_kept (alloc_kept Y1 _) _
 have Z3:((X.alloc (.cells (flN n) 45)).alloc (.cells #[.slice (some ⟨X.heap.size,0,none⟩) n n] 22)).heap[X.heap.size]? = some (.cells (flN n) 45):=alloc_kept (heap_alloc_new X _) _
 have Z4:((X.alloc (.cells (flN n) 45)).alloc (.cells #[.slice (some ⟨X.heap.size,0,none⟩) n n] 22)).heap[X.heap.size + 1]? = some (.cells #[.slice (some ⟨X.heap.size,0,none⟩) n n] 22):=heap_at _ _ _ (by simp only [alloc_size])
 have ZS:((X.alloc (.cells (flN n) 45)).alloc (.cells #[.slice (some ⟨X.heap.size,0,none⟩) n n] 22)).heap.size = X.heap.size + 1 + 1:=by simp only [alloc_size]
 obtain ⟨nb,hnb⟩:∃ m,X.heap.size = m:=⟨_,rfl⟩
 have hnbl:w.heap.size + 2 <= nb:=by have:=blk_lt Y1;omega
 obtain ⟨Y,hY⟩:∃ Y,((X.alloc (.cells (flN n) 45)).alloc (.cells #[.slice (some ⟨X.heap.size,0,none⟩) n n] 22)) = Y:=⟨_,rfl⟩
 rw [hY] at Z0 Z1 Z2 Z3 Z4 ZS
 rw [hnb] at Z3 Z4 ZS
 rw [hY,hnb]
 clear hY hnb X0 Y0 Y1
 obtain ⟨a0,a1,a2,a3,a4,a5⟩:=cells6 Z1
 obtain ⟨b0,b1,b2,b3,b4,b5⟩:=cells6 Z2
 go_upto_region 3 with fail
 clear a0 a1 a2 a3 a4 a5 b0 b1 b2 b3 b4 b5 hmk hmm
 have V0:Below w.heap.size w ((Y.alloc (.map #[] 0)).alloc (.cells #[.map (some (nb + 1 + 1))] 85)):=(Z0.alloc Z0.size _).alloc (by simp only [alloc_size];have:=Z0.size;omega) _
 have VM:((Y.alloc (.map #[] 0)).alloc (.cells #[.map (some (nb + 1 + 1))] 85)).ownsMap Tryz.prog 3 elR (nb + 1 + 1) 0 (.map []):=by
  have h:=World.ownsMap_made Y Tryz.prog 3 elR
  rw [ZS] at h
  exact h.alloc _
 have V1:((Y.alloc (.map #[] 0)).alloc (.cells #[.map (some (nb + 1 + 1))] 85)).heap[w.heap.size]? = some (.cells (zRow a) 26):=alloc_kept (alloc_kept Z1 _) _
 have V2:((Y.alloc (.map #[] 0)).alloc (.cells #[.map (some (nb + 1 + 1))] 85)).heap[w.heap.size + 1]? = some (.cells (zRow b) 26):=alloc_kept (alloc_kept Z2 _) _
 have V3:((Y.alloc (.map #[] 0)).alloc (.cells #[.map (some (nb + 1 + 1))] 85)).heap[nb]? = some (.cells (flN n) 45):=alloc_kept (alloc_kept Z3 _) _
 have V4:((Y.alloc (.map #[] 0)).alloc (.cells #[.map (some (nb + 1 + 1))] 85)).heap[nb + 1]? = some (.cells #[.slice (some ⟨nb,0,none⟩) n n] 22):=alloc_kept (alloc_kept Z4 _) _
 have V5:((Y.alloc (.map #[] 0)).alloc (.cells #[.map (some (nb + 1 + 1))] 85)).heap[nb + 1 + 1 + 1]? = some (.cells #[.map (some (nb + 1 + 1))] 85):=heap_at _ _ _ (by simp only [alloc_size];omega)
 have VS:((Y.alloc (.map #[] 0)).alloc (.cells #[.map (some (nb + 1 + 1))] 85)).heap.size = nb + 1 + 1 + 1 + 1:=by simp only [alloc_size];omega
 obtain ⟨V,hV⟩:∃ V,((Y.alloc (.map #[] 0)).alloc (.cells #[.map (some (nb + 1 + 1))] 85)) = V:=⟨_,rfl⟩
 rw [hV] at V0 V1 V2 V3 V4 V5 VM VS ⊢
 clear hV Z0 Z1 Z2 Z3 Z4 ZS
 go_wp2_with (first
  | (refine wpList_load_row (by rfl) 26 _ (by rfl) w.heap.size _ (by rfl) V1 _ Tryz.underlying26 rfl 6 Tryz.infoZq (by rfl) ?_)
  | (go_at_call 32;refine Calls.mono (columns_any _ rfl _) ?_;rintro e w' ⟨rfl,hw⟩;rw [hw];clear hw))
 have W0:MrI w nb n (nb + 1 + 1 + 1 + 1) a b a [] [] (V.alloc (.cells (zRow a) 26)):=⟨alloc_kept V3 _,alloc_kept V4 _,alloc_kept V5 _,heap_at _ _ _ VS,alloc_kept V2 _,⟨_,VM.alloc _,PrM.nil _ _ _⟩,V0.alloc V0.size _⟩
 have WS:(V.alloc (.cells (zRow a) 26)).heap.size = nb + 1 + 1 + 1 + 1 + 1:=by simp only [alloc_size];omega
 obtain ⟨X6,hX6⟩:∃ X,(V.alloc (.cells (zRow a) 26)) = X:=⟨_,rfl⟩
 rw [hX6] at W0 WS ⊢
 clear hX6 V0 V1 V2 V3 V4 V5 VM VS
 have hIA:∀ j,j < a.dn -> ∃ hj:j < a.ids.length,a.ids[j]?.getD 0 = a.ids[j] /\ (Lit.int .i64 a.ids[j]).wf = true:=fun j hj=>by
  have h1:j < a.ids.length:=by rw [(HA.out w (Below.refl _ _)).i.length];exact hj
  refine ⟨h1,by rw [List.getElem?_eq_getElem h1];rfl,WalkArith.wf_i64 ?_⟩
  have:=ba _ (List.getElem_mem h1)
  omega
 have HIA:Hid _:=hIA
 clear hIA ba
 refine (wpIn_wide (n:=3)).1 ?_
 refine wpIn_rangeFunc_ownG rfl (by decide) (gf:=58) (lb:=#[.pointer (some ⟨nb + 1 + 1 + 1 + 1,0,none⟩)]) rfl trivial (enters_of Tryz.func58 (by kernel_rfl) rfl)
  (cols_stops Fence.wide 2 trivial rfl (by decide) (nb + 1 + 1 + 1 + 1) a hda w X6 W0.bl (HA.out w (Below.refl _ _)) W0.it) KpZ.trans (kpZ_b W0.bl.size (by omega)) (Below.refl _ _) (fun _=>rfl)
  (fun pre W=>MrI w nb n (nb + 1 + 1 + 1 + 1) a b a (pre.map (·.val)) [] W)
  (fun _ _ _=>False)
  (by rw [WS];exact MrI.own (by omega) (by omega))
  (fun _ _ _ _ _ hs _ _=>hs)
  W0
  ?a1 ?assign ?body ?done ?stop
 case assign=>
  intro l x W K hK
  dsimp only [encZ]
  gi_wp2
  exact hK
 case body=>
  rintro l pre x W h hlen
  obtain ⟨hj,ej,wf⟩:=HIA.out x.val x.isLt
  obtain ⟨D,hown,hp⟩:=h.mp
  have c1:=cellAtJ h.mx 0 _ rfl
  have c2:=cellAtJ h.nx 0 _ rfl
  have hkey:keyOf Tryz.prog 3 (.int .i64 (a.ids[x.val]?.getD 0)) = some (KL a.ids[x.val]):=by rw [ej];exact Maps.keyOf_int_mk Tryz.underlying3 wf
  have hrm:(pre.map (·.val)).length + ([]:List Nat).length < maxLen:=by
   rw [List.length_map]
   unfold maxLen
   simp only [List.length_nil]
   omega
  have HH:Hid _:=h
  clear h
  gi_wp2_with (gi_at_mapUpdate;refine wpListIn_mapUpdate_own _ rfl _ _ _ 85 rfl 3 84 Tryz.keyI Tryz.underlying85 elR (nb + 1 + 1) _ D rfl hown hrm _ _ (KL a.ids[x.val]) rfl rfl hkey (.held (.agg #[.slice (a.gv x.val).1 (a.gv x.val).2.1 (a.gv x.val).2.2,.slice (some ⟨nb,0,none⟩) n n])) [] rfl ?_;intro w1 hown1 hgrow1)
  have hp1:PrM a b (nzV nb n) ((pre ++ [x]).map (·.val)) [] (D.put (KL a.ids[x.val]) (.held (.agg #[.slice (a.gv x.val).1 (a.gv x.val).2.1 (a.gv x.val).2.2,.slice (some ⟨nb,0,none⟩) n n]))):=by
   rw [List.map_append]
   exact hp.stepA hra hj
  have hl1:((pre ++ [x]).map (·.val)).length + ([]:List Nat).length = (pre.map (·.val)).length + ([]:List Nat).length + 1:=by simp
  have hr:=HH.out.put (pa':=(pre ++ [x]).map (·.val)) (pb':=[]) (by omega) (by omega) hgrow1 (by rw [hl1];exact hown1) hp1
  exact ⟨by rw [WS];exact hr.2.1,hr.2.2,hr.1⟩
 case done=>
  rintro D0 ys W hD rfl h hK
  have hrg:(List.finRange a.dn).map (·.val) = List.range a.ids.length:=by rw [(HA.out w (Below.refl _ _)).i.length];exact fin_range _
  rw [hrg] at h
  have hD0:nb + 1 + 1 + 1 + 1 + 1 <= D0:=by rw [<- WS];exact hD
  clear hrg W0 WS HIA hD
  have hbx:=h.bx
  go_wp2_with (first
   | (refine wpList_load_row (by rfl) 26 _ (by rfl) (w.heap.size + 1) _ (by rfl) hbx _ Tryz.underlying26 rfl 6 Tryz.infoZq (by rfl) ?_)
   | (go_at_call 32;refine Calls.mono (columns_any _ rfl _) ?_;rintro e w' ⟨rfl,hw⟩;rw [hw];clear hw))
  have hDb:D0 < W.heap.size:=blk_lt hK
  have hWx:nb + 1 + 1 + 1 + 1 < W.heap.size:=blk_lt h.it
  have W1:MrI w nb n W.heap.size a b b (List.range a.ids.length) [] (W.alloc (.cells (zRow b) 26)):=by
   obtain ⟨D,h1,h2⟩:=h.mp
   exact ⟨alloc_kept h.nz _,alloc_kept h.nx _,alloc_kept h.mx _,heap_alloc_new W _,alloc_kept h.bx _,⟨D,h1.alloc _,h2⟩,h.bl.alloc h.bl.size _⟩
  have K1:(W.alloc (.cells (zRow b) 26)).heap[D0]? = some (.deferred (some [])):=alloc_kept hK _
  have WS1:(W.alloc (.cells (zRow b) 26)).heap.size = W.heap.size + 1:=by simp only [alloc_size]
  obtain ⟨X,hX⟩:∃ m,W.heap.size = m:=⟨_,rfl⟩
  obtain ⟨X8,hX8⟩:∃ X,(W.alloc (.cells (zRow b) 26)) = X:=⟨_,rfl⟩
  rw [hX8] at W1 K1 WS1 ⊢
  rw [hX] at W1 WS1 hDb hWx
  rw [hX]
  clear hX8 hX h hK hbx
  have HIB:Hid (∀ j,j < b.dn -> ∃ hj:j < b.ids.length,b.ids[j]?.getD 0 = b.ids[j] /\ (Lit.int .i64 b.ids[j]).wf = true):=fun j hj=>by
   have h1:j < b.ids.length:=by rw [(HB.out w (Below.refl _ _)).i.length];exact hj
   refine ⟨h1,by rw [List.getElem?_eq_getElem h1];rfl,WalkArith.wf_i64 ?_⟩
   have:=bb _ (List.getElem_mem h1)
   omega
  clear bb
  have HAL:Hid (a.ids.length = a.dn /\ b.ids.length = b.dn):=⟨(HA.out w (Below.refl _ _)).i.length,(HB.out w (Below.refl _ _)).i.length⟩
  refine (wpIn_wide (n:=3)).1 ?_
  refine wpIn_rangeFunc_ownG rfl (by decide) (gf:=58) (lb:=#[.pointer (some ⟨X,0,none⟩)]) rfl trivial (enters_of Tryz.func58 (by kernel_rfl) rfl)
   (cols_stops Fence.wide 2 trivial rfl (by decide) X b hdb w X8 W1.bl (HB.out w (Below.refl _ _)) W1.it) KpZ.trans (kpZ_b W1.bl.size (by omega)) (Below.refl _ _) (fun _=>rfl)
   (fun pre W=>MrI w nb n X a b b (List.range a.ids.length) (pre.map (·.val)) W /\ W.heap[D0]? = some (.deferred (some [])))
   (fun _ _ _=>False)
   (by rw [WS1];exact OwnFrom.and (MrI.own (f:=fun _=>List.range a.ids.length) (by omega) (by omega)) (fun s U U' row hs hg hr=>(hg.block D0 (blk_lt hs) (fun e=>by have:=(hr _ e.symm).1;omega)).trans hs))
   (fun _ _ _ _ _ hs _ _=>hs)
   ⟨W1,K1⟩
   ?a2 ?assign2 ?body2 ?done2 ?stop2
  case assign2=>
   intro l x W K hK
   dsimp only [encZ]
   gi_wp2
   exact hK
  case body2=>
   rintro l pre x U ⟨h,hK⟩ hlen
   obtain ⟨hj,ej,wf⟩:=HIB.out x.val x.isLt
   obtain ⟨D,hown,hp⟩:=h.mp
   have c1:=cellAtJ h.mx 0 _ rfl
   have c2:=cellAtJ h.nx 0 _ rfl
   have hkey:keyOf Tryz.prog 3 (.int .i64 (b.ids[x.val]?.getD 0)) = some (KL b.ids[x.val]):=by rw [ej];exact Maps.keyOf_int_mk Tryz.underlying3 wf
   have hkey2:keyOf Tryz.prog 3 (.int .i64 b.ids[x.val]) = some (KL b.ids[x.val]):=Maps.keyOf_int_mk Tryz.underlying3 wf
   have hrm:(List.range a.ids.length).length + (pre.map (·.val)).length < maxLen:=by
    rw [List.length_map,List.length_range]
    have:=HAL.out
    unfold maxLen
    omega
   have c3:∀ o,(U.alloc o).cell? ⟨nb + 1 + 1 + 1,0,none⟩ = some (.map (some (nb + 1 + 1))):=fun o=>cellAtJ (alloc_kept h.mx o) 0 _ rfl
   have c4:∀ o,(U.alloc o).cell? ⟨nb + 1,0,none⟩ = some (.slice (some ⟨nb,0,none⟩) n n):=fun o=>cellAtJ (alloc_kept h.nx o) 0 _ rfl
   have HH:Hid _:=h
   have HK:Hid _:=hK
   clear h hK
   obtain ⟨o1,l1,q1,e1⟩:=colS_form a nb n (List.range a.ids.length) b.ids[x.val]
   obtain ⟨o2,l2,q2,e2⟩:=colS_form b nb n (pre.map (·.val)) b.ids[x.val]
   have HE1:Hid (colS a (nzV nb n) (List.range a.ids.length) b.ids[x.val] = .slice o1 l1 q1):=e1
   cases hh:Maps.has D (KL b.ids[x.val]) with
   | true=>
    have hv:∀ y ps,elR y = some (D.atKey (KL b.ids[x.val]) (.held (.agg #[.slice none 0 0,.slice none 0 0])),ps) -> y = .agg #[.slice o1 l1 q1,.slice o2 l2 q2]:=fun y ps hy=>by
     rcases hp.look hy with ⟨_,e⟩ | ⟨e,_⟩
     ·rw [e,e1,e2]
     ·rw [hh] at e;cases e
    clear e1 e2
    gi_wp2_with (first
     | (gi_at_lookup;refine lookP _ rfl _ _ rfl (nb + 1 + 1) _ D rfl hown _ _ rfl hkey _ _ true hh hv ?_)
     | (gi_at_mapUpdate;refine wpListIn_mapUpdate_own _ rfl _ _ _ 85 rfl 3 84 Tryz.keyI Tryz.underlying85 elR (nb + 1 + 1) _ D rfl (hown.alloc _) hrm _ _ (KL b.ids[x.val]) rfl rfl (by first | exact hkey2 | exact hkey) (.held (.agg #[.slice o1 l1 q1,.slice (b.gv x.val).1 (b.gv x.val).2.1 (b.gv x.val).2.2])) [] rfl ?_;intro w1 hown1 hgrow1))
    have hp1:PrM a b (nzV nb n) (List.range a.ids.length) ((pre ++ [x]).map (·.val)) (D.put (KL b.ids[x.val]) (.held (.agg #[.slice o1 l1 q1,.slice (b.gv x.val).1 (b.gv x.val).2.1 (b.gv x.val).2.2]))):=by
     rw [List.map_append,<- HE1.out]
     exact hp.stepB hrb hj
    have hl1:(List.range a.ids.length).length + ((pre ++ [x]).map (·.val)).length = (List.range a.ids.length).length + (pre.map (·.val)).length + 1:=by simp;omega
    have ga:=World.grownBy_alloc U (.cells #[.slice o1 l1 q1,.slice (b.gv x.val).1 (b.gv x.val).2.1 (b.gv x.val).2.2] 84) none
    have hm1:=HH.out.grown (by omega) (by omega) ga (fun r e=>by cases e)
    have hr:=hm1.put (pa':=List.range a.ids.length) (pb':=(pre ++ [x]).map (·.val)) (by omega) (by omega) hgrow1 (by rw [hl1];exact hown1) hp1
    refine ⟨by rw [WS1];exact (KeepsFrom.of_grownBy ga (fun j e=>by cases e)).trans hr.2.1,KpZ.trans ⟨(Below.refl _ U).alloc HH.out.bl.size _,(alloc_kept HH.out.it _).trans HH.out.it.symm⟩ hr.2.2,hr.1,?_⟩
    exact (hgrow1.block D0 (blk_lt (alloc_kept HK.out _)) (fun e=>by injection e with e;omega)).trans (alloc_kept HK.out _)
   | false=>
    have hv:∀ y ps,elR y = some (D.atKey (KL b.ids[x.val]) (.held (.agg #[.slice none 0 0,.slice none 0 0])),ps) -> y = .agg #[.slice none 0 0,.slice none 0 0]:=fun y ps hy=>by
     rcases hp.look hy with ⟨e,_⟩ | ⟨_,e,_⟩
     ·rw [hh] at e;cases e
     ·exact e
    have hnz1:colS a (nzV nb n) (List.range a.ids.length) b.ids[x.val] = .slice (some ⟨nb,0,none⟩) n n:=by
     refine colS_no hp.la fun hx=>?_
     have e:=hp.has b.ids[x.val]
     rw [hh,decide_eq_true hx] at e
     cases e
    have HNZ:Hid _:=hnz1
    clear hnz1
    clear e1 e2
    gi_wp2_with (first
     | (gi_at_lookup;refine lookP _ rfl _ _ rfl (nb + 1 + 1) _ D rfl hown _ _ rfl hkey _ _ false hh hv ?_)
     | (gi_at_mapUpdate;refine wpListIn_mapUpdate_own _ rfl _ _ _ 85 rfl 3 84 Tryz.keyI Tryz.underlying85 elR (nb + 1 + 1) _ D rfl (hown.alloc _) hrm _ _ (KL b.ids[x.val]) rfl rfl (by first | exact hkey2 | exact hkey) (.held (.agg #[.slice (some ⟨nb,0,none⟩) n n,.slice (b.gv x.val).1 (b.gv x.val).2.1 (b.gv x.val).2.2])) [] rfl ?_;intro w1 hown1 hgrow1))
    have hp1:PrM a b (nzV nb n) (List.range a.ids.length) ((pre ++ [x]).map (·.val)) (D.put (KL b.ids[x.val]) (.held (.agg #[.slice (some ⟨nb,0,none⟩) n n,.slice (b.gv x.val).1 (b.gv x.val).2.1 (b.gv x.val).2.2]))):=by
     rw [List.map_append,<- HNZ.out]
     exact hp.stepB hrb hj
    have hl1:(List.range a.ids.length).length + ((pre ++ [x]).map (·.val)).length = (List.range a.ids.length).length + (pre.map (·.val)).length + 1:=by simp;omega
    have ga:=World.grownBy_alloc U (.cells #[.slice (some ⟨nb,0,none⟩) n n,.slice (b.gv x.val).1 (b.gv x.val).2.1 (b.gv x.val).2.2] 84) none
    have hm1:=HH.out.grown (by omega) (by omega) ga (fun r e=>by cases e)
    have hr:=hm1.put (pa':=List.range a.ids.length) (pb':=(pre ++ [x]).map (·.val)) (by omega) (by omega) hgrow1 (by rw [hl1];exact hown1) hp1
    refine ⟨by rw [WS1];exact (KeepsFrom.of_grownBy ga (fun j e=>by cases e)).trans hr.2.1,KpZ.trans ⟨(Below.refl _ U).alloc HH.out.bl.size _,(alloc_kept HH.out.it _).trans HH.out.it.symm⟩ hr.2.2,hr.1,?_⟩
    exact (hgrow1.block D0 (blk_lt (alloc_kept HK.out _)) (fun e=>by injection e with e;omega)).trans (alloc_kept HK.out _)
  case done2=>
   rintro D1 zs U hD1 rfl ⟨h,hK⟩ hK1
   obtain ⟨D,hown,hp⟩:=h.mp
   have cx:=cellAtJ h.mx 0 _ rfl
   rw [fin_range,List.length_range,List.length_range,HAL.out.1] at hown
   rw [fin_range,<- HAL.out.2] at hp
   have HE:Hid (U.ownsMap Tryz.prog 3 elR (nb + 1 + 1) (a.dn + b.dn) D /\ PrM a b (nzV nb n) (List.range a.ids.length) (List.range b.ids.length) D /\ U.heap[nb]? = some (.cells (flN n) 45) /\ Below w.heap.size w U /\ U.heap[D0]? = some (.deferred (some [])) /\ U.heap[D1]? = some (.deferred (some [])) /\ X < D1):=⟨hown,hp,h.nz,h.bl,hK,hK1,by omega⟩
   clear hown hp h hK hK1 W1 K1
   go_wp2_with fail
   have g1:=grownBy_putObj' U D1 (.deferred none)
   have h0:(U.putObj D1 (.deferred none)).heap[D0]? = some (.deferred (some [])):=(g1.block D0 (blk_lt HE.out.2.2.2.2.1) (fun e=>by injection e with e;have:=HE.out.2.2.2.2.2.2;omega)).trans HE.out.2.2.2.2.1
   have g2:=grownBy_putObj' (U.putObj D1 (.deferred none)) D0 (.deferred none)
   have hxd:=HE.out.2.2.2.2.2.2
   have b1:Below w.heap.size w (U.putObj D1 (.deferred none)):=HE.out.2.2.2.1.trans (belowK_b (w:=w) (Nat.le_refl _) U D1 _ _ (by omega) HE.out.2.2.2.2.2.1 rfl rfl)
   refine ⟨by simp,.inl ⟨_,_,rfl,run_takeDeferred HE.out.2.2.2.2.2.1,?_⟩⟩
   refine ⟨by simp,.inl ⟨_,_,rfl,run_takeDeferred h0,?_⟩⟩
   refine ⟨_,results_tmp rfl _ _ _,⟨nb + 1 + 1,nb,D,rfl,by omega,by omega,(HE.out.1.kept g1 (fun e=>by injection e with e;omega)).kept g2 (fun e=>by injection e with e;omega),HE.out.2.1,?_⟩,b1.trans (belowK_b (w:=w) (Nat.le_refl _) _ D0 _ _ (by omega) h0 rfl rfl)⟩
   have k1:=(g1.block nb (blk_lt HE.out.2.2.1) (fun e=>by injection e with e;omega)).trans HE.out.2.2.1
   exact (g2.block nb (blk_lt k1) (fun e=>by injection e with e;omega)).trans k1
  case stop2=>
   rintro D c pre W _ _ h _
   exact h.elim
 case stop=>
  rintro D c pre W _ _ h _
  exact h.elim
end Go.Proofs.YtmdjoaipkbnelaaGreat
