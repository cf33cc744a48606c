import Derived.Test.YtmdjoaipkbnelaaGreatPPg
set_option linter.unusedVariables false
set_option linter.unusedSimpArgs false
namespace Go.Proofs.YtmdjoaipkbnelaaGreat
open Go.RowKit Go.Shelf
structure SfB (w:World) (n b1 b2 D B nb bc:Nat) (cu:List Nat) (L:List Int) (M:Nat) (DM:DataW Value) (vL:Value) (W:World) (ids:List Int) (gs:List (List Nat)) (vi vg:Value) (gl:List Nat):Prop where
 z:W.heap[D]? = some (.cells #[.int .i64 (n:Int),slN n bc,vi,vg,.slice none 0 0,.bool false] 26)
 c:OwB W b1 n bc cu
 i:W.ownsRow b2 3 1 vi (ids.map (Value.int .i64)).length (ids.map (Value.int .i64))
 g:W.ownsRow b2 22 1 vg (gl.map (slN n)).length (gl.map (slN n))
 col:ColL W b2 n gl gs
 m:W.ownsMap Tryz.prog 3 elR B M DM
 l:W.ownsRow b1 3 1 vL L.length (L.map (Value.int .i64))
 nz:W.heap[nb]? = some (.cells (flN n) 45)
 r:W.heap[w.heap.size + 2]? = some (.cells #[.int .i64 0,.slice none 0 0,.slice none 0 0,.slice none 0 0,.slice none 0 0,.bool false] 26)
 bl:Below w.heap.size w W
 sz:b2 <= W.heap.size
structure SfP (w:World) (gB n b1 b2 D B nb bc:Nat) (vL:Value) (p:Nat -> Nat):Prop where
 hg:w.heap.size + 2 < gB
 hgb:gB < b1
 hp:∀ j,j < n -> gB < p j /\ p j < b1
 hD:b1 <= D /\ D < b2
 hB:b1 <= B /\ B < b2
 hnb:b1 <= nb /\ nb < b2
 hbc:b1 <= bc /\ bc < b2
 hl:∀ k,vL.ownBlock = some k -> k < b2
 hne:B ≠ D /\ nb ≠ D /\ bc ≠ D /\ nb ≠ bc /\ ∀ k,vL.ownBlock = some k -> k ≠ D
section
variable {w W W':World} {gB n b1 b2 D B nb bc M:Nat} {cu:List Nat} {L:List Int} {DM:DataW Value} {vL:Value} {ids:List Int} {gs:List (List Nat)} {vi vg:Value} {gl:List Nat} {p:Nat -> Nat}
theorem SfB.keep (h:SfB w n b1 b2 D B nb bc cu L M DM vL W ids gs vi vg gl) (q:SfP w gB n b1 b2 D B nb bc vL p) (hb:Below w.heap.size w W') (hs:W.heap.size <= W'.heap.size) (hk:∀ i,i < W.heap.size -> (i < gB \/ b1 <= i) -> W'.heap[i]? = W.heap[i]?):SfB w n b1 b2 D B nb bc cu L M DM vL W' ids gs vi vg gl:=by
 have kp:∀ k o,(k < gB \/ b1 <= k) -> W.heap[k]? = some o -> W'.heap[k]? = some o:=fun k o hx ho=>(hk k (blk_lt ho) hx).trans ho
 have h12:b1 <= b2:=Nat.le_trans q.hD.1 (Nat.le_of_lt q.hD.2)
 have ok:∀ {base b:Nat} {us:List Nat},b1 <= base -> OwB W base n b us -> OwB W' base n b us:=fun hx ho=>by
  obtain ⟨cur,hc⟩:=ho.cur
  have hh:=hk _ (blk_lt hc) (.inr (Nat.le_trans hx ho.lo))
  exact ⟨ho.lo,⟨cur,hh.trans hc⟩,rdF_keep ho.rd hh⟩
 obtain ⟨es,clock,hm,r⟩:=h.m
 refine ⟨kp _ _ (.inr q.hD.1) h.z,ok (Nat.le_refl _) h.c,owns_keep h.i fun k e=>hk k (World.ownsRow.lt h.i k e).2 (.inr (Nat.le_trans h12 (World.ownsRow.lt h.i k e).1)),owns_keep h.g fun k e=>hk k (World.ownsRow.lt h.g k e).2 (.inr (Nat.le_trans h12 (World.ownsRow.lt h.g k e).1)),⟨h.col.len,fun j hj=>ok h12 (h.col.row j hj),h.col.nodup⟩,⟨es,clock,kp _ _ (.inr q.hB.1) hm,r⟩,owns_keep h.l fun k e=>hk k (World.ownsRow.lt h.l k e).2 (.inr (World.ownsRow.lt h.l k e).1),kp _ _ (.inr q.hnb.1) h.nz,kp _ _ (.inl q.hg) h.r,hb,Nat.le_trans h.sz hs⟩
theorem SfB.later (h:SfB w n b1 b2 D B nb bc cu L M DM vL W ids gs vi vg gl) (q:SfP w gB n b1 b2 D B nb bc vL p) (hb:Below W.heap.size W W'):SfB w n b1 b2 D B nb bc cu L M DM vL W' ids gs vi vg gl:=
 h.keep q (to_call h.bl hb) hb.size fun i hi _=>hb.block i hi
theorem SfB.near (h:SfB w n b1 b2 D B nb bc cu L M DM vL W ids gs vi vg gl) (q:SfP w gB n b1 b2 D B nb bc vL p) (hb:Below gB W W') (ho:∀ i,i < W.heap.size -> (∀ j,j < n -> i ≠ p j) -> W'.heap[i]? = W.heap[i]?):SfB w n b1 b2 D B nb bc cu L M DM vL W' ids gs vi vg gl:=
 h.keep q (h.bl.trans (hb.mono (by have:=q.hg;omega))) hb.size fun i hi hx=>ho i hi fun j hj e=>by have:=q.hp j hj;omega
end
theorem nearest2_any (gB n:Nat) (p:Nat -> Nat) (os:Nat -> Option Int) (po qo:Option Addr) (pc qc:Nat) (ps qs:List Nat) (w:World) (hg:gB < w.heap.size) (hn:n <= 100000) (hA:AcL w gB n p os) (hr:∀ W,Below gB w W -> (∀ i,i < w.heap.size -> (∀ j,j < n -> i ≠ p j) -> W.heap[i]? = w.heap[i]?) -> RdF W po n pc ps /\ RdF W qo n qc qs) (hf:∀ j,j < n -> Fin (ps[j]?.getD 0) /\ Fin (qs[j]?.getD 0)) :
  Calls Tryz.prog 37 #[.agg #[.slice po n pc,.slice qo n qc],.slice (some ⟨gB,0,none⟩) n n] w fun e w'=>∃ (o:Option Addr) (l c:Nat) (ok:Bool),e = .returned (.tuple #[.slice o l c,.bool ok]) /\ Hid ((ok = true -> ∃ us vs:List Nat,o = some ⟨w.heap.size + 1,0,none⟩ /\ l = n /\ c = n /\ OwB w' w.heap.size n (w.heap.size + 1) us /\ NeR n ps qs us vs n /\ AcL w' gB n p (addJ vs os n)) /\ (ok = false -> ∃ j x,j < n /\ RndZ 0 (fval (ps[j]?.getD 0) + fval (qs[j]?.getD 0)) 1 (x,false)) /\ Below gB w w' /\ ∀ i,i < w.heap.size -> (∀ j,j < n -> i ≠ p j) -> w'.heap[i]? = w.heap[i]?):=by
 refine Calls.mono (nearest_any gB n p os po qo pc qc ps qs w hg hn hA hr hf) ?_
 rintro e w' ⟨⟨us,vs,he,ho,hne,ha⟩ | ⟨j,x,hj,hx,he⟩,hb,hk⟩
 ·exact ⟨some ⟨w.heap.size + 1,0,none⟩,n,n,true,he,⟨fun _=>⟨us,vs,rfl,rfl,rfl,ho,hne,ha⟩,(fun c=>by cases c),hb,hk⟩⟩
 ·exact ⟨none,0,0,false,he,⟨(fun c=>by cases c),fun _=>⟨j,x,hj,hx⟩,hb,hk⟩⟩
end Go.Proofs.YtmdjoaipkbnelaaGreat
