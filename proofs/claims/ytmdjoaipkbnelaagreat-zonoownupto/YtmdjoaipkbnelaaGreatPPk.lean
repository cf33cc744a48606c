import Derived.Test.YtmdjoaipkbnelaaGreatPPh
set_option linter.unusedVariables false
set_option linter.unusedSimpArgs false
namespace Go.Proofs.YtmdjoaipkbnelaaGreat
open Go.RowKit Go.Shelf
structure IgC (w:World) (base n:Nat) (ids:List Int) (gs:List (List Nat)) (vi vg:Value) (gl:List Nat):Prop where
 i:w.ownsRow base 3 1 vi (ids.map (Value.int .i64)).length (ids.map (Value.int .i64))
 g:w.ownsRow base 22 1 vg (gl.map (slN n)).length (gl.map (slN n))
 col:ColL w base n gl gs
section
variable {w w':World} {base n:Nat} {ids:List Int} {gs:List (List Nat)} {vi vg vi' vg':Value} {gl:List Nat}
theorem IgC.keep (h:IgC w base n ids gs vi vg gl) (hk:∀ (k:Nat) (cur:Array Value) (t:TypeId),t ≠ 26 -> w.heap[k]? = some (.cells cur t) -> w'.heap[k]? = w.heap[k]?):IgC w' base n ids gs vi vg gl:=
 ⟨owns_keepT h.i fun k cur=>hk k cur _ (by decide),owns_keepT h.g fun k cur=>hk k cur _ (by decide),h.col.keep fun k cur=>hk k cur 45 (by decide)⟩
theorem IgC.later (h:IgC w base n ids gs vi vg gl) (hb:Below w.heap.size w w'):IgC w' base n ids gs vi vg gl:=
 h.keep fun k cur t _ hc=>hb.block k (blk_lt hc)
theorem IgC.pushI {x:Int} (h:IgC w base n ids gs vi vg gl) (hg:Grw w w' vi.ownBlock vi'.ownBlock) (ho:w'.ownsRow base 3 1 vi' (ids.map (Value.int .i64) ++ [Value.int .i64 x]).length (ids.map (Value.int .i64) ++ [Value.int .i64 x])):IgC w' base n (ids ++ [x]) gs vi' vg gl:=by
 have hk:=grw_types h.i hg
 refine ⟨?_,owns_keepT h.g fun k cur=>hk k cur _ (by decide),h.col.keep fun k cur=>hk k cur 45 (by decide)⟩
 rw [List.map_append]
 exact ho
theorem IgC.pushG {b:Nat} {us:List Nat} (h:IgC w base n ids gs vi vg gl) (hg:Grw w w' vg.ownBlock vg'.ownBlock) (ho:w'.ownsRow base 22 1 vg' (gl.map (slN n) ++ [slN n b]).length (gl.map (slN n) ++ [slN n b])) (hb:OwB w base n b us) (h3:b ∉ gl):IgC w' base n ids (gs ++ [us]) vi vg' (gl ++ [b]):=by
 have hk:=grw_types h.g hg
 have hf:=fun k cur=>hk k cur 45 (by decide)
 refine ⟨owns_keepT h.i fun k cur=>hk k cur _ (by decide),?_,(h.col.keep hf).snoc (hb.keep hf) h3⟩
 rw [List.map_append]
 exact ho
end
section
variable {w W W':World} {gB n b1 b2 D B nb bc M:Nat} {cu:List Nat} {L:List Int} {DM:DataW Value} {vL:Value} {ids ids':List Int} {gs gs':List (List Nat)} {vi vg vi' vg':Value} {gl gl':List Nat} {p:Nat -> Nat}
theorem SfB.ig (h:SfB w n b1 b2 D B nb bc cu L M DM vL W ids gs vi vg gl):IgC W b2 n ids gs vi vg gl:=⟨h.i,h.g,h.col⟩
theorem SfB.keepD (h:SfB w n b1 b2 D B nb bc cu L M DM vL W ids gs vi vg gl) (q:SfP w gB n b1 b2 D B nb bc vL p) (hz:W'.heap[D]? = some (.cells #[.int .i64 (n:Int),slN n bc,vi',vg',.slice none 0 0,.bool false] 26)) (hk:∀ i,i < b2 -> i ≠ D -> W'.heap[i]? = W.heap[i]?) (bl:Below w.heap.size w W') (sz:b2 <= W'.heap.size) (hi:IgC W' b2 n ids' gs' vi' vg' gl'):SfB w n b1 b2 D B nb bc cu L M DM vL W' ids' gs' vi' vg' gl':=by
 obtain ⟨es,clock,hm,r⟩:=h.m
 obtain ⟨cur,hc⟩:=h.c.cur
 have e1:=hk bc q.hbc.2 q.hne.2.2.1
 exact ⟨hz,⟨h.c.lo,⟨cur,e1.trans hc⟩,rdF_keep h.c.rd e1⟩,hi.i,hi.g,hi.col,⟨es,clock,(hk B q.hB.2 q.hne.1).trans hm,r⟩,owns_keep h.l fun k e=>hk k (q.hl k e) (q.hne.2.2.2.2 k e),(hk nb q.hnb.2 q.hne.2.1).trans h.nz,(hk _ (by have:=q.hg;have:=q.hgb;have:=q.hD;omega) (by have:=q.hg;have:=q.hgb;have:=q.hD;omega)).trans h.r,bl,sz⟩
end
theorem look_run {a b:ZD} {nb n B M:Nat} {DM:DataW Value} {W:World} {id:Int} (hown:W.ownsMap Tryz.prog 3 elR B M DM) (hp:PrM a b (nzV nb n) (List.range a.ids.length) (List.range b.ids.length) DM) (hid:id ∈ mg a.ids b.ids) (hwf:(Lit.int .i64 id).wf = true) :
  (Instr.lookup 85 (.map (some B)) (.int .i64 id) false).run Tryz.prog W = .ok (.agg #[colS a (nzV nb n) (List.range a.ids.length) id,colS b (nzV nb n) (List.range b.ids.length) id]) W:=by
 obtain ⟨v,ps,hr,hv⟩:=hown.lookup Tryz.keyI Tryz.underlying85 (Tryz.zeroPr W) (zd:=.held (.agg #[.slice none 0 0,.slice none 0 0])) (zp:=[]) rfl (key:=.int .i64 id) (kl:=KL id) (Maps.keyOf_int_mk Tryz.underlying3 hwf)
 have hh:Maps.has DM (KL id) = true:=by
  rw [hp.has,idL_range,idL_range]
  rcases (mg_mem id _ _).1 hid with h | h <;> simp [h]
 rcases hp.look hv with ⟨_,e⟩ | ⟨e,_⟩
 ·rw [e] at hr;exact hr
 ·rw [hh] at e;cases e
theorem roundedUp2_any (g n:Nat) (p:Nat -> Nat) (os:Nat -> Option Int) (w:World) (h:AcL w g n p os) (hg:g < w.heap.size) (hn:n <= 100000) :
  Calls Tryz.prog 20 #[.slice (some ⟨g,0,none⟩) n n] w fun e w'=>∃ (o:Option Addr) (l c:Nat) (ok:Bool),e = .returned (.tuple #[.slice o l c,.bool ok]) /\ Hid ((ok = true -> ∃ b us,o = some ⟨b,0,none⟩ /\ l = n /\ c = n /\ OwB w' w.heap.size n b us /\ ∀ j,j < n -> RndO 1 (os j) (us[j]?.getD 0) true) /\ (ok = false -> ∃ j u,j < n /\ RndO 1 (os j) u false) /\ Below w.heap.size w w'):=by
 refine Calls.mono (roundedUp_any g n p os w h hg hn) ?_
 rintro e w' ⟨⟨b,us,he,ho,hr⟩ | ⟨j,x,hj,hx,he⟩,hb⟩
 ·exact ⟨some ⟨b,0,none⟩,n,n,true,he,⟨fun _=>⟨b,us,rfl,rfl,rfl,ho,hr⟩,(fun c=>by cases c),hb⟩⟩
 ·exact ⟨none,0,0,false,he,⟨(fun c=>by cases c),fun _=>⟨j,x,hj,hx⟩,hb⟩⟩
end Go.Proofs.YtmdjoaipkbnelaaGreat
