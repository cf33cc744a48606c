import Derived.Test.YtgialbaeekkkhaaGreatPPl
set_option maxRecDepth 100000
set_option maxHeartbeats 8000000
set_option linter.unusedVariables false
set_option linter.unusedSimpArgs false
namespace Go.Proofs.YtgialbaeekkkhaaGreat
open Go.RowKit Go.Shelf
theorem near11_any (v:Value) (s k:Nat) (T z:Int) (w:World) (h:NumC w v s T z) (E:Nat) (hE:E = 1074) (hs:s = E + k) (hs2:s <= 4000) (hT:1024 <= T /\ T <= 3000) :
  Calls Tryz.prog 54 #[v] w fun e w'=>∃ (u:Nat) (nx:Bool) (ox:Option Addr) (lx cx:Nat) (ex:Int) (ok:Bool),e = .returned (.tuple #[.int .u64 (u:Int),.agg #[.bool nx,.slice ox lx cx,.int .i64 ex],.bool ok]) /\ (∃ a,RndZ 0 z (2 ^ k) (a,ok) /\ (ok = true -> a = u /\ NumC w' (.agg #[.bool nx,.slice ox lx cx,.int .i64 ex]) s (T + 1) ((z - fval u * ((2 ^ k:Nat):Int)).natAbs:Int))) /\ Below w.heap.size w w':=by
 obtain ⟨n,o,l,c,e,hv⟩:=h.form
 subst hv
 have HN:Hid (∀ W',Below w.heap.size w W' -> NumC W' (.agg #[.bool n,.slice o l c,.int .i64 e]) s T z):=fun W' hb=>h.later hb
 have HE:Hid (E = 1074 /\ s = E + k /\ s <= 4000 /\ 1024 <= T /\ T <= 3000):=⟨hE,hs,hs2,hT.1,hT.2⟩
 clear h hE hs hs2 hT
 have X0:Below w.heap.size w ((w.alloc (.cells #[.bool n,.slice o l c,.int .i64 e] 56)).alloc (.cells #[.bool false,.slice none 0 0,.int .i64 0] 56)):=((Below.refl _ w).alloc (Nat.le_refl _) _).alloc (by simp only [alloc_size];omega) _
 have Y0:((w.alloc (.cells #[.bool n,.slice o l c,.int .i64 e] 56)).alloc (.cells #[.bool false,.slice none 0 0,.int .i64 0] 56)).heap[w.heap.size]? = some (.cells #[.bool n,.slice o l c,.int .i64 e] 56):=alloc_kept (heap_alloc_new w _) _
 have Y1:((w.alloc (.cells #[.bool n,.slice o l c,.int .i64 e] 56)).alloc (.cells #[.bool false,.slice none 0 0,.int .i64 0] 56)).heap[w.heap.size + 1]? = some (.cells #[.bool false,.slice none 0 0,.int .i64 0] 56):=heap_at _ _ (w.heap.size + 1) (by simp only [alloc_size])
 go_enter Tryz.func54,Tryz.ntmps54
 go_upto_region 1 with fail
 obtain ⟨X,hX⟩:∃ X,((w.alloc (.cells #[.bool n,.slice o l c,.int .i64 e] 56)).alloc (.cells #[.bool false,.slice none 0 0,.int .i64 0] 56)) = X:=⟨_,rfl⟩
 rw [hX] at X0 Y0 Y1 ⊢
 have HX:Hid (Below w.heap.size w X /\ X.heap[w.heap.size]? = some (.cells #[.bool n,.slice o l c,.int .i64 e] 56) /\ X.heap[w.heap.size + 1]? = some (.cells #[.bool false,.slice none 0 0,.int .i64 0] 56)):=⟨X0,Y0,Y1⟩
 clear hX X0 Y0 Y1
 go_upto_region 2 with (first
  | (refine wpList_load_row (by rfl) 56 _ (by rfl) w.heap.size _ (by rfl) HX.out.2.1 _ Tryz.underlying56 rfl 3 Tryz.infoN3 (by rfl) ?_)
  | (go_at_call 55;refine Calls.mono (roundZ_any 0 _ s k T _ _ (NumC.toZ (HN.out _ HX.out.1)) E HE.out.1 HE.out.2.1 HE.out.2.2.1 (by have:=HE.out;omega) (by omega) (by omega)) ?_;rintro e1 W1 ⟨a,b,rfl,hr,b1⟩))
 have HR:Hid (RndZ 0 z (2 ^ k) (a,b)):=hr
 have Q1:Hid (Below w.heap.size w W1 /\ W1.heap[w.heap.size]? = some (.cells #[.bool n,.slice o l c,.int .i64 e] 56) /\ W1.heap[w.heap.size + 1]? = some (.cells #[.bool false,.slice none 0 0,.int .i64 0] 56)):=⟨to_call HX.out.1 b1,kept b1 HX.out.2.1,kept b1 HX.out.2.2⟩
 clear b1 hr HX
 cases b with
 | false=>
  go_wp2_with (refine wpList_store_row (by rfl) 56 _ _ (by rfl) w w.heap.size (w.heap.size + 1) #[.bool false,.slice none 0 0,.int .i64 0] _ (by rfl) (by rfl) Q1.out.2.2 Q1.out.1 (by omega) 3 Tryz.infoN3 (by rfl) (by rfl) (oneN _ _ _ _ _) ?_;intro W9 e9 b9 s9 o9)
  refine bodyPost_ret (v:=.tuple #[.int .u64 0,.agg #[.bool false,.slice none 0 0,.int .i64 0],.bool false]) (res_near _ 2 3 4 (by kernel_rfl) _ _ (w.heap.size + 1) _ _ _ _ _ (by rfl) (by rfl) (by rfl) e9) rfl ⟨0,_,_,_,_,_,false,rfl,⟨a,HR.out,fun c=>by cases c⟩,b9⟩
 | true=>
  have hc:=rz_canon HR.out
  have HO:Hid (∀ W',_):=fun W'=>ofC_any a hc.2.1 W' E HE.out.1
  have HF:Hid (Fin a):=hc.1
  clear hc
  go_upto_region 5 with (go_at_call 79;refine Calls.mono (HO.out _) ?_;rintro e2 W2 ⟨v4,rfl,⟨z4,hz4,hv4⟩,b2⟩;obtain ⟨n4,o4,t4,p4,x4,hf4⟩:=hz4.form;subst hf4;have N4:Hid (NumC W2 (.agg #[.bool n4,.slice o4 t4 p4,.int .i64 x4]) E 1024 (fval a)):=(hv4 HF.out) ▸ hz4;clear hz4 hv4)
  have A2:Below W2.heap.size W2 (W2.alloc (.cells #[.bool n4,.slice o4 t4 p4,.int .i64 x4] 56)):=(Below.refl _ W2).alloc (Nat.le_refl _) _
  have Q2:Hid (Below w.heap.size w (W2.alloc (.cells #[.bool n4,.slice o4 t4 p4,.int .i64 x4] 56)) /\ (W2.alloc (.cells #[.bool n4,.slice o4 t4 p4,.int .i64 x4] 56)).heap[w.heap.size]? = some (.cells #[.bool n,.slice o l c,.int .i64 e] 56) /\ (W2.alloc (.cells #[.bool n4,.slice o4 t4 p4,.int .i64 x4] 56)).heap[w.heap.size + 1]? = some (.cells #[.bool false,.slice none 0 0,.int .i64 0] 56) /\ (W2.alloc (.cells #[.bool n4,.slice o4 t4 p4,.int .i64 x4] 56)).heap[W2.heap.size]? = some (.cells #[.bool n4,.slice o4 t4 p4,.int .i64 x4] 56) /\ NumC (W2.alloc (.cells #[.bool n4,.slice o4 t4 p4,.int .i64 x4] 56)) (.agg #[.bool n4,.slice o4 t4 p4,.int .i64 x4]) E 1024 (fval a)):=⟨to_call (to_call Q1.out.1 b2) A2,kept A2 (kept b2 Q1.out.2.1),kept A2 (kept b2 Q1.out.2.2),heap_alloc_new W2 _,NumC.later N4.out A2⟩
  obtain ⟨Y,hY⟩:∃ Y,W2.alloc (.cells #[.bool n4,.slice o4 t4 p4,.int .i64 x4] 56) = Y:=⟨_,rfl⟩
  obtain ⟨B7,hB7⟩:∃ B7,W2.heap.size = B7:=⟨_,rfl⟩
  rw [hY,hB7] at Q2
  rw [hY,hB7]
  clear hY hB7 A2 b2 N4 Q1 HO
  have HM:Hid (∀ W',Below Y.heap.size Y W' -> Calls Tryz.prog 56 #[.agg #[.bool n,.slice o l c,.int .i64 e],.agg #[.bool n4,.slice o4 t4 p4,.int .i64 x4]] W' fun e' w'=>∃ v',e' = .returned v' /\ NumC w' v' s (T + 1) (z - fval a * ((2 ^ k:Nat):Int)) /\ Below W'.heap.size W' w'):=fun W' hb=>minusC_any _ _ s T _ _ W' (HN.out W' (to_call Q2.out.1 hb)) (by have h9:=(NumC.later Q2.out.2.2.2.2 hb).moreJ k;rw [<- HE.out.2.1] at h9;exact h9.mono (by have:=HE.out;omega)) (by have:=HE.out;omega) (by have:=HE.out;omega)
  go_wp2_with (first
   | (refine wpList_load_row (by rfl) 56 _ (by rfl) w.heap.size _ (by rfl) Q2.out.2.1 _ Tryz.underlying56 rfl 3 Tryz.infoN3 (by rfl) ?_)
   | (refine wpList_load_row (by rfl) 56 _ (by rfl) B7 _ (by rfl) Q2.out.2.2.2.1 _ Tryz.underlying56 rfl 3 Tryz.infoN3 (by rfl) ?_)
   | (go_at_call 56;refine Calls.mono (HM.out _ (Below.refl _ _)) ?_;rintro e5 W5 ⟨v5,rfl,hz5,b5⟩;have N5:Hid (NumC W5 v5 s (T + 1) (z - fval a * ((2 ^ k:Nat):Int))):=hz5;have B5:Hid (Below Y.heap.size Y W5):=b5;clear hz5 b5)
   | (go_at_call 82;refine Calls.mono (sizeC_any _ s (T + 1) _ _ N5.out) ?_;rintro e6 W6 ⟨v6,rfl,hz6,b6⟩;obtain ⟨n6,o6,t6,p6,x6,hf6⟩:=hz6.form;subst hf6;have N6:Hid (NumC W6 (.agg #[.bool n6,.slice o6 t6 p6,.int .i64 x6]) s (T + 1) ((z - fval a * ((2 ^ k:Nat):Int)).natAbs:Int)):=hz6;have B6:Hid (Below Y.heap.size Y W6):=to_call B5.out b6;clear hz6 b6)
   | (refine wpList_store_row (by rfl) 56 _ _ (by rfl) w w.heap.size (w.heap.size + 1) #[.bool n6,.slice o6 t6 p6,.int .i64 x6] _ (by rfl) (by rfl) (kept B6.out Q2.out.2.2.1) (to_call Q2.out.1 B6.out) (by omega) 3 Tryz.infoN3 (by rfl) (by rfl) (oneN _ _ _ _ _) ?_;intro W9 e9 b9 s9 o9))
  refine bodyPost_ret (v:=.tuple #[.int .u64 (a:Int),.agg #[.bool n6,.slice o6 t6 p6,.int .i64 x6],.bool true]) (res_near _ 2 3 4 (by kernel_rfl) _ _ (w.heap.size + 1) _ _ _ _ _ (by rfl) (by rfl) (by rfl) e9) rfl ⟨a,_,_,_,_,_,true,rfl,⟨a,HR.out,fun _=>⟨rfl,(show NumC _ _ _ _ _ from N6.out).cl (num_cl (kept B6.out Q2.out.2.2.1)) (fun b hb _=>o9 b hb)⟩⟩,b9⟩
theorem RowZ.mono {w:World} {base base' s:Nat} {T T':Int} {v:Value} {zs:List Int} (h:RowZ w base v s T zs) (hb:base' <= base) (hT:T <= T'):RowZ w base' v s T' zs:=by
 obtain ⟨xs,h1,h2⟩:=h.own
 exact ⟨⟨xs,owns_monoJ h1 hb,fun j hj=>by obtain ⟨n,o,l,c,e,a1,a2,a3,a4⟩:=h2 j hj;exact ⟨n,o,l,c,e,a1,a2,a3,a4.mono hT⟩⟩,h.cl⟩
theorem RowZ.copied {w w':World} {base' s:Nat} {T:Int} {v' v0:Value} {zs:List Int} {xs:List Value} (h2:∀ j,j < zs.length -> ∃ n o l c e,xs[j * 3]? = some (.bool n) /\ xs[j * 3 + 1]? = some (.slice o l c) /\ xs[j * 3 + 2]? = some (.int .i64 e) /\ NumC w (.agg #[.bool n,.slice o l c,.int .i64 e]) s T (zs[j]?.getD 0))
  (hcl:∀ g,v0.ownBlock = some g -> Cl noU w g) (ho:w'.ownsRow base' 56 3 v' zs.length xs) (hg:Grw w w' v0.ownBlock v'.ownBlock) (hcl':∀ g,v'.ownBlock = some g -> Cl noU w' g):RowZ w' base' v' s T zs:=
 ⟨⟨xs,ho,fun j hj=>by obtain ⟨n,o,l,c,e,a1,a2,a3,a4⟩:=h2 j hj;exact ⟨n,o,l,c,e,a1,a2,a3,a4.grw hg hcl⟩⟩,hcl'⟩
structure CoZ (w:World) (base:Nat) (v:Value) (s:Nat) (T:Int) (gz:List (List Int)):Prop where
 own:∃ gl:List Value,gl.length = gz.length /\ w.ownsRow base 47 1 v gz.length gl /\ (∀ g,v.ownBlock = some g -> Cl noU w g) /\ ∀ k,k < gz.length -> ∃ B,RowZ w B (gl[k]?.getD (.slice none 0 0)) s T (gz[k]?.getD [])
theorem CoZ.later {w w':World} {base s:Nat} {T:Int} {v:Value} {gz:List (List Int)} (h:CoZ w base v s T gz) (hb:Below w.heap.size w w'):CoZ w' base v s T gz:=by
 obtain ⟨gl,h1,h2,h3,h4⟩:=h.own
 exact ⟨gl,h1,owns_keep h2 fun k hk=>hb.block k (World.ownsRow.lt h2 k hk).2,fun g hg=>(h3 g hg).later hb,fun k hk=>by obtain ⟨B,hB⟩:=h4 k hk;exact ⟨B,hB.later hb⟩⟩
end Go.Proofs.YtgialbaeekkkhaaGreat
