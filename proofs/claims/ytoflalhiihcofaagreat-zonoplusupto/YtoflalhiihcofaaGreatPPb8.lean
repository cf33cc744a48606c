import Derived.Test.YtoflalhiihcofaaGreatPPb7
set_option maxRecDepth 100000
set_option maxHeartbeats 8000000
set_option linter.unusedVariables false
set_option linter.unusedSimpArgs false
namespace Go.Proofs.YtoflalhiihcofaaGreat
open Go.RowKit Go.Shelf
def Cl (p:Value -> Bool) (w:World) (g:Nat):Prop:=∃ cur t,w.heap[g]? = some (.cells cur t) /\ ∀ (i:Nat) (v:Value),cur[i]? = some v -> p v = true
theorem zeroCells_cl {p:Value -> Bool} {z:Array Value} {n:Nat} (hz:∀ v ∈ z,p v = true) (h0:0 < z.size):∀ (i:Nat) (v:Value),(Builtin.zeroCells z n)[i]? = some v -> p v = true:=by
 intro i v hv
 unfold Builtin.zeroCells at hv
 rw [Array.getElem?_map] at hv
 obtain ⟨j,hj,rfl⟩:=Option.map_eq_some_iff.1 hv
 have hlt:j % z.size < z.size:=Nat.mod_lt _ h0
 rw [getElem!_pos z _ hlt]
 exact hz _ (Array.getElem_mem hlt)
theorem list_cl {p:Value -> Bool} {xs:List Value} (h:∀ u ∈ xs,p u = true):∀ (i:Nat) (v:Value),xs.toArray[i]? = some v -> p v = true:=by
 intro i v hv
 rw [List.getElem?_toArray] at hv
 exact h v (List.mem_of_getElem? hv)
theorem append_clJ (p:Value -> Bool) {SE E:TypeId} {z:Value} {size bytes:Nat} (hu:Tryz.prog.underlying SE = some (.slice E)) (hinfo:(Tryz.prog.info? E).map (fun i=>(i.zero,i.size,i.bytes)) = some (some z,size,bytes)) (hzc:z.cells.size = size) (hsz:0 < size) (hby:bytes <= 64) (hzp:∀ v ∈ z.cells,p v = true)
  {ops:Array Oper} {rest:List Oper} {o:Oper} {a:Act} {Q:Exit -> Act -> World -> Prop} (W:World) (hgd:o.guard = none) (s x:Operand) (ho:o.op = .call { callee:=.builtin .append,args:=#[s,x],argTypes:=#[SE,SE] })
  (base:Nat) (v:Value) (n:Nat) (xs:List Value) (hs:a.eval s = v) (hown:W.ownsRow base E size v n xs) (hcl:∀ g,v.ownBlock = some g -> Cl p W g)
  (ad:Addr) (m c:Nat) (news:List Value) (hx:a.eval x = .slice (some ad) m c) (hm:0 < m) (hl:news.length = m * size) (hnews:∀ j u,news[j]? = some u -> W.cell? (ad.add j) = some u) (h1:∀ u ∈ news,u.oneCell' = true) (hnp:∀ u ∈ news,p u = true)
  (hlen:n + m <= 4000000) (hbase:base <= W.heap.size)
  (h:∀ v' w',w'.ownsRow base E size v' (n + m) (xs ++ news) -> Grw W w' v.ownBlock v'.ownBlock -> (∀ g,v'.ownBlock = some g -> Cl p w' g) -> wpList Tryz.prog ops Q rest (a.put o.dst v') w'):wpList Tryz.prog ops Q (o :: rest) a W:=by
 obtain ⟨i0,hi,hz0,hz1,hz2⟩:=info3' hinfo
 have hb2:(n + m) * bytes <= 140737488355328:=Nat.le_trans (Nat.mul_le_mul hlen hby) (by decide)
 have hmx:n + m <= maxLen:=by simp only [maxLen];omega
 obtain ⟨v',w',hrun,r1,r2,_⟩:=run_append_own (P:=Tryz.prog) W base SE o.type E i0 z size bytes hu hi hz0 hz1 hz2 hzc hsz v n xs hown ad m c news hl hnews h1 hmx hb2 hbase
 have key:(∀ g,v'.ownBlock = some g -> Cl p w' g) /\ (v'.ownBlock = v.ownBlock \/ ∀ k,v'.ownBlock = some k -> W.heap.size <= k):=by
  have hsm:((n + m:Nat):Int) <= 9223372036854775807:=by omega
  subst hz1 hz2
  have hzs:0 < z.cells.size:=by omega
  rcases hown.2 with ⟨rfl,rfl⟩ | ⟨g,cap,cur,rfl,hg,hh,k1,k2,k3,k4⟩
  ·have hx0:xs = []:=List.eq_nil_of_length_eq_zero (by simpa using hown.1)
   subst hx0
   have hex:=run_append_nil (P:=Tryz.prog) W SE o.type E i0 z hu hi hz0 ad m c news hl hnews hm (by omega) (by rw [Nat.zero_add] at hb2;omega)
   rw [hex] at hrun
   cases hrun
   refine ⟨fun g hg=>?_,.inr fun k hk=>?_⟩
   ·cases hg
    refine ⟨_,_,heap_alloc_new W.drew _,fun i u hu=>?_⟩
    rw [Array.getElem?_append] at hu
    split at hu
    ·exact list_cl hnp i u hu
    ·exact zeroCells_cl hzp hzs _ u hu
   ·cases hk
    exact Nat.le_refl _
  ·obtain ⟨cur',t',hc1,hc2⟩:=hcl g rfl
   rw [hh] at hc1
   cases hc1
   by_cases hr:n + m <= cap
   ·have hfit:n * i0.size + news.length <= cur.size:=by rw [hl,k3,<- Nat.add_mul];exact Nat.mul_le_mul_right _ hr
    have hex:=run_append_room (P:=Tryz.prog) W SE o.type E i0 hu hi g n cap cur hh ad m c news hl hnews h1 hr hfit
    rw [hex] at hrun
    cases hrun
    refine ⟨fun g' hg'=>?_,.inl rfl⟩
    cases hg'
    refine ⟨(cur.toList.take (n * i0.size) ++ news ++ cur.toList.drop (n * i0.size + news.length)).toArray,E,?_,?_⟩
    ·show (W.setRow g _).heap[g]? = _
     unfold World.setRow
     simp [Array.getElem?_modify,hh]
    ·intro i u hu
     refine list_cl (p:=p) (fun y hy=>?_) i u hu
     rw [List.mem_append,List.mem_append] at hy
     rcases hy with (hy | hy) | hy
     ·obtain ⟨j,hj⟩:=List.mem_iff_getElem?.1 (List.mem_of_mem_take hy)
      rw [Array.getElem?_toList] at hj
      exact hc2 j y hj
     ·exact hnp y hy
     ·obtain ⟨j,hj⟩:=List.mem_iff_getElem?.1 (List.mem_of_mem_drop hy)
      rw [Array.getElem?_toList] at hj
      exact hc2 j y hj
   ·have hxc:∀ j u,xs[j]? = some u -> W.cell? ((⟨g,0,none⟩:Addr).add j) = some u:=fun j u hj=>World.ownsRow.cells hown rfl j u hj
    have hex:=run_append_grow (P:=Tryz.prog) W SE o.type E i0 z hu hi hz0 ⟨g,0,none⟩ n cap xs hown.1 hxc ad m c news hl hnews (by omega) (by omega) (growslice_fits (by omega) hb2)
    rw [hex] at hrun
    cases hrun
    refine ⟨fun g' hg'=>?_,.inr fun k hk=>?_⟩
    ·cases hg'
     refine ⟨_,_,heap_alloc_new W.drew _,fun i u hu=>?_⟩
     rw [Array.getElem?_append] at hu
     split at hu
     ·rw [Array.getElem?_append] at hu
      split at hu
      ·refine list_cl (p:=p) (fun y hy=>?_) i u hu
       obtain ⟨j,hj⟩:=List.mem_iff_getElem?.1 hy
       have h2:=hxc j y hj
       rw [Addr.add_lit,cell_of_row _ g _ _ _ _ hh] at h2
       exact hc2 _ y h2
      ·exact list_cl hnp _ u hu
     ·exact zeroCells_cl hzp hzs _ u hu
    ·cases hk
     exact Nat.le_refl _
 refine wpList_plain hgd fun K hK=>?_
 unfold Oper.wp
 simp [execOp,ho,resolve,invoke,builtin,hs,hx,hrun,Result.andThen]
 exact hK _ _ (h v' w' r1 ⟨r2,key.2⟩ key.1)
def noU:Value -> Bool
 | .int .u32 _=>false
 | _=>true
theorem rd4_cl {w w':World} {B:Nat} (hB:Cl noU w B) (hs:∀ b,b ≠ B -> b < w.heap.size -> w'.heap[b]? = w.heap[b]?) {ao:Option Addr} {len cap:Nat} {xs:List Nat} (h:Rd4 w ao len cap xs):Rd4 w' ao len cap xs:=by
 refine ⟨h.length,h.le,h.max,h.lt,h.nil,?_⟩
 rcases h.cells with h0 | ⟨b,off,ha,hc⟩
 ·exact .inl h0
 ·refine .inr ⟨b,off,ha,fun j hj=>?_⟩
  have h1:=hc j hj
  have hne:b ≠ B:=by
   rintro rfl
   obtain ⟨cur,t,e1,e2⟩:=hB
   rw [cell_of_row _ _ _ _ _ _ e1] at h1
   have:=e2 _ _ h1
   cases this
  rw [World.cell?_of_block (w:=w) (w':=w') (a:=⟨b,off + j,none⟩) (hs b hne (World.block_lt_of_cell? w _ h1))]
  exact h1
theorem NumZ.cl {w w':World} {B:Nat} (hB:Cl noU w B) (hs:∀ b,b ≠ B -> b < w.heap.size -> w'.heap[b]? = w.heap[b]?) {v:Value} {s:Nat} {T z:Int} (h:NumZ w v s T z):NumZ w' v s T z:=by
 obtain ⟨neg,m,e,⟨ao,len,cap,xs,h1,h2,h3,h4⟩,h5⟩:=h
 exact ⟨neg,m,e,⟨ao,len,cap,xs,h1,rd4_cl hB hs h2,h3,h4⟩,h5⟩
theorem NumC.cl {w w':World} {B:Nat} (hB:Cl noU w B) (hs:∀ b,b ≠ B -> b < w.heap.size -> w'.heap[b]? = w.heap[b]?) {v:Value} {s:Nat} {T z:Int} (h:NumC w v s T z):NumC w' v s T z:=by
 obtain ⟨neg,m,e,⟨ao,len,cap,xs,h1,h2,h3,h4⟩,h5⟩:=h
 exact ⟨neg,m,e,⟨ao,len,cap,xs,h1,rd4_cl hB hs h2,h3,h4⟩,h5⟩
theorem Tryz.infoNumJ:(Tryz.prog.info? 46).map (fun i=>(i.zero,i.size,i.bytes)) = some (some (.agg #[.bool false,.slice none 0 0,.int .i64 0]),3,40):=by kernel_rfl
structure RowN (w:World) (base:Nat) (v:Value) (E:Nat) (us:List Nat):Prop where
 own:∃ xs,w.ownsRow base 46 3 v us.length xs /\ ∀ j,j < us.length -> ∃ n o l c e,xs[j * 3]? = some (.bool n) /\ xs[j * 3 + 1]? = some (.slice o l c) /\ xs[j * 3 + 2]? = some (.int .i64 e) /\ NumC w (.agg #[.bool n,.slice o l c,.int .i64 e]) E 1024 (fval (us[j]?.getD 0))
 cl:∀ g,v.ownBlock = some g -> Cl noU w g
theorem RowN.nil (w:World) (base E:Nat):RowN w base (.slice none 0 0) E []:=⟨⟨[],World.ownsRow_nil _ _ _ _,fun j hj=>absurd hj (Nat.not_lt_zero _)⟩,fun g hg=>by cases hg⟩
theorem Cl.later {p:Value -> Bool} {w w':World} {g:Nat} (h:Cl p w g) (hb:Below w.heap.size w w'):Cl p w' g:=by
 obtain ⟨cur,t,h1,h2⟩:=h
 exact ⟨cur,t,(hb.block g (blk_lt h1)).trans h1,h2⟩
theorem RowN.later {w w':World} {base E:Nat} {v:Value} {us:List Nat} (h:RowN w base v E us) (hb:Below w.heap.size w w'):RowN w' base v E us:=by
 obtain ⟨xs,h1,h2⟩:=h.own
 exact ⟨⟨xs,owns_keep h1 fun k hk=>hb.block k (World.ownsRow.lt h1 k hk).2,fun j hj=>by obtain ⟨n,o,l,c,e,a1,a2,a3,a4⟩:=h2 j hj;exact ⟨n,o,l,c,e,a1,a2,a3,a4.later hb⟩⟩,fun g hg=>(h.cl g hg).later hb⟩
theorem RowN.mono {w:World} {base base' E:Nat} {v:Value} {us:List Nat} (h:RowN w base v E us) (hb:base' <= base):RowN w base' v E us:=by
 obtain ⟨xs,h1,h2⟩:=h.own
 exact ⟨⟨xs,owns_monoJ h1 hb,h2⟩,h.cl⟩
theorem RowN.push {w w':World} {base E:Nat} {v v':Value} {us:List Nat} {u:Nat} {n:Bool} {o:Option Addr} {l c:Nat} {e:Int} {xs:List Value} (hx:w.ownsRow base 46 3 v us.length xs) (h2:∀ j,j < us.length -> ∃ n o l c e,xs[j * 3]? = some (.bool n) /\ xs[j * 3 + 1]? = some (.slice o l c) /\ xs[j * 3 + 2]? = some (.int .i64 e) /\ NumC w (.agg #[.bool n,.slice o l c,.int .i64 e]) E 1024 (fval (us[j]?.getD 0)))
  (hcl:∀ g,v.ownBlock = some g -> Cl noU w g) (hn:NumC w (.agg #[.bool n,.slice o l c,.int .i64 e]) E 1024 (fval u)) (ho:w'.ownsRow base 46 3 v' (us.length + 1) (xs ++ [.bool n,.slice o l c,.int .i64 e])) (hg:Grw w w' v.ownBlock v'.ownBlock) (hcl':∀ g,v'.ownBlock = some g -> Cl noU w' g):RowN w' base v' E (us ++ [u]):=by
 have keep:∀ (y:Value) (z:Int),NumC w y E 1024 z -> NumC w' y E 1024 z:=fun y z hy=>by
  cases hv:v.ownBlock with
  | none=>exact hy.later ⟨hg.by'.os,hg.by'.tape,hg.by'.output,hg.by'.size,fun k hk=>hg.by'.block k hk (by rw [hv];simp)⟩
  | some g=>exact hy.cl (hcl g hv) fun b hb hlt=>hg.by'.block b hlt (by rw [hv];intro e;cases e;exact hb rfl)
 have hl:xs.length = us.length * 3:=hx.1
 refine ⟨⟨_,by simpa using ho,fun j hj=>?_⟩,hcl'⟩
 by_cases ej:j < us.length
 ·obtain ⟨n1,o1,l1,c1,e1,a1,a2,a3,a4⟩:=h2 j ej
  refine ⟨n1,o1,l1,c1,e1,?_,?_,?_,?_⟩
  ·rw [List.getElem?_append_left (by omega)];exact a1
  ·rw [List.getElem?_append_left (by omega)];exact a2
  ·rw [List.getElem?_append_left (by omega)];exact a3
  ·rw [List.getElem?_append_left ej];exact keep _ _ a4
 ·have e2:j = us.length:=by simp at hj;omega
  subst e2
  refine ⟨n,o,l,c,e,?_,?_,?_,?_⟩
  ·rw [List.getElem?_append_right (by omega),hl,Nat.sub_self];rfl
  ·rw [List.getElem?_append_right (by omega),hl,show us.length * 3 + 1 - us.length * 3 = 1 by omega];rfl
  ·rw [List.getElem?_append_right (by omega),hl,show us.length * 3 + 2 - us.length * 3 = 2 by omega];rfl
  ·rw [List.getElem?_append_right (Nat.le_refl _),Nat.sub_self];exact keep _ _ hn
theorem news_threeJ {W:World} {I:Nat} {x y z:Value} {E:TypeId} (h:W.heap[I]? = some (.cells #[x,y,z] E)):∀ j u,[x,y,z][j]? = some u -> W.cell? ((⟨I,0,none⟩:Addr).add j) = some u:=by
 intro j u hj
 match j,hj with
 | 0,hj=>cases hj;rw [Addr.add_lit,cell_of_row _ I _ _ _ _ h];rfl
 | 1,hj=>cases hj;rw [Addr.add_lit,cell_of_row _ I _ _ _ _ h];rfl
 | 2,hj=>cases hj;rw [Addr.add_lit,cell_of_row _ I _ _ _ _ h];rfl
theorem three_one (n:Bool) (o:Option Addr) (l c:Nat) (e:Int):∀ u ∈ [Value.bool n,.slice o l c,.int .i64 e],u.oneCell' = true:=by
 intro u hu
 simp only [List.mem_cons,List.not_mem_nil,or_false] at hu
 rcases hu with rfl | rfl | rfl <;> rfl
theorem three_noU (n:Bool) (o:Option Addr) (l c:Nat) (e:Int):∀ u ∈ [Value.bool n,.slice o l c,.int .i64 e],noU u = true:=by
 intro u hu
 simp only [List.mem_cons,List.not_mem_nil,or_false] at hu
 rcases hu with rfl | rfl | rfl <;> rfl
theorem zero_noU:∀ v ∈ (Value.agg #[.bool false,.slice none 0 0,.int .i64 0]).cells,noU v = true:=by
 intro v hv
 have:v ∈ (#[.bool false,.slice none 0 0,.int .i64 0]:Array Value):=hv
 simp only [List.mem_toArray,List.mem_cons,List.not_mem_nil,or_false] at this
 rcases this with rfl | rfl | rfl <;> rfl
theorem numbers10_any (ao:Option Addr) (len cap:Nat) (us:List Nat) (n:Int) (E:Nat) (hE:E = 1074) (w:World) (h:RdUs w ao len cap us) (hlt:∀ u ∈ us,u < 18446744073709551616) (hl:len <= 1050000) :
  Calls Tryz.prog 16 #[.slice ao len cap,.int .i64 n] w fun e w'=>(∃ v,e = .returned (.tuple #[v,.bool (numN us n)]) /\ (numN us n = true -> RowN w' w.heap.size v E us)) /\ Below w.heap.size w w':=by
 have HR:Hid _:=h
 have hln:=h.length
 have HLT:Hid _:=hlt
 clear h hlt
 by_cases hn:(len:Int) = n
 ·subst hn
  have HE:Hid (numN us (len:Int) = numsB us):=by unfold Hid numN;rw [hln,decide_eq_true rfl,Bool.true_and]
  obtain ⟨nn,hnn⟩:∃ nn,numN us (len:Int) = nn:=⟨_,rfl⟩
  rw [hnn] at HE ⊢
  have HLN:Hid (us.length = len):=hln
  clear hln hnn
  go_enter Tryz.func16,Tryz.ntmps16
  go_wp2_with fail
  go_loopg [6,7] len (fun g v iv wx=>∃ k:Nat,iv = .int .i64 k /\ k + g = len /\ Hid (RowN wx w.heap.size v E (us.take k)) /\ Hid (Below w.heap.size w wx) /\ Hid (nn = numsB (us.drop k)))
  case atStart=>exact ⟨0,rfl,by omega,RowN.nil _ _ _,Below.refl _ _,HE.out⟩
  case round=>
   obtain ⟨k,rfl,hk,HO,HB,HD⟩:=hrel
   clear HE
   have hsr:=HB.out.size
   by_cases hlt:k < len
   ·have hd:decide ((k:Int) < (len:Int)) = true:=decide_eq_true (by omega)
    obtain ⟨g,rfl⟩:∃ g,gk = g + 1:=⟨gk - 1,by omega⟩
    have HIG:Hid _:=hk
    rcases (HR.out.later HB.out).cells with h0 | ⟨ab,aoff,rfl,hca⟩
    ·omega
    have ga:=hca k hlt
    have hkl:k < us.length:=by rw [HLN.out];exact hlt
    have hux:=HLT.out _ (getD_mem (us:=us) (j:=k) hkl)
    have HTS:Hid _:=take_snocJ (us:=us) (k:=k) hkl
    have HDS:Hid _:=numsB_drop us hkl
    obtain ⟨x,hx⟩:∃ x,us[k]?.getD 0 = x:=⟨_,rfl⟩
    rw [hx] at ga hux HTS HDS
    have HOF:Hid _:=ofC_any x hux wr E hE
    clear hca hx hk hkl
    go_upto_region 8 with (first
     | (go_at_call 38;refine Calls.mono HOF.out ?_;rintro e w1 ⟨v1,rfl,⟨z1,hz1,hv1⟩,b1⟩;obtain ⟨n1,m1,e1,⟨o1,l1,c1,xs1,rfl,hr1⟩,hr2⟩:=id hz1;clear hr1 hr2))
    have N1:Hid (NumC w1 (.agg #[.bool n1,.slice o1 l1 c1,.int .i64 e1]) E 1024 z1 /\ (Fin x -> z1 = fval x)):=⟨hz1,hv1⟩
    clear hz1 hv1 HOF
    have B1:Hid (Below wr.heap.size wr w1):=b1
    have s1:=b1.size
    clear b1
    by_cases hf:Fin x
    ·have hfd:decide (Fin x) = true:=decide_eq_true hf
     rw [hfd] at HDS ⊢
     have HF:Hid _:=hf
     clear hf hfd
     obtain ⟨xs,hxo,hxj⟩:=(HO.out.later B1.out).own
     have HXO:Hid _:=hxo
     have HXJ:Hid _:=hxj
     have hxl:(us.take k).length = k:=by rw [List.length_take,HLN.out];omega
     rw [hxl] at hxo
     have HX2:Hid _:=hxo
     clear hxo hxj
     have HC2:Hid (∀ g,u6.ownBlock = some g -> Cl noU ((w1.alloc (.cells #[.bool n1,.slice o1 l1 c1,.int .i64 e1] 46)).alloc (.cells #[.bool n1,.slice o1 l1 c1,.int .i64 e1] 46)) g):=fun g hg=>((HO.out.cl g hg).later B1.out).later (((Below.refl _ w1).alloc (Nat.le_refl _) _).alloc (by simp only [alloc_size];omega) _)
     go_wp2_with (first
      | (at_builtin;refine append_clJ noU Tryz.underlying27 Tryz.infoNumJ rfl (by decide) (by decide) zero_noU _ (by rfl) _ _ (by rfl) w.heap.size _ k xs (by rfl) (World.ownsRow.alloc (World.ownsRow.alloc HX2.out _) _) HC2.out ⟨w1.heap.size + 1,0,none⟩ 1 1 [.bool n1,.slice o1 l1 c1,.int .i64 e1] (by rfl) (by decide) rfl (news_threeJ (heap_at _ _ (w1.heap.size + 1) (by simp only [alloc_size]))) (three_one n1 o1 l1 c1 e1) (three_noU n1 o1 l1 c1 e1) (by omega) (by simp only [alloc_size];omega) ?_;intro v5 w5 o5 g5 cl5))
     have A1:Below w1.heap.size w1 ((w1.alloc (.cells #[.bool n1,.slice o1 l1 c1,.int .i64 e1] 46)).alloc (.cells #[.bool n1,.slice o1 l1 c1,.int .i64 e1] 46)):=((Below.refl _ w1).alloc (Nat.le_refl _) _).alloc (by simp only [alloc_size];omega) _
     have R5:Hid (RowN w5 w.heap.size v5 E (us.take k ++ [x])):=by
      have hz:=N1.out.2 HF.out
      have h3:=(HO.out.later B1.out).later A1
      obtain ⟨xs',hx',hj'⟩:=h3.own
      refine RowN.push (xs:=xs) (by rw [hxl];exact World.ownsRow.alloc (World.ownsRow.alloc HX2.out _) _) (fun j hj=>?_) HC2.out (hz ▸ N1.out.1.later A1) (by rw [hxl];exact o5) g5 cl5
      obtain ⟨n2,o2,l2,c2,e2,a1,a2,a3,a4⟩:=HXJ.out j hj
      exact ⟨n2,o2,l2,c2,e2,a1,a2,a3,a4.later A1⟩
     have B5:Hid (Below w.heap.size w w5):=(to_call (to_call HB.out B1.out) A1).trans (g5.below (fun k hk=>(World.ownsRow.lt HX2.out k hk).1) (by simp only [alloc_size];omega))
     clear o5 g5 cl5 A1 HC2 HX2 HXO HXJ
     go_roundg g
     case measure=>omega
     case rel=>exact ⟨k + 1,by go_num,by have:=HIG.out;omega,by unfold Hid;rw [HTS.out];exact R5.out,B5,by unfold Hid;rw [HD.out,HDS.out,Bool.true_and]⟩
    ·have hfd:decide (Fin x) = false:=decide_eq_false hf
     rw [hfd] at HDS ⊢
     have HN0:Hid (nn = false):=by unfold Hid;rw [HD.out,HDS.out,Bool.false_and]
     have HB9:Hid (Below w.heap.size w (w1.alloc (.cells #[.bool n1,.slice o1 l1 c1,.int .i64 e1] 46))):=(to_call HB.out B1.out).alloc (to_call HB.out B1.out).size _
     clear hf hfd
     go_wp2_with fail
     refine bodyPost_ret (results_tmp2 rfl _ _ _) rfl ?_
     exact ⟨⟨_,by rw [HN0.out];rfl,fun h=>by rw [HN0.out] at h;cases h⟩,HB9.out⟩
   ·have hd:decide ((k:Int) < (len:Int)) = false:=decide_eq_false (by omega)
    have HO2:Hid (RowN wr w.heap.size u6 E us):=by
     have:=HO.out
     rw [List.take_of_length_le (by rw [HLN.out];omega)] at this
     exact this
    have HN1:Hid (nn = true):=by unfold Hid;rw [HD.out,List.drop_eq_nil_of_le (by rw [HLN.out];omega)];rfl
    go_wp2_with fail
    refine bodyPost_ret (results_tmp2 rfl _ _ _) rfl ?_
    exact ⟨⟨_,by rw [HN1.out];rfl,fun _=>HO2.out⟩,HB.out⟩
 ·have HE:Hid (numN us n = false):=by unfold Hid numN;rw [hln,decide_eq_false hn,Bool.false_and]
  have hb:((len:Int) != n) = true:=by simpa using hn
  have hb2:((len:Int) == n) = false:=by simpa using hn
  go_enter Tryz.func16,Tryz.ntmps16
  go_wp2_with fail
  refine bodyPost_ret (results_tmp2 rfl _ _ _) rfl ?_
  exact ⟨⟨_,by rw [HE.out];rfl,fun h=>by rw [HE.out] at h;cases h⟩,Below.refl _ _⟩
theorem NumC.grw {w w':World} {v v' y:Value} {s:Nat} {T z:Int} (h:NumC w y s T z) (hg:Grw w w' v.ownBlock v'.ownBlock) (hcl:∀ g,v.ownBlock = some g -> Cl noU w g):NumC w' y s T z:=by
 cases hv:v.ownBlock with
 | none=>exact h.later ⟨hg.by'.os,hg.by'.tape,hg.by'.output,hg.by'.size,fun k hk=>hg.by'.block k hk (by rw [hv];simp)⟩
 | some g=>exact h.cl (hcl g hv) fun b hb hlt=>hg.by'.block b hlt (by rw [hv];intro e;cases e;exact hb rfl)
theorem Cl.same {p:Value -> Bool} {w w':World} {g:Nat} (h:Cl p w g) (hb:w'.heap[g]? = w.heap[g]?):Cl p w' g:=by
 obtain ⟨cur,t,h1,h2⟩:=h
 exact ⟨cur,t,hb.trans h1,h2⟩
theorem RowN.grw {w w':World} {base base' E size n:Nat} {t:TypeId} {u v v':Value} {us:List Nat} {xs:List Value} (h:RowN w base u E us) (ht:t ≠ 46) (ho:w.ownsRow base' t size v n xs) (hg:Grw w w' v.ownBlock v'.ownBlock) (hcl:∀ g,v.ownBlock = some g -> Cl noU w g):RowN w' base u E us:=by
 obtain ⟨ys,h1,h2⟩:=h.own
 have hk:=grw_types ho hg
 refine ⟨⟨ys,owns_keepT h1 fun k cur hc=>hk k cur _ (fun e=>ht e.symm) hc,fun j hj=>?_⟩,fun g hgu=>?_⟩
 ·obtain ⟨a,b,c,d,e,a1,a2,a3,a4⟩:=h2 j hj
  exact ⟨a,b,c,d,e,a1,a2,a3,a4.grw hg hcl⟩
 ·obtain ⟨cur,hc⟩:=owns_type h1 hgu
  exact (h.cl g hgu).same (hk g cur _ (fun e=>ht e.symm) hc)
theorem RowN.box {w w':World} {base E B:Nat} {t:TypeId} {cur:Array Value} {u:Value} {us:List Nat} (h:RowN w base u E us) (ht:t ≠ 46) (hB:w.heap[B]? = some (.cells cur t)) (hcl:Cl noU w B) (hk:∀ k,k ≠ B -> w'.heap[k]? = w.heap[k]?):RowN w' base u E us:=by
 obtain ⟨ys,h1,h2⟩:=h.own
 have hne:∀ (k:Nat) (c:Array Value),w.heap[k]? = some (.cells c 46) -> w'.heap[k]? = w.heap[k]?:=fun k c hc=>hk k (by rintro rfl;rw [hB] at hc;cases hc;exact ht rfl)
 refine ⟨⟨ys,owns_keepT h1 hne,fun j hj=>?_⟩,fun g hgu=>?_⟩
 ·obtain ⟨a,b,c,d,e,a1,a2,a3,a4⟩:=h2 j hj
  exact ⟨a,b,c,d,e,a1,a2,a3,a4.cl hcl fun b hb _=>hk b hb⟩
 ·obtain ⟨cur',hc⟩:=owns_type h1 hgu
  exact (h.cl g hgu).same (hne g cur' hc)
structure RlS (w:World) (base E:Nat) (cs rs:List Nat) (ids:List Int) (gs:List (List Nat)) (vc vr vi vg:Value) (gl:List Value):Prop where
 c:RowN w base vc E cs
 r:RowN w base vr E rs
 i:w.ownsRow base 3 1 vi ids.length (ids.map (Value.int .i64))
 icl:∀ g,vi.ownBlock = some g -> Cl noU w g
 g:w.ownsRow base 27 1 vg gl.length gl
 gcl:∀ g,vg.ownBlock = some g -> Cl noU w g
 len:gl.length = gs.length
 col:∀ (j:Nat) (u:Value),gl[j]? = some u -> RowN w base u E (gs[j]?.getD [])
theorem RlS.later {w w':World} {base E:Nat} {cs rs:List Nat} {ids:List Int} {gs:List (List Nat)} {vc vr vi vg:Value} {gl:List Value} (h:RlS w base E cs rs ids gs vc vr vi vg gl) (hb:Below w.heap.size w w'):RlS w' base E cs rs ids gs vc vr vi vg gl:=
 ⟨h.c.later hb,h.r.later hb,owns_keepT h.i fun k cur hc=>hb.block k (blk_lt hc),fun g hg=>(h.icl g hg).later hb,owns_keepT h.g fun k cur hc=>hb.block k (blk_lt hc),fun g hg=>(h.gcl g hg).later hb,h.len,fun j u hj=>(h.col j u hj).later hb⟩
theorem RlS.box {w w':World} {base E B:Nat} {t:TypeId} {cur:Array Value} {cs rs:List Nat} {ids:List Int} {gs:List (List Nat)} {vc vr vi vg:Value} {gl:List Value} (h:RlS w base E cs rs ids gs vc vr vi vg gl) (h1:t ≠ 46) (h2:t ≠ 3) (h3:t ≠ 27) (hB:w.heap[B]? = some (.cells cur t)) (hcl:Cl noU w B) (hk:∀ k,k ≠ B -> w'.heap[k]? = w.heap[k]?):RlS w' base E cs rs ids gs vc vr vi vg gl:=by
 have ki:∀ (k:Nat) (c:Array Value),w.heap[k]? = some (.cells c 3) -> w'.heap[k]? = w.heap[k]?:=fun k c hc=>hk k (by rintro rfl;rw [hB] at hc;cases hc;exact h2 rfl)
 have kg:∀ (k:Nat) (c:Array Value),w.heap[k]? = some (.cells c 27) -> w'.heap[k]? = w.heap[k]?:=fun k c hc=>hk k (by rintro rfl;rw [hB] at hc;cases hc;exact h3 rfl)
 exact ⟨h.c.box h1 hB hcl hk,h.r.box h1 hB hcl hk,owns_keepT h.i ki,fun g hg=>by obtain ⟨c,hc⟩:=owns_type h.i hg;exact (h.icl g hg).same (ki g c hc),owns_keepT h.g kg,fun g hg=>by obtain ⟨c,hc⟩:=owns_type h.g hg;exact (h.gcl g hg).same (kg g c hc),h.len,fun j u hj=>(h.col j u hj).box h1 hB hcl hk⟩
theorem RlS.pushI {w w':World} {base E:Nat} {cs rs:List Nat} {ids is:List Int} {gs:List (List Nat)} {vc vr vi vg vi':Value} {gl:List Value} (h:RlS w base E cs rs ids gs vc vr vi vg gl) (hg:Grw w w' vi.ownBlock vi'.ownBlock) (ho:w'.ownsRow base 3 1 vi' is.length (is.map (Value.int .i64))) (hcl:∀ g,vi'.ownBlock = some g -> Cl noU w' g):RlS w' base E cs rs is gs vc vr vi' vg gl:=by
 have hk:=grw_types h.i hg
 exact ⟨h.c.grw (by decide) h.i hg h.icl,h.r.grw (by decide) h.i hg h.icl,ho,hcl,owns_keepT h.g fun k cur hc=>hk k cur _ (by decide) hc,fun g hgg=>by obtain ⟨c,hc⟩:=owns_type h.g hgg;exact (h.gcl g hgg).same (hk g c _ (by decide) hc),h.len,fun j u hj=>(h.col j u hj).grw (by decide) h.i hg h.icl⟩
theorem RlS.pushG {w w':World} {base E:Nat} {cs rs us:List Nat} {ids:List Int} {gs:List (List Nat)} {vc vr vi vg vg' v:Value} {gl:List Value} (h:RlS w base E cs rs ids gs vc vr vi vg gl) (hg:Grw w w' vg.ownBlock vg'.ownBlock) (ho:w'.ownsRow base 27 1 vg' (gl.length + 1) (gl ++ [v])) (hcl:∀ g,vg'.ownBlock = some g -> Cl noU w' g) (hv:RowN w base v E us):RlS w' base E cs rs ids (gs ++ [us]) vc vr vi vg' (gl ++ [v]):=by
 have hk:=grw_types h.g hg
 refine ⟨h.c.grw (by decide) h.g hg h.gcl,h.r.grw (by decide) h.g hg h.gcl,owns_keepT h.i fun k cur hc=>hk k cur _ (by decide) hc,fun g hgg=>by obtain ⟨c,hc⟩:=owns_type h.i hgg;exact (h.icl g hgg).same (hk g c _ (by decide) hc),by simpa using ho,hcl,by simp [h.len],fun j u hj=>?_⟩
 by_cases e:j < gl.length
 ·rw [List.getElem?_append_left e] at hj
  rw [List.getElem?_append_left (by rw [<- h.len];exact e)]
  exact (h.col j u hj).grw (by decide) h.g hg h.gcl
 ·have hl:=(List.getElem?_eq_some_iff.1 hj).1
  have ej:j = gl.length:=by simp at hl;omega
  subst ej
  rw [List.getElem?_append_right (Nat.le_refl _),Nat.sub_self,List.getElem?_cons_zero] at hj
  cases hj
  rw [List.getElem?_append_right (by rw [h.len];exact Nat.le_refl _),h.len,Nat.sub_self,List.getElem?_cons_zero]
  exact hv.grw (by decide) h.g hg h.gcl
theorem RowN.at {w:World} {base E:Nat} {v:Value} {us:List Nat} (h:RowN w base v E us) {k:Nat} (hk:k < us.length):∃ b cap,v = .slice (some ⟨b,0,none⟩) us.length cap /\ ∃ n o l c e,w.cell? ⟨b,k * 3,none⟩ = some (.bool n) /\ w.cell? ⟨b,k * 3 + 1,none⟩ = some (.slice o l c) /\ w.cell? ⟨b,k * 3 + 2,none⟩ = some (.int .i64 e) /\ NumC w (.agg #[.bool n,.slice o l c,.int .i64 e]) E 1024 (fval (us[k]?.getD 0)):=by
 obtain ⟨xs,h1,h2⟩:=h.own
 obtain ⟨n,o,l,c,e,a1,a2,a3,a4⟩:=h2 k hk
 have h1':=h1
 rcases h1.2 with ⟨_,h0⟩ | ⟨g,cap,cur,rfl,_⟩
 ·omega
 ·refine ⟨g,cap,rfl,n,o,l,c,e,?_,?_,?_,a4⟩
  ·rw [World.ownsRow.cellAt h1' (k * 3) (by omega)];exact a1
  ·rw [World.ownsRow.cellAt h1' (k * 3 + 1) (by omega)];exact a2
  ·rw [World.ownsRow.cellAt h1' (k * 3 + 2) (by omega)];exact a3
theorem RowN.form {w:World} {base E:Nat} {v:Value} {us:List Nat} (h:RowN w base v E us):∃ ao cap,v = .slice ao us.length cap:=by
 obtain ⟨xs,h1,h2⟩:=h.own
 rcases h1.2 with ⟨rfl,h0⟩ | ⟨g,cap,cur,rfl,_⟩
 ·exact ⟨none,0,by rw [h0]⟩
 ·exact ⟨_,cap,rfl⟩
theorem signF_any (v:Value) (E:Nat) (u:Nat) (w:World) (h:NumC w v E 1024 (fval u)):Calls Tryz.prog 17 #[v] w fun e' w'=>(∃ s:Int,e' = .returned (.int .i64 s) /\ -1 <= s /\ s <= 1 /\ (s < 0 ↔ srung u < 0) /\ (s = 0 ↔ srung u = 0)) /\ Below w.heap.size w w':=by
 obtain ⟨neg,m,e,h1,h2,h3,h4,_⟩:=h
 refine Calls.mono (sign_any v neg m e w h1) ?_
 rintro e' w' ⟨rfl,hb⟩
 refine ⟨⟨_,rfl,?_⟩,hb⟩
 have hz0:srung 0 = 0:=by decide
 have hpow:(0:Int) < ((2 ^ (e + E).toNat:Nat):Int):=by have:=Nat.two_pow_pos (e + E).toNat;omega
 have hneg:=srung_neg u
 have hpos:=srung_pos u
 rw [<- h4] at hneg hpos
 unfold zv sv at hneg hpos
 by_cases hm:m = 0
 ·subst hm
  simp at hneg hpos
  simp
  omega
 ·have hm':(0:Int) < (m:Int):=by omega
  rw [if_neg hm]
  cases neg
  ·have hp:(0:Int) < (m:Int) * ((2 ^ (e + E).toNat:Nat):Int):=Int.mul_pos hm' hpow
   simp only [Bool.false_eq_true,if_false] at hneg hpos ⊢
   have:=hpos.2 hp
   omega
  ·have hp:(-(m:Int)) * ((2 ^ (e + E).toNat:Nat):Int) < 0:=Int.mul_neg_of_neg_of_pos (by omega) hpow
   simp only [if_true] at hneg hpos ⊢
   have:=hneg.2 hp
   omega
theorem Tryz.infoRl:(Tryz.prog.info? 30).map (·.size) = some 5:=by kernel_rfl
theorem Tryz.szNs:(Tryz.prog.info? 27).map (·.size) = some 1:=by kernel_rfl
theorem Tryz.szNss:(Tryz.prog.info? 28).map (·.size) = some 1:=by kernel_rfl
theorem oneRl (N:Int) (a b c d:Value) (h1:a.oneCell' = true) (h2:b.oneCell' = true) (h3:c.oneCell' = true) (h4:d.oneCell' = true):(#[.int .i64 N,a,b,c,d]:Array Value).all (·.oneCell') = true:=by
 simp only [Array.all_eq_true_iff_forall_mem]
 intro v hv
 simp only [List.mem_toArray,List.mem_cons,List.not_mem_nil,or_false] at hv
 rcases hv with rfl | rfl | rfl | rfl | rfl <;> first | rfl | assumption
theorem reals_no (u:ZD) (E:Nat) (w:World) (h:u.bad = true \/ u.N < 1 \/ 256 < u.N \/ u.dn ≠ u.gn) (hmi:u.dn <= 1050000) (hmg:u.gn <= 1050000) :
  Calls Tryz.prog 4 #[.agg (zRow u)] w fun e w'=>(∃ N' a1 l1 c1 a2 l2 c2 a3 l3 c3 a4 l4 c4,e = .returned (.tuple #[.agg #[.int .i64 N',.slice a1 l1 c1,.slice a2 l2 c2,.slice a3 l3 c3,.slice a4 l4 c4],.bool (!u.bad && wholeB u)]) /\ ((!u.bad && wholeB u) = true -> N' = u.N /\ ∃ gl,RlS w' w.heap.size E u.cs u.rs u.ids u.gs (.slice a1 l1 c1) (.slice a4 l4 c4) (.slice a2 l2 c2) (.slice a3 l3 c3) gl)) /\ Below w.heap.size w w':=by
 have HF:Hid ((!u.bad && wholeB u) = false):=by
  unfold Hid wholeB
  rcases h with h | h | h | h
  ·rw [h];rfl
  ·rw [decide_eq_false (p:=1 <= u.N) (by omega)];simp
  ·rw [decide_eq_false (p:=u.N <= 256) (by omega)];simp
  ·rw [decide_eq_false h];simp
 obtain ⟨okv,hok⟩:∃ okv,(!u.bad && wholeB u) = okv:=⟨_,rfl⟩
 rw [hok] at HF ⊢
 clear hok
 obtain ⟨N,co,cn,cc,io,dn,dc,go,gn,gc,ro,rn,rc,bad,cs,ids,gv,gs,rs⟩:=u
 unfold zRow
 dsimp only at h hmi hmg ⊢
 have X0:Below w.heap.size w ((w.alloc (.cells #[.int .i64 N,.slice co cn cc,.slice io dn dc,.slice go gn gc,.slice ro rn rc,.bool bad] 36)).alloc (.cells #[.int .i64 0,.slice none 0 0,.slice none 0 0,.slice none 0 0,.slice none 0 0] 30)):=((Below.refl _ w).alloc (Nat.le_refl _) _).alloc (by simp only [alloc_size];omega) _
 have Y0:((w.alloc (.cells #[.int .i64 N,.slice co cn cc,.slice io dn dc,.slice go gn gc,.slice ro rn rc,.bool bad] 36)).alloc (.cells #[.int .i64 0,.slice none 0 0,.slice none 0 0,.slice none 0 0,.slice none 0 0] 30)).heap[w.heap.size]? = some (.cells #[.int .i64 N,.slice co cn cc,.slice io dn dc,.slice go gn gc,.slice ro rn rc,.bool bad] 36):=alloc_kept (heap_alloc_new w _) _
 have Y1:((w.alloc (.cells #[.int .i64 N,.slice co cn cc,.slice io dn dc,.slice go gn gc,.slice ro rn rc,.bool bad] 36)).alloc (.cells #[.int .i64 0,.slice none 0 0,.slice none 0 0,.slice none 0 0,.slice none 0 0] 30)).heap[w.heap.size + 1]? = some (.cells #[.int .i64 0,.slice none 0 0,.slice none 0 0,.slice none 0 0,.slice none 0 0] 30):=heap_at _ _ (w.heap.size + 1) (by simp only [alloc_size])
 have HK:Hid _:=And.intro X0 Y1
 have H':Hid _:=h
 clear X0 Y0 Y1 h
 cases bad
 case true=>
  go_enter Tryz.func4,Tryz.ntmps4
  go_wp2_with (first | (refine wpList_store_row (by rfl) 30 _ _ (by rfl) w w.heap.size (w.heap.size + 1) #[.int .i64 0,.slice none 0 0,.slice none 0 0,.slice none 0 0,.slice none 0 0] _ (by rfl) (by rfl) HK.out.2 HK.out.1 (Nat.le_succ _) 5 Tryz.infoRl (by rfl) (by rfl) (oneRl _ _ _ _ _ rfl rfl rfl rfl) ?_;intro W9 e9 b9 s9 o9))
  refine bodyPost_ret (res_ctJ _ 2 3 30 (by kernel_rfl) _ _ (w.heap.size + 1) _ _ (by rfl) (by rfl) _ Tryz.underlying30 rfl 5 Tryz.infoRl rfl e9) rfl ?_
  exact ⟨⟨0,none,0,0,none,0,0,none,0,0,none,0,0,by rw [HF.out];rfl,fun h=>by rw [HF.out] at h;cases h⟩,b9⟩
 case false=>
 by_cases h1:N < 1
 ·have d1:decide (N < 1) = true:=decide_eq_true h1
  clear h1
  go_enter Tryz.func4,Tryz.ntmps4
  go_wp2_with (first | (refine wpList_store_row (by rfl) 30 _ _ (by rfl) w w.heap.size (w.heap.size + 1) #[.int .i64 0,.slice none 0 0,.slice none 0 0,.slice none 0 0,.slice none 0 0] _ (by rfl) (by rfl) HK.out.2 HK.out.1 (Nat.le_succ _) 5 Tryz.infoRl (by rfl) (by rfl) (oneRl _ _ _ _ _ rfl rfl rfl rfl) ?_;intro W9 e9 b9 s9 o9))
  refine bodyPost_ret (res_ctJ _ 2 3 30 (by kernel_rfl) _ _ (w.heap.size + 1) _ _ (by rfl) (by rfl) _ Tryz.underlying30 rfl 5 Tryz.infoRl rfl e9) rfl ?_
  exact ⟨⟨0,none,0,0,none,0,0,none,0,0,none,0,0,by rw [HF.out];rfl,fun h=>by rw [HF.out] at h;cases h⟩,b9⟩
 have d1:decide (N < 1) = false:=decide_eq_false h1
 by_cases h2:256 < N
 ·have d2:decide (256 < N) = true:=decide_eq_true h2
  clear h1 h2
  go_enter Tryz.func4,Tryz.ntmps4
  go_wp2_with (first | (refine wpList_store_row (by rfl) 30 _ _ (by rfl) w w.heap.size (w.heap.size + 1) #[.int .i64 0,.slice none 0 0,.slice none 0 0,.slice none 0 0,.slice none 0 0] _ (by rfl) (by rfl) HK.out.2 HK.out.1 (Nat.le_succ _) 5 Tryz.infoRl (by rfl) (by rfl) (oneRl _ _ _ _ _ rfl rfl rfl rfl) ?_;intro W9 e9 b9 s9 o9))
  refine bodyPost_ret (res_ctJ _ 2 3 30 (by kernel_rfl) _ _ (w.heap.size + 1) _ _ (by rfl) (by rfl) _ Tryz.underlying30 rfl 5 Tryz.infoRl rfl e9) rfl ?_
  exact ⟨⟨0,none,0,0,none,0,0,none,0,0,none,0,0,by rw [HF.out];rfl,fun h=>by rw [HF.out] at h;cases h⟩,b9⟩
 have d2:decide (256 < N) = false:=decide_eq_false h2
 have hne:dn ≠ gn:=by
  rcases H'.out with h | h | h | h
  ·cases h
  ·omega
  ·omega
  ·exact h
 have d3:((dn:Int) != (gn:Int)) = true:=by simp;omega
 have d4:((dn:Int) == (gn:Int)) = false:=by simp;omega
 have d5:(dn == gn) = false:=by simpa using hne
 clear h1 h2
 go_enter Tryz.func4,Tryz.ntmps4
 go_wp2_with (first | (refine wpList_store_row (by rfl) 30 _ _ (by rfl) w w.heap.size (w.heap.size + 1) #[.int .i64 0,.slice none 0 0,.slice none 0 0,.slice none 0 0,.slice none 0 0] _ (by rfl) (by rfl) HK.out.2 HK.out.1 (Nat.le_succ _) 5 Tryz.infoRl (by rfl) (by rfl) (oneRl _ _ _ _ _ rfl rfl rfl rfl) ?_;intro W9 e9 b9 s9 o9))
 refine bodyPost_ret (res_ctJ _ 2 3 30 (by kernel_rfl) _ _ (w.heap.size + 1) _ _ (by rfl) (by rfl) _ Tryz.underlying30 rfl 5 Tryz.infoRl rfl e9) rfl ?_
 exact ⟨⟨0,none,0,0,none,0,0,none,0,0,none,0,0,by rw [HF.out];rfl,fun h=>by rw [HF.out] at h;cases h⟩,b9⟩
theorem rl_cl {w:World} {D:Nat} {N:Int} {a b c d:Value} (ha:noU a = true) (hb:noU b = true) (hc:noU c = true) (hd:noU d = true) (h:w.heap[D]? = some (.cells #[.int .i64 N,a,b,c,d] 30)):Cl noU w D:=by
 refine ⟨_,_,h,fun i v hv=>?_⟩
 match i,hv with
 | 0,hv=>cases hv;rfl
 | 1,hv=>cases hv;exact ha
 | 2,hv=>cases hv;exact hb
 | 3,hv=>cases hv;exact hc
 | 4,hv=>cases hv;exact hd
theorem own_noU {w:World} {E:TypeId} {base size n:Nat} {v:Value} {xs:List Value} (h:w.ownsRow base E size v n xs):noU v = true:=by
 rcases h.2 with ⟨rfl,_⟩ | ⟨g,cap,cur,rfl,_⟩ <;> rfl
theorem rdGu_at {w:World} {b off len cap:Nat} {gv:Nat -> Option Addr × Nat × Nat} {gs:List (List Nat)} (h:RdGu w (some ⟨b,off,none⟩) len cap gv gs) {k:Nat} (hk:k < len):w.cell? ⟨b,off + k,none⟩ = some (.slice (gv k).1 (gv k).2.1 (gv k).2.2):=by
 rcases h.cells with h0 | ⟨b',off',e,hc⟩
 ·omega
 ·cases e
  exact hc k hk
theorem dec2_false {p q:Prop} [Decidable p] [Decidable q] (h:¬ (p /\ q)):(decide p && decide q) = false:=by
 by_cases hp:p
 ·have hq:¬ q:=fun hq=>h ⟨hp,hq⟩
  rw [decide_eq_false hq,Bool.and_false]
 ·rw [decide_eq_false hp,Bool.false_and]
theorem Tryz.infoNsJ:(Tryz.prog.info? 27).map (fun i=>(i.zero,i.size,i.bytes)) = some (some (.slice none 0 0),1,24):=by kernel_rfl
theorem take_snocI {us:List Int} {k:Nat} (h:k < us.length):us.take (k + 1) = us.take k ++ [us[k]?.getD 0]:=by
 rw [List.take_succ_eq_append_getElem h,List.getElem?_eq_getElem h];rfl
theorem lastZ_ge (z:ZD):∀ k,k <= z.dn -> colsB z (-1) (uptoZ z k) = true -> -1 <= lastZ z (-1) (uptoZ z k)
 | 0,_,_=>Int.le_refl _
 | k + 1,hk,h=>by
  rw [uptoZ_succ z k (by omega),colsB_snoc,Bool.and_eq_true] at h
  have ih:=lastZ_ge z k (by omega) h.1
  rw [uptoZ_succ z k (by omega),lastZ_snoc]
  have h2:=h.2
  unfold colOk at h2
  simp only [Bool.and_eq_true,decide_eq_true_eq] at h2
  omega
theorem lastZ_at (z:ZD) (k:Nat) (hk:k <= z.dn):(k = 0 -> lastZ z (-1) (uptoZ z k) = -1) /\ (0 < k -> lastZ z (-1) (uptoZ z k) = z.ids[k - 1]?.getD 0):=by
 refine ⟨fun h=>by subst h;rfl,fun h=>?_⟩
 obtain ⟨j,rfl⟩:∃ j,k = j + 1:=⟨k - 1,by omega⟩
 rw [uptoZ_succ z j (by omega),lastZ_snoc]
 rfl
theorem reals_yes (n:Nat) (co:Option Addr) (cn cc:Nat) (io:Option Addr) (dn dc:Nat) (go:Option Addr) (gc:Nat) (ro:Option Addr) (rn rc:Nat) (cs:List Nat) (ids:List Int) (gv:Nat -> Option Addr × Nat × Nat) (gs:List (List Nat)) (rs:List Nat) (E:Nat) (hE:E = 1074) (w:World) (hu:ZU w ⟨(n:Int),co,cn,cc,io,dn,dc,go,dn,gc,ro,rn,rc,false,cs,ids,gv,gs,rs⟩) (hn:1 <= n /\ n <= 256)
  (hcl:cn <= 1050000) (hrl:rn <= 1050000) (hil:dn <= 1050000) (hll:∀ k,k < dn -> (gv k).2.1 <= 1050000) (hc64:∀ x ∈ cs,x < 18446744073709551616) (hr64:∀ x ∈ rs,x < 18446744073709551616) (hg64:∀ l ∈ gs,∀ x ∈ l,x < 18446744073709551616) :
  Calls Tryz.prog 4 #[.agg #[.int .i64 (n:Int),.slice co cn cc,.slice io dn dc,.slice go dn gc,.slice ro rn rc,.bool false]] w fun e w'=>(∃ N' a1 l1 c1 a2 l2 c2 a3 l3 c3 a4 l4 c4,e = .returned (.tuple #[.agg #[.int .i64 N',.slice a1 l1 c1,.slice a2 l2 c2,.slice a3 l3 c3,.slice a4 l4 c4],.bool (wholeB ⟨(n:Int),co,cn,cc,io,dn,dc,go,dn,gc,ro,rn,rc,false,cs,ids,gv,gs,rs⟩)]) /\ ((wholeB ⟨(n:Int),co,cn,cc,io,dn,dc,go,dn,gc,ro,rn,rc,false,cs,ids,gv,gs,rs⟩) = true -> N' = (n:Int) /\ ∃ gl,RlS w' w.heap.size E cs rs ids gs (.slice a1 l1 c1) (.slice a4 l4 c4) (.slice a2 l2 c2) (.slice a3 l3 c3) gl)) /\ Below w.heap.size w w':=by
 have HU:Hid (∀ W',Below w.heap.size w W' -> ZU W' ⟨(n:Int),co,cn,cc,io,dn,dc,go,dn,gc,ro,rn,rc,false,cs,ids,gv,gs,rs⟩):=fun W' hb=>hu.later hb
 have HNC:Hid (∀ W',Below w.heap.size w W' -> _):=fun W' hb=>numbers10_any co cn cc cs (n:Int) E hE W' (hu.later hb).c hc64 hcl
 have HNR:Hid (∀ W',Below w.heap.size w W' -> _):=fun W' hb=>numbers10_any ro rn rc rs (n:Int) E hE W' (hu.later hb).r hr64 hrl
 have HNG:Hid (∀ k,k < dn -> ∀ W',Below w.heap.size w W' -> _):=fun k hk W' hb=>numbers10_any (gv k).1 (gv k).2.1 (gv k).2.2 (gs[k]?.getD []) (n:Int) E hE W' ((hu.later hb).g.each k hk) (fun x hx=>hg64 _ (by have:=hu.g.length;rw [List.getElem?_eq_getElem (by dsimp only at this;omega)];exact List.getElem_mem _) x hx) (hll k hk)
 have HW:Hid (wholeB ⟨(n:Int),co,cn,cc,io,dn,dc,go,dn,gc,ro,rn,rc,false,cs,ids,gv,gs,rs⟩ = (numN cs (n:Int) && numN rs (n:Int) && posB rs && colsB ⟨(n:Int),co,cn,cc,io,dn,dc,go,dn,gc,ro,rn,rc,false,cs,ids,gv,gs,rs⟩ (-1) (List.finRange dn))):=by
  unfold Hid wholeB
  dsimp only
  rw [decide_eq_true (p:=1 <= (n:Int)) (by omega),decide_eq_true (p:=(n:Int) <= 256) (by omega),decide_eq_true (p:=dn = dn) rfl]
  simp only [Bool.true_and,Bool.and_true]
 obtain ⟨okv,hok⟩:∃ okv,wholeB ⟨(n:Int),co,cn,cc,io,dn,dc,go,dn,gc,ro,rn,rc,false,cs,ids,gv,gs,rs⟩ = okv:=⟨_,rfl⟩
 rw [hok] at HW ⊢
 obtain ⟨cb,hcb⟩:∃ cb,numN cs (n:Int) = cb:=⟨_,rfl⟩
 obtain ⟨rb,hrb⟩:∃ rb,numN rs (n:Int) = rb:=⟨_,rfl⟩
 have HNL:Hid ((cb = true -> cs.length = n) /\ (rb = true -> rs.length = n)):=⟨fun h=>by have:=(numN_fin (hcb.trans h)).1;omega,fun h=>by have:=(numN_fin (hrb.trans h)).1;omega⟩
 have HRF:Hid (rb = true -> ∀ x ∈ rs,Fin x):=fun h=>(numN_fin (hrb.trans h)).2
 rw [hcb] at HW
 rw [hrb] at HW
 have HCB:Hid _:=hcb
 have HRB:Hid _:=hrb
 have HLI:Hid (ids.length = dn /\ gs.length = dn):=⟨hu.i.length,hu.g.length⟩
 clear hok hcb hrb hu hc64 hr64 hg64 hcl hrl hll
 have d1:decide ((n:Int) < 1) = false:=decide_eq_false (by omega)
 have d1':decide (n < 1) = false:=decide_eq_false (by omega)
 have d2:decide (256 < (n:Int)) = false:=decide_eq_false (by omega)
 have d2':decide (256 < n) = false:=decide_eq_false (by omega)
 have X0:Below w.heap.size w (((w.alloc (.cells #[.int .i64 (n:Int),.slice co cn cc,.slice io dn dc,.slice go dn gc,.slice ro rn rc,.bool false] 36)).alloc (.cells #[.int .i64 0,.slice none 0 0,.slice none 0 0,.slice none 0 0,.slice none 0 0] 30)).alloc (.cells #[.int .i64 (n:Int),.slice none 0 0,.slice none 0 0,.slice none 0 0,.slice none 0 0] 30)):=(((Below.refl _ w).alloc (Nat.le_refl _) _).alloc (by simp only [alloc_size];omega) _).alloc (by simp only [alloc_size];omega) _
 have Y0:(((w.alloc (.cells #[.int .i64 (n:Int),.slice co cn cc,.slice io dn dc,.slice go dn gc,.slice ro rn rc,.bool false] 36)).alloc (.cells #[.int .i64 0,.slice none 0 0,.slice none 0 0,.slice none 0 0,.slice none 0 0] 30)).alloc (.cells #[.int .i64 (n:Int),.slice none 0 0,.slice none 0 0,.slice none 0 0,.slice none 0 0] 30)).heap[w.heap.size]? = some (.cells #[.int .i64 (n:Int),.slice co cn cc,.slice io dn dc,.slice go dn gc,.slice ro rn rc,.bool false] 36):=alloc_kept (alloc_kept (heap_alloc_new w _) _) _
 have Y1:(((w.alloc (.cells #[.int .i64 (n:Int),.slice co cn cc,.slice io dn dc,.slice go dn gc,.slice ro rn rc,.bool false] 36)).alloc (.cells #[.int .i64 0,.slice none 0 0,.slice none 0 0,.slice none 0 0,.slice none 0 0] 30)).alloc (.cells #[.int .i64 (n:Int),.slice none 0 0,.slice none 0 0,.slice none 0 0,.slice none 0 0] 30)).heap[w.heap.size + 1]? = some (.cells #[.int .i64 0,.slice none 0 0,.slice none 0 0,.slice none 0 0,.slice none 0 0] 30):=alloc_kept (heap_at _ _ (w.heap.size + 1) (by simp only [alloc_size])) _
 have Y2:(((w.alloc (.cells #[.int .i64 (n:Int),.slice co cn cc,.slice io dn dc,.slice go dn gc,.slice ro rn rc,.bool false] 36)).alloc (.cells #[.int .i64 0,.slice none 0 0,.slice none 0 0,.slice none 0 0,.slice none 0 0] 30)).alloc (.cells #[.int .i64 (n:Int),.slice none 0 0,.slice none 0 0,.slice none 0 0,.slice none 0 0] 30)).heap[w.heap.size + 1 + 1]? = some (.cells #[.int .i64 (n:Int),.slice none 0 0,.slice none 0 0,.slice none 0 0,.slice none 0 0] 30):=heap_at _ _ (w.heap.size + 1 + 1) (by simp only [alloc_size])
 go_enter Tryz.func4,Tryz.ntmps4
 go_upto_region 4 with fail
 clear d1 d1' d2 d2'
 obtain ⟨X,hX⟩:∃ X,(((w.alloc (.cells #[.int .i64 (n:Int),.slice co cn cc,.slice io dn dc,.slice go dn gc,.slice ro rn rc,.bool false] 36)).alloc (.cells #[.int .i64 0,.slice none 0 0,.slice none 0 0,.slice none 0 0,.slice none 0 0] 30)).alloc (.cells #[.int .i64 (n:Int),.slice none 0 0,.slice none 0 0,.slice none 0 0,.slice none 0 0] 30)) = X:=⟨_,rfl⟩
 rw [hX] at X0 Y0 Y1 Y2 ⊢
 clear hX
 obtain ⟨D,hD⟩:∃ D,w.heap.size + 1 + 1 = D:=⟨_,rfl⟩
 rw [hD] at Y2 ⊢
 have hDl:w.heap.size <= D:=by omega
 have hDz:w.heap.size ≠ D:=by omega
 have hD1:w.heap.size + 1 ≠ D:=by omega
 clear hD
 obtain ⟨z0,z1,z2,z3,z4,z5⟩:=cells6 Y0
 have P0:Hid ((X.heap[w.heap.size]? = some (.cells #[.int .i64 (n:Int),.slice co cn cc,.slice io dn dc,.slice go dn gc,.slice ro rn rc,.bool false] 36) /\ X.heap[w.heap.size + 1]? = some (.cells #[.int .i64 0,.slice none 0 0,.slice none 0 0,.slice none 0 0,.slice none 0 0] 30) /\ Below w.heap.size w X) /\ X.heap[D]? = some (.cells #[.int .i64 (n:Int),.slice none 0 0,.slice none 0 0,.slice none 0 0,.slice none 0 0] 30)):=⟨⟨Y0,Y1,X0⟩,Y2⟩
 clear X0 Y0 Y1 Y2
 go_upto_region 6 with (first
  | (go_at_call_of 16 (Value.slice co cn cc);refine Calls.mono (HNC.out _ P0.out.1.2.2) ?_;rintro e w1 ⟨⟨v1,rfl,r1⟩,b1⟩;rw [HCB.out] at r1 ⊢;obtain ⟨y0,y1,y2,y3,y4,y5⟩:=cells6 (kept b1 P0.out.1.1);clear z0 z1 z2 z3 z4 z5)
  | (go_at_call_of 16 (Value.slice ro rn rc);refine Calls.mono (HNR.out _ (to_call P0.out.1.2.2 b1)) ?_;rintro e w2 ⟨⟨v2,rfl,r2⟩,b2⟩;rw [HRB.out] at r2 ⊢;clear y0 y1 y2 y3 y4 y5))
 have b12:=to_call b1 b2
 have P2:Hid ((w2.heap[w.heap.size]? = some (.cells #[.int .i64 (n:Int),.slice co cn cc,.slice io dn dc,.slice go dn gc,.slice ro rn rc,.bool false] 36) /\ w2.heap[w.heap.size + 1]? = some (.cells #[.int .i64 0,.slice none 0 0,.slice none 0 0,.slice none 0 0,.slice none 0 0] 30) /\ Below w.heap.size w w2) /\ w2.heap[D]? = some (.cells #[.int .i64 (n:Int),.slice none 0 0,.slice none 0 0,.slice none 0 0,.slice none 0 0] 30)):=⟨⟨kept b12 P0.out.1.1,kept b12 P0.out.1.2.1,to_call P0.out.1.2.2 b12⟩,kept b12 P0.out.2⟩
 have R2:Hid ((cb = true -> RowN w2 w.heap.size v1 E cs) /\ (rb = true -> RowN w2 w.heap.size v2 E rs)):=⟨fun h=>((r1 h).mono P0.out.1.2.2.size).later b2,fun h=>(r2 h).mono (to_call P0.out.1.2.2 b1).size⟩
 clear P0 r1 r2 b1 b2 b12 HNC HNR HCB HRB
 cases cb
 case false=>
  have HF:Hid (okv = false):=by unfold Hid;rw [HW.out];rfl
  clear HW R2 HNG HU
  go_wp2_with (first | (refine wpList_store_row (by rfl) 30 _ _ (by rfl) w w.heap.size (w.heap.size + 1) #[.int .i64 0,.slice none 0 0,.slice none 0 0,.slice none 0 0,.slice none 0 0] _ (by rfl) (by rfl) P2.out.1.2.1 P2.out.1.2.2 (Nat.le_succ _) 5 Tryz.infoRl (by rfl) (by rfl) (oneRl _ _ _ _ _ rfl rfl rfl rfl) ?_;intro W9 e9 b9 s9 o9))
  refine bodyPost_ret (res_ctJ _ 2 3 30 (by kernel_rfl) _ _ (w.heap.size + 1) _ _ (by rfl) (by rfl) _ Tryz.underlying30 rfl 5 Tryz.infoRl rfl e9) rfl ?_
  exact ⟨⟨0,none,0,0,none,0,0,none,0,0,none,0,0,by rw [HF.out];rfl,fun h=>by rw [HF.out] at h;cases h⟩,b9⟩
 case true=>
 cases rb
 case false=>
  have HF:Hid (okv = false):=by unfold Hid;rw [HW.out];rfl
  clear HW R2 HNG HU
  go_wp2_with (first | (refine wpList_store_row (by rfl) 30 _ _ (by rfl) w w.heap.size (w.heap.size + 1) #[.int .i64 0,.slice none 0 0,.slice none 0 0,.slice none 0 0,.slice none 0 0] _ (by rfl) (by rfl) P2.out.1.2.1 P2.out.1.2.2 (Nat.le_succ _) 5 Tryz.infoRl (by rfl) (by rfl) (oneRl _ _ _ _ _ rfl rfl rfl rfl) ?_;intro W9 e9 b9 s9 o9))
  refine bodyPost_ret (res_ctJ _ 2 3 30 (by kernel_rfl) _ _ (w.heap.size + 1) _ _ (by rfl) (by rfl) _ Tryz.underlying30 rfl 5 Tryz.infoRl rfl e9) rfl ?_
  exact ⟨⟨0,none,0,0,none,0,0,none,0,0,none,0,0,by rw [HF.out];rfl,fun h=>by rw [HF.out] at h;cases h⟩,b9⟩
 case true=>
 have NC:=R2.out.1 rfl
 have NR:=R2.out.2 rfl
 have ecs:=HNL.out.1 rfl
 have ers:=HNL.out.2 rfl
 obtain ⟨vca,vcc,hv1⟩:=NC.form
 subst hv1
 obtain ⟨vrb,vrc,hv2,-⟩:=NR.at (k:=0) (by rw [ers];omega)
 subst hv2
 rw [ecs] at NC
 rw [ers] at NR
 rw [ecs,ers]
 have S2:Hid _:=And.intro NC NR
 have HLR:Hid (cs.length = n /\ rs.length = n):=⟨ecs,ers⟩
 clear NC NR R2 ecs ers HNL
 have fC:Cl noU w2 D:=rl_cl rfl rfl rfl rfl P2.out.2
 have fR:=HRF.out rfl
 go_upto_region 10 with (first
  | (refine wpList_store_at (by rfl) 27 _ _ (by rfl) w w.heap.size D 1 (.slice vca n vcc) _ #[.int .i64 (n:Int),(.slice vca n vcc),.slice none 0 0,.slice none 0 0,.slice none 0 0] 30 (by rfl) (by rfl) P2.out.2 P2.out.1.2.2 hDl 1 Tryz.szNs (by rfl) (Nat.le_of_ble_eq_true rfl) (oneI _ rfl) (by rfl) ?_;intro w3 e3 b3 s3 k3)
  | (refine wpList_store_at (by rfl) 27 _ _ (by rfl) w w.heap.size D 4 (.slice (some ⟨vrb,0,none⟩) n vrc) _ #[.int .i64 (n:Int),(.slice vca n vcc),.slice none 0 0,.slice none 0 0,(.slice (some ⟨vrb,0,none⟩) n vrc)] 30 (by rfl) (by rfl) e3 b3 hDl 1 Tryz.szNs (by rfl) (Nat.le_of_ble_eq_true rfl) (oneI _ rfl) (by rfl) ?_;intro w4 e4 b4 s4 k4))
 have kk4:∀ k,k ≠ D -> w4.heap[k]? = w2.heap[k]?:=fun k hk=>(k4 k hk).trans (k3 k hk)
 have P4:Hid ((w4.heap[w.heap.size]? = some (.cells #[.int .i64 (n:Int),.slice co cn cc,.slice io dn dc,.slice go dn gc,.slice ro rn rc,.bool false] 36) /\ w4.heap[w.heap.size + 1]? = some (.cells #[.int .i64 0,.slice none 0 0,.slice none 0 0,.slice none 0 0,.slice none 0 0] 30) /\ Below w.heap.size w w4) /\ w4.heap[D]? = some (.cells #[.int .i64 (n:Int),(.slice vca n vcc),.slice none 0 0,.slice none 0 0,(.slice (some ⟨vrb,0,none⟩) n vrc)] 30) /\ RowN w4 w.heap.size (.slice vca n vcc) E cs /\ RowN w4 w.heap.size (.slice (some ⟨vrb,0,none⟩) n vrc) E rs):=⟨⟨(kk4 _ hDz).trans P2.out.1.1,(kk4 _ hD1).trans P2.out.1.2.1,b4⟩,e4,S2.out.1.box (by decide) P2.out.2 fC kk4,S2.out.2.box (by decide) P2.out.2 fC kk4⟩
 clear P2 S2 fC kk4 e3 b3 s3 k3 e4 b4 s4 k4
 go_wp2_with fail
 go_loopg [9] n (fun g iv wx=>∃ k:Nat,iv = .int .i64 k /\ k + g = n /\ Hid ((wx.heap[w.heap.size]? = some (.cells #[.int .i64 (n:Int),.slice co cn cc,.slice io dn dc,.slice go dn gc,.slice ro rn rc,.bool false] 36) /\ wx.heap[w.heap.size + 1]? = some (.cells #[.int .i64 0,.slice none 0 0,.slice none 0 0,.slice none 0 0,.slice none 0 0] 30) /\ Below w.heap.size w wx) /\ wx.heap[D]? = some (.cells #[.int .i64 (n:Int),(.slice vca n vcc),.slice none 0 0,.slice none 0 0,(.slice (some ⟨vrb,0,none⟩) n vrc)] 30) /\ RowN wx w.heap.size (.slice vca n vcc) E cs /\ RowN wx w.heap.size (.slice (some ⟨vrb,0,none⟩) n vrc) E rs) /\ Hid (posB (rs.drop k) = posB rs))
 case atStart=>exact ⟨0,rfl,by omega,P4,rfl⟩
 case round=>
  obtain ⟨k,rfl,hk,HP,HD⟩:=hrel
  clear P4
  obtain ⟨z0,z1,z2,z3,z4,z5⟩:=cells6 HP.out.1.1
  clear z1 z2 z3 z4 z5
  by_cases hlt:k < n
  ·have hd:decide ((k:Int) < (n:Int)) = true:=decide_eq_true (by omega)
   obtain ⟨g,rfl⟩:∃ g,gk = g + 1:=⟨gk - 1,by omega⟩
   have HIG:Hid _:=hk
   have hkr:k < rs.length:=by rw [HLR.out.2];exact hlt
   obtain ⟨vb,vcap,hv,nn,no,nl,ncp,ne,c0,c1,c2,hz⟩:=HP.out.2.2.2.at hkr
   rw [HLR.out.2] at hv
   cases hv
   have HS:Hid _:=signF_any _ E _ _ hz
   have HDS:Hid _:=posB_drop rs hkr
   clear hz hk
   obtain ⟨x,hx⟩:∃ x,rs[k]?.getD 0 = x:=⟨_,rfl⟩
   rw [hx] at HS HDS
   clear hx
   by_cases hneg:srung x < 0
   ·have HF:Hid (okv = false):=by unfold Hid;rw [HW.out,<- HD.out,HDS.out,decide_eq_false (p:=¬ srung x < 0) (fun h=>h hneg)];rfl
    go_upto_region 14 with (first
     | (go_at_call 17;refine Calls.mono HS.out ?_;rintro e w5 ⟨⟨sg,rfl,s1,s2,s3,-⟩,b5⟩;have ds:decide (sg < 0) = true:=decide_eq_true (s3.2 hneg))
     )
    have q5:=to_call HP.out.1.2.2 b5
    have r5:=kept b5 HP.out.1.2.1
    clear HS HDS HD HP HW HNG HU z0 c0 c1 c2
    go_wp2_with (first | (refine wpList_store_row (by rfl) 30 _ _ (by rfl) w w.heap.size (w.heap.size + 1) #[.int .i64 0,.slice none 0 0,.slice none 0 0,.slice none 0 0,.slice none 0 0] _ (by rfl) (by rfl) r5 q5 (Nat.le_succ _) 5 Tryz.infoRl (by rfl) (by rfl) (oneRl _ _ _ _ _ rfl rfl rfl rfl) ?_;intro W9 e9 b9 s9 o9))
    refine bodyPost_ret (res_ctJ _ 2 3 30 (by kernel_rfl) _ _ (w.heap.size + 1) _ _ (by rfl) (by rfl) _ Tryz.underlying30 rfl 5 Tryz.infoRl rfl e9) rfl ?_
    exact ⟨⟨0,none,0,0,none,0,0,none,0,0,none,0,0,by rw [HF.out];rfl,fun h=>by rw [HF.out] at h;cases h⟩,b9⟩
   ·go_wp2_with (first
     | (go_at_call 17;refine Calls.mono HS.out ?_;rintro e w5 ⟨⟨sg,rfl,s1,s2,s3,-⟩,b5⟩;have ds:decide (sg < 0) = false:=decide_eq_false (fun h=>hneg (s3.1 h))))
    have P5:Hid ((w5.heap[w.heap.size]? = some (.cells #[.int .i64 (n:Int),.slice co cn cc,.slice io dn dc,.slice go dn gc,.slice ro rn rc,.bool false] 36) /\ w5.heap[w.heap.size + 1]? = some (.cells #[.int .i64 0,.slice none 0 0,.slice none 0 0,.slice none 0 0,.slice none 0 0] 30) /\ Below w.heap.size w w5) /\ w5.heap[D]? = some (.cells #[.int .i64 (n:Int),(.slice vca n vcc),.slice none 0 0,.slice none 0 0,(.slice (some ⟨vrb,0,none⟩) n vrc)] 30) /\ RowN w5 w.heap.size (.slice vca n vcc) E cs /\ RowN w5 w.heap.size (.slice (some ⟨vrb,0,none⟩) n vrc) E rs):=⟨⟨kept b5 HP.out.1.1,kept b5 HP.out.1.2.1,to_call HP.out.1.2.2 b5⟩,kept b5 HP.out.2.1,HP.out.2.2.1.later b5,HP.out.2.2.2.later b5⟩
    have HD5:Hid (posB (rs.drop (k + 1)) = posB rs):=by unfold Hid;rw [<- HD.out,HDS.out,decide_eq_true hneg,Bool.true_and]
    clear HS HDS HD HP z0 c0 c1 c2 b5 s1 s2 s3 ds
    go_roundg g
    case measure=>omega
    case rel=>exact ⟨k + 1,by go_num,by have:=HIG.out;omega,P5,HD5⟩
  ·have hd:decide ((k:Int) < (n:Int)) = false:=decide_eq_false (by omega)
   have HPR:Hid (posB rs = true):=by unfold Hid;rw [<- HD.out,List.drop_eq_nil_of_le (by rw [HLR.out.2];omega)];rfl
   have HW2:Hid (okv = colsB ⟨(n:Int),co,cn,cc,io,dn,dc,go,dn,gc,ro,rn,rc,false,cs,ids,gv,gs,rs⟩ (-1) (List.finRange dn)):=by unfold Hid;rw [HW.out,HPR.out];rfl
   clear HW HPR HD hd
   go_wp2_with fail
   clear z0
   go_loopg [10] dn (fun g iv wx=>(∃ (k:Nat) (vi vg:Value) (gl:List Value),iv = .int .i64 k /\ k + g = dn /\ Hid ((wx.heap[w.heap.size]? = some (.cells #[.int .i64 (n:Int),.slice co cn cc,.slice io dn dc,.slice go dn gc,.slice ro rn rc,.bool false] 36) /\ wx.heap[w.heap.size + 1]? = some (.cells #[.int .i64 0,.slice none 0 0,.slice none 0 0,.slice none 0 0,.slice none 0 0] 30) /\ Below w.heap.size w wx) /\ wx.heap[D]? = some (.cells #[.int .i64 (n:Int),(.slice vca n vcc),vi,vg,(.slice (some ⟨vrb,0,none⟩) n vrc)] 30) /\ RlS wx w.heap.size E cs rs (ids.take k) (gs.take k) (.slice vca n vcc) (.slice (some ⟨vrb,0,none⟩) n vrc) vi vg gl) /\ Hid (colsB ⟨(n:Int),co,cn,cc,io,dn,dc,go,dn,gc,ro,rn,rc,false,cs,ids,gv,gs,rs⟩ (-1) (uptoZ ⟨(n:Int),co,cn,cc,io,dn,dc,go,dn,gc,ro,rn,rc,false,cs,ids,gv,gs,rs⟩ k) = true)))
   case atStart=>
    exact ⟨0,.slice none 0 0,.slice none 0 0,[],rfl,by omega,⟨HP.out.1,HP.out.2.1,⟨HP.out.2.2.1,HP.out.2.2.2,World.ownsRow_nil _ _ _ _,fun g hg=>(by cases hg),World.ownsRow_nil _ _ _ _,fun g hg=>(by cases hg),rfl,fun j u hj=>(by simp at hj)⟩⟩,rfl⟩
   case round=>
    clear HP hlt hk
    obtain ⟨k,vi,vg,gl,rfl,hk,HP,HC⟩:=hrel
    obtain ⟨z0,z1,z2,z3,z4,z5⟩:=cells6 HP.out.1.1
    clear z1 z4 z5
    by_cases hlt:k < dn
    ·have hd:decide ((k:Int) < (dn:Int)) = true:=decide_eq_true (by omega)
     obtain ⟨g,rfl⟩:∃ g,gk = g + 1:=⟨gk - 1,by omega⟩
     have HIG:Hid _:=hk
     clear hk
     obtain ⟨ib,ioff,rfl⟩:∃ ib ioff,io = some ⟨ib,ioff,none⟩:=by
      rcases (HU.out wr HP.out.1.2.2).i.cells with h0 | ⟨b,off,e,_⟩
      ·exact absurd h0 (by dsimp only;omega)
      ·exact ⟨b,off,e⟩
     obtain ⟨gb,goff,rfl⟩:∃ gb goff,go = some ⟨gb,goff,none⟩:=by
      rcases (HU.out wr HP.out.1.2.2).g.cells with h0 | ⟨b,off,e,_⟩
      ·exact absurd h0 (by dsimp only;omega)
      ·exact ⟨b,off,e⟩
     have HIC:Hid (∀ W',Below w.heap.size w W' -> ∀ j,j < dn -> W'.cell? ⟨ib,ioff + j,none⟩ = some (.int .i64 (ids[j]?.getD 0))):=fun W' hb j hj=>by
      rcases (HU.out W' hb).i.cells with h0 | ⟨b,off,e,hc⟩
      ·exact absurd h0 (by dsimp only;omega)
      ·cases e
       exact hc j hj
     obtain ⟨id,hid⟩:∃ id,ids[k]?.getD 0 = id:=⟨_,rfl⟩
     have HID:Hid _:=hid
     have HIK:Hid (∀ W',Below w.heap.size w W' -> W'.cell? ⟨ib,ioff + k,none⟩ = some (.int .i64 id)):=fun W' hb=>by rw [<- hid];exact HIC.out W' hb k hlt
     have ci:=HIK.out wr HP.out.1.2.2
     obtain ⟨la,hla⟩:∃ la,lastZ ⟨(n:Int),co,cn,cc,some ⟨ib,ioff,none⟩,dn,dc,some ⟨gb,goff,none⟩,dn,gc,ro,rn,rc,false,cs,ids,gv,gs,rs⟩ (-1) (uptoZ ⟨(n:Int),co,cn,cc,some ⟨ib,ioff,none⟩,dn,dc,some ⟨gb,goff,none⟩,dn,gc,ro,rn,rc,false,cs,ids,gv,gs,rs⟩ k) = la:=⟨_,rfl⟩
     have hl1:=lastZ_ge ⟨(n:Int),co,cn,cc,some ⟨ib,ioff,none⟩,dn,dc,some ⟨gb,goff,none⟩,dn,gc,ro,rn,rc,false,cs,ids,gv,gs,rs⟩ k (by dsimp only;omega) HC.out
     have hl2:=lastZ_at ⟨(n:Int),co,cn,cc,some ⟨ib,ioff,none⟩,dn,dc,some ⟨gb,goff,none⟩,dn,gc,ro,rn,rc,false,cs,ids,gv,gs,rs⟩ k (by dsimp only;omega)
     rw [hla] at hl1 hl2
     dsimp only at hl2
     have HCS:Hid (colsB ⟨(n:Int),co,cn,cc,some ⟨ib,ioff,none⟩,dn,dc,some ⟨gb,goff,none⟩,dn,gc,ro,rn,rc,false,cs,ids,gv,gs,rs⟩ (-1) (uptoZ ⟨(n:Int),co,cn,cc,some ⟨ib,ioff,none⟩,dn,dc,some ⟨gb,goff,none⟩,dn,gc,ro,rn,rc,false,cs,ids,gv,gs,rs⟩ (k + 1)) = (decide (la < id) && decide (id <= 1073741824) && numN (gs[k]?.getD []) (n:Int))):=by
      unfold Hid
      rw [uptoZ_succ _ k hlt,colsB_snoc,HC.out,hla]
      show (true && colOk _ _ _) = _
      unfold colOk idZ
      dsimp only
      rw [hid,Bool.true_and]
     have HNF:Hid (colsB ⟨(n:Int),co,cn,cc,some ⟨ib,ioff,none⟩,dn,dc,some ⟨gb,goff,none⟩,dn,gc,ro,rn,rc,false,cs,ids,gv,gs,rs⟩ (-1) (uptoZ ⟨(n:Int),co,cn,cc,some ⟨ib,ioff,none⟩,dn,dc,some ⟨gb,goff,none⟩,dn,gc,ro,rn,rc,false,cs,ids,gv,gs,rs⟩ (k + 1)) = false -> okv = false):=fun h=>by
      rw [HW2.out]
      have e:List.finRange dn = uptoZ ⟨(n:Int),co,cn,cc,some ⟨ib,ioff,none⟩,dn,dc,some ⟨gb,goff,none⟩,dn,gc,ro,rn,rc,false,cs,ids,gv,gs,rs⟩ (k + 1) ++ (List.finRange dn).drop (k + 1):=(List.take_append_drop _ _).symm
      rw [e]
      exact colsB_append _ _ _ _ h
     clear hla hid
     go_upto_region 18 with fail
     go_cut [116] from 78 to 147 (fun c wx=>c = .bool (!(decide (la < id) && decide (id <= 1073741824))) /\ Hid (wx.heap = wr.heap /\ Below w.heap.size w wx))
     case first=>
      have hB:Below w.heap.size w wr:=HP.out.1.2.2
      by_cases h1:id < 0
      ·have e1:decide (id < 0) = true:=decide_eq_true h1
       go_quiet (fail)
       go_wp2_with fail
       go_meet
       exact ⟨by rw [decide_eq_false (p:=la < id) (by omega)];rfl,rfl,below_drewN hB _⟩
      have e1:decide (id < 0) = false:=decide_eq_false h1
      by_cases h2:1073741824 < id
      ·have e2:decide (1073741824 < id) = true:=decide_eq_true h2
       go_quiet (fail)
       go_wp2_with fail
       go_meet
       exact ⟨by rw [decide_eq_false (p:=id <= 1073741824) (by omega),Bool.and_false];rfl,rfl,below_drewN hB _⟩
      have e2:decide (1073741824 < id) = false:=decide_eq_false h2
      by_cases h3:k = 0
      ·have hla:=hl2.1 h3
       have e3:decide ((0:Int) < (k:Int)) = false:=decide_eq_false (by omega)
       have e3':decide (0 < k) = false:=decide_eq_false (by omega)
       have hk0:Hid (k = 0):=h3
       have hla':Hid _:=hla
       clear h3 hla hl2 hl1
       go_quiet (fail)
       go_wp2_with fail
       go_meet
       exact ⟨by rw [decide_eq_true (p:=la < id) (by have:=hla'.out;omega),decide_eq_true (p:=id <= 1073741824) (by omega)];rfl,rfl,below_drewN hB _⟩
      have e3:decide ((0:Int) < (k:Int)) = true:=decide_eq_true (by omega)
      have e3':decide (0 < k) = true:=decide_eq_true (by omega)
      have hla:=hl2.2 (by omega)
      have cp:=HIC.out wr hB (k - 1) (by omega)
      rw [<- hla] at cp
      obtain ⟨j,rfl⟩:∃ j,k = j + 1:=⟨k - 1,by omega⟩
      have ej:((j + 1:Nat):Int) - 1 = (j:Int):=by omega
      have hjl:j < dn:=by omega
      rw [show j + 1 - 1 = j from rfl] at cp
      clear hla hl2
      by_cases h4:id <= la
      ·have e4:decide (id <= la) = true:=decide_eq_true h4
       go_quiet (fail)
       go_wp2_with fail
       go_meet
       exact ⟨by rw [decide_eq_false (p:=la < id) (by omega)];rfl,rfl,below_drewN hB _⟩
      ·have e4:decide (id <= la) = false:=decide_eq_false h4
       go_quiet (fail)
       go_wp2_with fail
       go_meet
       exact ⟨by rw [decide_eq_true (p:=la < id) (by omega),decide_eq_true (p:=id <= 1073741824) (by omega)];rfl,rfl,below_drewN hB _⟩
     case rest=>
      obtain ⟨rfl,HWC⟩:=hcut
      have Bw:Below wr.heap.size wr wc:=⟨HWC.out.2.os.trans HP.out.1.2.2.os.symm,HWC.out.2.tape.trans HP.out.1.2.2.tape.symm,HWC.out.2.output.trans HP.out.1.2.2.output.symm,by rw [HWC.out.1];exact Nat.le_refl _,fun k _=>by rw [HWC.out.1]⟩
      have PW:Hid ((wc.heap[w.heap.size]? = some (.cells #[.int .i64 (n:Int),.slice co cn cc,.slice (some ⟨ib,ioff,none⟩) dn dc,.slice (some ⟨gb,goff,none⟩) dn gc,.slice ro rn rc,.bool false] 36) /\ wc.heap[w.heap.size + 1]? = some (.cells #[.int .i64 0,.slice none 0 0,.slice none 0 0,.slice none 0 0,.slice none 0 0] 30) /\ Below w.heap.size w wc) /\ wc.heap[D]? = some (.cells #[.int .i64 (n:Int),(.slice vca n vcc),vi,vg,(.slice (some ⟨vrb,0,none⟩) n vrc)] 30) /\ RlS wc w.heap.size E cs rs (ids.take k) (gs.take k) (.slice vca n vcc) (.slice (some ⟨vrb,0,none⟩) n vrc) vi vg gl):=⟨⟨kept Bw HP.out.1.1,kept Bw HP.out.1.2.1,HWC.out.2⟩,kept Bw HP.out.2.1,HP.out.2.2.later Bw⟩
      clear Bw HWC HP z0 z2 z3 ci hl1 hl2 HC
      by_cases hok:la < id /\ id <= 1073741824
      case neg=>
       have hfb:(!(decide (la < id) && decide (id <= 1073741824))) = true:=by rw [dec2_false hok];rfl
       have HF:Hid (okv = false):=HNF.out (by rw [HCS.out,dec2_false hok,Bool.false_and])
       rw [hfb]
       clear hok HNF HCS HW2 HNG HU HIC HIK
       go_wp2_with (first | (refine wpList_store_row (by rfl) 30 _ _ (by rfl) w w.heap.size (w.heap.size + 1) #[.int .i64 0,.slice none 0 0,.slice none 0 0,.slice none 0 0,.slice none 0 0] _ (by rfl) (by rfl) PW.out.1.2.1 PW.out.1.2.2 (Nat.le_succ _) 5 Tryz.infoRl (by rfl) (by rfl) (oneRl _ _ _ _ _ rfl rfl rfl rfl) ?_;intro W9 e9 b9 s9 o9))
       refine bodyPost_ret (res_ctJ _ 2 3 30 (by kernel_rfl) _ _ (w.heap.size + 1) _ _ (by rfl) (by rfl) _ Tryz.underlying30 rfl 5 Tryz.infoRl rfl e9) rfl ?_
       exact ⟨⟨0,none,0,0,none,0,0,none,0,0,none,0,0,by rw [HF.out];rfl,fun h=>by rw [HF.out] at h;cases h⟩,b9⟩
      case pos=>
      have hfb:(!(decide (la < id) && decide (id <= 1073741824))) = false:=by rw [decide_eq_true hok.1,decide_eq_true hok.2];rfl
      rw [hfb]
      obtain ⟨nb,hnb⟩:∃ nb,numN (gs[k]?.getD []) (n:Int) = nb:=⟨_,rfl⟩
      have HCS2:Hid (colsB ⟨(n:Int),co,cn,cc,some ⟨ib,ioff,none⟩,dn,dc,some ⟨gb,goff,none⟩,dn,gc,ro,rn,rc,false,cs,ids,gv,gs,rs⟩ (-1) (uptoZ ⟨(n:Int),co,cn,cc,some ⟨ib,ioff,none⟩,dn,dc,some ⟨gb,goff,none⟩,dn,gc,ro,rn,rc,false,cs,ids,gv,gs,rs⟩ (k + 1)) = nb):=by unfold Hid;rw [HCS.out,decide_eq_true hok.1,decide_eq_true hok.2,hnb];simp
      clear HCS hok hfb
      go_upto_region 20 with fail
      have hS20:wc.drew.heap[w.heap.size]? = some (.cells #[.int .i64 (n:Int),.slice co cn cc,.slice (some ⟨ib,ioff,none⟩) dn dc,.slice (some ⟨gb,goff,none⟩) dn gc,.slice ro rn rc,.bool false] 36) /\ wc.drew.cell? ⟨gb,goff + k,none⟩ = some (.slice (gv k).1 (gv k).2.1 (gv k).2.2):=⟨PW.out.1.1,rdGu_at (HU.out _ PW.out.1.2.2.drew).g hlt⟩
      have q20:Below w.heap.size w wc.drew:=PW.out.1.2.2.drew
      refine wp_region_noPanic ?_
      refine wp_region_held_drew (S:=(fun V=>V.heap[w.heap.size]? = some (.cells #[.int .i64 (n:Int),.slice co cn cc,.slice (some ⟨ib,ioff,none⟩) dn dc,.slice (some ⟨gb,goff,none⟩) dn gc,.slice ro rn rc,.bool false] 36) /\ V.cell? ⟨gb,goff + k,none⟩ = some (.slice (gv k).1 (gv k).2.1 (gv k).2.2))) (by kernel_rfl) hS20 (fun _=>?_)
      refine tzI 119 0 ?_ ?_ hS20 ?_
      rotate_left
      ·intro w' hSw;obtain ⟨y0,y1,y2,y3,y4,y5⟩:=cells6 hSw.1;have y6:=hSw.2;go_simp;try with_reducible rfl
      try simp only [pA,pE,pB,pC,pD]
      refine tzI 120 1 ?_ ?_ hS20 ?_
      rotate_left
      ·intro w' hSw;obtain ⟨y0,y1,y2,y3,y4,y5⟩:=cells6 hSw.1;have y6:=hSw.2;go_simp;try with_reducible rfl
      try simp only [pA,pE,pB,pC,pD]
      refine tzI 121 2 ?_ ?_ hS20 ?_
      rotate_left
      ·intro w' hSw;obtain ⟨y0,y1,y2,y3,y4,y5⟩:=cells6 hSw.1;have y6:=hSw.2;go_simp;try with_reducible rfl
      try simp only [pA,pE,pB,pC,pD]
      refine tzI 122 3 ?_ ?_ hS20 ?_
      rotate_left
      ·intro w' hSw;obtain ⟨y0,y1,y2,y3,y4,y5⟩:=cells6 hSw.1;have y6:=hSw.2;go_simp;try with_reducible rfl
      try simp only [pA,pE,pB,pC,pD]
      refine tzI 123 4 ?_ ?_ hS20 ?_
      rotate_left
      ·intro w' hSw;obtain ⟨y0,y1,y2,y3,y4,y5⟩:=cells6 hSw.1;have y6:=hSw.2;go_simp;try with_reducible rfl
      try simp only [pA,pE,pB,pC,pD]
      refine tzI 124 5 ?_ ?_ hS20 ?_
      rotate_left
      ·intro w' hSw;obtain ⟨y0,y1,y2,y3,y4,y5⟩:=cells6 hSw.1;have y6:=hSw.2;go_simp;try with_reducible rfl
      try simp only [pA,pE,pB,pC,pD]
      refine tzI 125 6 ?_ ?_ hS20 ?_
      rotate_left
      ·intro w' hSw;obtain ⟨y0,y1,y2,y3,y4,y5⟩:=cells6 hSw.1;have y6:=hSw.2;go_simp;try with_reducible rfl
      try simp only [pA,pE,pB,pC,pD]
      refine rzH [7] ?_
      refine consH _ rfl (hzC 126 (Calls.mono (HNG.out k hlt _ q20) ?_)) AllReadyH.nil
      rintro e w6 ⟨⟨v6,rfl,r6⟩,b6⟩
      rw [hnb] at r6 ⊢
      have hS6:=And.intro (kept b6 hS20.1) ((b6.cell (World.block_lt_of_cell? _ _ hS20.2)).trans hS20.2)
      refine ⟨_,rfl,hS6,?_⟩
      try simp only [pA,pE,pB,pC,pD]
      refine tzI 118 8 ?_ ?_ hS6 ?_
      rotate_left
      ·intro w' hSw;go_simp;try with_reducible rfl
      try simp only [pA,pE,pB,pC,pD]
      refine tzI 127 9 ?_ ?_ hS6 ?_
      rotate_left
      ·intro w' hSw;go_simp;try with_reducible rfl
      try simp only [pA,pE,pB,pC,pD]
      refine tzI 128 10 ?_ ?_ hS6 ?_
      rotate_left
      ·intro w' hSw;go_simp;try with_reducible rfl
      try simp only [pA,pE,pB,pC,pD]
      refine tzI 11 11 ?_ ?_ hS6 ?_
      rotate_left
      ·intro w' hSw;go_simp;try with_reducible rfl
      try simp only [pA,pE,pB,pC,pD]
      refine tzI 12 12 ?_ ?_ hS6 ?_
      rotate_left
      ·intro w' hSw;go_simp;try with_reducible rfl
      try simp only [pA,pE,pB,pC,pD]
      refine wpAnyH_done (by kernel_rfl) ?_ _
      refine NoPanic.normal ?_
      try simp only [pA,pE,pB,pC,pD]
      have B6:Below wc.heap.size wc w6:=(fun (h:Below wc.drew.heap.size wc.drew w6)=>⟨h.os,h.tape,h.output,h.size,h.block⟩) b6
      have P6:Hid ((w6.heap[w.heap.size]? = some (.cells #[.int .i64 (n:Int),.slice co cn cc,.slice (some ⟨ib,ioff,none⟩) dn dc,.slice (some ⟨gb,goff,none⟩) dn gc,.slice ro rn rc,.bool false] 36) /\ w6.heap[w.heap.size + 1]? = some (.cells #[.int .i64 0,.slice none 0 0,.slice none 0 0,.slice none 0 0,.slice none 0 0] 30) /\ Below w.heap.size w w6) /\ w6.heap[D]? = some (.cells #[.int .i64 (n:Int),(.slice vca n vcc),vi,vg,(.slice (some ⟨vrb,0,none⟩) n vrc)] 30) /\ RlS w6 w.heap.size E cs rs (ids.take k) (gs.take k) (.slice vca n vcc) (.slice (some ⟨vrb,0,none⟩) n vrc) vi vg gl):=⟨⟨kept B6 PW.out.1.1,kept B6 PW.out.1.2.1,to_call PW.out.1.2.2 B6⟩,kept B6 PW.out.2.1,PW.out.2.2.later B6⟩
      have R6:Hid (nb = true -> RowN w6 w.heap.size v6 E (gs[k]?.getD [])):=fun h=>(r6 h).mono q20.size
      clear hS20 hS6 r6 b6 B6 PW q20
      cases nb
      case false=>
       have HF:Hid (okv = false):=HNF.out HCS2.out
       clear HNF HCS2 HW2 HNG HU HIC HIK R6
       go_wp2_with (first | (refine wpList_store_row (by rfl) 30 _ _ (by rfl) w w.heap.size (w.heap.size + 1) #[.int .i64 0,.slice none 0 0,.slice none 0 0,.slice none 0 0,.slice none 0 0] _ (by rfl) (by rfl) P6.out.1.2.1 P6.out.1.2.2 (Nat.le_succ _) 5 Tryz.infoRl (by rfl) (by rfl) (oneRl _ _ _ _ _ rfl rfl rfl rfl) ?_;intro W9 e9 b9 s9 o9))
       refine bodyPost_ret (res_ctJ _ 2 3 30 (by kernel_rfl) _ _ (w.heap.size + 1) _ _ (by rfl) (by rfl) _ Tryz.underlying30 rfl 5 Tryz.infoRl rfl e9) rfl ?_
       exact ⟨⟨0,none,0,0,none,0,0,none,0,0,none,0,0,by rw [HF.out];rfl,fun h=>by rw [HF.out] at h;cases h⟩,b9⟩
      case true=>
      have N6:=R6.out rfl
      obtain ⟨a6,c6,hv6⟩:=N6.form
      subst hv6
      go_upto_region 23 with fail
      have hkt:(ids.take k).length = k:=by rw [List.length_take,HLI.out.1];omega
      have hkg:gl.length = k:=by have:=P6.out.2.2.len;rw [List.length_take,HLI.out.2] at this;omega
      have HLK:Hid ((ids.take k).length + 1 <= 4000000):=by unfold Hid;omega
      have hS23:w6.drew.heap[D]? = some (.cells #[.int .i64 (n:Int),(.slice vca n vcc),vi,vg,(.slice (some ⟨vrb,0,none⟩) n vrc)] 30) /\ w6.drew.heap[w.heap.size]? = some (.cells #[.int .i64 (n:Int),.slice co cn cc,.slice (some ⟨ib,ioff,none⟩) dn dc,.slice (some ⟨gb,goff,none⟩) dn gc,.slice ro rn rc,.bool false] 36) /\ w6.drew.cell? ⟨ib,ioff + k,none⟩ = some (.int .i64 id):=⟨P6.out.2.1,P6.out.1.1,HIK.out _ P6.out.1.2.2.drew⟩
      have L23:=P6.out.2.2.later (w':=w6.drew) (Below.refl _ _).drew
      have N23:=N6.later (w':=w6.drew) (Below.refl _ _).drew
      have q23:Below w.heap.size w w6.drew:=P6.out.1.2.2.drew
      have p23:w6.drew.heap[w.heap.size + 1]? = some (.cells #[.int .i64 0,.slice none 0 0,.slice none 0 0,.slice none 0 0,.slice none 0 0] 30):=P6.out.1.2.1
      refine wp_region_noPanic ?_
      refine wp_region_P (fun V=>V.heap[D]? = some (.cells #[.int .i64 (n:Int),(.slice vca n vcc),vi,vg,(.slice (some ⟨vrb,0,none⟩) n vrc)] 30) /\ V.heap[w.heap.size]? = some (.cells #[.int .i64 (n:Int),.slice co cn cc,.slice (some ⟨ib,ioff,none⟩) dn dc,.slice (some ⟨gb,goff,none⟩) dn gc,.slice ro rn rc,.bool false] 36) /\ V.cell? ⟨ib,ioff + k,none⟩ = some (.int .i64 id)) 10 (by kernel_rfl) ?_
      refine tzQ 132 0 ?_ ?_ (fun _=>hS23) ?_
      rotate_left
      ·intro w' hSw;go_simp;try with_reducible rfl
      try simp only [pA,pE,pB,pC,pD]
      refine tzP 133 1 ?_ (Or.inl ⟨by kernel_rfl,?_⟩) hS23 ?_
      rotate_left
      ·intro w' hSw;obtain ⟨x0,x1,x2,x3,x4⟩:=cells5 hSw.1;obtain ⟨y0,y1,y2,y3,y4,y5⟩:=cells6 hSw.2.1;have y6:=hSw.2.2;go_simp;try with_reducible rfl
      try simp only [pA,pE,pB,pC,pD]
      refine tzQ 134 2 ?_ ?_ (fun _=>hS23) ?_
      rotate_left
      ·intro w' hSw;go_simp;try with_reducible rfl
      try simp only [pA,pE,pB,pC,pD]
      refine tzP 135 3 ?_ (Or.inl ⟨by kernel_rfl,?_⟩) hS23 ?_
      rotate_left
      ·intro w' hSw;obtain ⟨x0,x1,x2,x3,x4⟩:=cells5 hSw.1;obtain ⟨y0,y1,y2,y3,y4,y5⟩:=cells6 hSw.2.1;have y6:=hSw.2.2;go_simp;try with_reducible rfl
      try simp only [pA,pE,pB,pC,pD]
      refine tzQ 136 4 ?_ ?_ (fun _=>hS23) ?_
      rotate_left
      ·intro w' hSw;go_simp;try with_reducible rfl
      try simp only [pA,pE,pB,pC,pD]
      refine tzQ 137 5 ?_ ?_ (fun _=>hS23) ?_
      rotate_left
      ·intro w' hSw;go_simp;try with_reducible rfl
      try simp only [pA,pE,pB,pC,pD]
      refine tzP 138 6 ?_ (Or.inl ⟨by kernel_rfl,?_⟩) hS23 ?_
      rotate_left
      ·intro w' hSw;obtain ⟨x0,x1,x2,x3,x4⟩:=cells5 hSw.1;obtain ⟨y0,y1,y2,y3,y4,y5⟩:=cells6 hSw.2.1;have y6:=hSw.2.2;go_simp;try with_reducible rfl
      try simp only [pA,pE,pB,pC,pD]
      refine rzP [7] ?_
      refine consP _ rfl (hopBJ 139 (.int .i64 id) 3 rfl rfl rfl (by kernel_rfl) fun I V2 hI c2=>?_) AllReadyP.nil
      have hS2:=And.intro (kept c2 hS23.1) (And.intro (kept c2 hS23.2.1) ((c2.cell (World.block_lt_of_cell? _ _ hS23.2.2)).trans hS23.2.2))
      have L2:=L23.later c2
      have N2:=N23.later c2
      have q2:=q23.trans (c2.mono q23.size)
      have p2:=kept c2 p23
      refine ⟨hS2,?_⟩
      try simp only [pA,pE,pB,pC,pD]
      refine rzP [8] ?_
      refine consP _ rfl (hopL rfl (append_clJ noU Tryz.underlying23 Tryz.infoIJ rfl (by decide) (by decide) (by intro v hv;have hv':v ∈ (#[.int .i64 0]:Array Value):=hv;simp only [List.mem_toArray,List.mem_cons,List.not_mem_nil,or_false] at hv';subst hv';rfl) V2 (by rfl) _ _ (by rfl) w.heap.size vi _ _ (by kernel_rfl) L2.i L2.icl ⟨I,0,none⟩ 1 1 [.int .i64 id] (by kernel_rfl) (by decide) rfl (news_oneJ hI) (oneI _ rfl) (by intro u hu;simp only [List.mem_cons,List.not_mem_nil,or_false] at hu;subst hu;rfl) HLK.out q2.size fun v7 w7 o7 g7 cl7=>?_)) AllReadyP.nil
      change QK _ _ Exit.normal (Act.put _ (some 140) v7) w7
      have s7D:=(grw_types L2.i g7 D _ _ (by decide) hS2.1).trans hS2.1
      have s7Z:=(grw_types L2.i g7 _ _ _ (by decide) hS2.2.1).trans hS2.2.1
      have s7R:=(grw_types L2.i g7 _ _ _ (by decide) p2).trans p2
      have q7:=q2.trans (g7.below (fun k hk=>(World.ownsRow.lt L2.i k hk).1) q2.size)
      have L7:RlS w7 w.heap.size E cs rs (ids.take k ++ [id]) (gs.take k) (.slice vca n vcc) (.slice (some ⟨vrb,0,none⟩) n vrc) v7 vg gl:=L2.pushI g7 (by simpa using o7) cl7
      have N7:=N2.grw (by decide) L2.i g7 L2.icl
      have s7I:=HIK.out w7 q7
      refine (And.intro (And.intro s7D (And.intro s7Z s7I)) ?_:_ /\ _)
      try simp only [pA,pE,pB,pC,pD]
      clear g7
      refine tzQ 141 9 ?_ ?_ (fun _=>And.intro s7D (And.intro s7Z s7I)) ?_
      rotate_left
      ·intro w' hSw;go_simp;try with_reducible rfl
      try simp only [pA,pE,pB,pC,pD]
      refine rzP [10] ?_
      refine consPs _ rfl (by kernel_rfl) (hopL rfl (wpList_store_at (by rfl) 23 _ _ (by rfl) w w.heap.size D 2 v7 _ #[.int .i64 (n:Int),(.slice vca n vcc),v7,vg,(.slice (some ⟨vrb,0,none⟩) n vrc)] 30 (by kernel_rfl) (by kernel_rfl) s7D q7 hDl 1 Tryz.szIs (by rw [(own_valJ L7.i).2];rfl) (Nat.le_of_ble_eq_true rfl) (by intro u hu;rw [(own_valJ L7.i).2] at hu;simp only [List.mem_cons,List.not_mem_nil,or_false] at hu;subst hu;exact (own_valJ L7.i).1) (by rw [(own_valJ L7.i).2];rfl) fun w8 e8 b8 s8 k8=>?_)) AllReadyP.nil
      refine (And.intro trivial ?_:_ /\ _)
      try simp only [pA,pE,pB,pC,pD]
      refine wpAnyP_done (by kernel_rfl) ?_ _
      refine NoPanic.normal ?_
      try simp only [pA,pE,pB,pC,pD]
      have c7:Cl noU w7 D:=rl_cl rfl (own_noU L2.i) (own_noU L2.g) rfl s7D
      have L8:=L7.box (w':=w8) (by decide) (by decide) (by decide) s7D c7 k8
      have N8:=N7.box (by decide) s7D c7 k8
      have P8:Hid _:=And.intro e8 (And.intro L8 (And.intro N8 (And.intro b8 (And.intro ((k8 _ hDz).trans s7Z) ((k8 _ hD1).trans s7R)))))
      clear e8 L8 N8 b8 k8 s8 c7 s7D s7Z s7R s7I L7 N7 q7 o7 cl7 hI c2 hS2 L2 N2 q2 p2 hS23 L23 N23 q23 p23
      clear P6 R6 N6
      have hsz8:=P8.out.2.2.2.1.size
      obtain ⟨x0,x1,x2,x3,x4⟩:=cells5 P8.out.1
      have HCG:Hid (∀ g,vg.ownBlock = some g -> Cl noU (w8.alloc (.cells #[(.slice a6 (gs[k]?.getD []).length c6)] 27)) g):=fun g hg=>(P8.out.2.1.gcl g hg).later ((Below.refl _ w8).alloc (Nat.le_refl _) _)
      go_wp2_with (first
       | (at_builtin;refine append_clJ noU Tryz.underlying28 Tryz.infoNsJ rfl (by decide) (by decide) (by intro v hv;have hv':v ∈ (#[.slice none 0 0]:Array Value):=hv;simp only [List.mem_toArray,List.mem_cons,List.not_mem_nil,or_false] at hv';subst hv';rfl) _ (by rfl) _ _ (by rfl) w.heap.size vg _ _ (by rfl) (World.ownsRow.alloc P8.out.2.1.g _) HCG.out ⟨w8.heap.size,0,none⟩ 1 1 [(.slice a6 (gs[k]?.getD []).length c6)] (by rfl) (by decide) rfl (news_oneJ (heap_alloc_new w8 _)) (oneI _ rfl) (by intro u hu;simp only [List.mem_cons,List.not_mem_nil,or_false] at hu;subst hu;rfl) (by omega) (by simp only [alloc_size];omega) ?_;intro v9 w9 o9 g9 cl9;have s9D:=(grw_types (World.ownsRow.alloc P8.out.2.1.g _) g9 D _ _ (by decide) (alloc_kept P8.out.1 _)).trans (alloc_kept P8.out.1 _);have q9:=(P8.out.2.2.2.1.alloc hsz8 _).trans (g9.below (fun k hk=>(World.ownsRow.lt P8.out.2.1.g k hk).1) (by simp only [alloc_size];omega)))
       | (refine wpList_store_at (by rfl) 28 _ _ (by rfl) w w.heap.size D 3 v9 _ #[.int .i64 (n:Int),(.slice vca n vcc),v7,v9,(.slice (some ⟨vrb,0,none⟩) n vrc)] 30 (by rfl) (by rfl) s9D q9 hDl 1 Tryz.szNss (by rw [(own_valJ o9).2];rfl) (Nat.le_of_ble_eq_true rfl) (by intro u hu;rw [(own_valJ o9).2] at hu;simp only [List.mem_cons,List.not_mem_nil,or_false] at hu;subst hu;exact (own_valJ o9).1) (by rw [(own_valJ o9).2];rfl) ?_;intro wa ea ba sa ka))
      have A8:Below w8.heap.size w8 (w8.alloc (.cells #[(.slice a6 (gs[k]?.getD []).length c6)] 27)):=(Below.refl _ w8).alloc (Nat.le_refl _) _
      have L9:=(P8.out.2.1.later A8).pushG g9 o9 cl9 (P8.out.2.2.1.later A8)
      have c9:Cl noU w9 D:=rl_cl rfl (own_noU P8.out.2.1.i) (own_noU P8.out.2.1.g) rfl s9D
      have La:=L9.box (w':=wa) (by decide) (by decide) (by decide) s9D c9 ka
      have Pa:Hid ((wa.heap[w.heap.size]? = some (.cells #[.int .i64 (n:Int),.slice co cn cc,.slice (some ⟨ib,ioff,none⟩) dn dc,.slice (some ⟨gb,goff,none⟩) dn gc,.slice ro rn rc,.bool false] 36) /\ wa.heap[w.heap.size + 1]? = some (.cells #[.int .i64 0,.slice none 0 0,.slice none 0 0,.slice none 0 0,.slice none 0 0] 30) /\ Below w.heap.size w wa) /\ wa.heap[D]? = some (.cells #[.int .i64 (n:Int),(.slice vca n vcc),v7,v9,(.slice (some ⟨vrb,0,none⟩) n vrc)] 30) /\ RlS wa w.heap.size E cs rs (ids.take k ++ [id]) (gs.take k ++ [gs[k]?.getD []]) (.slice vca n vcc) (.slice (some ⟨vrb,0,none⟩) n vrc) v7 v9 (gl ++ [(.slice a6 (gs[k]?.getD []).length c6)])):=⟨⟨(ka _ hDz).trans ((grw_types (World.ownsRow.alloc P8.out.2.1.g _) g9 _ _ _ (by decide) (alloc_kept P8.out.2.2.2.2.1 _)).trans (alloc_kept P8.out.2.2.2.2.1 _)),(ka _ hD1).trans ((grw_types (World.ownsRow.alloc P8.out.2.1.g _) g9 _ _ _ (by decide) (alloc_kept P8.out.2.2.2.2.2 _)).trans (alloc_kept P8.out.2.2.2.2.2 _)),ba⟩,ea,La⟩
      clear P8 A8 L9 c9 La s9D q9 o9 g9 cl9 ea ba sa ka x0 x1 x2 x3 x4 HCG hsz8
      go_roundg g
      case measure=>omega
      case rel=>
       refine ⟨k + 1,v7,v9,gl ++ [(.slice a6 (gs[k]?.getD []).length c6)],by go_num,by have:=HIG.out;omega,?_,HCS2⟩
       unfold Hid
       rw [take_snocI (by rw [HLI.out.1];exact hlt),HID.out,take_snocG (by rw [HLI.out.2];exact hlt)]
       exact Pa.out
    ·have hd:decide ((k:Int) < (dn:Int)) = false:=decide_eq_false (by omega)
     have hkd:k = dn:=by omega
     subst hkd
     have HT:Hid (okv = true):=by
      unfold Hid
      have e:uptoZ ⟨(n:Int),co,cn,cc,io,k,dc,go,k,gc,ro,rn,rc,false,cs,ids,gv,gs,rs⟩ k = List.finRange k:=uptoZ_all ⟨(n:Int),co,cn,cc,io,k,dc,go,k,gc,ro,rn,rc,false,cs,ids,gv,gs,rs⟩
      have hc:=HC.out
      rw [e] at hc
      rw [HW2.out]
      exact hc
     have LL:=HP.out.2.2
     rw [List.take_of_length_le (by rw [HLI.out.1];exact Nat.le_refl _),List.take_of_length_le (by rw [HLI.out.2];exact Nat.le_refl _)] at LL
     have HLL:Hid _:=LL
     clear LL HC HW2
     go_wp2_with (first
      | (refine wpList_load_row (by rfl) 30 _ (by rfl) D _ (by rfl) HP.out.2.1 _ Tryz.underlying30 rfl 5 Tryz.infoRl (by rfl) ?_)
      | (refine wpList_store_row (by rfl) 30 _ _ (by rfl) w w.heap.size (w.heap.size + 1) #[.int .i64 (n:Int),(.slice vca n vcc),vi,vg,(.slice (some ⟨vrb,0,none⟩) n vrc)] _ (by rfl) (by rfl) HP.out.1.2.1 HP.out.1.2.2 (Nat.le_succ _) 5 Tryz.infoRl (by rfl) (by rfl) (oneRl _ _ _ _ _ rfl (own_valJ HP.out.2.2.i).1 (own_valJ HP.out.2.2.g).1 rfl) ?_;intro W9 e9 b9 s9 o9))
     have c9:Cl noU wr (w.heap.size + 1):=rl_cl rfl rfl rfl rfl HP.out.1.2.1
     have L9:=HLL.out.box (w':=W9) (by decide) (by decide) (by decide) HP.out.1.2.1 c9 o9
     obtain ⟨ia,ic,hvi,-⟩:=owns_slice L9.i
     obtain ⟨ga,gcc,hvg,-⟩:=owns_slice L9.g
     subst hvi hvg
     refine bodyPost_ret (res_ctJ _ 2 3 30 (by kernel_rfl) _ _ (w.heap.size + 1) _ _ (by rfl) (by rfl) _ Tryz.underlying30 rfl 5 Tryz.infoRl rfl e9) rfl ?_
     exact ⟨⟨(n:Int),_,_,_,_,_,_,_,_,_,_,_,_,by rw [HT.out];rfl,fun _=>⟨rfl,gl,L9⟩⟩,b9⟩
structure UW (u:ZD):Prop where
 cl:u.cn <= 1050000
 rl:u.rn <= 1050000
 il:u.dn <= 1050000
 gl:u.gn <= 1050000
 ll:∀ k,k < u.gn -> (u.gv k).2.1 <= 1050000
 c:∀ x ∈ u.cs,x < 18446744073709551616
 r:∀ x ∈ u.rs,x < 18446744073709551616
 g:∀ l ∈ u.gs,∀ x ∈ l,x < 18446744073709551616
theorem reals_any (u:ZD) (E:Nat) (hE:E = 1074) (w:World) (hu:ZU w u) (hw:UW u) :
  Calls Tryz.prog 4 #[.agg (zRow u)] w fun e w'=>(∃ N' a1 l1 c1 a2 l2 c2 a3 l3 c3 a4 l4 c4,e = .returned (.tuple #[.agg #[.int .i64 N',.slice a1 l1 c1,.slice a2 l2 c2,.slice a3 l3 c3,.slice a4 l4 c4],.bool (!u.bad && wholeB u)]) /\ ((!u.bad && wholeB u) = true -> N' = u.N /\ ∃ gl,RlS w' w.heap.size E u.cs u.rs u.ids u.gs (.slice a1 l1 c1) (.slice a4 l4 c4) (.slice a2 l2 c2) (.slice a3 l3 c3) gl)) /\ Below w.heap.size w w':=by
 by_cases h:u.bad = true \/ u.N < 1 \/ 256 < u.N \/ u.dn ≠ u.gn
 ·exact reals_no u E w h hw.il hw.gl
 ·have h0:u.bad = false:=by cases hb:u.bad with | true=>exact absurd (.inl hb) h | false=>rfl
  have h1:1 <= u.N:=by have:¬ u.N < 1:=fun c=>h (.inr (.inl c));omega
  have h2:u.N <= 256:=by have:¬ 256 < u.N:=fun c=>h (.inr (.inr (.inl c)));omega
  have h3:u.dn = u.gn:=by by_cases c:u.dn = u.gn;exact c;exact absurd (.inr (.inr (.inr c))) h
  clear h
  obtain ⟨N,co,cn,cc,io,dn,dc,go,gn,gc,ro,rn,rc,bad,cs,ids,gv,gs,rs⟩:=u
  dsimp only at h0 h1 h2 h3
  subst h0 h3
  obtain ⟨n,rfl⟩:∃ n:Nat,N = (n:Int):=⟨N.toNat,by omega⟩
  exact reals_yes n co cn cc io dn dc go gc ro rn rc cs ids gv gs rs E hE w hu ⟨by omega,by omega⟩ hw.cl hw.rl hw.il hw.ll hw.c hw.r hw.g
theorem and_eqJ {a b c d:Bool} (h1:a = b) (h2:c = d):(a && c) = (b && d):=by rw [h1,h2]
theorem colsB_eq {N:Int} {co co':Option Addr} {cn cn' cc cc':Nat} {io io':Option Addr} {dn dc dc':Nat} {go go':Option Addr} {gn gn' gc gc':Nat} {ro ro':Option Addr} {rn rn' rc rc':Nat} {bad bad':Bool} {cs cs':List Nat} {ids:List Int} {gv gv':Nat -> Option Addr × Nat × Nat} {gs:List (List Nat)} {rs rs':List Nat} :
  ∀ (ks:List (_root_.Fin dn)) (last:Int),colsB ⟨N,co,cn,cc,io,dn,dc,go,gn,gc,ro,rn,rc,bad,cs,ids,gv,gs,rs⟩ last ks = colsB ⟨N,co',cn',cc',io',dn,dc',go',gn',gc',ro',rn',rc',bad',cs',ids,gv',gs,rs'⟩ last ks
 | [],_=>rfl
 | k :: ks,last=>and_eqJ rfl (colsB_eq ks _)
theorem checkB_eq (x u:ZD) (hN:x.N = u.N) (hb:x.bad = u.bad) (hc:x.cs = u.cs) (hr:x.rs = u.rs) (hi:x.ids = u.ids) (hg:x.gs = u.gs) (h1:x.cn = u.cn) (h2:x.dn = u.dn) (h3:x.gn = u.gn) (h4:x.rn = u.rn):checkB x = checkB u:=by
 obtain ⟨N,co,cn,cc,io,dn,dc,go,gn,gc,ro,rn,rc,bad,cs,ids,gv,gs,rs⟩:=x
 obtain ⟨N',co',cn',cc',io',dn',dc',go',gn',gc',ro',rn',rc',bad',cs',ids',gv',gs',rs'⟩:=u
 dsimp only at hN hb hc hr hi hg h1 h2 h3 h4
 subst hN hb hc hr hi hg h1 h2 h3 h4
 unfold checkB bareB wholeB
 dsimp only
 rw [colsB_eq]
def u0N (n:Nat):Array Value:=madeCells #[.int .u64 0] n
open Ieee
theorem zr_fin64 {w:World} {z:ZD} (h:ZR w z):(∀ x ∈ z.cs,x < 18446744073709551616) /\ (∀ x ∈ z.rs,x < 18446744073709551616) /\ ∀ l ∈ z.gs,∀ x ∈ l,x < 18446744073709551616:=by
 refine ⟨h.c.lt,h.r.lt,fun l hl=>?_⟩
 obtain ⟨j,hj,rfl⟩:=List.getElem_of_mem hl
 have h1:=h.g.each j (by rw [<- h.g.length];exact hj)
 rw [List.getElem?_eq_getElem hj] at h1
 exact h1.lt
def fl2 (us:List Nat):List Value:=us.map (Value.float .f64)
theorem fl2_len (us:List Nat):(fl2 us).length = us.length:=List.length_map _
theorem flN_fl2 (n:Nat):flN n = (fl2 (List.replicate n 0)).toArray:=by
 apply Array.ext_getElem?
 intro j
 by_cases hj:j < n
 ·rw [flN_at n j hj]
  simp [fl2,hj]
 ·have h1:(flN n).size = n:=by unfold flN madeCells;simp
  rw [Array.getElem?_eq_none (by omega),Array.getElem?_eq_none (by simp [fl2];omega)]
theorem fl2_set (us:List Nat) (i b:Nat) (hi:i < us.length):((fl2 us).toArray.toList.take i ++ (Value.float .f64 b).cells.toList ++ (fl2 us).toArray.toList.drop (i + 1)).toArray = (fl2 (us.set i b)).toArray:=by
 congr 1
 unfold fl2
 rw [List.map_set,List.set_eq_take_append_cons_drop,if_pos (by rw [List.length_map];exact hi)]
 simp [Value.cells]
theorem rdF_blk {W:World} {B n:Nat} {us:List Nat} (h:W.heap[B]? = some (.cells (fl2 us).toArray 61)) (hl:us.length = n) (hm:n <= 1050000) (hu:∀ u ∈ us,u < 18446744073709551616):RdF W (some ⟨B,0,none⟩) n n us:=by
 refine ⟨hl,by simp only [maxLen];omega,hu,.inr ⟨B,0,rfl,fun j hj=>?_⟩⟩
 rw [Nat.zero_add]
 refine cellAtJ h j _ ?_
 rw [List.getElem?_toArray]
 unfold fl2
 rw [List.getElem?_map,List.getElem?_eq_getElem (by omega)]
 rfl
theorem good_eq {u z:ZD} (hb:u.bad = z.bad) (hc:checkB u = checkB z):(!u.bad && wholeB u) = (!z.bad && wholeB z):=by
 unfold checkB at hc
 rw [hb] at hc ⊢
 cases h:z.bad with
 | true=>rfl
 | false=>
  rw [h] at hc
  simpa using hc
theorem oneF (b:Nat):∀ u ∈ (Value.float .f64 b).cells.toList,u.oneCell' = true:=by
 intro u hu
 simp [Value.cells] at hu
 subst hu
 rfl
theorem Tryz.szF1:(Tryz.prog.info? 61).map (·.size) = some 1:=by kernel_rfl
structure SmZ (u z:ZD):Prop where
 N:u.N = z.N
 bad:u.bad = z.bad
 cs:u.cs = z.cs
 rs:u.rs = z.rs
 ids:u.ids = z.ids
 gs:u.gs = z.gs
 dn:u.dn = z.dn
 gn:u.gn = z.gn
 cn:u.cn = z.cn
 rn:u.rn = z.rn
theorem ofU (z:ZD) (w:World) (hz:ZR w z) (hw:ZW z) :
  Calls Tryz.prog 5 #[.agg (zRow z)] w fun e w'=>∃ u:ZD,e = .returned (.agg (zRow u)) /\ ZU w' u /\ SmZ u z /\ Below w.heap.size w w':=by
 refine Calls.mono (of10_any z w hz hw) ?_
 rintro e w1 ⟨u,he,hu,u1,u2,u3,u4,u5,u6,u7,u8,u9,u10,b1⟩
 exact ⟨u,he,hu,⟨u1,u2,u3,u4,u5,u6,u7,u8,u9,u10⟩,b1⟩
theorem range3 {w:World} {b o:Nat} {x y z:Value} (h1:w.cell? ⟨b,o,none⟩ = some x) (h2:w.cell? ⟨b,o + 1,none⟩ = some y) (h3:w.cell? ⟨b,o + 2,none⟩ = some z):w.rangeAt b o [x,y,z]:=by
 intro j v hv
 match j,hv with
 | 0,hv=>simp only [List.getElem?_cons_zero,Option.some.injEq] at hv;subst hv;exact h1
 | 1,hv=>simp only [List.getElem?_cons_succ,List.getElem?_cons_zero,Option.some.injEq] at hv;subst hv;exact h2
 | 2,hv=>simp only [List.getElem?_cons_succ,List.getElem?_cons_zero,Option.some.injEq] at hv;subst hv;exact h3
 | j + 3,hv=>simp at hv
theorem RowN.range {w:World} {base E:Nat} {v:Value} {us:List Nat} (h:RowN w base v E us) {k:Nat} (hk:k < us.length):∃ b cap n o l c e,v = .slice (some ⟨b,0,none⟩) us.length cap /\ w.rangeAt b (k * 3) [.bool n,.slice o l c,.int .i64 e] /\ NumC w (.agg #[.bool n,.slice o l c,.int .i64 e]) E 1024 (fval (us[k]?.getD 0)):=by
 obtain ⟨b,cap,hv,n,o,l,c,e,c1,c2,c3,hz⟩:=h.at hk
 exact ⟨b,cap,n,o,l,c,e,hv,range3 c1 c2 c3,hz⟩
theorem ex_loadRN {P:Program} {ρ:Operand -> Value} (o:Oper) (ty:TypeId) (p:Operand) (ho:o.op = .load ty p) (B:Nat) (hp:ρ p = .pointer (some ⟨B,0,none⟩)) (w:World) (c:Array Value) (h:w.heap[B]? = some (.cells c ty)) (d:TypeDesc) (hu:P.underlying ty = some d) (hd:d.isRow = true) (n:Nat) (hi:(P.info? ty).map (·.size) = some n) (hn:c.size = n):(execOp ρ o).run P w = .ok (.value (.agg c)) w:=by
 have hr:w.rangeAt B 0 c.toList:=by
  have:=World.rangeAt_of_block h 0 c.size
  simpa using this
 have hl:=run_loadVar_mid (P:=P) w B 0 ty c.toList d hr hu hd (by rw [hi];simp [hn])
 have hl2:(loadVar ty ⟨B,0,none⟩).run P w = .ok (.agg c) w:=by simpa using hl
 unfold execOp
 simp only [ho,hp,Instr.loadAt,Instr.sureAddr,Sem.run_bind,Sem.run_pure,Result.andThen_ok,hl2]
theorem num_cl {w:World} {B:Nat} {n:Bool} {o:Option Addr} {l c:Nat} {e:Int} {t:TypeId} (h:w.heap[B]? = some (.cells #[.bool n,.slice o l c,.int .i64 e] t)):Cl noU w B:=by
 refine ⟨_,_,h,fun i v hv=>?_⟩
 match i,hv with
 | 0,hv=>cases hv;rfl
 | 1,hv=>cases hv;rfl
 | 2,hv=>cases hv;rfl
theorem Tryz.infoN3:(Tryz.prog.info? 46).map (·.size) = some 3:=by kernel_rfl
theorem oneN (n:Bool) (o:Option Addr) (l c:Nat) (e:Int):(#[.bool n,.slice o l c,.int .i64 e]:Array Value).all (·.oneCell') = true:=by
 simp only [Array.all_eq_true_iff_forall_mem]
 intro v hv
 simp only [List.mem_toArray,List.mem_cons,List.not_mem_nil,or_false] at hv
 rcases hv with rfl | rfl | rfl <;> rfl
theorem NumC.form {w:World} {v:Value} {s:Nat} {T z:Int} (h:NumC w v s T z):∃ n o l c e,v = .agg #[.bool n,.slice o l c,.int .i64 e]:=by
 obtain ⟨neg,m,e,⟨ao,len,cap,xs,h1,_⟩,_⟩:=h
 exact ⟨neg,ao,len,cap,e,h1⟩
theorem NumC.zeroJ (w:World) (s:Nat) (T:Int) (hT:0 <= T):NumC w (.agg #[.bool false,.slice none 0 0,.int .i64 0]) s T 0:=
 ⟨false,0,0,⟨none,0,0,[],rfl,rd4_none _,.inl rfl,rfl⟩,by omega,by rw [bl_zero];omega,zv_zero _ _ _,fun _=>rfl⟩
theorem RlS.elem {w:World} {base E:Nat} {cs rs:List Nat} {ids:List Int} {gs:List (List Nat)} {vc vr vi:Value} {a3:Option Addr} {l3 c3:Nat} {gl:List Value} (h:RlS w base E cs rs ids gs vc vr vi (.slice a3 l3 c3) gl) {k i n:Nat} (hk:k < gs.length) (hn:(gs[k]?.getD []).length = n) (hi:i < n) :
  ∃ g b cap nb o l c e,a3 = some ⟨g,0,none⟩ /\ w.cell? ⟨g,k,none⟩ = some (.slice (some ⟨b,0,none⟩) n cap) /\ w.rangeAt b (i * 3) [.bool nb,.slice o l c,.int .i64 e] /\ NumC w (.agg #[.bool nb,.slice o l c,.int .i64 e]) E 1024 (fval ((gs[k]?.getD [])[i]?.getD 0)):=by
 obtain ⟨ao,cap,h1,h2,h3⟩:=owns_slice h.g
 have hl:=h.len
 rcases h3 with h0 | ⟨g,rfl,hc⟩
 ·omega
 have hkl:k < gl.length:=by omega
 have hcell:=hc k hkl
 rw [List.getElem?_eq_getElem hkl] at hcell
 obtain ⟨b,cap',nb,o,l,c,e,hv,hr,hz⟩:=(h.col k _ (List.getElem?_eq_getElem hkl)).range (k:=i) (by rw [hn];exact hi)
 rw [hv,hn] at hcell
 injection h1 with q1
 exact ⟨g,b,cap',nb,o,l,c,e,q1,hcell,hr,hz⟩
theorem RlS.lenG {w:World} {base E:Nat} {cs rs:List Nat} {ids:List Int} {gs:List (List Nat)} {vc vr vi:Value} {a3:Option Addr} {l3 c3:Nat} {gl:List Value} (h:RlS w base E cs rs ids gs vc vr vi (.slice a3 l3 c3) gl):l3 = gs.length:=by
 obtain ⟨ao,cap,h1,h2,h3⟩:=owns_slice h.g
 injection h1 with q1 q2
 rw [q2,h.len]
end Go.Proofs.YtoflalhiihcofaaGreat
