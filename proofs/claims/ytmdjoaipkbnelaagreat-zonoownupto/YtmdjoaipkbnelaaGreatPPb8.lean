import Derived.Test.YtmdjoaipkbnelaaGreatPPb7
set_option linter.unusedVariables false
set_option linter.unusedSimpArgs false
namespace Go.Proofs.YtmdjoaipkbnelaaGreat
open Go.RowKit Go.Shelf
theorem news_twoJ {W:World} {I:Nat} {x y:Value} {E:TypeId} (h:W.heap[I]? = some (.cells #[x,y] E)):∀ j u,[x,y][j]? = some u -> W.cell? ((⟨I,0,none⟩:Addr).add j) = some u:=by
 intro j u hj
 match j,hj with
 | 0,hj=>
  cases hj
  rw [Addr.add_lit,cell_of_row _ I _ _ _ _ h]
  rfl
 | 1,hj=>
  cases hj
  rw [Addr.add_lit,cell_of_row _ I _ _ _ _ h]
  rfl
theorem oneII:∀ (x y:Value),x.oneCell' = true -> y.oneCell' = true -> ∀ u ∈ [x,y],u.oneCell' = true:=by
 intro x y hx hy u hu
 simp only [List.mem_cons,List.not_mem_nil,or_false] at hu
 rcases hu with rfl | rfl <;> assumption
def Cl (p:Value -> Bool) (w:World) (g:Nat):Prop:=∃ cur t,w.heap[g]? = some (.cells cur t) /\ ∀ (i:Nat) (v:Value),cur[i]? = some v -> p v = true
def noU:Value -> Bool
 | .int .u32 _=>false
 | _=>true
theorem rd4_cl {w w':World} {B:Nat} (hB:Cl noU w B) (hs:∀ b,b ≠ B -> b < w.heap.size -> w'.heap[b]? = w.heap[b]?) {ao:Option Addr} {len cap:Nat} {xs:List Nat} (h:Rd4 w ao len cap xs):Rd4 w' ao len cap xs:=by
 refine ⟨h.length,h.le,h.max,h.lt,h.nil,?_⟩
 rcases h.cells with h0 | ⟨b,off,ha,hc⟩
 ·exact .inl h0
 ·refine .inr ⟨b,off,ha,fun j hj=>?_⟩
  have h1:=hc j hj
  have hne:b ≠ B:=by
   rintro rfl
   obtain ⟨cur,t,e1,e2⟩:=hB
   rw [cell_of_row _ _ _ _ _ _ e1] at h1
   have:=e2 _ _ h1
   cases this
  rw [World.cell?_of_block (w:=w) (w':=w') (a:=⟨b,off + j,none⟩) (hs b hne (World.block_lt_of_cell? w _ h1))]
  exact h1
theorem NumZ.cl {w w':World} {B:Nat} (hB:Cl noU w B) (hs:∀ b,b ≠ B -> b < w.heap.size -> w'.heap[b]? = w.heap[b]?) {v:Value} {s:Nat} {T z:Int} (h:NumZ w v s T z):NumZ w' v s T z:=by
 obtain ⟨neg,m,e,⟨ao,len,cap,xs,h1,h2,h3,h4⟩,h5⟩:=h
 exact ⟨neg,m,e,⟨ao,len,cap,xs,h1,rd4_cl hB hs h2,h3,h4⟩,h5⟩
theorem NumC.cl {w w':World} {B:Nat} (hB:Cl noU w B) (hs:∀ b,b ≠ B -> b < w.heap.size -> w'.heap[b]? = w.heap[b]?) {v:Value} {s:Nat} {T z:Int} (h:NumC w v s T z):NumC w' v s T z:=by
 obtain ⟨neg,m,e,⟨ao,len,cap,xs,h1,h2,h3,h4⟩,h5⟩:=h
 exact ⟨neg,m,e,⟨ao,len,cap,xs,h1,rd4_cl hB hs h2,h3,h4⟩,h5⟩
theorem Cl.later {p:Value -> Bool} {w w':World} {g:Nat} (h:Cl p w g) (hb:Below w.heap.size w w'):Cl p w' g:=by
 obtain ⟨cur,t,h1,h2⟩:=h
 exact ⟨cur,t,(hb.block g (blk_lt h1)).trans h1,h2⟩
theorem NumC.grw {w w':World} {v v' y:Value} {s:Nat} {T z:Int} (h:NumC w y s T z) (hg:Grw w w' v.ownBlock v'.ownBlock) (hcl:∀ g,v.ownBlock = some g -> Cl noU w g):NumC w' y s T z:=by
 cases hv:v.ownBlock with
 | none=>exact h.later ⟨hg.by'.os,hg.by'.tape,hg.by'.output,hg.by'.size,fun k hk=>hg.by'.block k hk (by rw [hv];simp)⟩
 | some g=>exact h.cl (hcl g hv) fun b hb hlt=>hg.by'.block b hlt (by rw [hv];intro e;cases e;exact hb rfl)
theorem Cl.same {p:Value -> Bool} {w w':World} {g:Nat} (h:Cl p w g) (hb:w'.heap[g]? = w.heap[g]?):Cl p w' g:=by
 obtain ⟨cur,t,h1,h2⟩:=h
 exact ⟨cur,t,hb.trans h1,h2⟩
theorem own_noU {w:World} {E:TypeId} {base size n:Nat} {v:Value} {xs:List Value} (h:w.ownsRow base E size v n xs):noU v = true:=by
 rcases h.2 with ⟨rfl,_⟩ | ⟨g,cap,cur,rfl,_⟩ <;> rfl
structure UW (u:ZD):Prop where
 cl:u.cn <= 1050000
 rl:u.rn <= 1050000
 il:u.dn <= 1050000
 gl:u.gn <= 1050000
 ll:∀ k,k < u.gn -> (u.gv k).2.1 <= 1050000
 c:∀ x ∈ u.cs,x < 18446744073709551616
 r:∀ x ∈ u.rs,x < 18446744073709551616
 g:∀ l ∈ u.gs,∀ x ∈ l,x < 18446744073709551616
theorem and_eqJ {a b c d:Bool} (h1:a = b) (h2:c = d):(a && c) = (b && d):=by rw [h1,h2]
theorem colsB_eq {N:Int} {co co':Option Addr} {cn cn' cc cc':Nat} {io io':Option Addr} {dn dc dc':Nat} {go go':Option Addr} {gn gn' gc gc':Nat} {ro ro':Option Addr} {rn rn' rc rc':Nat} {bad bad':Bool} {cs cs':List Nat} {ids:List Int} {gv gv':Nat -> Option Addr × Nat × Nat} {gs:List (List Nat)} {rs rs':List Nat} :
  ∀ (ks:List (_root_.Fin dn)) (last:Int),colsB ⟨N,co,cn,cc,io,dn,dc,go,gn,gc,ro,rn,rc,bad,cs,ids,gv,gs,rs⟩ last ks = colsB ⟨N,co',cn',cc',io',dn,dc',go',gn',gc',ro',rn',rc',bad',cs',ids,gv',gs,rs'⟩ last ks
 | [],_=>rfl
 | k :: ks,last=>and_eqJ rfl (colsB_eq ks _)
theorem checkB_eq (x u:ZD) (hN:x.N = u.N) (hb:x.bad = u.bad) (hc:x.cs = u.cs) (hr:x.rs = u.rs) (hi:x.ids = u.ids) (hg:x.gs = u.gs) (h1:x.cn = u.cn) (h2:x.dn = u.dn) (h3:x.gn = u.gn) (h4:x.rn = u.rn):checkB x = checkB u:=by
 obtain ⟨N,co,cn,cc,io,dn,dc,go,gn,gc,ro,rn,rc,bad,cs,ids,gv,gs,rs⟩:=x
 obtain ⟨N',co',cn',cc',io',dn',dc',go',gn',gc',ro',rn',rc',bad',cs',ids',gv',gs',rs'⟩:=u
 dsimp only at hN hb hc hr hi hg h1 h2 h3 h4
 subst hN hb hc hr hi hg h1 h2 h3 h4
 unfold checkB bareB wholeB
 dsimp only
 rw [colsB_eq]
def u0N (n:Nat):Array Value:=madeCells #[.int .u64 0] n
open Ieee
def fl2 (us:List Nat):List Value:=us.map (Value.float .f64)
theorem fl2_len (us:List Nat):(fl2 us).length = us.length:=List.length_map _
theorem flN_fl2 (n:Nat):flN n = (fl2 (List.replicate n 0)).toArray:=by
 apply Array.ext_getElem?
 intro j
 by_cases hj:j < n
 ·rw [flN_at n j hj]
  simp [fl2,hj]
 ·have h1:(flN n).size = n:=by unfold flN madeCells;simp
  rw [Array.getElem?_eq_none (by omega),Array.getElem?_eq_none (by simp [fl2];omega)]
theorem fl2_set (us:List Nat) (i b:Nat) (hi:i < us.length):((fl2 us).toArray.toList.take i ++ (Value.float .f64 b).cells.toList ++ (fl2 us).toArray.toList.drop (i + 1)).toArray = (fl2 (us.set i b)).toArray:=by
 congr 1
 unfold fl2
 rw [List.map_set,List.set_eq_take_append_cons_drop,if_pos (by rw [List.length_map];exact hi)]
 simp [Value.cells]
theorem rdF_blk {W:World} {B n:Nat} {us:List Nat} (h:W.heap[B]? = some (.cells (fl2 us).toArray 45)) (hl:us.length = n) (hm:n <= 1050000) (hu:∀ u ∈ us,u < 18446744073709551616):RdF W (some ⟨B,0,none⟩) n n us:=by
 refine ⟨hl,by simp only [maxLen];omega,hu,.inr ⟨B,0,rfl,fun j hj=>?_⟩⟩
 rw [Nat.zero_add]
 refine cellAtJ h j _ ?_
 rw [List.getElem?_toArray]
 unfold fl2
 rw [List.getElem?_map,List.getElem?_eq_getElem (by omega)]
 rfl
theorem good_eq {u z:ZD} (hb:u.bad = z.bad) (hc:checkB u = checkB z):(!u.bad && wholeB u) = (!z.bad && wholeB z):=by
 unfold checkB at hc
 rw [hb] at hc ⊢
 cases h:z.bad with
 | true=>rfl
 | false=>
  rw [h] at hc
  simpa using hc
theorem oneF (b:Nat):∀ u ∈ (Value.float .f64 b).cells.toList,u.oneCell' = true:=by
 intro u hu
 simp [Value.cells] at hu
 subst hu
 rfl
theorem Tryz.szF1:(Tryz.prog.info? 45).map (·.size) = some 1:=by kernel_rfl
structure SmZ (u z:ZD):Prop where
 N:u.N = z.N
 bad:u.bad = z.bad
 cs:u.cs = z.cs
 rs:u.rs = z.rs
 ids:u.ids = z.ids
 gs:u.gs = z.gs
 dn:u.dn = z.dn
 gn:u.gn = z.gn
 cn:u.cn = z.cn
 rn:u.rn = z.rn
theorem ofU (z:ZD) (w:World) (hz:ZR w z) (hw:ZW z) :
  Calls Tryz.prog 4 #[.agg (zRow z)] w fun e w'=>∃ u:ZD,e = .returned (.agg (zRow u)) /\ ZU w' u /\ SmZ u z /\ Below w.heap.size w w':=by
 refine Calls.mono (of10_any z w hz hw) ?_
 rintro e w1 ⟨u,he,hu,u1,u2,u3,u4,u5,u6,u7,u8,u9,u10,b1,_⟩
 exact ⟨u,he,hu,⟨u1,u2,u3,u4,u5,u6,u7,u8,u9,u10⟩,b1⟩
theorem range3 {w:World} {b o:Nat} {x y z:Value} (h1:w.cell? ⟨b,o,none⟩ = some x) (h2:w.cell? ⟨b,o + 1,none⟩ = some y) (h3:w.cell? ⟨b,o + 2,none⟩ = some z):w.rangeAt b o [x,y,z]:=by
 intro j v hv
 match j,hv with
 | 0,hv=>simp only [List.getElem?_cons_zero,Option.some.injEq] at hv;subst hv;exact h1
 | 1,hv=>simp only [List.getElem?_cons_succ,List.getElem?_cons_zero,Option.some.injEq] at hv;subst hv;exact h2
 | 2,hv=>simp only [List.getElem?_cons_succ,List.getElem?_cons_zero,Option.some.injEq] at hv;subst hv;exact h3
 | j + 3,hv=>simp at hv
theorem ex_loadRN {P:Program} {ρ:Operand -> Value} (o:Oper) (ty:TypeId) (p:Operand) (ho:o.op = .load ty p) (B:Nat) (hp:ρ p = .pointer (some ⟨B,0,none⟩)) (w:World) (c:Array Value) (h:w.heap[B]? = some (.cells c ty)) (d:TypeDesc) (hu:P.underlying ty = some d) (hd:d.isRow = true) (n:Nat) (hi:(P.info? ty).map (·.size) = some n) (hn:c.size = n):(execOp ρ o).run P w = .ok (.value (.agg c)) w:=by
 have hr:w.rangeAt B 0 c.toList:=by
  have:=World.rangeAt_of_block h 0 c.size
  simpa using this
 have hl:=run_loadVar_mid (P:=P) w B 0 ty c.toList d hr hu hd (by rw [hi];simp [hn])
 have hl2:(loadVar ty ⟨B,0,none⟩).run P w = .ok (.agg c) w:=by simpa using hl
 unfold execOp
 simp only [ho,hp,Instr.loadAt,Instr.sureAddr,Sem.run_bind,Sem.run_pure,Result.andThen_ok,hl2]
theorem NumC.form {w:World} {v:Value} {s:Nat} {T z:Int} (h:NumC w v s T z):∃ n o l c e,v = .agg #[.bool n,.slice o l c,.int .i64 e]:=by
 obtain ⟨neg,m,e,⟨ao,len,cap,xs,h1,_⟩,_⟩:=h
 exact ⟨neg,ao,len,cap,e,h1⟩
end Go.Proofs.YtmdjoaipkbnelaaGreat
