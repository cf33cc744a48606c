import Derived.Test.YtmdjoaipkbnelaaGreatPPb8
set_option linter.unusedVariables false
set_option linter.unusedSimpArgs false
namespace Go.Proofs.YtmdjoaipkbnelaaGreat
open Go.RowKit Go.Shelf
def mg:List Int -> List Int -> List Int
 | [],ys=>ys
 | x :: xs,[]=>x :: xs
 | x :: xs,y :: ys=>if x < y then x :: mg xs (y :: ys) else if y < x then y :: mg (x :: xs) ys else x :: mg xs ys
 termination_by xs ys=>xs.length + ys.length
theorem mg_nil (xs:List Int):mg xs [] = xs:=by cases xs <;> simp [mg]
theorem mg_len:∀ (xs ys:List Int),(mg xs ys).length <= xs.length + ys.length
 | [],ys=>by simp [mg]
 | x :: xs,[]=>by simp [mg]
 | x :: xs,y :: ys=>by
  have h1:=mg_len xs (y :: ys)
  have h2:=mg_len (x :: xs) ys
  have h3:=mg_len xs ys
  rw [mg]
  split
  ·simp only [List.length_cons] at *;omega
  ·split <;> (simp only [List.length_cons] at *;omega)
 termination_by xs ys=>xs.length + ys.length
def colZ (n:Nat) (id:Int):List Int -> List (List Nat) -> List Int
 | i :: is,g :: gs=>if i = id then g.map fval else colZ n id is gs
 | _,_=>List.replicate n 0
theorem set3_eq {α:Type} (l:List α) (i:Nat) (a b c:α) (h:i + 3 <= l.length):l.take i ++ [a,b,c] ++ l.drop (i + 3) = ((l.set i a).set (i + 1) b).set (i + 2) c:=by
 apply List.ext_getElem?
 intro j
 have hl:(l.take i).length = i:=by rw [List.length_take];omega
 have hl2:(l.take i ++ [a,b,c]).length = i + 3:=by rw [List.length_append,hl];rfl
 by_cases h1:j < i
 ·rw [List.getElem?_append_left (by omega),List.getElem?_append_left (by omega),List.getElem?_take_of_lt h1,List.getElem?_set_ne (by omega),List.getElem?_set_ne (by omega),List.getElem?_set_ne (by omega)]
 by_cases h2:j < i + 3
 ·rw [List.getElem?_append_left (by omega),List.getElem?_append_right (by omega),hl]
  have hj:j = i \/ j = i + 1 \/ j = i + 2:=by omega
  rcases hj with rfl | rfl | rfl
  ·rw [Nat.sub_self,List.getElem?_set_ne (by omega),List.getElem?_set_ne (by omega),List.getElem?_set_self (by omega)];rfl
  ·rw [show i + 1 - i = 1 by omega,List.getElem?_set_ne (by omega),List.getElem?_set_self (by rw [List.length_set];omega)];rfl
  ·rw [show i + 2 - i = 2 by omega,List.getElem?_set_self (by rw [List.length_set,List.length_set];omega)];rfl
 ·rw [List.getElem?_append_right (by omega),hl2,List.getElem?_drop,List.getElem?_set_ne (by omega),List.getElem?_set_ne (by omega),List.getElem?_set_ne (by omega)]
  congr 1
  omega
end Go.Proofs.YtmdjoaipkbnelaaGreat
namespace Go.Proofs.YtmdjoaipkbnelaaGreat
open Go.ChangeShapes Go.WideShapes Go.ChangeAt Go.RowKit Go.Joins Go.Deep
section
variable {H:Type} {enc:TypeId × Value -> H} {P:Program} {w:World} {base:Nat} {spare:Nat -> Bool} {held:Bool}
theorem trodJ_float {t:TypeId} {k:FloatKind} {fuel:Nat} {cs:List Value} {x:DataW H × List MemPlace} (ht:P.underlying t = some (.float k)) (h:DataW.trod enc P w base spare held fuel t cs = some x):∃ n,cs = [.float k n] /\ (Lit.float k n).wf = true:=by
 cases fuel with
 | zero=>simp [DataW.trod] at h
 | succ n=>
  unfold DataW.trod at h
  rw [ht] at h
  split at h <;> simp_all
theorem trodJ_bool {t:TypeId} {fuel:Nat} {cs:List Value} {x:DataW H × List MemPlace} (ht:P.underlying t = some .bool) (h:DataW.trod enc P w base spare held fuel t cs = some x):∃ b,cs = [.bool b]:=by
 cases fuel with
 | zero=>simp [DataW.trod] at h
 | succ n=>
  unfold DataW.trod at h
  rw [ht] at h
  split at h <;> simp_all
end
theorem bulkJ_one {H:Type} (d:DataW H):1 <= Rows.uptoBulk d:=by
 cases d with
 | lit l=>cases l <;> simp [Rows.uptoBulk]
 | nil=>simp [Rows.uptoBulk]
 | ptr d=>simp [Rows.uptoBulk]
 | slice elems spare=>simp [Rows.uptoBulk]
 | agg parts=>simp [Rows.uptoBulk]
 | iface t d=>simp [Rows.uptoBulk]
 | map entries=>simp [Rows.uptoBulk]
 | held h=>simp [Rows.uptoBulk]
theorem bulkJ_len {H:Type} (l:List (DataW H)):l.length <= Rows.uptoBulkAll l:=by
 induction l with
 | nil=>simp [Rows.uptoBulkAll]
 | cons x r ih=>have:=bulkJ_one x;simp only [Rows.uptoBulkAll,List.length_cons];omega
theorem bulkJ_mem {H:Type} (l:List (DataW H)) {d:DataW H} (h:d ∈ l):Rows.uptoBulk d <= Rows.uptoBulkAll l:=by
 induction l with
 | nil=>cases h
 | cons x r ih=>
  simp only [Rows.uptoBulkAll]
  rcases List.mem_cons.1 h with rfl | h
  ·omega
  ·have:=ih h;omega
theorem bulkJ_slice {H:Type} (l s:List (DataW H)):l.length <= Rows.uptoBulk (.slice l s) /\ ∀ d ∈ l,Rows.uptoBulk d <= Rows.uptoBulk (.slice l s):=by
 rw [Rows.uptoBulk]
 refine ⟨by have:=bulkJ_len l;omega,fun d hd=>by have:=bulkJ_mem l hd;omega⟩
theorem bulkJ_agg {H:Type} (l:List (DataW H)):∀ d ∈ l,Rows.uptoBulk d <= Rows.uptoBulk (.agg l):=by
 rw [Rows.uptoBulk]
 exact fun d hd=>by have:=bulkJ_mem l hd;omega
def flOfJ:Value -> Nat
 | .float _ u=>u
 | _=>0
def inOfJ:Value -> Int
 | .int _ u=>u
 | _=>0
theorem floatsJ_open {P:Program} {H:Type} {enc:TypeId × Value -> H} {W:World} {T E:TypeId} {fuel:Nat} {cs:List Value} {x:DataW H × List MemPlace}
  (hT:P.underlying T = some (.slice E)) (hE:P.underlying E = some (.float .f64)) (hc:P.cellsOf E = 1) (h:DataW.trod enc P W 0 (fun _=>true) true fuel T cs = some x) :
  ∃ ao len cap us,cs = [.slice ao len cap] /\ RdF W ao len cap us /\ (ao = none -> len = 0 /\ cap = 0) /\ len <= Rows.uptoBulk x.1:=by
 rcases open_slice1 hT hc h with ⟨hcs,_⟩ | ⟨a,len,cap,m,n,V,D,Pl,hcs,_,hl,hm,hmm,hxx,hx⟩
 ·exact ⟨none,0,0,[],hcs,⟨rfl,Nat.zero_le _,(fun _ h=>by cases h),.inl rfl⟩,fun _=>⟨rfl,rfl⟩,Nat.zero_le _⟩
 ·simp only [if_true] at hmm
  subst hmm
  have hv:∀ i,i < m -> ∃ u,V i = .float .f64 u /\ u < 18446744073709551616:=by
   intro i hi
   obtain ⟨u,hu,hw⟩:=trodJ_float hE (hx i hi).2
   simp only [List.cons.injEq,and_true] at hu
   exact ⟨u,hu,by simpa [Lit.wf] using hw⟩
  have hbk:len <= Rows.uptoBulk x.1:=by
   rw [hxx]
   have:=(bulkJ_slice ((List.range len).map D) ((List.range (m - len)).map fun j=>D (len + j))).1
   rw [List.length_map,List.length_range] at this
   exact this
  refine ⟨some a,len,m,(List.range len).map fun i=>flOfJ (V i),hcs,⟨by simp,Nat.le_trans hl hm,?_,?_⟩,(fun h=>by cases h),hbk⟩
  ·intro u hu
   simp only [List.mem_map,List.mem_range] at hu
   obtain ⟨i,hi,rfl⟩:=hu
   obtain ⟨y,hy,hlt⟩:=hv i (by omega)
   rw [hy];exact hlt
  ·by_cases h0:len = 0
   ·exact .inl h0
   ·right
    obtain ⟨b,off,spot⟩:=a
    have hspot:spot = none:=by simpa [Addr.add] using World.cell?_spot (hx 0 (by omega)).1
    subst hspot
    refine ⟨b,off,rfl,fun j hj=>?_⟩
    have g:=(hx j (by omega)).1
    obtain ⟨y,hy,_⟩:=hv j (by omega)
    rw [Addr.add_lit,hy] at g
    rw [g]
    simp [hj,hy,flOfJ]
theorem intsJ_open {P:Program} {H:Type} {enc:TypeId × Value -> H} {W:World} {T E:TypeId} {fuel:Nat} {cs:List Value} {x:DataW H × List MemPlace}
  (hT:P.underlying T = some (.slice E)) (hE:P.underlying E = some (.int .i64)) (hc:P.cellsOf E = 1) (h:DataW.trod enc P W 0 (fun _=>true) true fuel T cs = some x) :
  ∃ ao len cap is,cs = [.slice ao len cap] /\ RdIs W ao len cap is /\ (ao = none -> len = 0 /\ cap = 0) /\ len <= Rows.uptoBulk x.1:=by
 rcases open_slice1 hT hc h with ⟨hcs,_⟩ | ⟨a,len,cap,m,n,V,D,Pl,hcs,_,hl,hm,hmm,hxx,hx⟩
 ·exact ⟨none,0,0,[],hcs,⟨rfl,Nat.zero_le _,.inl rfl⟩,fun _=>⟨rfl,rfl⟩,Nat.zero_le _⟩
 ·simp only [if_true] at hmm
  subst hmm
  have hv:∀ i,i < m -> ∃ u,V i = .int .i64 u:=by
   intro i hi
   obtain ⟨u,hu,_,_⟩:=DataW.trod_int hE (hx i hi).2
   simp only [List.cons.injEq,and_true] at hu
   exact ⟨u,hu⟩
  have hbk:len <= Rows.uptoBulk x.1:=by
   rw [hxx]
   have:=(bulkJ_slice ((List.range len).map D) ((List.range (m - len)).map fun j=>D (len + j))).1
   rw [List.length_map,List.length_range] at this
   exact this
  refine ⟨some a,len,m,(List.range len).map fun i=>inOfJ (V i),hcs,⟨by simp,Nat.le_trans hl hm,?_⟩,(fun h=>by cases h),hbk⟩
  by_cases h0:len = 0
  ·exact .inl h0
  ·right
   obtain ⟨b,off,spot⟩:=a
   have hspot:spot = none:=by simpa [Addr.add] using World.cell?_spot (hx 0 (by omega)).1
   subst hspot
   refine ⟨b,off,rfl,fun j hj=>?_⟩
   have g:=(hx j (by omega)).1
   obtain ⟨y,hy⟩:=hv j (by omega)
   rw [Addr.add_lit,hy] at g
   rw [g]
   simp [hj,hy,inOfJ]
theorem rowsJ_open {P:Program} {H:Type} {enc:TypeId × Value -> H} {W:World} {T E Q:TypeId} {fuel:Nat} {cs:List Value} {x:DataW H × List MemPlace}
  (hT:P.underlying T = some (.slice E)) (hE:P.underlying E = some (.slice Q)) (hQ:P.underlying Q = some (.float .f64)) (hc:P.cellsOf E = 1) (hq:P.cellsOf Q = 1) (h:DataW.trod enc P W 0 (fun _=>true) true fuel T cs = some x) :
  ∃ ao len cap gv gs,cs = [.slice ao len cap] /\ RdGs W ao len cap gv gs /\ len <= Rows.uptoBulk x.1 /\ (∀ k,k < len -> ((gv k).1 = none -> (gv k).2.1 = 0 /\ (gv k).2.2 = 0) /\ (gv k).2.1 <= Rows.uptoBulk x.1):=by
 rcases open_slice1 hT hc h with ⟨hcs,_⟩ | ⟨a,len,cap,m,n,V,D,Pl,hcs,_,hl,hm,hmm,hxx,hx⟩
 ·exact ⟨none,0,0,fun _=>(none,0,0),[],hcs,⟨rfl,Nat.zero_le _,.inl rfl,fun j hj=>absurd hj (Nat.not_lt_zero _)⟩,Nat.zero_le _,fun k hk=>absurd hk (Nat.not_lt_zero _)⟩
 ·simp only [if_true] at hmm
  subst hmm
  have hv:∀ i:Nat,∃ q:(Option Addr × Nat × Nat) × List Nat,i < m -> V i = .slice q.1.1 q.1.2.1 q.1.2.2 /\ RdF W q.1.1 q.1.2.1 q.1.2.2 q.2 /\ (q.1.1 = none -> q.1.2.1 = 0 /\ q.1.2.2 = 0) /\ q.1.2.1 <= Rows.uptoBulk (D i):=by
   intro i
   by_cases hi:i < m
   ·obtain ⟨ao,l,c,us,hu,r1,r2,r3⟩:=floatsJ_open hE hQ hq (hx i hi).2
    simp only [List.cons.injEq,and_true] at hu
    exact ⟨((ao,l,c),us),fun _=>⟨hu,r1,r2,r3⟩⟩
   ·exact ⟨((none,0,0),[]),fun h=>absurd h hi⟩
  obtain ⟨F,hF⟩:=Classical.axiomOfChoice hv
  have hb:=bulkJ_slice ((List.range len).map D) ((List.range (m - len)).map fun j=>D (len + j))
  have hbk:len <= Rows.uptoBulk x.1:=by
   rw [hxx]
   have:=hb.1
   rw [List.length_map,List.length_range] at this
   exact this
  refine ⟨some a,len,m,fun i=>(F i).1,(List.range len).map fun i=>(F i).2,hcs,⟨by simp,Nat.le_trans hl hm,?_,fun j hj=>?_⟩,hbk,fun k hk=>?_⟩
  ·by_cases h0:len = 0
   ·exact .inl h0
   ·right
    obtain ⟨b,off,spot⟩:=a
    have hspot:spot = none:=by simpa [Addr.add] using World.cell?_spot (hx 0 (by omega)).1
    subst hspot
    refine ⟨b,off,rfl,fun j hj=>?_⟩
    have g:=(hx j (by omega)).1
    rw [Addr.add_lit,(hF j (by omega)).1] at g
    exact g
  ·have e:((List.range len).map fun i=>(F i).2)[j]?.getD [] = (F j).2:=by simp [hj]
   rw [e]
   exact (hF j (by omega)).2.1
  ·obtain ⟨_,_,h3,h4⟩:=hF k (by omega)
   refine ⟨h3,Nat.le_trans h4 ?_⟩
   rw [hxx]
   exact hb.2 _ (List.mem_map.2 ⟨k,List.mem_range.2 hk,rfl⟩)
theorem array6 {α:Type} {cs:Array α} (h:cs.size = 6):∃ c0 c1 c2 c3 c4 c5,cs = #[c0,c1,c2,c3,c4,c5]:=by
 obtain ⟨l⟩:=cs
 match l,h with
 | [c0,c1,c2,c3,c4,c5],_=>exact ⟨c0,c1,c2,c3,c4,c5,rfl⟩
theorem agg6 {P:Program} {H:Type} {enc:TypeId × Value -> H} {W:World} {base b0:Nat} {r:Reach} {spare:Nat -> Bool} {held:Bool} {t:TypeId} {f0 f1 f2 f3 f4 f5:Field} {v:Value} {d:DataW H} {p:List MemPlace}
  (hs:P.underlying t = some (.struct #[f0,f1,f2,f3,f4,f5])) (hone:oneCellFields P #[f0,f1,f2,f3,f4,f5] = true) (hC:P.cellsOf t = 6) (hv:Value.okWide P W r b0 t v) (h:DataW.Trod enc P W base spare held t v d p) :
  ∃ (v0 v1 v2 v3 v4 v5:Value) (y0 y1 y2 y3 y4 y5:DataW H × List MemPlace) (n:Nat),v = .agg #[v0,v1,v2,v3,v4,v5] /\ (∀ y ∈ [y0,y1,y2,y3,y4,y5],Rows.uptoBulk y.1 <= Rows.uptoBulk d) ∧
   DataW.trod enc P W base spare held n f0.type [v0] = some y0 /\ DataW.trod enc P W base spare held n f1.type [v1] = some y1 /\ DataW.trod enc P W base spare held n f2.type [v2] = some y2 /\ DataW.trod enc P W base spare held n f3.type [v3] = some y3 /\ DataW.trod enc P W base spare held n f4.type [v4] = some y4 /\ DataW.trod enc P W base spare held n f5.type [v5] = some y5:=by
 obtain ⟨cs,rfl,hsz⟩:=okWide_struct hs hv
 obtain ⟨c0,c1,c2,c3,c4,c5,rfl⟩:=array6 (hsz.trans hC)
 obtain ⟨fuel,hf⟩:=h
 obtain ⟨xs,n,_,hx,hl,hlen,hff⟩:=DataW.trod_struct hs hf
 simp only [Prod.mk.injEq] at hx
 obtain ⟨o0,k0⟩:=hone_of hone 0 f0 rfl
 obtain ⟨o1,k1⟩:=hone_of hone 1 f1 rfl
 obtain ⟨o2,k2⟩:=hone_of hone 2 f2 rfl
 obtain ⟨o3,k3⟩:=hone_of hone 3 f3 rfl
 obtain ⟨o4,k4⟩:=hone_of hone 4 f4 rfl
 obtain ⟨o5,k5⟩:=hone_of hone 5 f5 rfl
 match xs,hlen with
 | [y0,y1,y2,y3,y4,y5],_=>
  exact ⟨c0,c1,c2,c3,c4,c5,y0,y1,y2,y3,y4,y5,n,rfl,fun y hy=>by rw [hx.1];exact bulkJ_agg _ _ (List.mem_map.2 ⟨y,hy,rfl⟩),by simpa [Value.cells,o0,k0] using hff 0 f0 rfl,by simpa [Value.cells,o1,k1] using hff 1 f1 rfl,by simpa [Value.cells,o2,k2] using hff 2 f2 rfl,by simpa [Value.cells,o3,k3] using hff 3 f3 rfl,by simpa [Value.cells,o4,k4] using hff 4 f4 rfl,by simpa [Value.cells,o5,k5] using hff 5 f5 rfl⟩
end Go.Proofs.YtmdjoaipkbnelaaGreat
