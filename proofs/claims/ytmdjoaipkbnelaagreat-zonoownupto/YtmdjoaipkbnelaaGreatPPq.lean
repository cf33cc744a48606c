import Derived.Test.YtmdjoaipkbnelaaGreatPPx
import Derived.Test.YtmdjoaipkbnelaaGreatPPn
set_option linter.unusedVariables false
set_option linter.unusedSimpArgs false
namespace Go.Proofs.YtmdjoaipkbnelaaGreat
open Go.RowKit Go.Shelf
def sumF (n:Nat) (xs ys:List Nat):List Int:=fnL n fun j=>fval (xs[j]?.getD 0) + fval (ys[j]?.getD 0)
def sumC (n:Nat) (u v:ZD) (id:Int):List Int:=fnL n fun j=>(colZ n id u.ids u.gs)[j]?.getD 0 + (colZ n id v.ids v.gs)[j]?.getD 0
def gzD (n:Nat) (u v:ZD):List (List Int):=(mg u.ids v.ids).map (sumC n u v)
theorem sumF_at {n j:Nat} (xs ys:List Nat) (h:j < n):(sumF n xs ys)[j]?.getD 0 = fval (xs[j]?.getD 0) + fval (ys[j]?.getD 0):=fnL_at _ h
theorem gzD_len (n:Nat) (u v:ZD):(gzD n u v).length = (mg u.ids v.ids).length:=List.length_map _
theorem gzD_at {n k:Nat} {u v:ZD} (h:k < (mg u.ids v.ids).length):(gzD n u v)[k]?.getD [] = sumC n u v ((mg u.ids v.ids)[k]?.getD 0):=by
 unfold gzD
 rw [List.getElem?_map,List.getElem?_eq_getElem h]
 rfl
theorem colZ_find (n:Nat) (id:Int):∀ (ids:List Int) (gs:List (List Nat)),ids.length = gs.length -> colZ n id ids gs = if ids.findIdx (· == id) < ids.length then (gs[ids.findIdx (· == id)]?.getD []).map fval else List.replicate n 0
 | [],gs,h=>by simp [colZ]
 | i :: is,[],h=>by simp at h
 | i :: is,g :: gs,h=>by
  have ih:=colZ_find n id is gs (by simpa using h)
  rw [colZ]
  by_cases e:i = id
  ·subst e
   rw [if_pos rfl]
   have e0:(i :: is).findIdx (· == i) = 0:=by rw [List.findIdx_cons];simp
   rw [e0,if_pos (by simp)]
   rfl
  ·rw [if_neg e,ih]
   have e0:(i :: is).findIdx (· == id) = is.findIdx (· == id) + 1:=by
    rw [List.findIdx_cons]
    have:(i == id) = false:=by simpa using e
    rw [this];rfl
   rw [e0]
   by_cases h2:is.findIdx (· == id) < is.length
   ·rw [if_pos h2,if_pos (by simpa using h2)];rfl
   ·rw [if_neg h2,if_neg (by simpa using h2)]
theorem getF (l:List Nat) (j:Nat):(l.map fval)[j]?.getD 0 = fval (l[j]?.getD 0):=by
 rw [List.getElem?_map]
 cases l[j]? with
 | none=>exact fval_zeroJ.symm
 | some x=>rfl
theorem colZ_L {z:ZD} {n:Nat} {id:Int} (h:z.ids.length = z.gs.length) (j:Nat):(colZ n id z.ids z.gs)[j]?.getD 0 = fval ((colL z n id)[j]?.getD 0):=by
 rw [colZ_find n id z.ids z.gs h]
 unfold colL
 by_cases h2:z.ids.findIdx (· == id) < z.ids.length
 ·rw [if_pos h2,if_pos h2];exact getF _ j
 ·rw [if_neg h2,if_neg h2,<- getF,List.map_replicate,fval_zeroJ]
theorem ne_same {n:Nat} {ps qs us vs ws:List Nat} {zs:List Int} (h:NeR n ps qs us vs n) (k:NeD zs ws n) (hz:∀ j,j < n -> zs[j]?.getD 0 = fval (ps[j]?.getD 0) + fval (qs[j]?.getD 0)) :
  us = ws /\ ∀ j,j < n -> Fin (vs[j]?.getD 0) /\ lostD zs ws j = (rmag (frung (vs[j]?.getD 0)):Int):=by
 have he:∀ j,j < n -> us[j]?.getD 0 = ws[j]?.getD 0:=fun j hj=>by
  have h1:=(h.is j hj).1
  have h2:=k.is j hj
  rw [hz j hj] at h2
  have h3:=RndZ.uniq h1 h2
  simp only [Prod.mk.injEq] at h3
  exact h3.1
 refine ⟨?_,fun j hj=>⟨(h.is j hj).2.1,?_⟩⟩
 ·apply List.ext_getElem
  ·rw [h.lu,k.len]
  ·intro i p1 p2
   have h1:=he i (by rw [<- h.lu];exact p1)
   rwa [List.getElem?_eq_getElem p1,List.getElem?_eq_getElem p2,Option.getD_some,Option.getD_some] at h1
 ·unfold lostD
  rw [hz j hj,<- he j hj,<- (h.is j hj).2.2,fval_abs]
theorem addJ_is {a E n j:Nat} {vs:List Nat} {os:Nat -> Option Int} {x:Int} (ha:a = 1166) (hE:E = 2140) (hj:j < n) (ho:os j = some (x * ((2 ^ a:Nat):Int))) (hf:Fin (vs[j]?.getD 0)) (hx:(x + (rmag (frung (vs[j]?.getD 0)):Int)).natAbs < 2 ^ E) :
  addJ vs os n j = some ((x + (rmag (frung (vs[j]?.getD 0)):Int)) * ((2 ^ a:Nat):Int)):=by
 unfold addJ
 rw [if_pos hj,ho]
 exact prodO_step ha hE (fin_frung hf) (by decide) (by rw [prodZ_oneJ ha,fval_frung]) hx
theorem few_bound {c F E:Nat} {x:Int} (hF:F = 2098) (hE:E = 2140) (hc:c <= 4194304) (h:x.natAbs < c * 2 ^ F \/ x.natAbs <= c * 2 ^ F):x.natAbs < 2 ^ E:=by
 have h1:x.natAbs <= c * 2 ^ F:=by rcases h with h | h <;> omega
 refine Nat.lt_of_le_of_lt (Nat.le_trans h1 (Nat.mul_le_mul_right _ hc)) ?_
 rw [show (4194304:Nat) = 2 ^ 22 by decide,<- Nat.pow_add]
 exact Nat.pow_lt_pow_right (by decide) (by omega)
theorem os_same {a E F n j:Nat} (ha:a = 1166) (hE:E = 2140) (hF:F = 2098) (hj:j < n):∀ (VL:List (List Nat)) (PL:List (List Int × List Nat)) (os:Nat -> Option Int) (f:Nat -> Int) (c:Nat),VL.length = PL.length →
  (∀ i,i < VL.length -> Fin ((VL[i]?.getD [])[j]?.getD 0) /\ lostD (PL[i]?.getD ([],[])).1 (PL[i]?.getD ([],[])).2 j = (rmag (frung ((VL[i]?.getD [])[j]?.getD 0)):Int)) →
  os j = some (f j * ((2 ^ a:Nat):Int)) -> (f j).natAbs <= c * 2 ^ F -> c + VL.length <= 4194304 -> osK n os VL j = some (osD n f PL j * ((2 ^ a:Nat):Int))
 | [],[],os,f,c,hl,h,ho,hb,hc=>ho
 | [],_ :: _,os,f,c,hl,h,ho,hb,hc=>by simp at hl
 | _ :: _,[],os,f,c,hl,h,ho,hb,hc=>by simp at hl
 | vs :: VL,p :: PL,os,f,c,hl,h,ho,hb,hc=>by
  have h0:Fin (vs[j]?.getD 0) /\ lostD p.1 p.2 j = (rmag (frung (vs[j]?.getD 0)):Int):=h 0 (by simp)
  have h1:=fval_ltJ h0.1 hF
  have hl2:VL.length = PL.length:=by simpa using hl
  have hc2:c + 1 + VL.length <= 4194304:=by simp only [List.length_cons] at hc;omega
  have hs:(f j + (rmag (frung (vs[j]?.getD 0)):Int)).natAbs <= (c + 1) * 2 ^ F:=sum_bd hb (by rw [Int.natAbs_natCast];exact Nat.le_of_lt h1)
  have ha2:addF p.1 p.2 n f j = f j + (rmag (frung (vs[j]?.getD 0)):Int):=by unfold addF;rw [if_pos hj,h0.2]
  refine os_same ha hE hF hj VL PL (addJ vs os n) (addF p.1 p.2 n f) (c + 1) hl2 (fun i hi=>h (i + 1) (by simp only [List.length_cons];omega)) ?_ ?_ hc2
  ·rw [ha2];exact addJ_is ha hE hj ho h0.1 (few_bound hF hE (by omega) (.inr hs))
  ·rw [ha2];exact hs
structure PlS (a b:ZD) (n:Nat) (us:List Nat) (UL:List (List Nat)):Prop where
 c:NeD (sumF n a.cs b.cs) us n
 g:CoD (gzD n a b) n UL (mg a.ids b.ids).length
def fsD (a b:ZD) (n:Nat) (us:List Nat) (UL:List (List Nat)) (j:Nat):Int:=osD n (addF (sumF n a.cs b.cs) us n fun j=>(sumF n a.rs b.rs)[j]?.getD 0) ((gzD n a b).zip UL) j
theorem zip_at {α β:Type} {d:α} {e:β}:∀ (l:List α) (m:List β) (i:Nat),i < l.length -> i < m.length -> (l.zip m)[i]?.getD (d,e) = (l[i]?.getD d,m[i]?.getD e)
 | [],_,i,h,_=>by simp at h
 | _ :: _,[],i,_,h=>by simp at h
 | x :: l,y :: m,0,_,_=>rfl
 | x :: l,y :: m,i + 1,h1,h2=>zip_at l m i (by simpa using h1) (by simpa using h2)
theorem pl_same {a b:ZD} {n:Nat} {cu cv us:List Nat} {UL VL WL:List (List Nat)} (fa:FnZ a) (fb:FnZ b) (pb:∀ i:Nat,0 <= fval (b.rs[i]?.getD 0)) (la:a.ids.length = a.gs.length) (lb:b.ids.length = b.gs.length) (hm:(mg a.ids b.ids).length <= 4000000)
  (h1:NeR n a.cs b.cs cu cv n) (h2:SuK a b n (mg a.ids b.ids) UL VL (mg a.ids b.ids).length) (k:PlS a b n us WL) :
  cu = us /\ UL = WL /\ ∀ j,j < n -> ∀ r ok,RndO 1 (osK n (addJ cv (addJ b.rs (accB a.rs) n) n) VL j) r ok -> RndZ 1 (fsD a b n us WL j) 1 (r,ok):=by
 obtain ⟨e1,e2⟩:=ne_same h1 k.c fun j hj=>sumF_at _ _ hj
 have hcol:∀ i,i < (mg a.ids b.ids).length -> UL[i]?.getD [] = WL[i]?.getD [] /\ ∀ j,j < n -> Fin ((VL[i]?.getD [])[j]?.getD 0) /\ lostD ((gzD n a b)[i]?.getD []) (WL[i]?.getD []) j = (rmag (frung ((VL[i]?.getD [])[j]?.getD 0)):Int):=fun i hi=>
  ne_same (h2.is i hi) (k.g.is i hi) fun j hj=>by
   rw [gzD_at hi]
   unfold sumC
   rw [fnL_at _ hj,colZ_L la,colZ_L lb]
 refine ⟨e1,?_,fun j hj r ok hr=>?_⟩
 ·apply List.ext_getElem
  ·rw [h2.lu,k.g.len]
  ·intro i p1 p2
   have q:=(hcol i (by rw [<- h2.lu];exact p1)).1
   rwa [List.getElem?_eq_getElem p1,List.getElem?_eq_getElem p2,Option.getD_some,Option.getD_some] at q
 ·obtain ⟨A,hA⟩:∃ A:Nat,A = 1166:=⟨_,rfl⟩
  obtain ⟨E,hE⟩:∃ E:Nat,E = 2140:=⟨_,rfl⟩
  obtain ⟨F,hF⟩:∃ F:Nat,F = 2098:=⟨_,rfl⟩
  have m1:=fval_ltJ (fa.r j) hF
  have m2:=fval_ltJ (fb.r j) hF
  have m3:=fval_ltJ (e2 j hj).1 hF
  have v1:(fval (a.rs[j]?.getD 0)).natAbs <= 1 * 2 ^ F:=by rw [fval_abs,Nat.one_mul];exact Nat.le_of_lt m1
  have v2:(fval (a.rs[j]?.getD 0) + (rmag (frung (b.rs[j]?.getD 0)):Int)).natAbs <= (1 + 1) * 2 ^ F:=sum_bd v1 (by rw [Int.natAbs_natCast];exact Nat.le_of_lt m2)
  have v3:(fval (a.rs[j]?.getD 0) + (rmag (frung (b.rs[j]?.getD 0)):Int) + (rmag (frung (cv[j]?.getD 0)):Int)).natAbs <= (1 + 1 + 1) * 2 ^ F:=sum_bd v2 (by rw [Int.natAbs_natCast];exact Nat.le_of_lt m3)
  have z1:accB a.rs j = some (fval (a.rs[j]?.getD 0) * ((2 ^ A:Nat):Int)):=by
   unfold accB
   have:=prodO_step (x:=0) hA hE (fa.r j) (show Fin 4607182418800017408 by decide) (prodZ_oneJ hA _) (by rw [Int.zero_add];exact few_bound hF hE (by omega) (.inr v1))
   rwa [Int.zero_mul,Int.zero_add] at this
  have z2:=addJ_is (n:=n) hA hE hj z1 (fb.r j) (few_bound hF hE (by omega) (.inr v2))
  have z3:=addJ_is (n:=n) hA hE hj z2 (e2 j hj).1 (few_bound hF hE (by omega) (.inr v3))
  have hb0:fval (b.rs[j]?.getD 0) = (rmag (frung (b.rs[j]?.getD 0)):Int):=by have p:=pb j;have q:=fval_abs (b.rs[j]?.getD 0);omega
  have hf:addF (sumF n a.cs b.cs) us n (fun j=>(sumF n a.rs b.rs)[j]?.getD 0) j = fval (a.rs[j]?.getD 0) + (rmag (frung (b.rs[j]?.getD 0)):Int) + (rmag (frung (cv[j]?.getD 0)):Int):=by
   unfold addF
   rw [if_pos hj,(e2 j hj).2]
   show (sumF n a.rs b.rs)[j]?.getD 0 + _ = _
   rw [sumF_at _ _ hj,hb0]
  have hos:=os_same hA hE hF hj VL ((gzD n a b).zip WL) (addJ cv (addJ b.rs (accB a.rs) n) n) (addF (sumF n a.cs b.cs) us n fun j=>(sumF n a.rs b.rs)[j]?.getD 0) (1 + 1 + 1)
   (by rw [h2.lv,List.length_zip,gzD_len,k.g.len,Nat.min_self])
   (fun i hi=>by
    rw [h2.lv] at hi
    rw [zip_at (d:=[]) (e:=[]) _ _ i (by rw [gzD_len];exact hi) (by rw [k.g.len];exact hi)]
    exact (hcol i hi).2 j hj)
   (by rw [hf];exact z3) (by rw [hf];exact v3) (by rw [h2.lv];omega)
  rw [hos] at hr
  exact RndZ.of_ratio (RndO.some_iff hA hr) (by omega) (by unfold fsD;rw [Int.natCast_one,Int.mul_one])
structure PlD (u q v:ZD):Prop where
 is:((!u.bad && wholeB u) = true /\ (!q.bad && wholeB q) = true /\ u.N = q.N /\ v.N = u.N /\ v.bad = false /\ ∃ us UL,PlS u q u.rn us UL /\ v.cs = us /\ v.rs.length = u.rn /\ (∀ j,j < u.rn -> RndZ 1 (fsD u q u.rn us UL j) 1 (v.rs[j]?.getD 0,true)) /\ v.ids = (kpP (mg u.ids q.ids) UL).map (·.1) /\ v.gs = (kpP (mg u.ids q.ids) UL).map (·.2)) ∨
  (((!u.bad && wholeB u) = false \/ (!q.bad && wholeB q) = false \/ u.N ≠ q.N \/ LdNo (sumF u.rn u.cs q.cs) (sumF u.rn u.rs q.rs) (gzD u.rn u q) u.rn (mg u.ids q.ids).length) /\ v.N = (if (tkZ u).N = (tkZ q).N then (tkZ u).N else 0) /\ v.bad = true /\ v.cs = [] /\ v.rs = [] /\ v.ids = [] /\ v.gs = [])
end Go.Proofs.YtmdjoaipkbnelaaGreat
