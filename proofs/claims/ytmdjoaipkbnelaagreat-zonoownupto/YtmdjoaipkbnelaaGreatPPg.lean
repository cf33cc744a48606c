import Derived.Test.YtmdjoaipkbnelaaGreatPPf
set_option linter.unusedVariables false
set_option linter.unusedSimpArgs false
namespace Go.Proofs.YtmdjoaipkbnelaaGreat
open Go.RowKit Go.Shelf
theorem whole_ids {z:ZD} (h:wholeB z = true) (hl:z.ids.length = z.dn):z.ids.Pairwise (· < ·) /\ ∀ x ∈ z.ids,0 <= x /\ x <= 1073741824:=by
 obtain ⟨-,-,-,-,-,-,h7⟩:=(wholeB_iff z).1 h
 have hlow:∀ j,j < z.dn -> 0 <= z.ids[j]?.getD 0:=by
  intro j
  induction j with
  | zero=>intro hj;have:=(h7 0 hj).1;rw [if_pos rfl] at this;omega
  | succ j ih=>intro hj;have h1:=(h7 (j + 1) hj).1;rw [if_neg (by omega),Nat.add_sub_cancel] at h1;have:=ih (by omega);omega
 refine ⟨?_,fun x hx=>?_⟩
 ·have hst:∀ i j,i < j -> j < z.dn -> z.ids[i]?.getD 0 < z.ids[j]?.getD 0:=by
   intro i j
   induction j with
   | zero=>intro h;omega
   | succ j ih=>
    intro hij hj
    have h1:=(h7 (j + 1) hj).1
    rw [if_neg (by omega),Nat.add_sub_cancel] at h1
    by_cases e:i = j
    ·rw [e];exact h1
    ·have:=ih (by omega) (by omega);omega
  refine List.pairwise_iff_getElem.2 fun i j hi hj hij=>?_
  have:=hst i j hij (by omega)
  rwa [List.getElem?_eq_getElem hi,List.getElem?_eq_getElem hj] at this
 ·obtain ⟨j,hj,rfl⟩:=List.mem_iff_getElem.1 hx
  have h1:=hlow j (by omega)
  have h2:=(h7 j (by omega)).2.1
  rw [List.getElem?_eq_getElem hj] at h1 h2
  exact ⟨h1,h2⟩
def colL (z:ZD) (n:Nat) (id:Int):List Nat:=if z.ids.findIdx (· == id) < z.ids.length then z.gs[z.ids.findIdx (· == id)]?.getD [] else List.replicate n 0
def colO (z:ZD) (nb n:Nat) (id:Int):Option Addr × Nat:=if z.ids.findIdx (· == id) < z.ids.length then ((z.gv (z.ids.findIdx (· == id))).1,(z.gv (z.ids.findIdx (· == id))).2.2) else (some ⟨nb,0,none⟩,n)
theorem col_val {W:World} {z:ZD} {nb n:Nat} (hz:ZR W z) (hd:z.dn = z.gn) (hg:∀ k,k < z.dn -> (z.gs[k]?.getD []).length = n) (id:Int):colS z (nzV nb n) (List.range z.ids.length) id = .slice (colO z nb n id).1 n (colO z nb n id).2:=by
 unfold colS colO nzV
 by_cases h:z.ids.findIdx (· == id) < z.ids.length
 ·rw [if_pos (List.mem_range.2 h),if_pos h]
  have hi:z.ids.findIdx (· == id) < z.dn:=by rw [<- hz.i.length];exact h
  have h1:=(hz.g.each _ (by omega:z.ids.findIdx (· == id) < z.gn)).length
  rw [hg _ hi] at h1
  dsimp only
  rw [h1]
 ·rw [if_neg (fun c=>h (List.mem_range.1 c)),if_neg h]
theorem col_rd {W:World} {z:ZD} {nb n:Nat} (hz:ZR W z) (hd:z.dn = z.gn) (hg:∀ k,k < z.dn -> (z.gs[k]?.getD []).length = n) (hn:RdF W (some ⟨nb,0,none⟩) n n (List.replicate n 0)) (id:Int):RdF W (colO z nb n id).1 n (colO z nb n id).2 (colL z n id):=by
 unfold colL colO
 by_cases h:z.ids.findIdx (· == id) < z.ids.length
 ·rw [if_pos h,if_pos h]
  have hi:z.ids.findIdx (· == id) < z.dn:=by rw [<- hz.i.length];exact h
  have h1:=hz.g.each _ (by omega:z.ids.findIdx (· == id) < z.gn)
  have h2:=h1.length
  rw [hg _ hi] at h2
  rw [<- h2] at h1
  exact h1
 ·rw [if_neg h,if_neg h]
  exact hn
theorem col_fin {z:ZD} {n:Nat} (hf:∀ l ∈ z.gs,∀ u ∈ l,Fin u) (id:Int) (j:Nat):Fin ((colL z n id)[j]?.getD 0):=by
 have h0:Fin 0:=by unfold Fin frung infK;decide
 have hx:∀ u ∈ colL z n id,Fin u:=by
  unfold colL
  split
  ·rename_i h
   intro u hu
   by_cases hg:z.ids.findIdx (· == id) < z.gs.length
   ·rw [List.getElem?_eq_getElem hg] at hu
    exact hf _ (List.getElem_mem hg) u hu
   ·rw [List.getElem?_eq_none (by omega)] at hu
    cases hu
  ·intro u hu
   rw [List.eq_of_mem_replicate hu]
   exact h0
 by_cases h:j < (colL z n id).length
 ·rw [List.getElem?_eq_getElem h];exact hx _ (List.getElem_mem h)
 ·rw [List.getElem?_eq_none (by omega)];exact h0
def kpP (L:List Int) (UL:List (List Nat)):List (Int × List Nat):=(L.zip UL).filter (fun p=>p.2.any nzB)
theorem zip_snoc {α β:Type}:∀ (U:List β) (L:List α) (u:β) (h:U.length < L.length),L.zip (U ++ [u]) = L.zip U ++ [(L[U.length],u)]
 | [],x :: L,u,h=>by simp
 | v :: U,x :: L,u,h=>by
  simp only [List.cons_append,List.zip_cons_cons,List.length_cons,List.getElem_cons_succ,List.cons.injEq,true_and]
  exact zip_snoc U L u (by simp only [List.length_cons] at h;omega)
theorem kpP_snoc {L:List Int} {UL:List (List Nat)} {k:Nat} (hk:k < L.length) (hu:UL.length = k) (us:List Nat):kpP L (UL ++ [us]) = kpP L UL ++ (if us.any nzB then [(L[k],us)] else []):=by
 subst hu
 unfold kpP
 rw [zip_snoc UL L us hk,List.filter_append]
 congr 1
 rw [List.filter_cons,List.filter_nil]
def osK (n:Nat) (os:Nat -> Option Int) (VL:List (List Nat)):Nat -> Option Int:=VL.foldl (fun o vs=>addJ vs o n) os
theorem osK_snoc (n:Nat) (os:Nat -> Option Int) (VL:List (List Nat)) (vs:List Nat):osK n os (VL ++ [vs]) = addJ vs (osK n os VL) n:=by unfold osK;rw [List.foldl_append];rfl
structure SuK (a b:ZD) (n:Nat) (L:List Int) (UL VL:List (List Nat)) (k:Nat):Prop where
 lu:UL.length = k
 lv:VL.length = k
 is:∀ j,j < k -> NeR n (colL a n (L[j]?.getD 0)) (colL b n (L[j]?.getD 0)) (UL[j]?.getD []) (VL[j]?.getD []) n
theorem SuK.snoc {a b:ZD} {n k:Nat} {L:List Int} {UL VL:List (List Nat)} {us vs:List Nat} (h:SuK a b n L UL VL k) (hs:NeR n (colL a n (L[k]?.getD 0)) (colL b n (L[k]?.getD 0)) us vs n):SuK a b n L (UL ++ [us]) (VL ++ [vs]) (k + 1):=by
 refine ⟨by rw [List.length_append,h.lu];rfl,by rw [List.length_append,h.lv];rfl,fun j hj=>?_⟩
 by_cases e:j < k
 ·rw [List.getElem?_append_left (by rw [h.lu];exact e),List.getElem?_append_left (by rw [h.lv];exact e)]
  exact h.is j e
 ·have ej:j = k:=by omega
  subst ej
  rw [List.getElem?_append_right (by rw [h.lu];exact Nat.le_refl _),List.getElem?_append_right (by rw [h.lv];exact Nat.le_refl _),h.lu,h.lv,Nat.sub_self]
  exact hs
end Go.Proofs.YtmdjoaipkbnelaaGreat
