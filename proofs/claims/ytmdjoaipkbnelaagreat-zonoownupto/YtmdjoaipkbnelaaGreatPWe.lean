import Derived.Test.YtmdjoaipkbnelaaGreatPWd
set_option linter.unusedVariables false
set_option linter.unusedSimpArgs false
namespace Go.Proofs.YtmdjoaipkbnelaaGreat
open Go.RowKit Go.Shelf
theorem fval_signP {u:Nat} (h:0 <= fval u):¬ srung u < 0:=by
 intro hs
 have h2:=fval_srung u 0
 rw [fval_zeroJ,srung_zero] at h2
 rw [Int.compare_eq_lt.2 hs] at h2
 have:=Int.compare_eq_lt.1 h2
 omega
theorem numN_ofP {us:List Nat} {n:Int} (h:(us.length:Int) = n) (hf:∀ u ∈ us,Fin u):numN us n = true:=by
 unfold numN
 rw [decide_eq_true h,numsB_fin hf]
 rfl
theorem NeD.finP {zs:List Int} {us:List Nat} {n:Nat} (h:NeD zs us n):∀ u ∈ us,Fin u:=fun u hu=>by
 obtain ⟨j,hj,rfl⟩:=List.mem_iff_getElem.1 hu
 have h1:=h.is j (by rw [<- h.len];exact hj)
 rw [List.getElem?_eq_getElem hj] at h1
 exact (rz_canon h1).1
theorem kp_sub {L:List Int} {UL:List (List Nat)} (h:L.length = UL.length):((kpP L UL).map (·.1)).Sublist L:=by
 have h1:(kpP L UL).Sublist (L.zip UL):=List.filter_sublist
 have h2:=h1.map (·.1)
 rwa [List.map_fst_zip (by omega)] at h2
theorem kp_mem {L:List Int} {UL:List (List Nat)} {g:List Nat} (h:g ∈ (kpP L UL).map (·.2)):g ∈ UL:=by
 obtain ⟨p,hp,rfl⟩:=List.mem_map.1 h
 have h1:p ∈ L.zip UL:=(List.mem_filter.1 (show p ∈ (L.zip UL).filter (fun p=>p.2.any nzB) from hp)).1
 exact (List.of_mem_zip (a:=p.1) (b:=p.2) h1).2
theorem PlG.up {x y z:ZD} {n j:Nat} {us:List Nat} {UL:List (List Nat)} (h:PlG x y z n us UL) (hj:j < n):fval (x.rs[j]?.getD 0) + fval (y.rs[j]?.getD 0) + lostD (sumF n x.cs y.cs) us j + (((gzD n x y).zip UL).map fun p=>lostD p.1 p.2 j).sum <= fval (z.rs[j]?.getD 0):=by
 have h1:=up_leJ (by decide) (h.rs j hj)
 rw [fsD_is hj] at h1
 omega
theorem PlG.whole {w w1 w2:World} {x y z:ZD} {us:List Nat} {UL:List (List Nat)} (h:PlG x y z x.rn us UL) (hz:ZR w z) (hx:ZR w1 x) (hy:ZR w2 y) (wx:wholeB x = true) (wy:wholeB y = true) (fx:WhF x) (fy:WhF y):wholeB z = true:=by
 have hlen:(mg x.ids y.ids).length = UL.length:=h.s.g.len.symm
 obtain ⟨rx,bx⟩:=whole_ids wx hx.i.length
 obtain ⟨ry,bY⟩:=whole_ids wy hy.i.length
 have hsub:=kp_sub hlen
 have hr:z.ids.Pairwise (· < ·):=by rw [h.ids];exact (mg_rise _ _ rx ry).sublist hsub
 have hb:∀ i ∈ z.ids,0 <= i /\ i <= 1073741824:=fun i hi=>by
  rw [h.ids] at hi
  rcases mgm_mem _ _ i (hsub.subset hi) with h1 | h1
  ·exact bx i h1
  ·exact bY i h1
 have hgl:z.ids.length = z.gs.length:=by rw [h.ids,h.gs,List.length_map,List.length_map]
 refine (wholeB_iff z).2 ⟨by rw [h.N];have:=fx.n1;omega,by rw [h.N];have:=fx.n2;omega,?_,?_,by rw [<- hz.i.length,<- hz.g.length,hgl],?_,fun j hj=>⟨?_,?_,?_⟩⟩
 ·rw [h.cs,h.N]
  exact numN_ofP (by rw [h.s.c.len]) h.s.c.finP
 ·rw [h.N]
  refine numN_ofP (by rw [h.rl]) fun u hu=>?_
  obtain ⟨j,hj,rfl⟩:=List.mem_iff_getElem.1 hu
  have h1:=h.rs j (by rw [<- h.rl];exact hj)
  rw [List.getElem?_eq_getElem hj] at h1
  exact (rz_canon h1).1
 ·unfold posB
  rw [List.all_eq_true]
  intro u hu
  obtain ⟨j,hj,rfl⟩:=List.mem_iff_getElem.1 hu
  have h1:=h.up (j:=j) (by rw [<- h.rl];exact hj)
  rw [List.getElem?_eq_getElem hj,Option.getD_some] at h1
  have h2:=fx.pos j
  have h3:=fy.pos j
  have h4:=lostD_pos (sumF x.rn x.cs y.cs) us j
  have h5:=sum_pos (PL:=(gzD x.rn x y).zip UL) (j:=j)
  have:=fval_signP (u:=z.rs[j]) (by omega)
  simpa using this
 ·rw [<- hz.i.length] at hj
  by_cases e:j = 0
  ·subst e
   rw [if_pos rfl,List.getElem?_eq_getElem hj,Option.getD_some]
   have:=(hb _ (List.getElem_mem hj)).1
   omega
  ·rw [if_neg e,List.getElem?_eq_getElem hj,List.getElem?_eq_getElem (show j - 1 < z.ids.length by omega),Option.getD_some,Option.getD_some]
   exact List.pairwise_iff_getElem.1 hr (j - 1) j (by omega) hj (by omega)
 ·rw [<- hz.i.length] at hj
  rw [List.getElem?_eq_getElem hj,Option.getD_some]
  exact (hb _ (List.getElem_mem hj)).2
 ·rw [<- hz.i.length,hgl] at hj
  rw [List.getElem?_eq_getElem hj,Option.getD_some,h.N]
  have hm:z.gs[j] ∈ UL:=kp_mem (L:=mg x.ids y.ids) (by rw [<- h.gs];exact List.getElem_mem hj)
  obtain ⟨k,hk,e⟩:=List.mem_iff_getElem.1 hm
  have h1:=h.s.g.is k (by rw [hlen];exact hk)
  rw [List.getElem?_eq_getElem hk,Option.getD_some,e] at h1
  exact numN_ofP (by rw [h1.len]) h1.finP
end Go.Proofs.YtmdjoaipkbnelaaGreat
