import Derived.Test.YtoflalhiihcofaaGreatPWa
set_option linter.unusedVariables false
set_option linter.unusedSimpArgs false
namespace Go.Proofs.YtoflalhiihcofaaGreat
open Go.RowKit Go.Shelf
theorem mg_comm:∀ (xs ys:List Int),mg xs ys = mg ys xs
 | [],ys=>by rw [mg_nil];simp [mg]
 | x :: xs,[]=>by rw [mg_nil];simp [mg]
 | x :: xs,y :: ys=>by
  rw [mg,mg]
  by_cases h1:x < y
  ·rw [if_pos h1,if_neg (by omega),if_pos h1,mg_comm xs (y :: ys)]
  ·rw [if_neg h1]
   by_cases h2:y < x
   ·rw [if_pos h2,if_pos h2,mg_comm (x :: xs) ys]
   ·rw [if_neg h2,if_neg h2,if_neg h1,mg_comm xs ys,show x = y by omega]
 termination_by xs ys=>xs.length + ys.length
theorem mgm_mem:∀ (xs ys:List Int) (z:Int),z ∈ mg xs ys -> z ∈ xs \/ z ∈ ys
 | [],ys,z=>by simp [mg]
 | x :: xs,[],z=>by rw [mg_nil];exact fun h=>.inl h
 | x :: xs,y :: ys,z=>by
  rw [mg]
  by_cases h1:x < y
  ·rw [if_pos h1]
   intro h
   rcases List.mem_cons.1 h with rfl | h
   ·exact .inl List.mem_cons_self
   ·rcases mgm_mem xs (y :: ys) z h with h | h
    ·exact .inl (List.mem_cons_of_mem _ h)
    ·exact .inr h
  ·rw [if_neg h1]
   by_cases h2:y < x
   ·rw [if_pos h2]
    intro h
    rcases List.mem_cons.1 h with rfl | h
    ·exact .inr List.mem_cons_self
    ·rcases mgm_mem (x :: xs) ys z h with h | h
     ·exact .inl h
     ·exact .inr (List.mem_cons_of_mem _ h)
   ·rw [if_neg h2]
    intro h
    rcases List.mem_cons.1 h with rfl | h
    ·exact .inl List.mem_cons_self
    ·rcases mgm_mem xs ys z h with h | h
     ·exact .inl (List.mem_cons_of_mem _ h)
     ·exact .inr (List.mem_cons_of_mem _ h)
 termination_by xs ys=>xs.length + ys.length
theorem mg_rise:∀ (xs ys:List Int),xs.Pairwise (· < ·) -> ys.Pairwise (· < ·) -> (mg xs ys).Pairwise (· < ·)
 | [],ys,_,h=>by simpa [mg] using h
 | x :: xs,[],h,_=>by rw [mg_nil];exact h
 | x :: xs,y :: ys,hx,hy=>by
  obtain ⟨hx1,hx2⟩:=List.pairwise_cons.1 hx
  obtain ⟨hy1,hy2⟩:=List.pairwise_cons.1 hy
  rw [mg]
  by_cases h1:x < y
  ·rw [if_pos h1]
   refine List.pairwise_cons.2 ⟨fun z hz=>?_,mg_rise xs (y :: ys) hx2 hy⟩
   rcases mgm_mem _ _ z hz with h | h
   ·exact hx1 z h
   ·rcases List.mem_cons.1 h with rfl | h
    ·exact h1
    ·have:=hy1 z h;omega
  ·rw [if_neg h1]
   by_cases h2:y < x
   ·rw [if_pos h2]
    refine List.pairwise_cons.2 ⟨fun z hz=>?_,mg_rise (x :: xs) ys hx hy2⟩
    rcases mgm_mem _ _ z hz with h | h
    ·rcases List.mem_cons.1 h with rfl | h
     ·exact h2
     ·have:=hx1 z h;omega
    ·exact hy1 z h
   ·rw [if_neg h2]
    refine List.pairwise_cons.2 ⟨fun z hz=>?_,mg_rise xs ys hx2 hy2⟩
    rcases mgm_mem _ _ z hz with h | h
    ·exact hx1 z h
    ·have:=hy1 z h;omega
 termination_by xs ys=>xs.length + ys.length
def sZ (val:Int -> Int) (i:Nat) (P:List (Int × List Nat)):Int:=(P.map fun p=>val p.1 * fval (p.2[i]?.getD 0)).sum
def cZ (val:Int -> Int) (n i:Nat) (L xs:List Int) (gx:List (List Nat)):Int:=(L.map fun id=>val id * (colZ n id xs gx)[i]?.getD 0).sum
theorem rep_zero (n i:Nat):(List.replicate n (0:Int))[i]?.getD 0 = 0:=by
 rw [List.getElem?_replicate];split <;> rfl
theorem colZ_out (n:Nat) (id:Int):∀ (xs:List Int) (gx:List (List Nat)),(∀ x ∈ xs,x ≠ id) -> colZ n id xs gx = List.replicate n 0
 | [],gx,_=>by simp [colZ]
 | x :: xs,[],_=>by simp [colZ]
 | x :: xs,g :: gx,h=>by
  rw [colZ,if_neg (h x List.mem_cons_self)]
  exact colZ_out n id xs gx fun y hy=>h y (List.mem_cons_of_mem _ hy)
theorem cZ_skip {val:Int -> Int} {n i:Nat} {L xs:List Int} {x:Int} {g:List Nat} {gx:List (List Nat)} (h:∀ z ∈ L,z ≠ x):cZ val n i L (x :: xs) (g :: gx) = cZ val n i L xs gx:=by
 unfold cZ
 congr 1
 refine List.map_congr_left fun z hz=>?_
 rw [colZ,if_neg (fun e=>h z hz e.symm)]
theorem cZ_none {val:Int -> Int} {n i:Nat} {L xs:List Int} {gx:List (List Nat)} (h:∀ z ∈ L,∀ x ∈ xs,x ≠ z):cZ val n i L xs gx = 0:=by
 unfold cZ
 have:(L.map fun id=>val id * (colZ n id xs gx)[i]?.getD 0) = L.map fun _=>(0:Int):=List.map_congr_left fun z hz=>by
  rw [colZ_out n z xs gx (h z hz),rep_zero,Int.mul_zero]
 rw [this]
 have key:∀ M:List Int,(M.map fun _=>(0:Int)).sum = 0:=by
  intro M
  induction M with
  | nil=>rfl
  | cons a M ih=>rw [List.map_cons,List.sum_cons,ih];rfl
 exact key L
theorem cZ_cons (val:Int -> Int) (n i:Nat) (z:Int) (L xs:List Int) (gx:List (List Nat)):cZ val n i (z :: L) xs gx = val z * (colZ n z xs gx)[i]?.getD 0 + cZ val n i L xs gx:=by unfold cZ;simp
theorem sZ_cons (val:Int -> Int) (i:Nat) (p:Int × List Nat) (P:List (Int × List Nat)):sZ val i (p :: P) = val p.1 * fval (p.2[i]?.getD 0) + sZ val i P:=by unfold sZ;simp
theorem cZ_hit (val:Int -> Int) (n i:Nat) (x:Int) (xs:List Int) (g:List Nat) (gx:List (List Nat)):val x * (colZ n x (x :: xs) (g :: gx))[i]?.getD 0 = val x * fval (g[i]?.getD 0):=by
 rw [colZ,if_pos rfl,getF]
theorem cZ_mg (val:Int -> Int) (n i:Nat):∀ (xs ys:List Int) (gx:List (List Nat)),xs.length = gx.length -> xs.Pairwise (· < ·) -> ys.Pairwise (· < ·) -> cZ val n i (mg xs ys) xs gx = sZ val i (xs.zip gx)
 | [],ys,gx,hl,_,_=>by
  have:gx = []:=List.eq_nil_of_length_eq_zero (by simpa using hl.symm)
  subst this
  rw [cZ_none (fun z _ x hx=>by cases hx)]
  rfl
 | x :: xs,ys,[],hl,_,_=>by simp at hl
 | x :: xs,[],g :: gx,hl,hx,hy=>by
  obtain ⟨hx1,hx2⟩:=List.pairwise_cons.1 hx
  rw [mg_nil,cZ_cons,cZ_hit,cZ_skip (fun z hz=>by have:=hx1 z hz;omega),List.zip_cons_cons,sZ_cons]
  have:=cZ_mg val n i xs [] gx (by simpa using hl) hx2 hy
  rw [mg_nil] at this
  rw [this]
 | x :: xs,y :: ys,g :: gx,hl,hx,hy=>by
  obtain ⟨hx1,hx2⟩:=List.pairwise_cons.1 hx
  obtain ⟨hy1,hy2⟩:=List.pairwise_cons.1 hy
  have hl2:xs.length = gx.length:=by simpa using hl
  rw [mg]
  by_cases h1:x < y
  ·rw [if_pos h1,cZ_cons,cZ_hit,cZ_skip (fun z hz=>by
    rcases mgm_mem _ _ z hz with h | h
    ·have:=hx1 z h;omega
    ·rcases List.mem_cons.1 h with rfl | h
     ·omega
     ·have:=hy1 z h;omega),List.zip_cons_cons,sZ_cons,cZ_mg val n i xs (y :: ys) gx hl2 hx2 hy]
  ·rw [if_neg h1]
   by_cases h2:y < x
   ·rw [if_pos h2,cZ_cons,colZ_out n y (x :: xs) (g :: gx) (fun z hz=>by
     rcases List.mem_cons.1 hz with rfl | h
     ·omega
     ·have:=hx1 z h;omega),rep_zero,Int.mul_zero,Int.zero_add,cZ_mg val n i (x :: xs) ys (g :: gx) hl hx hy2]
   ·rw [if_neg h2,cZ_cons,cZ_hit,cZ_skip (fun z hz=>by
     rcases mgm_mem _ _ z hz with h | h
     ·have:=hx1 z h;omega
     ·have:=hy1 z h;omega),List.zip_cons_cons,sZ_cons,cZ_mg val n i xs ys gx hl2 hx2 hy2]
 termination_by xs ys=>xs.length + ys.length
theorem colV_sum {val:Int -> Int} {ids:List Int} {gs:List (List Nat)} {i:Nat} (h:ids.length = gs.length):colV gs (ids.map val) i gs.length = sZ val i (ids.zip gs):=by
 have key:∀ k,k <= gs.length -> colV gs (ids.map val) i k = sZ val i ((ids.zip gs).take k):=by
  intro k
  induction k with
  | zero=>intro _;rfl
  | succ k ih=>
   intro hk
   have hz:k < (ids.zip gs).length:=by rw [List.length_zip];omega
   rw [colV,ih (by omega),List.take_succ_eq_append_getElem hz]
   unfold sZ
   rw [List.map_append,List.sum_append]
   simp only [List.map_cons,List.map_nil,List.sum_cons,List.sum_nil,Int.add_zero,List.getElem_zip]
   congr 1
   rw [List.getElem?_map,List.getElem?_eq_getElem (show k < ids.length by omega),List.getElem?_eq_getElem (show k < gs.length by omega)]
   rfl
 rw [key _ (Nat.le_refl _),List.take_of_length_le (by rw [List.length_zip];omega)]
theorem nz_fval {u:Nat} (h:nzB u = false):fval u = 0:=by
 unfold nzB at h
 have h1:srung u = 0:=by
  by_cases h2:srung u = 0
  ·exact h2
  ·rw [decide_eq_false h2] at h;cases h
 have h2:=fval_srung u 0
 rw [h1,srung_zero,Int.compare_eq_eq.2 rfl] at h2
 rw [Int.compare_eq_eq.1 h2,fval_zeroJ]
theorem sZ_kept (val:Int -> Int) (i:Nat):∀ P:List (Int × List Nat),sZ val i (P.filter fun p=>p.2.any nzB) = sZ val i P
 | []=>rfl
 | p :: P=>by
  rw [List.filter_cons]
  by_cases h:p.2.any nzB = true
  ·rw [if_pos h,sZ_cons,sZ_cons,sZ_kept val i P]
  ·rw [if_neg h,sZ_cons,sZ_kept val i P]
   have h0:fval (p.2[i]?.getD 0) = 0:=by
    by_cases hi:i < p.2.length
    ·rw [List.getElem?_eq_getElem hi,Option.getD_some]
     refine nz_fval ?_
     cases h3:nzB p.2[i] with
     | false=>rfl
     | true=>exact absurd (List.any_eq_true.2 ⟨_,List.getElem_mem hi,h3⟩) h
    ·rw [List.getElem?_eq_none (by omega)];exact fval_zeroJ
   rw [h0,Int.mul_zero,Int.zero_add]
theorem zip_unzip:∀ P:List (Int × List Nat),(P.map (·.1)).zip (P.map (·.2)) = P
 | []=>rfl
 | p :: P=>by simp [zip_unzip P]
theorem osD_sum {n j:Nat} (hj:j < n):∀ (PL:List (List Int × List Nat)) (f:Nat -> Int),osD n f PL j = f j + (PL.map fun p=>lostD p.1 p.2 j).sum
 | [],f=>by simp [osD]
 | p :: PL,f=>by
  have h:osD n f (p :: PL) = osD n (addF p.1 p.2 n f) PL:=rfl
  rw [h,osD_sum hj PL]
  have h2:addF p.1 p.2 n f j = f j + lostD p.1 p.2 j:=by unfold addF;rw [if_pos hj]
  rw [h2]
  simp only [List.map_cons,List.sum_cons]
  omega
end Go.Proofs.YtoflalhiihcofaaGreat
