import Derived.Test.YtmdjoaipkbnelaaGreatPWa
set_option linter.unusedVariables false
set_option linter.unusedSimpArgs false
namespace Go.Proofs.YtmdjoaipkbnelaaGreat
open Go.RowKit Go.Shelf
theorem mg_comm:∀ (xs ys:List Int),mg xs ys = mg ys xs
 | [],ys=>by rw [mg_nil];simp [mg]
 | x :: xs,[]=>by rw [mg_nil];simp [mg]
 | x :: xs,y :: ys=>by
  rw [mg,mg]
  by_cases h1:x < y
  ·rw [if_pos h1,if_neg (by omega),if_pos h1,mg_comm xs (y :: ys)]
  ·rw [if_neg h1]
   by_cases h2:y < x
   ·rw [if_pos h2,if_pos h2,mg_comm (x :: xs) ys]
   ·rw [if_neg h2,if_neg h2,if_neg h1,mg_comm xs ys,show x = y by omega]
 termination_by xs ys=>xs.length + ys.length
theorem mgm_mem:∀ (xs ys:List Int) (z:Int),z ∈ mg xs ys -> z ∈ xs \/ z ∈ ys
 | [],ys,z=>by simp [mg]
 | x :: xs,[],z=>by rw [mg_nil];exact fun h=>.inl h
 | x :: xs,y :: ys,z=>by
  rw [mg]
  by_cases h1:x < y
  ·rw [if_pos h1]
   intro h
   rcases List.mem_cons.1 h with rfl | h
   ·exact .inl List.mem_cons_self
   ·rcases mgm_mem xs (y :: ys) z h with h | h
    ·exact .inl (List.mem_cons_of_mem _ h)
    ·exact .inr h
  ·rw [if_neg h1]
   by_cases h2:y < x
   ·rw [if_pos h2]
    intro h
    rcases List.mem_cons.1 h with rfl | h
    ·exact .inr List.mem_cons_self
    ·rcases mgm_mem (x :: xs) ys z h with h | h
     ·exact .inl h
     ·exact .inr (List.mem_cons_of_mem _ h)
   ·rw [if_neg h2]
    intro h
    rcases List.mem_cons.1 h with rfl | h
    ·exact .inl List.mem_cons_self
    ·rcases mgm_mem xs ys z h with h | h
     ·exact .inl (List.mem_cons_of_mem _ h)
     ·exact .inr (List.mem_cons_of_mem _ h)
 termination_by xs ys=>xs.length + ys.length
theorem mg_rise:∀ (xs ys:List Int),xs.Pairwise (· < ·) -> ys.Pairwise (· < ·) -> (mg xs ys).Pairwise (· < ·)
 | [],ys,_,h=>by simpa [mg] using h
 | x :: xs,[],h,_=>by rw [mg_nil];exact h
 | x :: xs,y :: ys,hx,hy=>by
  obtain ⟨hx1,hx2⟩:=List.pairwise_cons.1 hx
  obtain ⟨hy1,hy2⟩:=List.pairwise_cons.1 hy
  rw [mg]
  by_cases h1:x < y
  ·rw [if_pos h1]
   refine List.pairwise_cons.2 ⟨fun z hz=>?_,mg_rise xs (y :: ys) hx2 hy⟩
   rcases mgm_mem _ _ z hz with h | h
   ·exact hx1 z h
   ·rcases List.mem_cons.1 h with rfl | h
    ·exact h1
    ·have:=hy1 z h;omega
  ·rw [if_neg h1]
   by_cases h2:y < x
   ·rw [if_pos h2]
    refine List.pairwise_cons.2 ⟨fun z hz=>?_,mg_rise (x :: xs) ys hx hy2⟩
    rcases mgm_mem _ _ z hz with h | h
    ·rcases List.mem_cons.1 h with rfl | h
     ·exact h2
     ·have:=hx1 z h;omega
    ·exact hy1 z h
   ·rw [if_neg h2]
    refine List.pairwise_cons.2 ⟨fun z hz=>?_,mg_rise xs ys hx2 hy2⟩
    rcases mgm_mem _ _ z hz with h | h
    ·exact hx1 z h
    ·have:=hy1 z h;omega
 termination_by xs ys=>xs.length + ys.length
def sZ (val:Int -> Int) (i:Nat) (P:List (Int × List Nat)):Int:=(P.map fun p=>val p.1 * fval (p.2[i]?.getD 0)).sum
def cZ (val:Int -> Int) (n i:Nat) (L xs:List Int) (gx:List (List Nat)):Int:=(L.map fun id=>val id * (colZ n id xs gx)[i]?.getD 0).sum
theorem osD_sum {n j:Nat} (hj:j < n):∀ (PL:List (List Int × List Nat)) (f:Nat -> Int),osD n f PL j = f j + (PL.map fun p=>lostD p.1 p.2 j).sum
 | [],f=>by simp [osD]
 | p :: PL,f=>by
  have h:osD n f (p :: PL) = osD n (addF p.1 p.2 n f) PL:=rfl
  rw [h,osD_sum hj PL]
  have h2:addF p.1 p.2 n f j = f j + lostD p.1 p.2 j:=by unfold addF;rw [if_pos hj]
  rw [h2]
  simp only [List.map_cons,List.sum_cons]
  omega
end Go.Proofs.YtmdjoaipkbnelaaGreat
