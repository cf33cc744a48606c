import Derived.Test.YthmhgpadinecfaaGreatTDd
set_option linter.unusedVariables false
set_option linter.unusedSimpArgs false
namespace Go.Proofs.YthmhgpadinecfaaGreat
open Go.RowKit Go.Shelf
def ltD (v : Nat -> Int) (i j : Nat) : Prop := v i < v j \/ (v i = v j /\ i < j)
def BsK (v : Nat -> Int) (f : Nat -> Bool) (k : Nat) (best : Int) : Prop := (best = -1 /\ ∀ j, j < k -> f j = true) \/ ∃ b : Nat, best = b /\ b < k /\ f b = false /\ ∀ j, j < k -> f j = false -> j ≠ b -> ltD v b j
theorem BsK.zero (v : Nat -> Int) (f : Nat -> Bool) : BsK v f 0 (-1) := .inl ⟨rfl, fun j hj => absurd hj (by omega)⟩
theorem BsK.gone {v : Nat -> Int} {f : Nat -> Bool} {k : Nat} {best : Int} (h : BsK v f k best) (hk : f k = true) : BsK v f (k + 1) best := by
 rcases h with ⟨h1, h2⟩ | ⟨b, h1, h2, h3, h4⟩
 ·exact .inl ⟨h1, fun j hj => by by_cases e : j = k; · subst e; exact hk
                                 ·exact h2 j (by omega)⟩
 ·refine .inr ⟨b, h1, by omega, h3, fun j hj hf hne => ?_⟩
  by_cases e : j = k
  ·subst e; rw [hk] at hf; cases hf
  ·exact h4 j (by omega) hf hne
theorem BsK.first {v : Nat -> Int} {f : Nat -> Bool} {k : Nat} {best : Int} (h : BsK v f k best) (hb : best < 0) (hk : f k = false) : BsK v f (k + 1) (k : Int) := by
 rcases h with ⟨h1, h2⟩ | ⟨b, h1, h2, h3, h4⟩
 ·refine .inr ⟨k, rfl, by omega, hk, fun j hj hf hne => ?_⟩
  rw [h2 j (by omega)] at hf
  cases hf
 ·omega
theorem BsK.less {v : Nat -> Int} {f : Nat -> Bool} {k b : Nat} (h : BsK v f k (b : Int)) (hk : f k = false) (hl : v k < v b) : BsK v f (k + 1) (k : Int) := by
 rcases h with ⟨h1, h2⟩ | ⟨b', h1, h2, h3, h4⟩
 ·omega
 ·obtain rfl : b = b' := by omega
  refine .inr ⟨k, rfl, by omega, hk, fun j hj hf hne => ?_⟩
  by_cases e : j = b
  ·subst e; exact .inl hl
  ·rcases h4 j (by omega) hf e with c | ⟨c, _⟩
   ·exact .inl (by omega)
   ·exact .inl (by omega)
theorem BsK.stays {v : Nat -> Int} {f : Nat -> Bool} {k b : Nat} (h : BsK v f k (b : Int)) (hl : ¬ v k < v b) : BsK v f (k + 1) (b : Int) := by
 rcases h with ⟨h1, h2⟩ | ⟨b', h1, h2, h3, h4⟩
 ·omega
 ·obtain rfl : b = b' := by omega
  refine .inr ⟨b, rfl, by omega, h3, fun j hj hf hne => ?_⟩
  by_cases e : j = k
  ·subst e
   by_cases c : v b < v j
   ·exact .inl c
   ·exact .inr ⟨by omega, h2⟩
  ·exact h4 j (by omega) hf hne
theorem BsK.range {v : Nat -> Int} {f : Nat -> Bool} {k : Nat} {best : Int} (h : BsK v f k best) : -1 <= best /\ best < k := by
 rcases h with ⟨h1, h2⟩ | ⟨b, h1, h2, h3, h4⟩ <;> omega
structure PlK (v : Nat -> Int) (n : Nat) (p : List Nat) (f : Nat -> Bool) : Prop where
 perm : (p ++ (List.range n).filter fun j => !f j).Perm (List.range n)
 sort : p.Pairwise (ltD v)
 low : ∀ a ∈ p, ∀ b, b < n -> f b = false -> ltD v a b
theorem PlK.start (v : Nat -> Int) (n : Nat) : PlK v n [] (fun _ => false) := ⟨by rw [List.nil_append, List.filter_eq_self.2 (by simp)], List.Pairwise.nil, fun a ha => by cases ha⟩
theorem PlK.len {v : Nat -> Int} {n : Nat} {p : List Nat} {f : Nat -> Bool} (h : PlK v n p f) : p.length <= n /\ (p.length < n -> ∃ j, j < n /\ f j = false) /\ (¬ p.length < n -> p.Perm (List.range n)) := by
 have h1 := h.perm.length_eq
 rw [List.length_append, List.length_range] at h1
 refine ⟨by omega, fun hl => ?_, fun hl => ?_⟩
 ·cases hq : (List.range n).filter fun j => !f j with
  | nil => rw [hq] at h1; simp at h1; omega
  | cons x xs =>
   have hx : x ∈ (List.range n).filter fun j => !f j := by rw [hq]; exact List.mem_cons_self
   rw [List.mem_filter, List.mem_range] at hx
   exact ⟨x, hx.1, by simpa using hx.2⟩
 ·have h2 : (List.range n).filter (fun j => !f j) = [] := List.eq_nil_of_length_eq_zero (by omega)
  have := h.perm
  rw [h2, List.append_nil] at this
  exact this
theorem PlK.take {v : Nat -> Int} {n : Nat} {p : List Nat} {f g : Nat -> Bool} {b : Nat} (h : PlK v n p f) (hb : b < n) (hf : f b = false) (hl : ∀ j, j < n -> f j = false -> j ≠ b -> ltD v b j) (hg : ∀ j, j < n -> g j = if j = b then true else f j) : PlK v n (p ++ [b]) g := by
 have hfil : (List.range n).filter (fun j => !g j) = ((List.range n).filter fun j => !f j).erase b := by
  rw [List.Nodup.erase_eq_filter (List.Pairwise.filter _ List.nodup_range), List.filter_filter]
  apply List.filter_congr
  intro j hj
  rw [hg j (List.mem_range.1 hj)]
  by_cases e : j = b
  ·subst e; simp
  ·simp [e]
 have hmem : b ∈ (List.range n).filter fun j => !f j := List.mem_filter.2 ⟨List.mem_range.2 hb, by simp [hf]⟩
 refine ⟨?_, ?_, fun a ha c hc hgc => ?_⟩
 ·rw [hfil, List.append_assoc]
  exact (List.Perm.append_left p (List.perm_cons_erase hmem).symm).trans h.perm
 ·rw [List.pairwise_append]
  refine ⟨h.sort, List.pairwise_singleton _ _, fun a ha c hc => ?_⟩
  rw [List.mem_singleton.1 hc]
  exact h.low a ha b hb hf
 ·rw [hg c hc] at hgc
  by_cases e : c = b
  ·rw [if_pos e] at hgc; cases hgc
  ·rw [if_neg e] at hgc
   rcases List.mem_append.1 ha with ha | ha
   ·exact h.low a ha c hc hgc
   ·rw [List.mem_singleton.1 ha]
    exact hl c hc hgc e
end Go.Proofs.YthmhgpadinecfaaGreat
