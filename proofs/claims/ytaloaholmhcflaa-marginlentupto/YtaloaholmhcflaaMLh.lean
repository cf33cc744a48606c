import Derived.Test.YtaloaholmhcflaaMLg
namespace Go.Proofs.Ytaloaholmhcflaa
open Go.RowKit Go.Shelf
set_option linter.unusedVariables false
set_option linter.unusedSimpArgs false
theorem tgL_row (m t : Nat) : ∀ k, ∀ us ∈ tgL m t k, us.length = m + 1 ∧ ∀ u ∈ us, u < 18446744073709551616
  | 0, us, h => by cases h
  | k + 1, us, h => by
    unfold tgL at h
    split at h
    · exact tgL_row m t k us h
    · rcases List.mem_append.1 h with h | h
      · exact tgL_row m t k us h
      · have e := List.mem_singleton.1 h
        subst e
        refine ⟨abR_len m t k, fun u hu => ?_⟩
        unfold abR at hu
        rcases List.mem_or_eq_of_mem_set hu with hu | rfl
        · rcases List.mem_or_eq_of_mem_set hu with hu | rfl
          · rw [List.eq_of_mem_replicate hu]; decide
          · decide
        · decide
theorem clL_row {m t : Int} {ls : List (List Nat)} (hlt : ∀ us ∈ ls, ∀ u ∈ us, u < 18446744073709551616) : ∀ us ∈ clL m t ls, us.length = m.toNat + 1 ∧ ∀ u ∈ us, u < 18446744073709551616 := by
  intro us h
  unfold clL at h
  split at h
  · rename_i h0
    obtain ⟨h1, h2, h3, h4, h5, h6⟩ := mayE_ok h0
    rcases List.mem_append.1 h with h | h
    · unfold tgT at h
      split at h
      · cases h
      · exact tgL_row _ _ _ us h
    · refine ⟨?_, hlt us h⟩
      have h7 := List.any_eq_false.1 h5 us h
      unfold unl at h7
      simp at h7
      omega
  · cases h
theorem clL_len {m t : Int} {ls : List (List Nat)} : (clL m t ls).length ≤ 256 + ls.length := by
  unfold clL
  split
  · rename_i h0
    obtain ⟨h1, h2, h3, h4, h5, h6⟩ := mayE_ok h0
    rw [List.length_append]
    have := tgT_len m.toNat t m.toNat
    omega
  · exact Nat.zero_le _
/-- Rows of one length, above 0, as lists in blocks of their own. -/
theorem FlL.fam {W : World} {base n : Nat} {gs : List (List Nat)} {vg : Value} {gl : List Value} (h : FlL W base gs vg gl) (hn : 0 < n) (hr : ∀ us ∈ gs, us.length = n) : ∃ g c : Nat → Nat, gl = slL g c n gs.length ∧ (∀ k, k < gs.length → OwV W base 50 (g k) n (c k) ((gs[k]?.getD []).map fF)) ∧ ∀ i j, i < gs.length → j < gs.length → g i = g j → i = j := by
  have hx : ∀ k : Nat, ∃ p : Nat × Nat, k < gs.length → gl[k]? = some (.slice (some ⟨p.1, 0, none⟩) n p.2) ∧ OwV W base 50 p.1 n p.2 ((gs[k]?.getD []).map fF) := fun k => by
    by_cases hk : k < gs.length
    · have hl : k < gl.length := by rw [h.len]; exact hk
      have h1 := h.col k _ (List.getElem?_eq_getElem hl)
      have h2 : (gs[k]?.getD []).length = n := by rw [List.getElem?_eq_getElem hk]; exact hr _ (List.getElem_mem hk)
      rw [h2] at h1
      rcases h1.2 with ⟨_, h0⟩ | ⟨G, cap, cur, e, r⟩
      · omega
      · refine ⟨(G, cap), fun _ => ⟨by rw [List.getElem?_eq_getElem hl, e], ?_⟩⟩
        rw [e] at h1
        exact h1
    · exact ⟨(0, 0), fun h => absurd h hk⟩
  have hs := fun k => Classical.choose_spec (hx k)
  refine ⟨fun k => (Classical.choose (hx k)).1, fun k => (Classical.choose (hx k)).2, ?_, fun k hk => (hs k hk).2, fun i j hi hj e => ?_⟩
  · apply List.ext_getElem?
    intro k
    by_cases hk : k < gs.length
    · rw [slL_at _ _ _ _ _ hk]; exact (hs k hk).1
    · rw [List.getElem?_eq_none (by rw [h.len]; omega), List.getElem?_eq_none (by rw [slL_len]; omega)]
  · rcases Nat.lt_trichotomy i j with c | c | c
    · exact absurd (congrArg some e.symm) (h.nd i j _ _ c (hs i hi).1 (hs j hj).1 _ rfl)
    · exact c
    · exact absurd (congrArg some e) (h.nd j i _ _ c (hs j hj).1 (hs i hi).1 _ rfl)
theorem sg_own {z : ZD} {us : List Nat} {k base n : Nat} {W : World} {o : Option Addr} (hk : k ≤ 15) (h : SgR z us (k : Int) base W o n) : n = k ∧ ∃ B, o = some ⟨B, 0, none⟩ ∧ base ≤ B ∧ OwV W base 3 B k k ((sgL z us k).map (Value.int .i64)) := by
  unfold SgR at h
  rw [if_pos (by omega), Int.toNat_natCast] at h
  obtain ⟨h1, B, h2, h3, h4⟩ := h
  refine ⟨h1, B, h2, h3, OwV.mk (by rw [List.length_map, sgL_len]) h3 (Nat.le_refl _) (Nat.le_trans hk (by decide)) _ h4 (by rw [inC_size, sgL_len]) ?_⟩
  apply List.ext_getElem?
  intro j
  rw [List.getElem?_take, List.getElem?_map]
  by_cases hj : j < k
  · rw [if_pos hj, Array.getElem?_toList, inC_at _ _ (by rw [sgL_len]; exact hj), List.getElem?_eq_getElem (by rw [sgL_len]; exact hj)]
    rfl
  · rw [if_neg hj, List.getElem?_eq_none (by rw [sgL_len]; omega)]
    rfl
end Go.Proofs.Ytaloaholmhcflaa
