import Derived.Test.YtlpfbgepdfjmjaaGreatJXa
import Derived.Test.YtlpfbgepdfjmjaaGreatJZf
import Derived.Test.YtlpfbgepdfjmjaaGreatGJi
namespace Go.Proofs.YtlpfbgepdfjmjaaGreat
open Go.RowKit Go.Shelf
set_option linter.unusedVariables false
set_option linter.unusedSimpArgs false

theorem colsB_drop (z : ZD) : ∀ (m k : Nat) (last : Int), k + m = z.dn → (colsB z last ((List.finRange z.dn).drop k) = true ↔ ∀ j : Nat, k ≤ j → j < z.dn → (if j = k then last else z.ids[j - 1]?.getD 0) < z.ids[j]?.getD 0 ∧ z.ids[j]?.getD 0 ≤ 1073741824 ∧ numN (z.gs[j]?.getD []) z.N = true)
  | 0, k, last, h => by
    rw [List.drop_of_length_le (by rw [List.length_finRange]; omega)]
    exact ⟨fun _ j h1 h2 => by omega, fun _ => rfl⟩
  | m + 1, k, last, h => by
    have hk : k < (List.finRange z.dn).length := by rw [List.length_finRange]; omega
    rw [List.drop_eq_getElem_cons hk]
    have ih := colsB_drop z m (k + 1) (z.ids[k]?.getD 0) (by omega)
    have hst : colsB z last ((List.finRange z.dn)[k] :: (List.finRange z.dn).drop (k + 1)) = (colOk z last (List.finRange z.dn)[k] && colsB z (idZ z (List.finRange z.dn)[k]) ((List.finRange z.dn).drop (k + 1))) := rfl
    have he : ((List.finRange z.dn)[k]).val = k := by simp
    have hid : idZ z (List.finRange z.dn)[k] = z.ids[k]?.getD 0 := by unfold idZ; rw [he]
    rw [hst, Bool.and_eq_true, hid, ih]
    unfold colOk
    rw [hid, he]
    simp only [Bool.and_eq_true, decide_eq_true_eq]
    constructor
    · rintro ⟨⟨⟨a1, a2⟩, a3⟩, a4⟩ j h1 h2
      by_cases e : j = k
      · subst e; rw [if_pos rfl]; exact ⟨a1, a2, a3⟩
      · have := a4 j (by omega) h2
        rw [if_neg e]
        by_cases e' : j = k + 1
        · subst e'; rw [if_pos rfl] at this; rw [Nat.add_sub_cancel]; exact this
        · rw [if_neg e'] at this; exact this
    · intro H
      have h0 := H k (Nat.le_refl _) (by omega)
      rw [if_pos rfl] at h0
      refine ⟨⟨⟨h0.1, h0.2.1⟩, h0.2.2⟩, fun j h1 h2 => ?_⟩
      have := H j (by omega) h2
      rw [if_neg (by omega)] at this
      by_cases e' : j = k + 1
      · subst e'; rw [if_pos rfl]; rw [Nat.add_sub_cancel] at this; exact this
      · rw [if_neg e']; exact this
theorem wholeB_iff (z : ZD) : wholeB z = true ↔ (1 ≤ z.N ∧ z.N ≤ 256 ∧ numN z.cs z.N = true ∧ numN z.rs z.N = true ∧ z.dn = z.gn ∧ posB z.rs = true ∧ ∀ j : Nat, j < z.dn → (if j = 0 then -1 else z.ids[j - 1]?.getD 0) < z.ids[j]?.getD 0 ∧ z.ids[j]?.getD 0 ≤ 1073741824 ∧ numN (z.gs[j]?.getD []) z.N = true) := by
  have h := colsB_drop z z.dn 0 (-1) (by omega)
  rw [List.drop_zero] at h
  unfold wholeB
  simp only [Bool.and_eq_true, decide_eq_true_eq, h]
  constructor
  · rintro ⟨⟨⟨⟨⟨⟨a1, a2⟩, a3⟩, a4⟩, a5⟩, a6⟩, a7⟩
    exact ⟨a1, a2, a3, a4, a5, a6, fun j hj => a7 j (Nat.zero_le _) hj⟩
  · rintro ⟨a1, a2, a3, a4, a5, a6, a7⟩
    exact ⟨⟨⟨⟨⟨⟨a1, a2⟩, a3⟩, a4⟩, a5⟩, a6⟩, fun j _ hj => a7 j hj⟩
theorem lfS_count (n : Nat) (rs : List Nat) (next : Int) : ∀ k, k ≤ rs.length → (lfS n rs next k).1.length = madeN (rs.take k)
  | 0, _ => by simp [lfS, madeN]
  | k + 1, h => by
    have ih := lfS_count n rs next k (by omega)
    rw [madeN_take (by omega)]
    unfold lfS
    split
    · dsimp only
      rw [List.length_append, ih]; rfl
    · rw [ih]; omega
theorem lfS_id (n : Nat) (rs : List Nat) (next : Int) : ∀ k, k ≤ rs.length → ∀ j : Nat, j < (lfS n rs next k).1.length → (lfS n rs next k).1[j]?.getD 0 = next + (j : Int)
  | 0, _, j, hj => by simp [lfS] at hj
  | k + 1, h, j, hj => by
    have ih := lfS_id n rs next k (by omega) j
    have hc := lfS_count n rs next k (by omega)
    have hx := lfS_next n rs next k (by omega)
    unfold lfS at hj ⊢
    split at hj
    · rename_i hp
      rw [if_pos hp]
      dsimp only at hj ⊢
      by_cases e : j < (lfS n rs next k).1.length
      · rw [List.getElem?_append_left e]; exact ih e
      · rw [List.length_append, List.length_singleton] at hj
        have ej : j = (lfS n rs next k).1.length := by omega
        rw [List.getElem?_append_right (by omega), ej, Nat.sub_self, hx, hc]; rfl
    · rename_i hp
      rw [if_neg hp]
      exact ih hj
theorem lfS_col (n : Nat) (rs : List Nat) (next : Int) : ∀ k, ∀ g ∈ (lfS n rs next k).2.1, ∃ i : Nat, g = unitL n i (rs[i]?.getD 0)
  | 0, g, hg => by simp [lfS] at hg
  | k + 1, g, hg => by
    have ih := lfS_col n rs next k g
    unfold lfS at hg
    split at hg
    · dsimp only at hg
      rcases List.mem_append.1 hg with h | h
      · exact ih h
      · exact ⟨k, List.mem_singleton.1 h⟩
    · exact ih hg
theorem unitL_fin {n i r : Nat} (hr : Fin r) : ∀ u ∈ unitL n i r, Fin u := fun u hu => by
  rcases List.mem_or_eq_of_mem_set hu with h | h
  · rw [List.eq_of_mem_replicate h]; exact fin_zeroJ
  · rw [h]; exact hr
theorem numN_of {us : List Nat} {N : Int} (hl : (us.length : Int) = N) (hf : ∀ u ∈ us, Fin u) : numN us N = true := by
  unfold numN
  rw [decide_eq_true hl, numsB_fin hf]; rfl
theorem numN_plainM {us : List Nat} {N : Int} (h : numN us N = true) : numN (us.map plainM) N = true := by
  obtain ⟨h1, h2⟩ := numN_fin h
  refine numN_of (by rw [List.length_map]; exact h1) fun u hu => ?_
  obtain ⟨v, hv, rfl⟩ := List.mem_map.1 hu
  exact fin_plainM (h2 v hv)
theorem getD_map_plain (gs : List (List Nat)) (j : Nat) : (gs.map (·.map plainM))[j]?.getD [] = (gs[j]?.getD []).map plainM := by
  rw [List.getElem?_map]
  cases gs[j]? with
  | none => rfl
  | some x => rfl
theorem madeN_zrL {rs : List Nat} {n : Nat} (hl : rs.length = n) (hp : ∀ j : Nat, 0 ≤ fval (rs[j]?.getD 0)) : madeN (zrL rs n) = 0 := by
  unfold madeN
  rw [List.countP_eq_zero]
  intro u hu
  obtain ⟨j, hj⟩ := List.getElem?_of_mem hu
  have := zrL_none hl hp j
  rw [hj, Option.getD_some] at this
  simp [this]
/-- What Lift tells of a zonotope that is whole. -/
structure LfR (z : ZD) (next : Int) (y : ZD) : Prop where
  N : y.N = z.N
  bad : y.bad = false
  cs : y.cs = z.cs.map plainM
  rs : y.rs = zrL (z.rs.map plainM) z.rn
  ids : y.ids = z.ids ++ (lfS z.rn (z.rs.map plainM) next z.rn).1
  gs : y.gs = z.gs.map (·.map plainM) ++ (lfS z.rn (z.rs.map plainM) next z.rn).2.1
  cn : y.cn = z.rn
  rn : y.rn = z.rn
  dn : y.dn = y.ids.length
  gn : y.gn = y.gs.length
theorem LfR.count {z y : ZD} {next : Int} (h : LfR z next y) (hr : z.rs.length = z.rn) (hi : z.ids.length = z.dn) : y.dn = z.dn + madeN z.rs ∧ (lfS z.rn (z.rs.map plainM) next z.rn).2.2 = next + (madeN z.rs : Nat) := by
  have e1 : (z.rs.map plainM).length = z.rn := by rw [List.length_map]; exact hr
  have h1 := lfS_count z.rn (z.rs.map plainM) next z.rn (by omega)
  have h2 := lfS_next z.rn (z.rs.map plainM) next z.rn (by omega)
  rw [List.take_of_length_le (by omega), madeN_plain] at h1 h2
  exact ⟨by rw [h.dn, h.ids, List.length_append, h1, hi], h2⟩
theorem LfR.whole {z y : ZD} {next : Int} (h : LfR z next y) (hw : wholeB z = true) (hz : WhF z) (hi : z.ids.length = z.dn) (hg : z.gs.length = z.gn) (hm : mayB z next = true) : wholeB y = true := by
  obtain ⟨a1, a2, a3, a4, a5, a6, a7⟩ := (wholeB_iff z).1 hw
  obtain ⟨c1, c2⟩ := h.count hz.rl hi
  have e1 : (z.rs.map plainM).length = z.rn := by rw [List.length_map]; exact hz.rl
  have hp' : ∀ j : Nat, 0 ≤ fval ((z.rs.map plainM)[j]?.getD 0) := fun j => by rw [getD_plain, fval_plainM]; exact hz.pos j
  have hcnt := lfS_count z.rn (z.rs.map plainM) next z.rn (by omega)
  rw [List.take_of_length_le (by omega), madeN_plain] at hcnt
  have hlen := (lfS_len z.rn (z.rs.map plainM) next z.rn).2
  unfold mayB lastB at hm
  simp only [Bool.and_eq_true, Bool.or_eq_true, Bool.not_eq_true', Bool.or_eq_false_iff, decide_eq_false_iff_not, decide_eq_true_eq, Bool.and_eq_false_iff] at hm
  obtain ⟨⟨m1, m2⟩, m3⟩ := hm
  refine (wholeB_iff y).2 ⟨by rw [h.N]; exact a1, by rw [h.N]; exact a2, by rw [h.N, h.cs]; exact numN_plainM a3, ?_, ?_, ?_, ?_⟩
  · refine numN_of ?_ ?_
    · rw [h.rs, h.N, zrL_len _ _ (by omega), List.length_map, hz.rl, hz.N]
    · intro u hu
      rw [h.rs, zrL_all _ _ e1] at hu
      obtain ⟨r, hr, rfl⟩ := List.mem_map.1 hu
      split
      · exact fin_zeroJ
      · exact (numN_fin (numN_plainM a4)).2 r hr
  · rw [h.dn, h.gn, h.ids, h.gs, List.length_append, List.length_append, List.length_map, hlen, hi, hg, a5]
  · unfold posB
    rw [List.all_eq_true]
    intro u hu
    rw [h.rs] at hu
    obtain ⟨j, hj⟩ := List.getElem?_of_mem hu
    have := zrL_none e1 hp' j
    rw [hj, Option.getD_some] at this
    simp [this]
  · intro j hj
    rw [c1] at hj
    by_cases hjd : j < z.dn
    · have q := a7 j hjd
      have ei : y.ids[j]?.getD 0 = z.ids[j]?.getD 0 := by rw [h.ids, List.getElem?_append_left (by omega)]
      have eg : y.gs[j]?.getD [] = (z.gs[j]?.getD []).map plainM := by rw [h.gs, List.getElem?_append_left (by rw [List.length_map]; omega), getD_map_plain]
      rw [ei, eg, h.N]
      refine ⟨?_, q.2.1, numN_plainM q.2.2⟩
      by_cases e0 : j = 0
      · have := q.1
        rw [if_pos e0] at this ⊢
        exact this
      · have := q.1
        rw [if_neg e0] at this ⊢
        rw [h.ids, List.getElem?_append_left (by omega)]
        exact this
    · have ei : y.ids[j]?.getD 0 = next + ((j - z.dn : Nat) : Int) := by
        rw [h.ids, List.getElem?_append_right (by omega), hi]
        exact lfS_id _ _ _ _ (by omega) _ (by omega)
      have eg : numN (y.gs[j]?.getD []) y.N = true := by
        have hl : j - z.gn < (lfS z.rn (z.rs.map plainM) next z.rn).2.1.length := by rw [hlen, hcnt]; omega
        rw [h.gs, List.getElem?_append_right (by rw [List.length_map]; omega), List.length_map, hg, List.getElem?_eq_getElem hl, Option.getD_some]
        obtain ⟨i, hi'⟩ := lfS_col z.rn (z.rs.map plainM) next z.rn _ (List.getElem_mem hl)
        rw [hi']
        refine numN_of ?_ (unitL_fin ?_)
        · unfold unitL
          rw [List.length_set, List.length_replicate, h.N, hz.N]
        · rw [getD_plain]; exact fin_plainM (hz.fin.r i)
      refine ⟨?_, ?_, eg⟩
      · rw [ei]
        by_cases e0 : j = 0
        · rw [if_pos e0]; omega
        · rw [if_neg e0]
          by_cases e1' : j = z.dn
          · rw [h.ids, List.getElem?_append_left (by omega), e1']
            rcases m2 with m2 | m2
            · omega
            · omega
          · rw [h.ids, List.getElem?_append_right (by omega), hi, lfS_id _ _ _ _ (by omega) _ (by omega)]
            omega
      · rw [ei]
        omega
theorem tk_self {z : ZD} (h : checkB z = true) : tkZ z = z := by unfold tkZ; rw [if_pos h]
theorem check_whole {z : ZD} (hb : z.bad = false) (h : wholeB z = true) : checkB z = true := by unfold checkB; rw [hb]; exact h
end Go.Proofs.YtlpfbgepdfjmjaaGreat

