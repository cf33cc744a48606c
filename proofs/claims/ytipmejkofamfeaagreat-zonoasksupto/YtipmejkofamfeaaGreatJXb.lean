import Derived.Test.YtipmejkofamfeaaGreatJXa
import Derived.Test.YtipmejkofamfeaaGreatJZf
import Derived.Test.YtipmejkofamfeaaGreatGJi
namespace Go.Proofs.YtipmejkofamfeaaGreat
open Go.RowKit Go.Shelf
set_option linter.unusedVariables false
set_option linter.unusedSimpArgs false

theorem colsB_drop (z : ZD) : ∀ (m k : Nat) (last : Int), k + m = z.dn → (colsB z last ((List.finRange z.dn).drop k) = true ↔ ∀ j : Nat, k ≤ j → j < z.dn → (if j = k then last else z.ids[j - 1]?.getD 0) < z.ids[j]?.getD 0 ∧ z.ids[j]?.getD 0 ≤ 1073741824 ∧ numN (z.gs[j]?.getD []) z.N = true)
  | 0, k, last, h => by
    rw [List.drop_of_length_le (by rw [List.length_finRange]; omega)]
    exact ⟨fun _ j h1 h2 => by omega, fun _ => rfl⟩
  | m + 1, k, last, h => by
    have hk : k < (List.finRange z.dn).length := by rw [List.length_finRange]; omega
    rw [List.drop_eq_getElem_cons hk]
    have ih := colsB_drop z m (k + 1) (z.ids[k]?.getD 0) (by omega)
    have hst : colsB z last ((List.finRange z.dn)[k] :: (List.finRange z.dn).drop (k + 1)) = (colOk z last (List.finRange z.dn)[k] && colsB z (idZ z (List.finRange z.dn)[k]) ((List.finRange z.dn).drop (k + 1))) := rfl
    have he : ((List.finRange z.dn)[k]).val = k := by simp
    have hid : idZ z (List.finRange z.dn)[k] = z.ids[k]?.getD 0 := by unfold idZ; rw [he]
    rw [hst, Bool.and_eq_true, hid, ih]
    unfold colOk
    rw [hid, he]
    simp only [Bool.and_eq_true, decide_eq_true_eq]
    constructor
    · rintro ⟨⟨⟨a1, a2⟩, a3⟩, a4⟩ j h1 h2
      by_cases e : j = k
      · subst e; rw [if_pos rfl]; exact ⟨a1, a2, a3⟩
      · have := a4 j (by omega) h2
        rw [if_neg e]
        by_cases e' : j = k + 1
        · subst e'; rw [if_pos rfl] at this; rw [Nat.add_sub_cancel]; exact this
        · rw [if_neg e'] at this; exact this
    · intro H
      have h0 := H k (Nat.le_refl _) (by omega)
      rw [if_pos rfl] at h0
      refine ⟨⟨⟨h0.1, h0.2.1⟩, h0.2.2⟩, fun j h1 h2 => ?_⟩
      have := H j (by omega) h2
      rw [if_neg (by omega)] at this
      by_cases e' : j = k + 1
      · subst e'; rw [if_pos rfl]; rw [Nat.add_sub_cancel] at this; exact this
      · rw [if_neg e']; exact this
theorem wholeB_iff (z : ZD) : wholeB z = true ↔ (1 ≤ z.N ∧ z.N ≤ 256 ∧ numN z.cs z.N = true ∧ numN z.rs z.N = true ∧ z.dn = z.gn ∧ posB z.rs = true ∧ ∀ j : Nat, j < z.dn → (if j = 0 then -1 else z.ids[j - 1]?.getD 0) < z.ids[j]?.getD 0 ∧ z.ids[j]?.getD 0 ≤ 1073741824 ∧ numN (z.gs[j]?.getD []) z.N = true) := by
  have h := colsB_drop z z.dn 0 (-1) (by omega)
  rw [List.drop_zero] at h
  unfold wholeB
  simp only [Bool.and_eq_true, decide_eq_true_eq, h]
  constructor
  · rintro ⟨⟨⟨⟨⟨⟨a1, a2⟩, a3⟩, a4⟩, a5⟩, a6⟩, a7⟩
    exact ⟨a1, a2, a3, a4, a5, a6, fun j hj => a7 j (Nat.zero_le _) hj⟩
  · rintro ⟨a1, a2, a3, a4, a5, a6, a7⟩
    exact ⟨⟨⟨⟨⟨⟨a1, a2⟩, a3⟩, a4⟩, a5⟩, a6⟩, fun j _ hj => a7 j hj⟩
theorem lfS_count (n : Nat) (rs : List Nat) (next : Int) : ∀ k, k ≤ rs.length → (lfS n rs next k).1.length = madeN (rs.take k)
  | 0, _ => by simp [lfS, madeN]
  | k + 1, h => by
    have ih := lfS_count n rs next k (by omega)
    rw [madeN_take (by omega)]
    unfold lfS
    split
    · dsimp only
      rw [List.length_append, ih]; rfl
    · rw [ih]; omega
theorem lfS_id (n : Nat) (rs : List Nat) (next : Int) : ∀ k, k ≤ rs.length → ∀ j : Nat, j < (lfS n rs next k).1.length → (lfS n rs next k).1[j]?.getD 0 = next + (j : Int)
  | 0, _, j, hj => by simp [lfS] at hj
  | k + 1, h, j, hj => by
    have ih := lfS_id n rs next k (by omega) j
    have hc := lfS_count n rs next k (by omega)
    have hx := lfS_next n rs next k (by omega)
    unfold lfS at hj ⊢
    split at hj
    · rename_i hp
      rw [if_pos hp]
      dsimp only at hj ⊢
      by_cases e : j < (lfS n rs next k).1.length
      · rw [List.getElem?_append_left e]; exact ih e
      · rw [List.length_append, List.length_singleton] at hj
        have ej : j = (lfS n rs next k).1.length := by omega
        rw [List.getElem?_append_right (by omega), ej, Nat.sub_self, hx, hc]; rfl
    · rename_i hp
      rw [if_neg hp]
      exact ih hj
theorem lfS_col (n : Nat) (rs : List Nat) (next : Int) : ∀ k, ∀ g ∈ (lfS n rs next k).2.1, ∃ i : Nat, g = unitL n i (rs[i]?.getD 0)
  | 0, g, hg => by simp [lfS] at hg
  | k + 1, g, hg => by
    have ih := lfS_col n rs next k g
    unfold lfS at hg
    split at hg
    · dsimp only at hg
      rcases List.mem_append.1 hg with h | h
      · exact ih h
      · exact ⟨k, List.mem_singleton.1 h⟩
    · exact ih hg
theorem unitL_fin {n i r : Nat} (hr : Fin r) : ∀ u ∈ unitL n i r, Fin u := fun u hu => by
  rcases List.mem_or_eq_of_mem_set hu with h | h
  · rw [List.eq_of_mem_replicate h]; exact fin_zeroJ
  · rw [h]; exact hr
theorem numN_of {us : List Nat} {N : Int} (hl : (us.length : Int) = N) (hf : ∀ u ∈ us, Fin u) : numN us N = true := by
  unfold numN
  rw [decide_eq_true hl, numsB_fin hf]; rfl
theorem numN_plain {us : List Nat} {N : Int} (h : numN us N = true) : numN (us.map plainM) N = true := by
  obtain ⟨h1, h2⟩ := numN_fin h
  refine numN_of (by rw [List.length_map]; exact h1) fun u hu => ?_
  obtain ⟨v, hv, rfl⟩ := List.mem_map.1 hu
  exact fin_plainM (h2 v hv)
theorem pos_of_posB {rs : List Nat} (h : posB rs = true) (j : Nat) : 0 ≤ srung (rs[j]?.getD 0) := by
  unfold posB at h
  rw [List.all_eq_true] at h
  cases hj : rs[j]? with
  | none => simp [srung_zero]
  | some r =>
    have := of_decide_eq_true (h r (List.mem_of_getElem? hj))
    simp only [Option.getD_some]
    omega
theorem getD_map_plain (gs : List (List Nat)) (j : Nat) : (gs.map (·.map plainM))[j]?.getD [] = (gs[j]?.getD []).map plainM := by
  rw [List.getElem?_map]
  cases gs[j]? with
  | none => rfl
  | some x => rfl
theorem madeN_zrL {rs : List Nat} {n : Nat} (hl : rs.length = n) (hp : ∀ j : Nat, 0 ≤ fval (rs[j]?.getD 0)) : madeN (zrL rs n) = 0 := by
  unfold madeN
  rw [List.countP_eq_zero]
  intro u hu
  obtain ⟨j, hj⟩ := List.getElem?_of_mem hu
  have := zrL_none hl hp j
  rw [hj, Option.getD_some] at this
  simp [this]
/-- What Lift tells of a zonotope that is whole. -/
structure LfR (z : ZD) (next : Int) (y : ZD) : Prop where
  N : y.N = z.N
  bad : y.bad = false
  cs : y.cs = z.cs.map plainM
  rs : y.rs = zrL (z.rs.map plainM) z.rn
  ids : y.ids = z.ids ++ (lfS z.rn (z.rs.map plainM) next z.rn).1
  gs : y.gs = z.gs.map (·.map plainM) ++ (lfS z.rn (z.rs.map plainM) next z.rn).2.1
  cn : y.cn = z.rn
  rn : y.rn = z.rn
  dn : y.dn = y.ids.length
  gn : y.gn = y.gs.length
theorem LfR.count {z y : ZD} {next : Int} (h : LfR z next y) (hr : z.rs.length = z.rn) (hi : z.ids.length = z.dn) : y.dn = z.dn + madeN z.rs ∧ (lfS z.rn (z.rs.map plainM) next z.rn).2.2 = next + (madeN z.rs : Nat) := by
  have e1 : (z.rs.map plainM).length = z.rn := by rw [List.length_map]; exact hr
  have h1 := lfS_count z.rn (z.rs.map plainM) next z.rn (by omega)
  have h2 := lfS_next z.rn (z.rs.map plainM) next z.rn (by omega)
  rw [List.take_of_length_le (by omega), madeN_plain] at h1 h2
  exact ⟨by rw [h.dn, h.ids, List.length_append, h1, hi], h2⟩
theorem LfR.whole {z y : ZD} {next : Int} (h : LfR z next y) (hw : wholeB z = true) (hz : WhF z) (hi : z.ids.length = z.dn) (hg : z.gs.length = z.gn) (hm : mayB z next = true) : wholeB y = true := by
  obtain ⟨a1, a2, a3, a4, a5, a6, a7⟩ := (wholeB_iff z).1 hw
  obtain ⟨c1, c2⟩ := h.count hz.rl hi
  have e1 : (z.rs.map plainM).length = z.rn := by rw [List.length_map]; exact hz.rl
  have hp' : ∀ j : Nat, 0 ≤ fval ((z.rs.map plainM)[j]?.getD 0) := fun j => by rw [getD_plain, fval_plainM]; exact hz.pos j
  have hcnt := lfS_count z.rn (z.rs.map plainM) next z.rn (by omega)
  rw [List.take_of_length_le (by omega), madeN_plain] at hcnt
  have hlen := (lfS_len z.rn (z.rs.map plainM) next z.rn).2
  unfold mayB lastB at hm
  simp only [Bool.and_eq_true, Bool.or_eq_true, Bool.not_eq_true', Bool.or_eq_false_iff, decide_eq_false_iff_not, decide_eq_true_eq, Bool.and_eq_false_iff] at hm
  obtain ⟨⟨m1, m2⟩, m3⟩ := hm
  refine (wholeB_iff y).2 ⟨by rw [h.N]; exact a1, by rw [h.N]; exact a2, by rw [h.N, h.cs]; exact numN_plain a3, ?_, ?_, ?_, ?_⟩
  · refine numN_of ?_ ?_
    · rw [h.rs, h.N, zrL_len _ _ (by omega), List.length_map, hz.rl, hz.N]
    · intro u hu
      rw [h.rs, zrL_all _ _ e1] at hu
      obtain ⟨r, hr, rfl⟩ := List.mem_map.1 hu
      split
      · exact fin_zeroJ
      · exact (numN_fin (numN_plain a4)).2 r hr
  · rw [h.dn, h.gn, h.ids, h.gs, List.length_append, List.length_append, List.length_map, hlen, hi, hg, a5]
  · unfold posB
    rw [List.all_eq_true]
    intro u hu
    rw [h.rs] at hu
    obtain ⟨j, hj⟩ := List.getElem?_of_mem hu
    have := zrL_none e1 hp' j
    rw [hj, Option.getD_some] at this
    simp [this]
  · intro j hj
    rw [c1] at hj
    by_cases hjd : j < z.dn
    · have q := a7 j hjd
      have ei : y.ids[j]?.getD 0 = z.ids[j]?.getD 0 := by rw [h.ids, List.getElem?_append_left (by omega)]
      have eg : y.gs[j]?.getD [] = (z.gs[j]?.getD []).map plainM := by rw [h.gs, List.getElem?_append_left (by rw [List.length_map]; omega), getD_map_plain]
      rw [ei, eg, h.N]
      refine ⟨?_, q.2.1, numN_plain q.2.2⟩
      by_cases e0 : j = 0
      · have := q.1
        rw [if_pos e0] at this ⊢
        exact this
      · have := q.1
        rw [if_neg e0] at this ⊢
        rw [h.ids, List.getElem?_append_left (by omega)]
        exact this
    · have ei : y.ids[j]?.getD 0 = next + ((j - z.dn : Nat) : Int) := by
        rw [h.ids, List.getElem?_append_right (by omega), hi]
        exact lfS_id _ _ _ _ (by omega) _ (by omega)
      have eg : numN (y.gs[j]?.getD []) y.N = true := by
        have hl : j - z.gn < (lfS z.rn (z.rs.map plainM) next z.rn).2.1.length := by rw [hlen, hcnt]; omega
        rw [h.gs, List.getElem?_append_right (by rw [List.length_map]; omega), List.length_map, hg, List.getElem?_eq_getElem hl, Option.getD_some]
        obtain ⟨i, hi'⟩ := lfS_col z.rn (z.rs.map plainM) next z.rn _ (List.getElem_mem hl)
        rw [hi']
        refine numN_of ?_ (unitL_fin ?_)
        · unfold unitL
          rw [List.length_set, List.length_replicate, h.N, hz.N]
        · rw [getD_plain]; exact fin_plainM (hz.fin.r i)
      refine ⟨?_, ?_, eg⟩
      · rw [ei]
        by_cases e0 : j = 0
        · rw [if_pos e0]; omega
        · rw [if_neg e0]
          by_cases e1' : j = z.dn
          · rw [h.ids, List.getElem?_append_left (by omega), e1']
            rcases m2 with m2 | m2
            · omega
            · omega
          · rw [h.ids, List.getElem?_append_right (by omega), hi, lfS_id _ _ _ _ (by omega) _ (by omega)]
            omega
      · rw [ei]
        omega
theorem owns_none {w : World} {E : TypeId} {base : Nat} {n m c : Nat} {o : Option Addr} {xs : List Value} (h : w.ownsRow base E 1 (.slice o m c) n xs) (ho : o = none) : m = 0 ∧ c = 0 := by
  subst ho
  rcases h.2 with ⟨h1, _⟩ | ⟨g, cap, cur, h1, _⟩
  · injection h1 with _ h2 h3
    exact ⟨h2, h3⟩
  · cases h1
/-- As FrL.zr, and what is known of its lists. -/
theorem FrL.zrW {w : World} {base n bc br : Nat} {cs rs : List Nat} {ids : List Int} {gs : List (List Nat)} {vi vg : Value} {gl : List Nat} (h : FrL w base n bc br cs rs ids gs vi vg gl) (N : Int) (bad : Bool) (hn : n ≤ 100000) (hi : ids.length ≤ 1050000) (hg : gs.length ≤ 1050000) :
    ∃ y : ZD, (.agg #[.int .i64 N, slN n bc, vi, vg, slN n br, .bool bad] : Value) = .agg (zRow y) ∧ ZR w y ∧ ZW y ∧ y.N = N ∧ y.bad = bad ∧ y.cs = cs ∧ y.rs = rs ∧ y.ids = ids ∧ y.gs = gs ∧ y.cn = n ∧ y.rn = n ∧ y.dn = ids.length ∧ y.gn = gs.length := by
  have hI := h.i
  have hG := h.g
  obtain ⟨io, dc, rfl, hm1, h1⟩ := owns_slice h.i
  obtain ⟨go, gc, rfl, hm2, h2⟩ := owns_slice h.g
  have e1 : (ids.map (Value.int .i64)).length = ids.length := List.length_map _
  have e2 : (gl.map (slN n)).length = gs.length := (List.length_map _).trans h.col.len
  have hni := fun ho => owns_none hI ho
  rw [e1] at hm1 h1 hni
  rw [e2] at hm2 h2
  rw [e1, e2]
  refine ⟨⟨N, some ⟨bc, 0, none⟩, n, n, io, ids.length, dc, go, gs.length, gc, some ⟨br, 0, none⟩, n, n, bad, cs, ids, fun j => (some ⟨gl[j]?.getD 0, 0, none⟩, n, n), gs, rs⟩, rfl, ⟨h.c.rd, ⟨rfl, hm1, ?_⟩, ⟨rfl, hm2, ?_, fun j hj => (h.col.row j (by rw [h.col.len]; exact hj)).rd⟩, h.r.rd⟩, ⟨(fun hc => by cases hc), hni, (fun hc => by cases hc), fun k _ hc => (by cases hc), by dsimp only; omega, hi, hg, by dsimp only; omega, fun k _ => by dsimp only; omega⟩, rfl, rfl, rfl, rfl, rfl, rfl, rfl, rfl, rfl, rfl⟩
  · rcases h1 with h0 | ⟨g, rfl, hc⟩
    · exact .inl h0
    · refine .inr ⟨g, 0, rfl, fun j hj => ?_⟩
      dsimp only at hj ⊢
      rw [Nat.zero_add, hc j hj, List.getElem?_map, List.getElem?_eq_getElem hj]
      rfl
  · rcases h2 with h0 | ⟨g, rfl, hc⟩
    · exact .inl h0
    · refine .inr ⟨g, 0, rfl, fun j hj => ?_⟩
      dsimp only at hj ⊢
      have hj' : j < gl.length := by rw [h.col.len]; exact hj
      rw [Nat.zero_add, hc j hj, List.getElem?_map, List.getElem?_eq_getElem hj']
      rfl
theorem tk_self {z : ZD} (h : checkB z = true) : tkZ z = z := by unfold tkZ; rw [if_pos h]
theorem check_whole {z : ZD} (hb : z.bad = false) (h : wholeB z = true) : checkB z = true := by unfold checkB; rw [hb]; exact h
/-- Lift of a zonotope that is whole, where it answers one. -/
theorem lift_okY (z : ZD) (next : Int) (w : World) (hz : ZR w z) (hb : z.bad = false) (hw : wholeB z = true) (hf : WhF z) (hd : z.dn ≤ 1049000) (hnx : -9223372036854775808 ≤ next ∧ next < 9223372036854775808) (hm : mayB z next = true) :
    Calls Tryz.prog 20 #[.agg (zRow z), .int .i64 next] w fun e w' => ∃ y : ZD, e = .returned (.tuple #[.agg (zRow y), .int .i64 (next + (madeN z.rs : Nat))]) ∧ ZR w' y ∧ ZW y ∧ LfR z next y ∧ Below w.heap.size w w' := by
  have ht := tk_self (check_whole hb hw)
  have hi := hz.i.length
  have hg := hz.g.length
  have h := lift_ok z next w hz (by rw [ht]; exact hb) (by rw [ht, hf.cn]; exact hf.N) (by rw [ht]; exact hf.cn) (by rw [ht]; exact hf.dg) (by rw [ht, hf.cn]; have := hf.n2; omega) (by rw [ht]; omega) (by rw [ht]; intro k hk; rw [hf.cn]; exact hf.gl k hk) hnx (by rw [ht]; exact hm)
  rw [ht, hf.cn] at h
  refine Calls.mono h ?_
  rintro e w' ⟨bc, br, vi, vg, gl, rfl, hF, hb'⟩
  have e1 : (z.rs.map plainM).length = z.rn := by rw [List.length_map]; exact hf.rl
  have hcnt := lfS_count z.rn (z.rs.map plainM) next z.rn (by omega)
  have hnxt := lfS_next z.rn (z.rs.map plainM) next z.rn (by omega)
  rw [List.take_of_length_le (by omega), madeN_plain] at hcnt hnxt
  have hlen := (lfS_len z.rn (z.rs.map plainM) next z.rn).2
  have hml := madeN_le z.rs
  have h2 := hf.n2
  have hrl := hf.rl
  have hdg := hf.dg
  obtain ⟨y, hy, hzr, hzw, y1, y2, y3, y4, y5, y6, y7, y8, y9, y10⟩ := hF.zrW z.N false (by omega) (by rw [List.length_append, hcnt, hi]; omega) (by rw [List.length_append, List.length_map, hlen, hcnt, hg]; omega)
  refine ⟨y, by rw [hy, hnxt], hzr, hzw, ⟨y1, y2, y3, y4, y5, y6, y7, y8, by rw [y9, y5], by rw [y10, y6]⟩, hb'⟩
/-- Whatever Lift is asked of a zonotope that is whole. -/
theorem lift_any (z : ZD) (next : Int) (w : World) (hz : ZR w z) (hb : z.bad = false) (hw : wholeB z = true) (hf : WhF z) (hd : z.dn ≤ 1049000) (hnx : -9223372036854775808 ≤ next ∧ next < 9223372036854775808) :
    Calls Tryz.prog 20 #[.agg (zRow z), .int .i64 next] w fun e w' => ∃ (y : ZD) (n : Int), e = .returned (.tuple #[.agg (zRow y), .int .i64 n]) ∧ Below w.heap.size w w' := by
  cases hm : mayB z next with
  | true =>
    refine Calls.mono (lift_okY z next w hz hb hw hf hd hnx hm) ?_
    rintro e w' ⟨y, he, _, _, _, hb'⟩
    exact ⟨y, _, he, hb'⟩
  | false =>
    have ht := tk_self (check_whole hb hw)
    have h2 := hf.n2
    refine Calls.mono (lift_no z next w hz (by rw [ht]; exact hb) hnx (by rw [ht]; omega) (by rw [ht]; omega) (by rw [ht]; exact hm)) ?_
    rintro e w' ⟨he, hb'⟩
    exact ⟨⟨(tkZ z).N, none, 0, 0, none, 0, 0, none, 0, 0, none, 0, 0, true, [], [], fun _ => (none, 0, 0), [], []⟩, next, he, hb'⟩
/-- Behind Lift nothing is left to lift. -/
theorem LfR.again {z y u : ZD} {next n : Int} (h : LfR z next y) (hf : WhF z) (hy : WhF y) (h' : LfR y n u) : madeN y.rs = 0 ∧ sameZ u y = true := by
  have e1 : (z.rs.map plainM).length = z.rn := by rw [List.length_map]; exact hf.rl
  have hp' : ∀ j : Nat, 0 ≤ fval ((z.rs.map plainM)[j]?.getD 0) := fun j => by rw [getD_plain, fval_plainM]; exact hf.pos j
  have hm : madeN y.rs = 0 := by rw [h.rs]; exact madeN_zrL e1 hp'
  refine ⟨hm, ?_⟩
  have e2 : (y.rs.map plainM).length = y.rn := by rw [List.length_map]; exact hy.rl
  have hcnt := lfS_count y.rn (y.rs.map plainM) n y.rn (by omega)
  rw [List.take_of_length_le (by omega), madeN_plain, hm] at hcnt
  have hlen := (lfS_len y.rn (y.rs.map plainM) n y.rn).2
  have n1 : (lfS y.rn (y.rs.map plainM) n y.rn).1 = [] := List.eq_nil_of_length_eq_zero hcnt
  have n2 : (lfS y.rn (y.rs.map plainM) n y.rn).2.1 = [] := List.eq_nil_of_length_eq_zero (by rw [hlen, hcnt])
  have sp : (fun u => srung (plainM u)) = srung := funext srung_plainM
  unfold sameZ sameL sameG
  rw [h'.N, h'.bad, h'.ids, h'.cs, h'.gs, h'.rs, n1, n2, List.append_nil, List.append_nil]
  have r1 : (zrL (y.rs.map plainM) y.rn).map srung = y.rs.map srung := by
    rw [zrL_all _ _ e2, List.map_map, List.map_map]
    apply List.map_congr_left
    intro u hu
    simp only [Function.comp]
    split
    · rename_i hp
      exfalso
      have h0 : madeN y.rs = 0 := hm
      unfold madeN at h0
      rw [List.countP_eq_zero] at h0
      have := h0 u hu
      rw [srung_plainM] at hp
      exact this (decide_eq_true hp)
    · exact srung_plainM u
  have r2 : (y.cs.map plainM).map srung = y.cs.map srung := by rw [List.map_map]; exact congrArg (List.map · y.cs) sp
  have r3 : (y.gs.map (·.map plainM)).map (·.map srung) = y.gs.map (·.map srung) := by
    rw [List.map_map]
    apply List.map_congr_left
    intro g _
    show (g.map plainM).map srung = _
    rw [List.map_map]; exact congrArg (List.map · g) sp
  rw [r1, r2, r3, h.bad]
  simp
end Go.Proofs.YtipmejkofamfeaaGreat
