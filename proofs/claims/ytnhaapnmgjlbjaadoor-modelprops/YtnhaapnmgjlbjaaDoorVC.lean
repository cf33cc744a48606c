import Derived.Test.YtnhaapnmgjlbjaaDoorVB
import Derived.Test.YtnhaapnmgjlbjaaDoorKD
namespace Go.Proofs.YtnhaapnmgjlbjaaDoor
open Go.RowKit
set_option linter.unusedVariables false

/-- A slice of slices of floats that came in. -/
structure RdQ (w : World) (ao : Option Addr) (len cap : Nat) (uss : List (List Nat)) : Prop where
  length : uss.length = len
  max : len ≤ maxLen
  cells : len = 0 ∨ ∃ b off, ao = some ⟨b, off, none⟩ ∧ ∀ j, j < len → ∃ aj lj cj, w.cell? ⟨b, off + j, none⟩ = some (.slice aj lj cj) ∧ RdF w aj lj cj (uss[j]?.getD []) ∧ lj ≤ cj ∧ (aj = none → cj = 0) ∧ cj ≤ maxLen
theorem RdQ.later {w w' : World} {ao : Option Addr} {len cap : Nat} {uss : List (List Nat)} (h : RdQ w ao len cap uss) (hb : Below w.heap.size w w') : RdQ w' ao len cap uss := by
  refine ⟨h.length, h.max, ?_⟩
  rcases h.cells with h0 | ⟨b, off, ha, hc⟩
  · exact .inl h0
  · refine .inr ⟨b, off, ha, fun j hj => ?_⟩
    obtain ⟨aj, lj, cj, h1, h2, r⟩ := hc j hj
    refine ⟨aj, lj, cj, ?_, h2.later hb, r⟩
    have hlt := World.block_lt_of_cell? w _ h1
    rw [hb.cell (p := ⟨b, off + j, none⟩) hlt]
    exact h1
def OwnLs (w : World) (base : Nat) (v : Value) (vs : List Value) : Prop := w.ownsRow base 24 1 v vs.length vs
theorem OwnLs.nil (w : World) (base : Nat) : OwnLs w base (.slice none 0 0) [] := World.ownsRow_nil w base _ 1
theorem OwnLs.later {w w' : World} {base : Nat} {v : Value} {vs : List Value} (h : OwnLs w base v vs) (hb : Below w.heap.size w w') : OwnLs w' base v vs := by
  refine ⟨h.1, ?_⟩
  rcases h.2 with h2 | ⟨g, cap, cur, hv, hg, hh, r⟩
  · exact .inl h2
  · exact .inr ⟨g, cap, cur, hv, hg, by rw [hb.block g (Array.getElem?_eq_some_iff.1 hh).1]; exact hh, r⟩
/-- Rows of floats stay while rows of slices grow. -/
theorem mk_kept {W w' : World} {base b : Nat} {v u : Value} {vs : List Value} {us : List Nat} (hown : OwnLs W base v vs) (hk : ∀ k, k < W.heap.size → v.ownBlock ≠ some k → w'.heap[k]? = W.heap[k]?) (h : Mk W b u us) : Mk w' b u us := by
  refine h.keep fun k hlt cur hc => hk k hlt fun e => ?_
  rcases hown.2 with ⟨rfl, _⟩ | ⟨g, cap, cur2, rfl, _, hh, _⟩
  · simp [Value.ownBlock] at e
  · simp only [Value.ownBlock, Option.some.injEq] at e
    subst e
    rw [hc] at hh
    simp at hh
theorem to_callB {w w1 : World} {b : Nat} (h : Below w.heap.size w w1) (hb : b ≤ w.heap.size) : Below b w w1 := h.mono hb
/-- Lists of numbers in new memory, marks behind all. -/
def MkL (w : World) (base : Nat) (v : Value) (uss : List (List Nat)) : Prop :=
  ∃ G cap cur, v = .slice (some ⟨G, 0, none⟩) uss.length cap ∧ base ≤ G ∧ w.heap[G]? = some (.cells cur 24) ∧ uss.length + 1 ≤ cap ∧ cap ≤ maxLen ∧ uss.length ≤ 300 ∧
    (∀ j, j < uss.length → ∃ u, cur[j]? = some u ∧ Mk w base u (uss[j]?.getD [])) ∧
    (∃ m, cur[uss.length]? = some (.slice (some ⟨m, 0, none⟩) 1 1) ∧ w.heap[m]? = some (.cells #[.float .f64 13852790978814935040] 46))
theorem MkL.later {w w' : World} {base : Nat} {v : Value} {uss : List (List Nat)} (h : MkL w base v uss) (hb : Below w.heap.size w w') : MkL w' base v uss := by
  obtain ⟨G, cap, cur, h1, h2, h3, h4, h5, h6, h7, m, h8, h9⟩ := h
  refine ⟨G, cap, cur, h1, h2, (hb.block G (Array.getElem?_eq_some_iff.1 h3).1).trans h3, h4, h5, h6, fun j hj => ?_, m, h8, (hb.block m (Array.getElem?_eq_some_iff.1 h9).1).trans h9⟩
  obtain ⟨u, a, b⟩ := h7 j hj
  exact ⟨u, a, b.later hb⟩
theorem MkL.mono {w : World} {base b : Nat} {v : Value} {uss : List (List Nat)} (h : MkL w base v uss) (hb : b ≤ base) : MkL w b v uss := by
  obtain ⟨G, cap, cur, h1, h2, h3, h4, h5, h6, h7, r⟩ := h
  exact ⟨G, cap, cur, h1, by omega, h3, h4, h5, h6, fun j hj => by obtain ⟨u, a, c⟩ := h7 j hj; exact ⟨u, a, c.mono hb⟩, r⟩
theorem MkL.rd {w : World} {base : Nat} {v : Value} {uss : List (List Nat)} (h : MkL w base v uss) : ∃ ao cap, v = .slice ao uss.length cap ∧ RdLL w ao uss.length cap uss := by
  obtain ⟨G, cap, cur, h1, h2, h3, h4, h5, h6, h7, r⟩ := h
  refine ⟨_, cap, h1, rfl, by simp only [maxLen]; omega, .inr ⟨G, 0, rfl, fun j hj => ?_⟩⟩
  obtain ⟨u, a, b⟩ := h7 j hj
  obtain ⟨ao, c, rfl, hr⟩ := b.rd
  exact ⟨ao, _, c, by rw [Nat.zero_add, cell_of_row _ G j _ _ _ h3]; exact a, hr⟩
theorem Tryd.elemFs : Tryd.prog.elem 25 = 24 := by kernel_rfl
theorem sizeFs (w : World) : (sizeOf 24).run Tryd.prog w = .ok 1 w := by kernel_rfl
theorem cutFs (ao : Option Addr) (len cap q : Nat) (hq : q ≤ cap) (w : World) :
    (Instr.slice 25 (.slice ao len cap) none (some (.int .i64 q)) none).run Tryd.prog w = .ok (.slice (if cap = 0 then ao else ao.map (·.add (0 * 1))) q cap) w := by
  rw [run_slice_h w _ _ _ _ (by rw [Tryd.elemFs]; exact Tryd.underlying25) .i64 q (by omega) (by omega), Tryd.elemFs, sizeFs]
  simp [Result.andThen, sliced]
theorem Mk.one {w : World} {base : Nat} {v : Value} {us : List Nat} (h : Mk w base v us) : v.oneCell' = true := by
  obtain ⟨g, cap, cur, rfl, _⟩ := h; rfl
theorem Mk.sl {w : World} {base : Nat} {v : Value} {us : List Nat} (h : Mk w base v us) : ∃ (g n cap : Nat), v = .slice (some ⟨g, 0, none⟩) n cap := by
  obtain ⟨g, cap, cur, h1, _⟩ := h; exact ⟨g, _, cap, h1⟩
theorem mk_block_ne {W : World} {base k : Nat} {v : Value} {vs : List Value} {cur : Array Value} (hown : OwnLs W base v vs) (hc : W.heap[k]? = some (.cells cur 46)) : v.ownBlock ≠ some k := by
  intro e
  rcases hown.2 with ⟨rfl, _⟩ | ⟨g, cap, cur2, rfl, _, hh, _⟩
  · simp [Value.ownBlock] at e
  · simp only [Value.ownBlock, Option.some.injEq] at e
    subst e
    rw [hc] at hh
    simp at hh
theorem OwnLs.form {w : World} {base : Nat} {v : Value} {vs : List Value} (h : OwnLs w base v vs) : ∃ ao cap, v = .slice ao vs.length cap := by
  rcases h.2 with ⟨rfl, h0⟩ | ⟨g, cap, cur, rfl, _⟩
  · exact ⟨none, 0, by rw [h0]⟩
  · exact ⟨_, cap, rfl⟩
theorem MkL.of {w : World} {base m : Nat} {v x : Value} {vs : List Value} {uss : List (List Nat)} (hl : uss.length = vs.length) (hm : vs.length ≤ 300) (h : OwnLs w base v (vs ++ [.slice (some ⟨m, 0, none⟩) 1 1, x]))
    (hM : ∀ (j : Nat) (y : Value), vs[j]? = some y → Mk w base y (uss[j]?.getD [])) (hk : w.heap[m]? = some (.cells #[.float .f64 13852790978814935040] 46)) :
    ∃ G cap, v = .slice (some ⟨G, 0, none⟩) (vs.length + 2) cap ∧ vs.length + 2 ≤ cap ∧ MkL w base (.slice (some ⟨G, 0, none⟩) vs.length cap) uss := by
  have hll : (vs ++ [.slice (some ⟨m, 0, none⟩) 1 1, x]).length = vs.length + 2 := by simp
  unfold OwnLs at h
  rw [hll] at h
  rcases h.2 with ⟨_, h0⟩ | ⟨g, cap, cur, rfl, hg, hh, hc, hx, hs, ht⟩
  · omega
  · have hat : ∀ j, j < vs.length + 2 → cur[j]? = (vs ++ [.slice (some ⟨m, 0, none⟩) 1 1, x])[j]? := by
      intro j hj
      rw [← ht, List.getElem?_take, if_pos (by omega), Array.getElem?_toList]
    refine ⟨g, cap, rfl, hc, g, cap, cur, by rw [hl], hg, hh, by omega, hx, by omega, fun j hj => ?_, m, ?_, hk⟩
    · have hj2 : j < vs.length := by omega
      refine ⟨vs[j], ?_, hM j _ (List.getElem?_eq_getElem hj2)⟩
      rw [hat j (by omega), List.getElem?_append_left hj2, List.getElem?_eq_getElem hj2]
    · rw [hl, hat _ (by omega), List.getElem?_append_right (Nat.le_refl _), Nat.sub_self]
      rfl
def tk (uss : List (List Nat)) : List (List Nat) := (uss.take 300).map (·.take 300)
theorem tk_at (uss : List (List Nat)) {j : Nat} (h : j < uss.length) (h2 : j < 300) : (tk uss)[j]?.getD [] = (uss[j]?.getD []).take 300 := by
  simp [tk, h2, List.getElem?_eq_getElem h]
theorem tk_len (uss : List (List Nat)) : (tk uss).length = min uss.length 300 := by simp [tk]; omega
set_option maxRecDepth 100000 in
set_option maxHeartbeats 1000000 in
theorem listsLaid_any (ao : Option Addr) (len cap : Nat) (uss : List (List Nat)) (w : World) (hr : RdQ w ao len cap uss) :
    Calls Tryd.prog 22 #[.slice ao len cap] w fun e w' => ∃ v, e = .returned v ∧ MkL w' w.heap.size v (tk uss) ∧ Below w.heap.size w w' := by
  have HR : Hid _ := hr
  have hmx := Nat.le_trans hr.max maxLen_le
  have HLN : Hid _ := hr.length
  clear hr
  go_enter Tryd.func22, Tryd.ntmps22
  go_wp2_with fail
  go_loopg [3, 4] (min len 300) (fun g v u wx => ∃ (i : Nat) (vs : List Value), u = .int .i64 i ∧ i + g = min len 300 ∧ vs.length = i ∧ Hid (OwnLs wx w.heap.size v vs) ∧ Hid (Below w.heap.size w wx) ∧ Hid (∀ (j : Nat) (x : Value), vs[j]? = some x → Mk wx w.heap.size x ((uss[j]?.getD []).take 300)))
  case atStart => exact ⟨0, [], rfl, by omega, rfl, OwnLs.nil _ _, Below.refl _ _, fun j x h => by simp at h⟩
  case round =>
    obtain ⟨i, vs, rfl, hi, hvl, HO, HB, HM⟩ := hrel
    have hsr := HB.out.size
    have HVL : Hid _ := hvl
    clear hvl
    by_cases hlt : i < min len 300
    · have hd : decide ((i : Int) < (len : Int)) = true := decide_eq_true (by omega)
      have hd2 : decide ((i : Int) < 300) = true := decide_eq_true (by omega)
      obtain ⟨g, rfl⟩ : ∃ g, gk = g + 1 := ⟨gk - 1, by omega⟩
      rcases (HR.out.later HB.out).cells with h0 | ⟨b, off, rfl, hc⟩
      · omega
      obtain ⟨aj, lj, cj, g0, hrf, hlc, hnl, hcm⟩ := hc i (by omega)
      have HL : Hid _ := laid_any aj lj cj (uss[i]?.getD []) wr hrf hlc hnl hcm
      have HIG : Hid _ := hi
      clear hc hrf hlc hnl hcm hi
      go_wp2_with fail
      refine Calls.mono HL.out ?_
      rintro e w3 ⟨v3, rfl, hm3, hb3⟩
      obtain ⟨g3, n3, cap3, rfl⟩ := hm3.sl
      have HM3 : Hid (Mk w3 wr.heap.size _ _) := hm3
      have HB3 : Hid _ := hb3
      have HO3 : Hid (OwnLs w3 w.heap.size _ vs) := HO.out.later hb3
      have hsz3 := hb3.size
      clear hm3 hb3 HL
      go_wp2_with (first | (at_builtin; refine appendG1 Tryd.underlying25 Tryd.infoFs rfl (by decide) w3 (by rfl) _ _ (by rfl) w.heap.size _ _ (by rfl) HO3.out _ (by rfl) (by rfl) (by have := HVL.out; omega) (by omega) ?_; intro v5 w5 hO5 hk5 hb5; have HO5 : Hid (OwnLs w5 w.heap.size v5 _) := hO5; have HB5 : Hid _ := hb5; have HK5 : Hid _ := hk5; clear hO5 hb5 hk5))
      go_roundg g
      case measure => omega
      case rel =>
        refine ⟨i + 1, vs ++ [.slice (some ⟨g3, 0, none⟩) n3 cap3], by go_num, by have := HIG.out; omega, by rw [List.length_append, HVL.out]; rfl, HO5, HB.out.trans ((to_callB HB3.out (by omega)).trans (HB5.out.mono (by omega))), ?_⟩
        intro j x hx
        by_cases hj : j < i
        · rw [List.getElem?_append_left (by rw [HVL.out]; exact hj)] at hx
          exact mk_kept HO3.out HK5.out ((HM.out j x hx).later HB3.out)
        · have hj2 : j = i := by
            have := (List.getElem?_eq_some_iff.1 hx).1
            rw [List.length_append, HVL.out] at this
            simp at this
            omega
          subst hj2
          rw [List.getElem?_append_right (by rw [HVL.out]; exact Nat.le_refl _), HVL.out, Nat.sub_self] at hx
          simp only [List.getElem?_cons_zero, Option.some.injEq] at hx
          subst hx
          exact mk_kept HO3.out HK5.out (HM3.out.mono (by omega))
    · have hd2 : i = min len 300 := by omega
      have HI : Hid _ := hd2
      clear hd2
      have HT : Hid ((tk uss).length = i) := by unfold Hid; rw [tk_len, HLN.out]; exact HI.out.symm
      by_cases hq : i < len
      · have hd : decide ((i : Int) < (len : Int)) = true := decide_eq_true (by omega)
        have hd3 : decide ((i : Int) < 300) = false := decide_eq_false (by have := HI.out; omega)
        obtain ⟨oo, oc, hvv⟩ := HO.out.form
        rw [HVL.out] at hvv
        subst hvv
        have HN : Hid (∀ j u, ([.slice (some ⟨wr.heap.size, 0, none⟩) 1 1, .slice (some ⟨wr.heap.size + 1, 0, none⟩) 1 1] : List Value)[j]? = some u → (((wr.alloc (.cells #[.float .f64 13852790978814935040] 46)).alloc (.cells #[.float .f64 13852790978814935040] 46)).alloc (.cells #[.slice (some ⟨wr.heap.size, 0, none⟩) 1 1, .slice (some ⟨wr.heap.size + 1, 0, none⟩) 1 1] 24)).cell? ((⟨wr.heap.size + 1 + 1, 0, none⟩ : Addr).add j) = some u) := by
          intro j u hu
          have hh := heap_at ((wr.alloc (.cells #[.float .f64 13852790978814935040] 46)).alloc (.cells #[.float .f64 13852790978814935040] 46)) (.cells #[.slice (some ⟨wr.heap.size, 0, none⟩) 1 1, .slice (some ⟨wr.heap.size + 1, 0, none⟩) 1 1] 24) (wr.heap.size + 1 + 1) (by simp only [alloc_size])
          rw [Addr.add_lit, cell_of_row _ _ _ _ _ _ hh, Nat.zero_add]
          match j, hu with
          | 0, hu => exact hu
          | 1, hu => exact hu
        have HOA : Hid (OwnLs (((wr.alloc (.cells #[.float .f64 13852790978814935040] 46)).alloc (.cells #[.float .f64 13852790978814935040] 46)).alloc (.cells #[.slice (some ⟨wr.heap.size, 0, none⟩) 1 1, .slice (some ⟨wr.heap.size + 1, 0, none⟩) 1 1] 24)) w.heap.size (.slice oo i oc) vs) := World.ownsRow.alloc (World.ownsRow.alloc (World.ownsRow.alloc HO.out _) _) _
        have HBA : Hid (Below wr.heap.size wr (((wr.alloc (.cells #[.float .f64 13852790978814935040] 46)).alloc (.cells #[.float .f64 13852790978814935040] 46)).alloc (.cells #[.slice (some ⟨wr.heap.size, 0, none⟩) 1 1, .slice (some ⟨wr.heap.size + 1, 0, none⟩) 1 1] 24))) := ((((Below.refl _ wr).alloc (Nat.le_refl _) _).alloc (by simp only [alloc_size]; omega) _).alloc (by simp only [alloc_size]; omega) _)
        have HKA : Hid _ := alloc_kept (alloc_kept (heap_alloc_new wr (.cells #[.float .f64 13852790978814935040] 46)) (.cells #[.float .f64 13852790978814935040] 46)) (.cells #[.slice (some ⟨wr.heap.size, 0, none⟩) 1 1, .slice (some ⟨wr.heap.size + 1, 0, none⟩) 1 1] 24)
        go_upto_region 8 with (first | (at_builtin; (refine appendG Tryd.underlying25 Tryd.infoFs rfl (by decide) _ (by rfl) _ _ (by rfl) w.heap.size _ _ (by rfl) HOA.out ⟨wr.heap.size + 1 + 1, 0, none⟩ 2 2 _ (by rfl) (by rfl) HN.out (by intro u hu; simp only [List.mem_cons, List.not_mem_nil, or_false] at hu; rcases hu with rfl | rfl <;> rfl) (by have := HVL.out; omega) (by have := HBA.out.size; omega) ?_); intro v5 w5 hO5 hk5 hb5; have HO5 : Hid (OwnLs w5 w.heap.size v5 _) := hO5; have HB5 : Hid (Below w.heap.size _ w5) := hb5; have HK5 : Hid _ := hk5; clear hO5 hb5 hk5))
        have hmk : w5.heap[wr.heap.size]? = some (.cells #[.float .f64 13852790978814935040] 46) := by
          have hne := mk_block_ne HOA.out HKA.out
          exact (HK5.out _ (blk_lt HKA.out) hne).trans HKA.out
        obtain ⟨G, cp, rfl, hcp, hML⟩ := MkL.of (uss := tk uss) (by rw [HT.out, HVL.out]) (by have := HI.out; have := HVL.out; omega) HO5.out (fun j y hy => by
          have hj : j < i := by have := (List.getElem?_eq_some_iff.1 hy).1; rw [HVL.out] at this; exact this
          rw [tk_at uss (by rw [HLN.out]; have := HI.out; omega) (by have := HI.out; omega)]
          exact mk_kept HOA.out HK5.out ((HM.out j y hy).later HBA.out)) hmk
        rw [HVL.out] at hcp hML ⊢
        have hsl : ∀ w, (Instr.slice 25 (.slice (some ⟨G, 0, none⟩) (i + 2) cp) none (some (.int .i64 i)) none).run Tryd.prog w = .ok (.slice (some ⟨G, 0, none⟩) i cp) w := by
          intro w
          have := cutFs (some ⟨G, 0, none⟩) (i + 2) cp i (by omega) w
          rw [if_neg (by omega), Option.map_some, add_zero'] at this
          exact this
        have HML : Hid (MkL w5 w.heap.size _ (tk uss)) := hML
        have HBF : Hid (Below w.heap.size w w5) := HB.out.trans ((HBA.out.mono (by omega)).trans HB5.out)
        clear hML hmk
        go_wp2
        go_ret
        exact ⟨_, rfl, HML.out, HBF.out⟩
      · have hd : decide ((i : Int) < (len : Int)) = false := decide_eq_false (by omega)
        obtain ⟨oo, oc, hvv⟩ := HO.out.form
        rw [HVL.out] at hvv
        subst hvv
        have HN : Hid (∀ j u, ([.slice (some ⟨wr.heap.size, 0, none⟩) 1 1, .slice (some ⟨wr.heap.size + 1, 0, none⟩) 1 1] : List Value)[j]? = some u → (((wr.alloc (.cells #[.float .f64 13852790978814935040] 46)).alloc (.cells #[.float .f64 13852790978814935040] 46)).alloc (.cells #[.slice (some ⟨wr.heap.size, 0, none⟩) 1 1, .slice (some ⟨wr.heap.size + 1, 0, none⟩) 1 1] 24)).cell? ((⟨wr.heap.size + 1 + 1, 0, none⟩ : Addr).add j) = some u) := by
          intro j u hu
          have hh := heap_at ((wr.alloc (.cells #[.float .f64 13852790978814935040] 46)).alloc (.cells #[.float .f64 13852790978814935040] 46)) (.cells #[.slice (some ⟨wr.heap.size, 0, none⟩) 1 1, .slice (some ⟨wr.heap.size + 1, 0, none⟩) 1 1] 24) (wr.heap.size + 1 + 1) (by simp only [alloc_size])
          rw [Addr.add_lit, cell_of_row _ _ _ _ _ _ hh, Nat.zero_add]
          match j, hu with
          | 0, hu => exact hu
          | 1, hu => exact hu
        have HOA : Hid (OwnLs (((wr.alloc (.cells #[.float .f64 13852790978814935040] 46)).alloc (.cells #[.float .f64 13852790978814935040] 46)).alloc (.cells #[.slice (some ⟨wr.heap.size, 0, none⟩) 1 1, .slice (some ⟨wr.heap.size + 1, 0, none⟩) 1 1] 24)) w.heap.size (.slice oo i oc) vs) := World.ownsRow.alloc (World.ownsRow.alloc (World.ownsRow.alloc HO.out _) _) _
        have HBA : Hid (Below wr.heap.size wr (((wr.alloc (.cells #[.float .f64 13852790978814935040] 46)).alloc (.cells #[.float .f64 13852790978814935040] 46)).alloc (.cells #[.slice (some ⟨wr.heap.size, 0, none⟩) 1 1, .slice (some ⟨wr.heap.size + 1, 0, none⟩) 1 1] 24))) := ((((Below.refl _ wr).alloc (Nat.le_refl _) _).alloc (by simp only [alloc_size]; omega) _).alloc (by simp only [alloc_size]; omega) _)
        have HKA : Hid _ := alloc_kept (alloc_kept (heap_alloc_new wr (.cells #[.float .f64 13852790978814935040] 46)) (.cells #[.float .f64 13852790978814935040] 46)) (.cells #[.slice (some ⟨wr.heap.size, 0, none⟩) 1 1, .slice (some ⟨wr.heap.size + 1, 0, none⟩) 1 1] 24)
        go_upto_region 8 with (first | (at_builtin; (refine appendG Tryd.underlying25 Tryd.infoFs rfl (by decide) _ (by rfl) _ _ (by rfl) w.heap.size _ _ (by rfl) HOA.out ⟨wr.heap.size + 1 + 1, 0, none⟩ 2 2 _ (by rfl) (by rfl) HN.out (by intro u hu; simp only [List.mem_cons, List.not_mem_nil, or_false] at hu; rcases hu with rfl | rfl <;> rfl) (by have := HVL.out; omega) (by have := HBA.out.size; omega) ?_); intro v5 w5 hO5 hk5 hb5; have HO5 : Hid (OwnLs w5 w.heap.size v5 _) := hO5; have HB5 : Hid (Below w.heap.size _ w5) := hb5; have HK5 : Hid _ := hk5; clear hO5 hb5 hk5))
        have hmk : w5.heap[wr.heap.size]? = some (.cells #[.float .f64 13852790978814935040] 46) := by
          have hne := mk_block_ne HOA.out HKA.out
          exact (HK5.out _ (blk_lt HKA.out) hne).trans HKA.out
        obtain ⟨G, cp, rfl, hcp, hML⟩ := MkL.of (uss := tk uss) (by rw [HT.out, HVL.out]) (by have := HI.out; have := HVL.out; omega) HO5.out (fun j y hy => by
          have hj : j < i := by have := (List.getElem?_eq_some_iff.1 hy).1; rw [HVL.out] at this; exact this
          rw [tk_at uss (by rw [HLN.out]; have := HI.out; omega) (by have := HI.out; omega)]
          exact mk_kept HOA.out HK5.out ((HM.out j y hy).later HBA.out)) hmk
        rw [HVL.out] at hcp hML ⊢
        have hsl : ∀ w, (Instr.slice 25 (.slice (some ⟨G, 0, none⟩) (i + 2) cp) none (some (.int .i64 i)) none).run Tryd.prog w = .ok (.slice (some ⟨G, 0, none⟩) i cp) w := by
          intro w
          have := cutFs (some ⟨G, 0, none⟩) (i + 2) cp i (by omega) w
          rw [if_neg (by omega), Option.map_some, add_zero'] at this
          exact this
        have HML : Hid (MkL w5 w.heap.size _ (tk uss)) := hML
        have HBF : Hid (Below w.heap.size w w5) := HB.out.trans ((HBA.out.mono (by omega)).trans HB5.out)
        clear hML hmk
        go_wp2
        go_ret
        exact ⟨_, rfl, HML.out, HBF.out⟩
end Go.Proofs.YtnhaapnmgjlbjaaDoor
