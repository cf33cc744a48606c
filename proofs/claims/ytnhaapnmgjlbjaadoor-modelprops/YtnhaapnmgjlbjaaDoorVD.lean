import Derived.Test.YtnhaapnmgjlbjaaDoorVC
namespace Go.Proofs.YtnhaapnmgjlbjaaDoor
open Go.RowKit
set_option linter.unusedVariables false

def uV (us : List Nat) : List Value := us.map fun (u : Nat) => Value.int .u64 (u : Int)
theorem uV_len (us : List Nat) : (uV us).length = us.length := by simp [uV]
theorem uV_snoc (us : List Nat) (u : Nat) : uV (us ++ [u]) = uV us ++ [.int .u64 (u : Int)] := by simp [uV]
theorem uV_at (us : List Nat) (j : Nat) (h : j < us.length) : (uV us)[j]? = some (.int .u64 ((us[j]?.getD 0 : Nat) : Int)) := by
  simp [uV, List.getElem?_eq_getElem h]
/-- A row of bits that the call made. -/
def OwnUi (w : World) (base : Nat) (v : Value) (us : List Nat) : Prop := w.ownsRow base 88 1 v (uV us).length (uV us)
theorem OwnUi.nil (w : World) (base : Nat) : OwnUi w base (.slice none 0 0) [] := World.ownsRow_nil w base _ 1
theorem OwnUi.keep {w w' : World} {base : Nat} {v : Value} {us : List Nat} (h : OwnUi w base v us) (hb : ∀ k, k < w.heap.size → (∀ cur, w.heap[k]? = some (.cells cur 88) → w'.heap[k]? = w.heap[k]?)) : OwnUi w' base v us := by
  refine ⟨h.1, ?_⟩
  rcases h.2 with h2 | ⟨g, cap, cur, hv, hg, hh, r⟩
  · exact .inl h2
  · exact .inr ⟨g, cap, cur, hv, hg, (hb g (Array.getElem?_eq_some_iff.1 hh).1 cur hh).trans hh, r⟩
theorem OwnUi.later {w w' : World} {base : Nat} {v : Value} {us : List Nat} (h : OwnUi w base v us) (hb : Below w.heap.size w w') : OwnUi w' base v us := h.keep fun k hk _ _ => hb.block k hk
theorem OwnUi.mono {w : World} {base b : Nat} {v : Value} {us : List Nat} (h : OwnUi w base v us) (hb : b ≤ base) : OwnUi w b v us := by
  refine ⟨h.1, ?_⟩
  rcases h.2 with h2 | ⟨g, cap, cur, hv, hg, r⟩
  · exact .inl h2
  · exact .inr ⟨g, cap, cur, hv, by omega, r⟩
/-- THE SLICE OF uint64 '.slice ao len cap' READS AS us. -/
structure RdU (w : World) (ao : Option Addr) (len cap : Nat) (us : List Nat) : Prop where
  length : us.length = len
  max : len ≤ maxLen
  cells : len = 0 ∨ ∃ b off, ao = some ⟨b, off, none⟩ ∧ ∀ j, j < len → w.cell? ⟨b, off + j, none⟩ = some (.int .u64 ((us[j]?.getD 0 : Nat) : Int))
theorem RdU.later {w w' : World} {ao : Option Addr} {len cap : Nat} {us : List Nat} (h : RdU w ao len cap us) (hb : Below w.heap.size w w') : RdU w' ao len cap us := by
  refine ⟨h.length, h.max, ?_⟩
  rcases h.cells with h0 | ⟨b, off, ha, hc⟩
  · exact .inl h0
  · refine .inr ⟨b, off, ha, fun j hj => ?_⟩
    have hlt := World.block_lt_of_cell? w _ (hc j hj)
    rw [hb.cell (p := ⟨b, off + j, none⟩) hlt]
    exact hc j hj
theorem OwnUi.rd {w : World} {base : Nat} {v : Value} {us : List Nat} (h : OwnUi w base v us) (hm : us.length ≤ 1000) : ∃ ao cap, v = .slice ao us.length cap ∧ RdU w ao us.length cap us := by
  have h' := h
  unfold OwnUi at h'
  rw [uV_len] at h'
  rcases h'.2 with ⟨rfl, h0⟩ | ⟨g, cap, cur, rfl, hg, hh, r⟩
  · exact ⟨none, 0, by rw [h0], rfl, by simp only [maxLen]; omega, .inl h0⟩
  · refine ⟨_, cap, rfl, rfl, by simp only [maxLen]; omega, .inr ⟨g, 0, rfl, fun j hj => ?_⟩⟩
    have := World.ownsRow.cells h' (g := g) rfl j _ (uV_at us j hj)
    rw [Addr.add_lit] at this
    exact this
theorem take_snoc' {us : List Nat} {k : Nat} (h : k < us.length) : us.take (k + 1) = us.take k ++ [us[k]?.getD 0] := by
  rw [List.take_succ_eq_append_getElem h, List.getElem?_eq_getElem h]; rfl
set_option maxRecDepth 100000 in
set_option maxHeartbeats 1000000 in
theorem bitsList_any (ao : Option Addr) (len cap : Nat) (us : List Nat) (w : World) (hr : RdF w ao len cap us) (hl : len ≤ 1000) :
    Calls Tryd.prog 23 #[.slice ao len cap] w fun e w' => ∃ v, e = .returned v ∧ OwnUi w' w.heap.size v us ∧ Below w.heap.size w w' := by
  have HR : Hid _ := hr
  have HLN : Hid _ := hr.length
  clear hr
  go_enter Tryd.func23, Tryd.ntmps23
  go_wp2_with fail
  go_loopg [3, 4] len (fun g v u wx => ∃ (i : Nat), u = .int .i64 i ∧ i + g = len ∧ Hid (OwnUi wx w.heap.size v (us.take i)) ∧ Hid (Below w.heap.size w wx))
  case atStart => exact ⟨0, rfl, by omega, OwnUi.nil _ _, Below.refl _ _⟩
  case round =>
    obtain ⟨i, rfl, hi, HO, HB⟩ := hrel
    have hsr := HB.out.size
    by_cases hlt : i < len
    · have hd : decide ((i : Int) < (len : Int)) = true := decide_eq_true (by omega)
      obtain ⟨g, rfl⟩ : ∃ g, gk = g + 1 := ⟨gk - 1, by omega⟩
      rcases (HR.out.later HB.out).cells with h0 | ⟨b, off, rfl, hc⟩
      · omega
      have g0 := hc i hlt
      have HTS : Hid _ := take_snoc' (us := us) (k := i) (by rw [HLN.out]; exact hlt)
      generalize us[i]?.getD 0 = x at *
      have HIG : Hid _ := hi
      clear hc hi
      go_wp2_with (first
        | (go_at_call 40; refine Calls.mono (bits_any x _) ?_; rintro e w' ⟨rfl, hw⟩; rw [hw]; clear hw)
        | (at_builtin; refine appendG1 Tryd.underlying29 Tryd.infoU rfl (by decide) wr (by rfl) _ _ (by rfl) w.heap.size _ _ (by rfl) HO.out _ (by rfl) (by rfl) (by rw [uV_len, List.length_take]; omega) (by omega) ?_; intro v5 w5 hO5 hk5 hb5; have HO5 : Hid _ := hO5; have HB5 : Hid (Below w.heap.size wr w5) := hb5; clear hO5 hb5 hk5))
      go_roundg g
      case measure => omega
      case rel =>
        refine ⟨i + 1, by go_num, by have := HIG.out; omega, ?_, HB.out.trans HB5.out⟩
        have := HO5.out
        unfold Hid OwnUi
        rw [HTS.out, uV_snoc]
        exact this
    · have hd : decide ((i : Int) < (len : Int)) = false := decide_eq_false (by omega)
      have HO2 : Hid (OwnUi wr w.heap.size u3 us) := by
        have := HO.out
        rw [List.take_of_length_le (by rw [HLN.out]; omega)] at this
        exact this
      go_wp2
      go_ret
      exact ⟨_, rfl, HO2.out, HB.out⟩

def OwnUs (w : World) (base : Nat) (v : Value) (vs : List Value) : Prop := w.ownsRow base 29 1 v vs.length vs
theorem OwnUs.nil (w : World) (base : Nat) : OwnUs w base (.slice none 0 0) [] := World.ownsRow_nil w base _ 1
theorem OwnUs.later {w w' : World} {base : Nat} {v : Value} {vs : List Value} (h : OwnUs w base v vs) (hb : Below w.heap.size w w') : OwnUs w' base v vs := by
  refine ⟨h.1, ?_⟩
  rcases h.2 with h2 | ⟨g, cap, cur, hv, hg, hh, r⟩
  · exact .inl h2
  · exact .inr ⟨g, cap, cur, hv, hg, by rw [hb.block g (Array.getElem?_eq_some_iff.1 hh).1]; exact hh, r⟩
theorem ui_kept {W w' : World} {base b : Nat} {v u : Value} {vs : List Value} {us : List Nat} (hown : OwnUs W base v vs) (hk : ∀ k, k < W.heap.size → v.ownBlock ≠ some k → w'.heap[k]? = W.heap[k]?) (h : OwnUi W b u us) : OwnUi w' b u us := by
  refine h.keep fun k hlt cur hc => hk k hlt fun e => ?_
  rcases hown.2 with ⟨rfl, _⟩ | ⟨g, cap, cur2, rfl, _, hh, _⟩
  · simp [Value.ownBlock] at e
  · simp only [Value.ownBlock, Option.some.injEq] at e
    subst e
    rw [hc] at hh
    simp at hh
/-- Lists of bits that the call made. -/
def MkU (w : World) (base : Nat) (v : Value) (uss : List (List Nat)) : Prop := ∃ vs, OwnUs w base v vs ∧ vs.length = uss.length ∧ ∀ (j : Nat) (x : Value), vs[j]? = some x → OwnUi w base x (uss[j]?.getD [])
theorem MkU.later {w w' : World} {base : Nat} {v : Value} {uss : List (List Nat)} (h : MkU w base v uss) (hb : Below w.heap.size w w') : MkU w' base v uss := by
  obtain ⟨vs, h1, h2, h3⟩ := h
  exact ⟨vs, h1.later hb, h2, fun j x hx => (h3 j x hx).later hb⟩
theorem OwnUi.sl {w : World} {base : Nat} {v : Value} {us : List Nat} (h : OwnUi w base v us) : ∃ ao n cap, v = .slice ao n cap := by
  rcases h.2 with ⟨rfl, h0⟩ | ⟨g, cap, cur, rfl, _⟩
  · exact ⟨none, 0, 0, rfl⟩
  · exact ⟨_, _, cap, rfl⟩
set_option maxRecDepth 100000 in
set_option maxHeartbeats 1000000 in
theorem bitsOf_any (ao : Option Addr) (len cap : Nat) (uss : List (List Nat)) (w : World) (hr : RdLL w ao len cap uss) (hl : len ≤ 1000) (hil : ∀ us ∈ uss, us.length ≤ 1000) :
    Calls Tryd.prog 24 #[.slice ao len cap] w fun e w' => ∃ v, e = .returned v ∧ MkU w' w.heap.size v uss ∧ Below w.heap.size w w' := by
  have HR : Hid _ := hr
  have HLN : Hid _ := hr.length
  have HIL : Hid _ := hil
  clear hr hil
  go_enter Tryd.func24, Tryd.ntmps24
  go_wp2_with fail
  go_loopg [3, 4] len (fun g v u wx => ∃ (i : Nat) (vs : List Value), u = .int .i64 i ∧ i + g = len ∧ Hid (vs.length = i) ∧ Hid (OwnUs wx w.heap.size v vs) ∧ Hid (Below w.heap.size w wx) ∧ Hid (∀ (j : Nat) (x : Value), vs[j]? = some x → OwnUi wx w.heap.size x (uss[j]?.getD [])))
  case atStart => exact ⟨0, [], rfl, by omega, rfl, OwnUs.nil _ _, Below.refl _ _, fun j x h => by simp at h⟩
  case round =>
    obtain ⟨i, vs, rfl, hi, HVL, HO, HB, HM⟩ := hrel
    have hsr := HB.out.size
    by_cases hlt : i < len
    · have hd : decide ((i : Int) < (len : Int)) = true := decide_eq_true (by omega)
      obtain ⟨g, rfl⟩ : ∃ g, gk = g + 1 := ⟨gk - 1, by omega⟩
      rcases (HR.out.later HB.out).cells with h0 | ⟨b, off, rfl, hc⟩
      · omega
      obtain ⟨aj, lj, cj, g0, hrf⟩ := hc i hlt
      have HL : Hid _ := bitsList_any aj lj cj (uss[i]?.getD []) wr hrf (by rw [← hrf.length]; exact HIL.out _ (by rw [List.getElem?_eq_getElem (by rw [HLN.out]; exact hlt)]; exact List.getElem_mem _))
      have HIG : Hid _ := hi
      clear hc hrf hi
      go_wp2_with fail
      refine Calls.mono HL.out ?_
      rintro e w3 ⟨v3, rfl, hm3, hb3⟩
      have HM3 : Hid (OwnUi w3 wr.heap.size v3 _) := hm3
      obtain ⟨a3, n3, cap3, rfl⟩ := hm3.sl
      have HB3 : Hid (Below wr.heap.size wr w3) := hb3
      have HO3 : Hid (OwnUs w3 w.heap.size _ vs) := HO.out.later hb3
      have hsz3 := hb3.size
      clear hm3 hb3 HL
      go_wp2_with (first | (at_builtin; refine appendG1 Tryd.underlying30 Tryd.infoUs rfl (by decide) w3 (by rfl) _ _ (by rfl) w.heap.size _ _ (by rfl) HO3.out _ (by rfl) (by rfl) (by have := HVL.out; omega) (by omega) ?_; intro v5 w5 hO5 hk5 hb5; have HO5 : Hid (OwnUs w5 w.heap.size v5 _) := hO5; have HB5 : Hid (Below w.heap.size w3 w5) := hb5; have HK5 : Hid _ := hk5; clear hO5 hb5 hk5))
      go_roundg g
      case measure => omega
      case rel =>
        refine ⟨i + 1, vs ++ [.slice a3 n3 cap3], by go_num, by have := HIG.out; omega, by unfold Hid; rw [List.length_append, HVL.out]; rfl, HO5, HB.out.trans ((to_callB HB3.out (by omega)).trans HB5.out), ?_⟩
        intro j x hx
        by_cases hj : j < i
        · rw [List.getElem?_append_left (by rw [HVL.out]; exact hj)] at hx
          exact ui_kept HO3.out HK5.out ((HM.out j x hx).later HB3.out)
        · have hj2 : j = i := by
            have := (List.getElem?_eq_some_iff.1 hx).1
            rw [List.length_append, HVL.out] at this
            simp at this
            omega
          subst hj2
          rw [List.getElem?_append_right (by rw [HVL.out]; exact Nat.le_refl _), HVL.out, Nat.sub_self] at hx
          simp only [List.getElem?_cons_zero, Option.some.injEq] at hx
          subst hx
          exact ui_kept HO3.out HK5.out (HM3.out.mono (by omega))
    · have hd : decide ((i : Int) < (len : Int)) = false := decide_eq_false (by omega)
      have HI : Hid (i = len) := by unfold Hid; omega
      go_wp2
      go_ret
      exact ⟨_, rfl, ⟨vs, HO.out, by rw [HVL.out, HLN.out, HI.out], HM.out⟩, HB.out⟩
end Go.Proofs.YtnhaapnmgjlbjaaDoor
