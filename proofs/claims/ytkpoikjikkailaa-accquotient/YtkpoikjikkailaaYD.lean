import Derived.Test.YtkpoikjikkailaaYC
namespace Go.Proofs.Ytkpoikjikkailaa
open Go.RowKit
set_option linter.unusedVariables false

/-- THE SLICE OF ints '.slice ao len cap' READS AS G. -/
structure RdI (w : World) (ao : Option Addr) (len cap : Nat) (G : Nat → Int) : Prop where
  le : len ≤ cap
  max : cap ≤ maxLen
  lt : ∀ j, j < len → -9223372036854775808 ≤ G j ∧ G j ≤ 9223372036854775807
  cells : len = 0 ∨ ∃ b off, ao = some ⟨b, off, none⟩ ∧ ∀ j, j < len → w.cell? ⟨b, off + j, none⟩ = some (.int .i64 (G j))
theorem RdI.later {w w' : World} {ao : Option Addr} {len cap : Nat} {G : Nat → Int} (h : RdI w ao len cap G) (hb : Below w.heap.size w w') : RdI w' ao len cap G := by
  refine ⟨h.le, h.max, h.lt, ?_⟩
  rcases h.cells with h0 | ⟨b, off, ha, hc⟩
  · exact .inl h0
  · refine .inr ⟨b, off, ha, fun j hj => ?_⟩
    have hl := World.block_lt_of_cell? w _ (hc j hj)
    rw [hb.cell (p := ⟨b, off + j, none⟩) hl]
    exact hc j hj
theorem OwnT.lower {w : World} {base base' : Nat} {v : Value} {ts : List TmV} (h : OwnT w base v ts) (hb : base' ≤ base) : OwnT w base' v ts := by
  refine ⟨h.1, ?_⟩
  rcases h.2 with h2 | ⟨g, cap, cur, hv, hg, r⟩
  · exact .inl h2
  · exact .inr ⟨g, cap, cur, hv, by omega, r⟩
/-- An own row that is not empty: where it lies, and its cells. -/
theorem OwnT.some {w : World} {base : Nat} {v : Value} {ts : List TmV} (h : OwnT w base v ts) (h0 : 0 < ts.length) : ∃ g cap, v = .slice (some ⟨g, 0, none⟩) ts.length cap ∧ base ≤ g ∧ g < w.heap.size ∧ ts.length ≤ cap ∧ cap ≤ maxLen ∧ ∀ j u, (tmcs ts)[j]? = some u → w.cell? ⟨g, j, none⟩ = some u := by
  rcases h.2 with ⟨_, h1⟩ | ⟨g, cap, cur, hv, hg, hh, hc, hx, hs, ht⟩
  · omega
  · refine ⟨g, cap, hv, hg, (Array.getElem?_eq_some_iff.1 hh).1, hc, hx, fun j u hu => ?_⟩
    rw [cell_of_row _ g _ _ _ _ hh]
    rw [← ht, List.getElem?_take] at hu
    split at hu
    · rw [Array.getElem?_toList] at hu; exact hu
    · cases hu
theorem Try.elemTerm : Try.prog.elem 41 = 83 := by kernel_rfl
theorem Try.sizeTerm (w : World) : (sizeOf 83).run Try.prog w = .ok 3 w := by kernel_rfl
theorem sliceT_h (a : Option Addr) (len cap q : Nat) (hq : q ≤ cap) (w : World) : (Instr.slice 41 (.slice a len cap) none (some (.int .i64 (q : Int))) none).run Try.prog w = .ok (sliced a 0 q cap 3) w := by
  rw [run_slice_h w _ _ _ _ (by rw [Try.elemTerm]; exact Try.underlying41) .i64 q (by omega) (by omega), Try.elemTerm, Try.sizeTerm]
  simp [Result.andThen]
theorem sliceT_l (a : Option Addr) (len cap q : Nat) (hq : q ≤ len) (w : World) : (Instr.slice 41 (.slice a len cap) (some (.int .i64 (q : Int))) none none).run Try.prog w = .ok (sliced a q len cap 3) w := by
  rw [run_slice_l w _ _ _ _ (by rw [Try.elemTerm]; exact Try.underlying41) .i64 q (by omega) (by omega), Try.elemTerm, Try.sizeTerm]
  simp [Result.andThen]
/-- append(s, x...) of Terms, at a step of a region that draws its order; what x reads lies elsewhere. -/
theorem stepTs {ops : Array Oper} {o : Oper} {a : Act} {K : Act → World → Prop} {Q : Exit → Act → World → Prop} {E : Prop} (W : World) (hgd : o.guard = none) (s x : Operand)
    (ho : o.op = .call { callee := .builtin .append, args := #[s, x], argTypes := #[41, 41] })
    (base : Nat) (v : Value) (ts us : List TmV) (hs : a.eval s = v) (hown : OwnT W base v ts) (ad : Addr) (m c : Nat) (hm : us.length = m)
    (hx : a.eval x = .slice (some ad) m c) (hnews : ∀ j u, (tmcs us)[j]? = some u → W.cell? (ad.add j) = some u)
    (hbound : ts.length + us.length ≤ 1000000) (hbase : base ≤ W.heap.size)
    (h : ∀ v' w', OwnT w' base v' (ts ++ us) → W.grownBy w' v.ownBlock → K (a.put o.dst v') w') :
    if Region.wanted o (yielded ops a.tmps) = true then Oper.wp Try.prog o a W K Q else E := by
  subst hm
  have hw : Region.wanted o (yielded ops a.tmps) = true := by simp [Region.wanted, hgd]
  rw [if_pos hw]
  obtain ⟨i0, hi, hz0, hz1, hz2⟩ := info_parts Try.infoTerm
  refine wp_append_own W s x 41 ho base 83 i0 _ 3 24 Try.underlying41 hi hz0 hz1 hz2 rfl (by decide) v ts.length _ hs hown ad us.length c (tmcs us) hx (tmcs_len us) hnews ?_ (by simp only [maxLen]; omega) (by omega) hbase ?_
  · intro u hu
    unfold tmcs at hu
    obtain ⟨t, _, ht⟩ := List.mem_flatMap.1 hu
    simp only [tmc, List.mem_cons, List.mem_nil_iff, or_false] at ht
    rcases ht with rfl | rfl | rfl <;> rfl
  · intro v' w' h2 h3 _
    refine h v' w' ?_ h3
    unfold OwnT
    rw [List.length_append]
    have : tmcs (ts ++ us) = tmcs ts ++ tmcs us := by unfold tmcs; rw [List.flatMap_append]
    rw [this]
    exact h2
/-- The same at a plain region's list. -/
theorem appendTs {ops : Array Oper} {rest : List Oper} {o : Oper} {a : Act} {Q : Exit → Act → World → Prop} (W : World) (hgd : o.guard = none) (s x : Operand)
    (ho : o.op = .call { callee := .builtin .append, args := #[s, x], argTypes := #[41, 41] })
    (base : Nat) (v : Value) (ts us : List TmV) (hs : a.eval s = v) (hown : OwnT W base v ts) (ad : Addr) (c : Nat)
    (hx : a.eval x = .slice (some ad) us.length c) (hnews : ∀ j u, (tmcs us)[j]? = some u → W.cell? (ad.add j) = some u)
    (hbound : ts.length + us.length ≤ 1000000) (hbase : base ≤ W.heap.size)
    (h : ∀ v' w', OwnT w' base v' (ts ++ us) → W.grownBy w' v.ownBlock → wpList Try.prog ops Q rest (a.put o.dst v') w') : wpList Try.prog ops Q (o :: rest) a W := by
  obtain ⟨i0, hi, hz0, hz1, hz2⟩ := info_parts Try.infoTerm
  refine wpList_append_own W hgd s x 41 ho base 83 i0 _ 3 24 Try.underlying41 hi hz0 hz1 hz2 rfl (by decide) v ts.length _ hs hown ad us.length c (tmcs us) hx (tmcs_len us) hnews ?_ (by simp only [maxLen]; omega) (by omega) hbase ?_
  · intro u hu
    unfold tmcs at hu
    obtain ⟨t, _, ht⟩ := List.mem_flatMap.1 hu
    simp only [tmc, List.mem_cons, List.mem_nil_iff, or_false] at ht
    rcases ht with rfl | rfl | rfl <;> rfl
  · intro v' w' h2 h3 _
    refine h v' w' ?_ h3
    unfold OwnT
    rw [List.length_append]
    have : tmcs (ts ++ us) = tmcs ts ++ tmcs us := by unfold tmcs; rw [List.flatMap_append]
    rw [this]
    exact h2
theorem tmcs_take : ∀ (ts : List TmV) (k : Nat), tmcs (ts.take k) = (tmcs ts).take (k * 3)
  | [], k => by simp [tmcs]
  | t :: ts, 0 => rfl
  | t :: ts, k + 1 => by
    show tmc t ++ tmcs (ts.take k) = (tmc t ++ tmcs ts).take ((k + 1) * 3)
    rw [tmcs_take ts k, List.take_append]
    have h3 : (tmc t).length = 3 := rfl
    have e1 : (tmc t).take ((k + 1) * 3) = tmc t := List.take_of_length_le (by rw [h3]; omega)
    rw [h3, e1, show (k + 1) * 3 - 3 = k * 3 by omega]
theorem tmcs_drop : ∀ (ts : List TmV) (k : Nat), tmcs (ts.drop k) = (tmcs ts).drop (k * 3)
  | [], k => by simp [tmcs]
  | t :: ts, 0 => rfl
  | t :: ts, k + 1 => by
    show tmcs (ts.drop k) = (tmc t ++ tmcs ts).drop ((k + 1) * 3)
    rw [tmcs_drop ts k, List.drop_append]
    have h3 : (tmc t).length = 3 := rfl
    have e1 : (tmc t).drop ((k + 1) * 3) = [] := List.drop_of_length_le (by rw [h3]; omega)
    rw [h3, e1, show (k + 1) * 3 - 3 = k * 3 by omega, List.nil_append]
end Go.Proofs.Ytkpoikjikkailaa
