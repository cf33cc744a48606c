import Derived.Test.YtajopgndpomggaaWM
import Derived.Deep.AppendLies
import Derived.Deep.Slices
import Derived.ChangeSame
namespace Go.Proofs.Ytajopgndpomggaa
open Go.RowKit
set_option linter.unusedVariables false

/-- THE SLICE OF uint64 '.slice ao len cap' READS AS xs. -/
structure RdU (w : World) (ao : Option Addr) (len cap : Nat) (xs : List Nat) : Prop where
  length : xs.length = len
  le : len ≤ cap
  max : cap ≤ maxLen
  lt : ∀ u ∈ xs, u < 18446744073709551616
  nil : ao = none → cap = 0
  cells : len = 0 ∨ ∃ b off, ao = some ⟨b, off, none⟩ ∧ ∀ j, j < len → w.cell? ⟨b, off + j, none⟩ = some (.int .u64 ((xs[j]?.getD 0 : Nat) : Int))
theorem RdU.later {w w' : World} {ao : Option Addr} {len cap : Nat} {xs : List Nat} (h : RdU w ao len cap xs) (hb : Below w.heap.size w w') : RdU w' ao len cap xs := by
  refine ⟨h.length, h.le, h.max, h.lt, h.nil, ?_⟩
  rcases h.cells with h0 | ⟨b, off, ha, hc⟩
  · exact .inl h0
  · refine .inr ⟨b, off, ha, fun j hj => ?_⟩
    have hl := World.block_lt_of_cell? w _ (hc j hj)
    rw [hb.cell (p := ⟨b, off + j, none⟩) hl]
    exact hc j hj
theorem Try.sizeU64 (w : World) : (sizeOf 36).run Try.prog w = .ok 1 w := by kernel_rfl
/-- The first q words. -/
theorem RdU.cut {W : World} {ao : Option Addr} {len cap : Nat} {xs : List Nat} (hr : RdU W ao len cap xs) (q : Nat) (hq : q ≤ len) :
    RdU W (if cap = 0 then ao else ao.map (·.add (0 * 1))) q cap (xs.take q) := by
  have hl := hr.length
  refine ⟨by simp [hl]; omega, by have := hr.le; omega, hr.max, fun u hu => hr.lt u (List.mem_of_mem_take hu), ?_, ?_⟩
  · intro h
    split at h
    · assumption
    · cases ao with
      | none => exact hr.nil rfl
      | some a => simp at h
  · by_cases h0 : q = 0
    · exact .inl h0
    · right
      rcases hr.cells with h1 | ⟨b, off, rfl, hc⟩
      · omega
      · refine ⟨b, off, ?_, fun j hj => ?_⟩
        · have := hr.le; rw [if_neg (by omega), Option.map_some, Addr.add_lit, Nat.zero_mul, Nat.add_zero]
        · rw [hc j (by omega), List.getElem?_take, if_pos (by omega)]
theorem Try.infoFlt : (Try.prog.info? 45).map (fun i => (i.zero, i.size, i.bytes)) = some (some (.float .f64 0), 1, 8) := by kernel_rfl
/-- A slice of floats that the call itself made. -/
def OwnF (w : World) (base : Nat) (v : Value) (us : List Nat) : Prop := w.ownsRow base 45 1 v us.length (us.map (Value.float .f64))
theorem OwnF.nil (w : World) (base : Nat) : OwnF w base (.slice none 0 0) [] := World.ownsRow_nil w base _ 1
theorem OwnF.alloc {w : World} {base : Nat} {v : Value} {us : List Nat} (h : OwnF w base v us) (o : Obj) : OwnF (w.alloc o) base v us := World.ownsRow.alloc h o
theorem OwnF.keep {w w' : World} {base : Nat} {v : Value} {us : List Nat} (h : OwnF w base v us) (hb : ∀ k, v.ownBlock = some k → w'.heap[k]? = w.heap[k]?) : OwnF w' base v us := by
  refine ⟨h.1, ?_⟩
  rcases h.2 with h2 | ⟨g, cap, cur, hv, hg, hh, r⟩
  · exact .inl h2
  · exact .inr ⟨g, cap, cur, hv, hg, by rw [hb g (by rw [hv]; rfl)]; exact hh, r⟩
theorem OwnF.lt {w : World} {base : Nat} {v : Value} {us : List Nat} (h : OwnF w base v us) : ∀ k, v.ownBlock = some k → base ≤ k ∧ k < w.heap.size := World.ownsRow.lt h
theorem OwnF.later {w w' : World} {base : Nat} {v : Value} {us : List Nat} (h : OwnF w base v us) (hb : Below w.heap.size w w') : OwnF w' base v us := h.keep fun k hk => hb.block k (h.lt k hk).2
/-- Its form, and what its cells read. -/
theorem OwnF.form {w : World} {base : Nat} {v : Value} {us : List Nat} (h : OwnF w base v us) (hu : ∀ u ∈ us, u < 18446744073709551616) (hm : us.length ≤ 1000000) : ∃ ao cap, v = .slice ao us.length cap ∧ us.length ≤ cap ∧ RdF w ao us.length cap us := by
  rcases h.2 with ⟨rfl, h0⟩ | ⟨g, cap, cur, rfl, hg, hh, hc, hx, hs, ht⟩
  · have : us = [] := List.eq_nil_of_length_eq_zero h0
    subst this
    exact ⟨none, 0, rfl, Nat.le_refl _, rfl, by simp, fun _ h => (by cases h), .inl rfl⟩
  · refine ⟨_, cap, rfl, hc, rfl, hm, hu, .inr ⟨g, 0, rfl, fun j hj => ?_⟩⟩
    rw [Nat.zero_add, cell_of_row _ g j _ _ _ hh]
    have h1 : (cur.toList.take (us.length * 1))[j]? = cur[j]? := by
      rw [List.getElem?_take, if_pos (by omega), Array.getElem?_toList]
    rw [← h1, ht, List.getElem?_map, List.getElem?_eq_getElem hj]
    rfl
/-- append(s, x) of one float: what is owned else stays. -/
theorem appendF {ops : Array Oper} {rest : List Oper} {o : Oper} {a : Act} {Q : Exit → Act → World → Prop} (W : World) (hgd : o.guard = none) (s x : Operand)
    (ho : o.op = .call { callee := .builtin .append, args := #[s, x], argTypes := #[103, 103] })
    (base : Nat) (v : Value) (us : List Nat) (hs : a.eval s = v) (hown : OwnF W base v us) (y : Nat)
    (hx : a.eval x = .slice (some ⟨W.heap.size, 0, none⟩) 1 1)
    (hbound : us.length ≤ 1000000) (hbase : base ≤ W.heap.size)
    (h : ∀ v' w', OwnF w' base v' (us ++ [y]) → (∀ u ys, OwnF W base u ys → (∀ k, u.ownBlock = some k → v.ownBlock ≠ some k) → OwnF w' base u ys ∧ (∀ k, u.ownBlock = some k → v'.ownBlock ≠ some k)) → Below base W w' → wpList Try.prog ops Q rest (a.put o.dst v') w') : wpList Try.prog ops Q (o :: rest) a (W.alloc (.cells #[.float .f64 y] 45)) := by
  obtain ⟨i0, hi, hz0, hz1, hz2⟩ := info_parts Try.infoFlt
  have hown' := hown.alloc (.cells #[.float .f64 y] 45)
  refine wpList_append_lies (W.alloc (.cells #[.float .f64 y] 45)) hgd s x 103 ho base 45 i0 (.float .f64 0) 1 8 Try.underlying103 hi hz0 hz1 hz2 rfl (by decide) v us.length _ hs hown' ⟨W.heap.size, 0, none⟩ 1 1 [.float .f64 y] hx rfl ?_ ?_ (by decide) (by simp only [maxLen]; omega) (by omega) (by simp; omega) (W.heap.size + 1) (by simp) ?_
  · intro j u hu
    match j, hu with
    | 0, hu =>
      simp only [List.getElem?_cons_zero, Option.some.injEq] at hu
      subst hu
      rw [Addr.add_lit, cell_of_row _ W.heap.size _ _ _ _ (heap_alloc_new W _)]
      rfl
  · intro u hu
    simp only [List.mem_cons, List.mem_nil_iff, or_false] at hu
    subst hu
    rfl
  · intro g cap w1 h1 h2 h3 h4
    refine h _ w1 ?_ ?_ ?_
    · unfold OwnF; rw [List.length_append, List.map_append]; exact h1
    · intro u ys hu hap
      refine ⟨hu.keep fun k hk => ?_, fun k hk hv => ?_⟩
      · have hkl := (hu.lt k hk).2
        rw [h2.block k (by simp; omega) (fun e => hap k hk e.symm), Below.heap_alloc W _ k hkl]
      · simp only [Value.ownBlock, Option.some.injEq] at hv
        subst hv
        have hkl := (hu.lt g hk).2
        rcases h3 with h3 | h3
        · exact hap g hk h3
        · omega
    · exact ((Below.refl _ _).alloc hbase _).grown h2 (by simp; omega) (fun k hk => (hown.lt k hk).1)
set_option maxRecDepth 100000 in
theorem numberRef_any (u : Nat) (hu : u < 18446744073709551616) (w : World) : Calls Try.prog 40 #[.int .u64 (u : Int)] w fun e w' => e = .returned (.bool (decide (Fin u))) ∧ w' = w := by
  obtain ⟨E, hE⟩ : ∃ E : Nat, u / 4503599627370496 % 2048 = E := ⟨_, rfl⟩
  have fE : bits .and .u64 ((u : Int) / 4503599627370496) 2047 = (E : Int) := by
    have k := u64_and_nat (u / 4503599627370496) 2047 (by omega) (by decide)
    rw [show ((2047 : Nat) : Int) = 2047 from rfl] at k
    rw [show (u : Int) / 4503599627370496 = ((u / 4503599627370496 : Nat) : Int) by omega, k, and_2047, hE]
  have hFin : Fin u ↔ E < 2047 := by unfold Fin infK frung; omega
  have HX : Hid (((E : Int) != 2047) = decide (Fin u)) := by
    unfold Hid
    by_cases h : E < 2047
    · rw [decide_eq_true (hFin.2 h)]; simp; omega
    · rw [decide_eq_false (fun c => h (hFin.1 c))]; simp; omega
  clear hE hFin
  go_enter Try.func40, Try.ntmps40
  go_wp2_with fail
  go_ret
  exact ⟨congrArg (fun b => Ending.returned (.bool b)) HX.out, rfl⟩
end Go.Proofs.Ytajopgndpomggaa
