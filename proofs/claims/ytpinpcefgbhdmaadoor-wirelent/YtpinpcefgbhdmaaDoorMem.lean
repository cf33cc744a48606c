import Derived.Test.YtpinpcefgbhdmaaDoorChecked
import Derived.Test.YtpinpcefgbhdmaaDoorBase
import Derived.WalkKit
import Derived.WalkSmall
import Derived.Laws.AppendOwnNone
namespace Go.Proofs.YtpinpcefgbhdmaaDoor
open Go.RowKit
set_option linter.unusedVariables false

theorem Tryd.infoByte : (Tryd.prog.info? 5).map (fun i => (i.zero, i.size, i.bytes)) = some (some (.int .u8 0), 1, 1) := by kernel_rfl

/-- A SLICE OF BYTES THAT THE CALL ITSELF MADE (its block from 'base' on) AND WHAT IT HOLDS. -/
def Own (w : World) (base : Nat) (v : Value) (ys : List Int) : Prop := w.ownsRow base 5 1 v ys.length (ys.map (Value.int .u8))

theorem Own.rd {w : World} {base : Nat} {v : Value} {ys : List Int} (h : Own w base v ys) (hb : Byt ys) : ∃ ao cap, v = .slice ao ys.length cap ∧ Rd w ao ys.length cap ys := Rd.of_owns h hb
theorem Own.nil (w : World) (base : Nat) : Own w base (.slice none 0 0) [] := World.ownsRow_nil w base _ 1
theorem Own.alloc {w : World} {base : Nat} {v : Value} {ys : List Int} (h : Own w base v ys) (o : Obj) : Own (w.alloc o) base v ys := World.ownsRow.alloc h o
theorem Own.mono {w : World} {base base' : Nat} {v : Value} {ys : List Int} (h : Own w base v ys) (hb : base' ≤ base) : Own w base' v ys := by
  refine ⟨h.1, ?_⟩
  rcases h.2 with h2 | ⟨g, cap, cur, hv, hg, r⟩
  · exact .inl h2
  · exact .inr ⟨g, cap, cur, hv, by omega, r⟩
/-- It lasts as long as all that was there stands. -/
theorem Own.later {w w' : World} {base : Nat} {v : Value} {ys : List Int} (h : Own w base v ys) (hb : Below w.heap.size w w') : Own w' base v ys := by
  refine ⟨h.1, ?_⟩
  rcases h.2 with h2 | ⟨g, cap, cur, hv, hg, hh, r⟩
  · exact .inl h2
  · exact .inr ⟨g, cap, cur, hv, hg, by rw [hb.block g (Array.getElem?_eq_some_iff.1 hh).1]; exact hh, r⟩
theorem Own.drewN {w : World} {base : Nat} {v : Value} {ys : List Int} (h : Own w base v ys) (n : Nat) : Own (w.drewN n) base v ys := h.later (below_drewN (Below.refl _ _) n)

/-- New bytes in a block of their own. -/
theorem Rd.fresh (w : World) (xs : List Int) (hb : Byt xs) (hl : xs.length ≤ 1000) : Rd (w.alloc (.cells (xs.map (Value.int .u8)).toArray 5)) (some ⟨w.heap.size, 0, none⟩) xs.length xs.length xs := by
  refine ⟨rfl, Nat.le_refl _, by omega, hb, (fun h => by cases h), ?_⟩
  by_cases h0 : xs.length = 0
  · exact .inl h0
  · refine .inr ⟨_, _, rfl, fun j hj => ?_⟩
    rw [Nat.zero_add, cell_of_row _ w.heap.size j _ _ _ (heap_alloc_new w _)]
    simp [List.getElem?_eq_getElem hj]
theorem Rd.fresh1 (w : World) (x : Int) (h0 : 0 ≤ x) (h1 : x ≤ 255) : Rd (w.alloc (.cells #[.int .u8 x] 5)) (some ⟨w.heap.size, 0, none⟩) 1 1 [x] := Rd.fresh w [x] (Byt.cons h0 h1 Byt.nil) (by simp)

/-- append(s, x...), s the call's own, x whatever reads as bytes. -/
theorem append_rd {ops : Array Oper} {rest : List Oper} {o : Oper} {a : Act} {Q : Exit → Act → World → Prop} (W : World) (hgd : o.guard = none) (s x : Operand)
    (ho : o.op = .call { callee := .builtin .append, args := #[s, x], argTypes := #[23, 23] })
    (base : Nat) (v : Value) (ys : List Int) (hs : a.eval s = v) (hown : Own W base v ys)
    (ao : Option Addr) (m c : Nat) (news : List Int) (hx : a.eval x = .slice ao m c) (hr : Rd W ao m c news)
    (hbound : ys.length + m ≤ 70368744177664) (hbase : base ≤ W.heap.size)
    (h : ∀ v' w', Own w' base v' (ys ++ news) → Below base W w' → wpList Tryd.prog ops Q rest (a.put o.dst v') w') : wpList Tryd.prog ops Q (o :: rest) a W := by
  obtain ⟨i0, hi, hz0, hz1, hz2⟩ := info_parts Tryd.infoByte
  have hlen := hr.length
  cases ao with
  | none =>
    have hc := hr.nil rfl
    have hm : m = 0 := by have := hr.le; omega
    subst hc hm
    have hn : news = [] := List.eq_nil_of_length_eq_zero hlen
    subst hn
    exact wpList_append_own_none hgd s x 23 ho base 5 i0 1 Tryd.underlying23 hi v ys.length _ hs hown hx (h v W (by rw [List.append_nil]; exact hown) (Below.refl _ _))
  | some ad =>
    refine wpList_append_own W hgd s x 23 ho base 5 i0 (.int .u8 0) 1 1 Tryd.underlying23 hi hz0 hz1 hz2 rfl (by decide) v ys.length _ hs hown ad m c (news.map (Value.int .u8)) hx (by simp [hlen]) ?_ ?_ (by simp only [maxLen]; omega) (by omega) hbase ?_
    · intro j u hu
      rcases hr.cells with h0 | ⟨b, off, he, hc⟩
      · subst h0
        have : news = [] := List.eq_nil_of_length_eq_zero hlen
        subst this
        simp at hu
      · cases he
        rw [List.getElem?_map] at hu
        have hj : j < m := by
          by_cases hj : j < news.length
          · omega
          · rw [List.getElem?_eq_none (by omega)] at hu; simp at hu
        rw [Addr.add_lit, hc j hj]
        rw [List.getElem?_eq_getElem (by omega)] at hu ⊢
        simpa using hu
    · intro u hu
      rw [List.mem_map] at hu
      obtain ⟨y, _, rfl⟩ := hu
      rfl
    · intro v' w' h1 h2 _
      refine h v' w' ?_ ?_
      · have : (ys ++ news).map (Value.int .u8) = ys.map (Value.int .u8) ++ news.map (Value.int .u8) := List.map_append
        unfold Own
        rw [this, List.length_append, hlen]
        exact h1
      · exact (Below.refl _ _).grown h2 hbase (fun k hk => (hown.lt k hk).1)

theorem Tryd.elemBytes : Tryd.prog.elem 23 = 5 := by kernel_rfl
theorem Tryd.sizeByte (w : World) : (sizeOf 5).run Tryd.prog w = .ok 1 w := by kernel_rfl

theorem Rd.cutAt {W : World} {ao : Option Addr} {len cap : Nat} {xs : List Int} (hr : Rd W ao len cap xs) (p q : Nat) (hp : p ≤ q) (hq : q ≤ len) :
    Rd W (if cap = p then ao else ao.map (·.add (p * 1))) (q - p) (cap - p) ((xs.take q).drop p) := by
  have hl := hr.length
  have hle := hr.le
  have hm := hr.max
  refine ⟨by simp [hl]; omega, by omega, by omega, (hr.byt.take q).drop p, ?_, ?_⟩
  · intro h
    split at h
    · omega
    · cases ao with
      | none => have := hr.nil rfl; omega
      | some a => simp at h
  · by_cases h0 : q - p = 0
    · exact .inl h0
    · right
      rcases hr.cells with h1 | ⟨b, off, rfl, hc⟩
      · omega
      · refine ⟨b, off + p, ?_, fun j hj => ?_⟩
        · rw [if_neg (by omega), Option.map_some, Addr.add_lit, Nat.mul_one]
        · rw [Nat.add_assoc, hc (p + j) (by omega), List.getElem?_drop, List.getElem?_take, if_pos (by omega)]

/-- 'b[p:]' -/
theorem cut_from {W : World} {ao : Option Addr} {len cap : Nat} {xs : List Int} (hr : Rd W ao len cap xs) (p : Nat) (hp : p ≤ len) :
    ∃ ao' len' cap', (∀ w, (Instr.slice 23 (.slice ao len cap) (some (.int .i64 p)) none none).run Tryd.prog w = .ok (.slice ao' len' cap') w) ∧ Rd W ao' len' cap' (xs.drop p) := by
  refine ⟨_, _, _, fun w => ?_, by have h := hr.cutAt p len hp (Nat.le_refl _); rw [List.take_of_length_le (by rw [hr.length]; exact Nat.le_refl _)] at h; exact h⟩
  have hle := hr.le
  rw [run_slice_l w _ _ _ _ (by rw [Tryd.elemBytes]; exact Tryd.underlying23) .i64 p (by omega) (by omega), Tryd.elemBytes, Tryd.sizeByte]
  simp [Result.andThen, sliced]
/-- 'b[:q]' -/
theorem cut_to {W : World} {ao : Option Addr} {len cap : Nat} {xs : List Int} (hr : Rd W ao len cap xs) (q : Nat) (hq : q ≤ len) :
    ∃ ao' len' cap', (∀ w, (Instr.slice 23 (.slice ao len cap) none (some (.int .i64 q)) none).run Tryd.prog w = .ok (.slice ao' len' cap') w) ∧ Rd W ao' len' cap' (xs.take q) := by
  refine ⟨_, _, _, fun w => ?_, by have h := hr.cutAt 0 q (by omega) hq; rw [List.drop_zero] at h; exact h⟩
  have hle := hr.le
  rw [run_slice_h w _ _ _ _ (by rw [Tryd.elemBytes]; exact Tryd.underlying23) .i64 q (by omega) (by omega), Tryd.elemBytes, Tryd.sizeByte]
  simp [Result.andThen, sliced]
/-- 'b[p:q]' -/
theorem cut_mid {W : World} {ao : Option Addr} {len cap : Nat} {xs : List Int} (hr : Rd W ao len cap xs) (p q : Nat) (hp : p ≤ q) (hq : q ≤ len) :
    ∃ ao' len' cap', (∀ w, (Instr.slice 23 (.slice ao len cap) (some (.int .i64 p)) (some (.int .i64 q)) none).run Tryd.prog w = .ok (.slice ao' len' cap') w) ∧ Rd W ao' len' cap' ((xs.take q).drop p) := by
  refine ⟨_, _, _, fun w => ?_, hr.cutAt p q hp hq⟩
  have hle := hr.le
  rw [run_slice_lh w _ _ _ _ (by rw [Tryd.elemBytes]; exact Tryd.underlying23) .i64 .i64 p q (by omega) (by omega) (by omega), Tryd.elemBytes, Tryd.sizeByte]
  simp [Result.andThen, sliced]
theorem Own.rd' {w : World} {base : Nat} {v : Value} {ys : List Int} (h : Own w base v ys) (hb : Byt ys) : ∃ ao L cap, v = .slice ao L cap ∧ Rd w ao L cap ys := by
  obtain ⟨ao, cap, h1, h2⟩ := h.rd hb
  exact ⟨ao, _, cap, h1, h2⟩
theorem Own.fresh (w : World) (xs : List Int) (hl : xs.length ≤ 1000) : Own (w.alloc (.cells (xs.map (Value.int .u8)).toArray 5)) w.heap.size (.slice (some ⟨w.heap.size, 0, none⟩) xs.length xs.length) xs := by
  refine ⟨by simp, .inr ⟨w.heap.size, xs.length, _, rfl, Nat.le_refl _, heap_alloc_new w _, Nat.le_refl _, by simp only [maxLen]; omega, by simp, ?_⟩⟩
  rw [List.take_of_length_le (by simp)]
end Go.Proofs.YtpinpcefgbhdmaaDoor
