import Derived.Test.YtogpkigpnflaoaaDoorKC
import Derived.Laws.AppendOwnNone
import Derived.BigQuiet
namespace Go.Proofs.YtogpkigpnflaoaaDoor
open Go.RowKit
set_option linter.unusedVariables false

theorem info3 {P : Program} {t : TypeId} {z : Value} {s b : Nat} (h : (P.info? t).map (fun i => (i.zero, i.size, i.bytes)) = some (some z, s, b)) : ∃ i, P.info? t = some i ∧ i.zero = some z ∧ i.size = s ∧ i.bytes = b := by
  cases hi : P.info? t with
  | none => rw [hi] at h; cases h
  | some i => rw [hi] at h; simp at h; exact ⟨i, rfl, h.1, h.2.1, h.2.2⟩
/-- append of rows of one-cell elements, whatever they are. -/
theorem appendG {SE E : TypeId} {z : Value} {bytes : Nat} (hu : Tryd.prog.underlying SE = some (.slice E)) (hinfo : (Tryd.prog.info? E).map (fun i => (i.zero, i.size, i.bytes)) = some (some z, 1, bytes)) (hzc : z.cells.size = 1) (hby : bytes ≤ 24)
    {ops : Array Oper} {rest : List Oper} {o : Oper} {a : Act} {Q : Exit → Act → World → Prop} (W : World) (hgd : o.guard = none) (s x : Operand)
    (ho : o.op = .call { callee := .builtin .append, args := #[s, x], argTypes := #[SE, SE] })
    (base : Nat) (v : Value) (xs : List Value) (hs : a.eval s = v) (hown : W.ownsRow base E 1 v xs.length xs)
    (ad : Addr) (m c : Nat) (news : List Value) (hx : a.eval x = .slice (some ad) m c) (hl : news.length = m) (hnews : ∀ j u, news[j]? = some u → W.cell? (ad.add j) = some u) (h1 : ∀ u ∈ news, u.oneCell' = true)
    (hlen : xs.length + m ≤ 1000000) (hbase : base ≤ W.heap.size)
    (h : ∀ v' w', w'.ownsRow base E 1 v' (xs ++ news).length (xs ++ news) → (∀ k, k < W.heap.size → v.ownBlock ≠ some k → w'.heap[k]? = W.heap[k]?) → Below base W w' → wpList Tryd.prog ops Q rest (a.put o.dst v') w') : wpList Tryd.prog ops Q (o :: rest) a W := by
  obtain ⟨i0, hi, hz0, hz1, hz2⟩ := info3 hinfo
  refine wpList_append_own W hgd s x SE ho base E i0 z 1 bytes hu hi hz0 hz1 hz2 hzc (by decide) v xs.length xs hs hown ad m c news hx (by omega) hnews h1 (by simp only [maxLen]; omega) ?_ hbase ?_
  · exact Nat.le_trans (Nat.mul_le_mul hlen hby) (by decide)
  · intro v' w' h2 h3 _
    refine h v' w' (by rw [List.length_append, hl]; exact h2) (fun k hk hne => h3.block k hk (fun e => hne e.symm)) ?_
    exact (Below.refl _ W).grown h3 hbase (fun k hk => (World.ownsRow.lt hown k hk).1)
/-- append of one new element. -/
theorem appendG1 {SE E : TypeId} {z : Value} {bytes : Nat} (hu : Tryd.prog.underlying SE = some (.slice E)) (hinfo : (Tryd.prog.info? E).map (fun i => (i.zero, i.size, i.bytes)) = some (some z, 1, bytes)) (hzc : z.cells.size = 1) (hby : bytes ≤ 24)
    {ops : Array Oper} {rest : List Oper} {o : Oper} {a : Act} {Q : Exit → Act → World → Prop} (W : World) (hgd : o.guard = none) (s x : Operand)
    (ho : o.op = .call { callee := .builtin .append, args := #[s, x], argTypes := #[SE, SE] })
    (base : Nat) (v : Value) (xs : List Value) (hs : a.eval s = v) (hown : W.ownsRow base E 1 v xs.length xs)
    (y : Value) (hx : a.eval x = .slice (some ⟨W.heap.size, 0, none⟩) 1 1) (h1 : y.oneCell' = true)
    (hlen : xs.length + 1 ≤ 1000000) (hbase : base ≤ W.heap.size)
    (h : ∀ v' w', w'.ownsRow base E 1 v' (xs ++ [y]).length (xs ++ [y]) → (∀ k, k < W.heap.size → v.ownBlock ≠ some k → w'.heap[k]? = W.heap[k]?) → Below base W w' → wpList Tryd.prog ops Q rest (a.put o.dst v') w') : wpList Tryd.prog ops Q (o :: rest) a (W.alloc (.cells #[y] E)) := by
  have hsz : (W.alloc (.cells #[y] E)).heap.size = W.heap.size + 1 := Array.size_push ..
  refine appendG hu hinfo hzc hby (W.alloc (.cells #[y] E)) hgd s x ho base v xs hs (World.ownsRow.alloc hown _) ⟨W.heap.size, 0, none⟩ 1 1 [y] hx rfl ?_ (by intro u hu; simp at hu; subst hu; exact h1) hlen (by omega) ?_
  · intro j u hu
    match j, hu with
    | 0, hu =>
      simp only [List.getElem?_cons_zero, Option.some.injEq] at hu
      subst hu
      rw [Addr.add_lit, cell_of_row _ W.heap.size _ _ _ _ (heap_alloc_new W _)]
      rfl
  · intro v' w' h2 h3 h4
    refine h v' w' h2 (fun k hk hne => ?_) (((Below.refl _ W).alloc hbase _).trans h4)
    rw [h3 k (by omega) hne, Below.heap_alloc W _ k hk]

theorem Tryd.infoF : (Tryd.prog.info? 29).map (fun i => (i.zero, i.size, i.bytes)) = some (some (.float .f64 0), 1, 8) := by kernel_rfl
theorem Tryd.infoU : (Tryd.prog.info? 78).map (fun i => (i.zero, i.size, i.bytes)) = some (some (.int .u64 0), 1, 8) := by kernel_rfl
theorem Tryd.infoFs : (Tryd.prog.info? 30).map (fun i => (i.zero, i.size, i.bytes)) = some (some (.slice none 0 0), 1, 24) := by kernel_rfl
/-- A row of floats in a block of its own, a mark behind it. -/
def Mk (w : World) (base : Nat) (v : Value) (us : List Nat) : Prop :=
  ∃ g cap cur, v = .slice (some ⟨g, 0, none⟩) us.length cap ∧ base ≤ g ∧ w.heap[g]? = some (.cells cur 29) ∧ us.length + 1 ≤ cap ∧ cap ≤ maxLen ∧ (∀ u ∈ us, u < 18446744073709551616) ∧ us.length ≤ 1000 ∧
    (∀ j, j < us.length → cur[j]? = some (.float .f64 (us[j]?.getD 0))) ∧ cur[us.length]? = some (.float .f64 13873417816952012800)
theorem Mk.keep {w w' : World} {base : Nat} {v : Value} {us : List Nat} (h : Mk w base v us) (hb : ∀ k, k < w.heap.size → (∀ cur, w.heap[k]? = some (.cells cur 29) → w'.heap[k]? = w.heap[k]?)) : Mk w' base v us := by
  obtain ⟨g, cap, cur, h1, h2, h3, r⟩ := h
  exact ⟨g, cap, cur, h1, h2, (hb g (Array.getElem?_eq_some_iff.1 h3).1 cur h3).trans h3, r⟩
theorem Mk.later {w w' : World} {base : Nat} {v : Value} {us : List Nat} (h : Mk w base v us) (hb : Below w.heap.size w w') : Mk w' base v us := h.keep fun k hk _ _ => hb.block k hk
theorem Mk.mono {w : World} {base b : Nat} {v : Value} {us : List Nat} (h : Mk w base v us) (hb : b ≤ base) : Mk w b v us := by
  obtain ⟨g, cap, cur, h1, h2, r⟩ := h
  exact ⟨g, cap, cur, h1, by omega, r⟩
theorem Mk.rd {w : World} {base : Nat} {v : Value} {us : List Nat} (h : Mk w base v us) : ∃ ao cap, v = .slice ao us.length cap ∧ RdF w ao us.length cap us := by
  obtain ⟨g, cap, cur, h1, h2, h3, h4, h5, h6, h6b, h7, h8⟩ := h
  exact ⟨_, cap, h1, rfl, by simp only [maxLen]; omega, h6, .inr ⟨g, 0, rfl, fun j hj => by rw [Nat.zero_add, cell_of_row _ g j _ _ _ h3]; exact h7 j hj⟩⟩
theorem sizeF64 (w : World) : (sizeOf 29).run Tryd.prog w = .ok 1 w := by kernel_rfl
theorem Tryd.elemF : Tryd.prog.elem 30 = 29 := by kernel_rfl
/-- The first q of a row. -/
theorem cutF (ao : Option Addr) (len cap q : Nat) (hq : q ≤ cap) (w : World) :
    (Instr.slice 30 (.slice ao len cap) none (some (.int .i64 q)) none).run Tryd.prog w = .ok (.slice (if cap = 0 then ao else ao.map (·.add (0 * 1))) q cap) w := by
  rw [run_slice_h w _ _ _ _ (by rw [Tryd.elemF]; exact Tryd.underlying30) .i64 q (by omega) (by omega), Tryd.elemF, sizeF64]
  simp [Result.andThen, sliced]
theorem add_zero' (b o : Nat) : (⟨b, o, none⟩ : Addr).add (0 * 1) = ⟨b, o, none⟩ := by rw [Addr.add_lit]; simp
end Go.Proofs.YtogpkigpnflaoaaDoor
