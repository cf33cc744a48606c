import Derived.Test.YtmbnbleahehdaaaMKA
import Derived.Laws.AppendOwnNone
import Derived.BigQuiet
namespace Go.Proofs.Ytmbnbleahehdaaa
open Go.RowKit
set_option linter.unusedVariables false

theorem info3 {P : Program} {t : TypeId} {z : Value} {s b : Nat} (h : (P.info? t).map (fun i => (i.zero, i.size, i.bytes)) = some (some z, s, b)) : ∃ i, P.info? t = some i ∧ i.zero = some z ∧ i.size = s ∧ i.bytes = b := by
  cases hi : P.info? t with
  | none => rw [hi] at h; cases h
  | some i => rw [hi] at h; simp at h; exact ⟨i, rfl, h.1, h.2.1, h.2.2⟩
/-- append of rows of one-cell elements, whatever they are. -/
theorem appendG {SE E : TypeId} {z : Value} {bytes : Nat} (hu : Try.prog.underlying SE = some (.slice E)) (hinfo : (Try.prog.info? E).map (fun i => (i.zero, i.size, i.bytes)) = some (some z, 1, bytes)) (hzc : z.cells.size = 1) (hby : bytes ≤ 24)
    {ops : Array Oper} {rest : List Oper} {o : Oper} {a : Act} {Q : Exit → Act → World → Prop} (W : World) (hgd : o.guard = none) (s x : Operand)
    (ho : o.op = .call { callee := .builtin .append, args := #[s, x], argTypes := #[SE, SE] })
    (base : Nat) (v : Value) (xs : List Value) (hs : a.eval s = v) (hown : W.ownsRow base E 1 v xs.length xs)
    (ad : Addr) (m c : Nat) (news : List Value) (hx : a.eval x = .slice (some ad) m c) (hl : news.length = m) (hnews : ∀ j u, news[j]? = some u → W.cell? (ad.add j) = some u) (h1 : ∀ u ∈ news, u.oneCell' = true)
    (hlen : xs.length + m ≤ 1000000) (hbase : base ≤ W.heap.size)
    (h : ∀ v' w', w'.ownsRow base E 1 v' (xs ++ news).length (xs ++ news) → (∀ k, k < W.heap.size → v.ownBlock ≠ some k → w'.heap[k]? = W.heap[k]?) → Below base W w' → wpList Try.prog ops Q rest (a.put o.dst v') w') : wpList Try.prog ops Q (o :: rest) a W := by
  obtain ⟨i0, hi, hz0, hz1, hz2⟩ := info3 hinfo
  refine wpList_append_own W hgd s x SE ho base E i0 z 1 bytes hu hi hz0 hz1 hz2 hzc (by decide) v xs.length xs hs hown ad m c news hx (by omega) hnews h1 (by simp only [maxLen]; omega) ?_ hbase ?_
  · exact Nat.le_trans (Nat.mul_le_mul hlen hby) (by decide)
  · intro v' w' h2 h3 _
    refine h v' w' (by rw [List.length_append, hl]; exact h2) (fun k hk hne => h3.block k hk (fun e => hne e.symm)) ?_
    exact (Below.refl _ W).grown h3 hbase (fun k hk => (World.ownsRow.lt hown k hk).1)
/-- append of one new element. -/
theorem appendG1 {SE E : TypeId} {z : Value} {bytes : Nat} (hu : Try.prog.underlying SE = some (.slice E)) (hinfo : (Try.prog.info? E).map (fun i => (i.zero, i.size, i.bytes)) = some (some z, 1, bytes)) (hzc : z.cells.size = 1) (hby : bytes ≤ 24)
    {ops : Array Oper} {rest : List Oper} {o : Oper} {a : Act} {Q : Exit → Act → World → Prop} (W : World) (hgd : o.guard = none) (s x : Operand)
    (ho : o.op = .call { callee := .builtin .append, args := #[s, x], argTypes := #[SE, SE] })
    (base : Nat) (v : Value) (xs : List Value) (hs : a.eval s = v) (hown : W.ownsRow base E 1 v xs.length xs)
    (y : Value) (hx : a.eval x = .slice (some ⟨W.heap.size, 0, none⟩) 1 1) (h1 : y.oneCell' = true)
    (hlen : xs.length + 1 ≤ 1000000) (hbase : base ≤ W.heap.size)
    (h : ∀ v' w', w'.ownsRow base E 1 v' (xs ++ [y]).length (xs ++ [y]) → (∀ k, k < W.heap.size → v.ownBlock ≠ some k → w'.heap[k]? = W.heap[k]?) → Below base W w' → wpList Try.prog ops Q rest (a.put o.dst v') w') : wpList Try.prog ops Q (o :: rest) a (W.alloc (.cells #[y] E)) := by
  have hsz : (W.alloc (.cells #[y] E)).heap.size = W.heap.size + 1 := Array.size_push ..
  refine appendG hu hinfo hzc hby (W.alloc (.cells #[y] E)) hgd s x ho base v xs hs (World.ownsRow.alloc hown _) ⟨W.heap.size, 0, none⟩ 1 1 [y] hx rfl ?_ (by intro u hu; simp at hu; subst hu; exact h1) hlen (by omega) ?_
  · intro j u hu
    match j, hu with
    | 0, hu =>
      simp only [List.getElem?_cons_zero, Option.some.injEq] at hu
      subst hu
      rw [Addr.add_lit, cell_of_row _ W.heap.size _ _ _ _ (heap_alloc_new W _)]
      rfl
  · intro v' w' h2 h3 h4
    refine h v' w' h2 (fun k hk hne => ?_) (((Below.refl _ W).alloc hbase _).trans h4)
    rw [h3 k (by omega) hne, Below.heap_alloc W _ k hk]

theorem Try.infoF : (Try.prog.info? 26).map (fun i => (i.zero, i.size, i.bytes)) = some (some (.float .f64 0), 1, 8) := by kernel_rfl
theorem Try.infoU : (Try.prog.info? 52).map (fun i => (i.zero, i.size, i.bytes)) = some (some (.int .u64 0), 1, 8) := by kernel_rfl
theorem Try.infoFs : (Try.prog.info? 27).map (fun i => (i.zero, i.size, i.bytes)) = some (some (.slice none 0 0), 1, 24) := by kernel_rfl
theorem Try.infoUs : (Try.prog.info? 53).map (fun i => (i.zero, i.size, i.bytes)) = some (some (.slice none 0 0), 1, 24) := by kernel_rfl

/-- A row of floats in a block of its own, a mark behind it. -/
def Mk (w : World) (base : Nat) (v : Value) (us : List Nat) : Prop :=
  ∃ g cap cur, v = .slice (some ⟨g, 0, none⟩) us.length cap ∧ base ≤ g ∧ w.heap[g]? = some (.cells cur 26) ∧ us.length + 1 ≤ cap ∧ cap ≤ maxLen ∧ (∀ u ∈ us, u < 18446744073709551616) ∧ us.length ≤ 1000 ∧
    (∀ j, j < us.length → cur[j]? = some (.float .f64 (us[j]?.getD 0))) ∧ cur[us.length]? = some (.float .f64 13873417816952012800)
theorem Mk.keep {w w' : World} {base : Nat} {v : Value} {us : List Nat} (h : Mk w base v us) (hb : ∀ k, k < w.heap.size → (∀ cur, w.heap[k]? = some (.cells cur 26) → w'.heap[k]? = w.heap[k]?)) : Mk w' base v us := by
  obtain ⟨g, cap, cur, h1, h2, h3, r⟩ := h
  exact ⟨g, cap, cur, h1, h2, (hb g (Array.getElem?_eq_some_iff.1 h3).1 cur h3).trans h3, r⟩
theorem Mk.later {w w' : World} {base : Nat} {v : Value} {us : List Nat} (h : Mk w base v us) (hb : Below w.heap.size w w') : Mk w' base v us := h.keep fun k hk _ _ => hb.block k hk
theorem Mk.mono {w : World} {base b : Nat} {v : Value} {us : List Nat} (h : Mk w base v us) (hb : b ≤ base) : Mk w b v us := by
  obtain ⟨g, cap, cur, h1, h2, r⟩ := h
  exact ⟨g, cap, cur, h1, by omega, r⟩
theorem Mk.rd {w : World} {base : Nat} {v : Value} {us : List Nat} (h : Mk w base v us) : ∃ ao cap, v = .slice ao us.length cap ∧ RdF w ao us.length cap us := by
  obtain ⟨g, cap, cur, h1, h2, h3, h4, h5, h6, h6b, h7, h8⟩ := h
  exact ⟨_, cap, h1, rfl, by simp only [maxLen]; omega, h6, .inr ⟨g, 0, rfl, fun j hj => by rw [Nat.zero_add, cell_of_row _ g j _ _ _ h3]; exact h7 j hj⟩⟩
theorem sizeF64 (w : World) : (sizeOf 26).run Try.prog w = .ok 1 w := by kernel_rfl
theorem Try.elemF : Try.prog.elem 27 = 26 := by kernel_rfl
/-- The first q of a row. -/
theorem cutF (ao : Option Addr) (len cap q : Nat) (hq : q ≤ cap) (w : World) :
    (Instr.slice 27 (.slice ao len cap) none (some (.int .i64 q)) none).run Try.prog w = .ok (.slice (if cap = 0 then ao else ao.map (·.add (0 * 1))) q cap) w := by
  rw [run_slice_h w _ _ _ _ (by rw [Try.elemF]; exact Try.underlying27) .i64 q (by omega) (by omega), Try.elemF, sizeF64]
  simp [Result.andThen, sliced]
theorem add_zero' (b o : Nat) : (⟨b, o, none⟩ : Addr).add (0 * 1) = ⟨b, o, none⟩ := by rw [Addr.add_lit]; simp
end Go.Proofs.Ytmbnbleahehdaaa

namespace Go.Proofs.Ytmbnbleahehdaaa
open Go.RowKit
set_option linter.unusedVariables false

def flV (us : List Nat) : List Value := us.map (Value.float .f64)
theorem flV_len (us : List Nat) : (flV us).length = us.length := by simp [flV]
theorem flV_app (us vs : List Nat) : flV (us ++ vs) = flV us ++ flV vs := by simp [flV]
theorem flV_at (us : List Nat) (j : Nat) (h : j < us.length) : (flV us)[j]? = some (.float .f64 (us[j]?.getD 0)) := by
  simp [flV, List.getElem?_eq_getElem h]
theorem flV_one (us : List Nat) : ∀ u ∈ flV us, u.oneCell' = true := by
  intro u hu
  simp only [flV, List.mem_map] at hu
  obtain ⟨x, _, rfl⟩ := hu
  rfl
def OwnFl (w : World) (base : Nat) (v : Value) (us : List Nat) : Prop := w.ownsRow base 26 1 v (flV us).length (flV us)
theorem OwnFl.nil (w : World) (base : Nat) : OwnFl w base (.slice none 0 0) [] := World.ownsRow_nil w base _ 1
/-- What was laid out, with its marks. -/
theorem OwnFl.mk {w : World} {base : Nat} {v : Value} {us : List Nat} (hu : ∀ u ∈ us, u < 18446744073709551616) (hm : us.length ≤ 300) (h : OwnFl w base v (us ++ List.replicate 9 13873417816952012800)) :
    ∃ g cap, v = .slice (some ⟨g, 0, none⟩) (us.length + 9) cap ∧ us.length + 9 ≤ cap ∧ Mk w base (.slice (some ⟨g, 0, none⟩) us.length cap) us := by
  have hl : (flV (us ++ List.replicate 9 13873417816952012800)).length = us.length + 9 := by rw [flV_len]; simp
  unfold OwnFl at h
  rw [hl] at h
  rcases h.2 with ⟨_, h0⟩ | ⟨g, cap, cur, rfl, hg, hh, hc, hx, hs, ht⟩
  · omega
  · refine ⟨g, cap, rfl, hc, g, cap, cur, rfl, hg, hh, by omega, hx, hu, by omega, fun j hj => ?_, ?_⟩
    · have h1 : (cur.toList.take ((us.length + 9) * 1))[j]? = cur[j]? := by rw [List.getElem?_take, if_pos (by omega), Array.getElem?_toList]
      rw [← h1, ht, flV_app, List.getElem?_append_left (by rw [flV_len]; exact hj), flV_at us j hj]
    · have h1 : (cur.toList.take ((us.length + 9) * 1))[us.length]? = cur[us.length]? := by rw [List.getElem?_take, if_pos (by omega), Array.getElem?_toList]
      rw [← h1, ht, flV_app, List.getElem?_append_right (by rw [flV_len]; exact Nat.le_refl _), flV_len, Nat.sub_self]
      rfl
end Go.Proofs.Ytmbnbleahehdaaa

namespace Go.Proofs.Ytmbnbleahehdaaa
open Go.RowKit
set_option linter.unusedVariables false

/-- A slice of slices of floats that came in. -/
structure RdQ (w : World) (ao : Option Addr) (len cap : Nat) (uss : List (List Nat)) : Prop where
  length : uss.length = len
  max : len ≤ maxLen
  cells : len = 0 ∨ ∃ b off, ao = some ⟨b, off, none⟩ ∧ ∀ j, j < len → ∃ aj lj cj, w.cell? ⟨b, off + j, none⟩ = some (.slice aj lj cj) ∧ RdF w aj lj cj (uss[j]?.getD []) ∧ lj ≤ cj ∧ (aj = none → cj = 0) ∧ cj ≤ maxLen
theorem RdQ.later {w w' : World} {ao : Option Addr} {len cap : Nat} {uss : List (List Nat)} (h : RdQ w ao len cap uss) (hb : Below w.heap.size w w') : RdQ w' ao len cap uss := by
  refine ⟨h.length, h.max, ?_⟩
  rcases h.cells with h0 | ⟨b, off, ha, hc⟩
  · exact .inl h0
  · refine .inr ⟨b, off, ha, fun j hj => ?_⟩
    obtain ⟨aj, lj, cj, h1, h2, r⟩ := hc j hj
    refine ⟨aj, lj, cj, ?_, h2.later hb, r⟩
    have hlt := World.block_lt_of_cell? w _ h1
    rw [hb.cell (p := ⟨b, off + j, none⟩) hlt]
    exact h1
def OwnLs (w : World) (base : Nat) (v : Value) (vs : List Value) : Prop := w.ownsRow base 27 1 v vs.length vs
theorem OwnLs.nil (w : World) (base : Nat) : OwnLs w base (.slice none 0 0) [] := World.ownsRow_nil w base _ 1
theorem OwnLs.later {w w' : World} {base : Nat} {v : Value} {vs : List Value} (h : OwnLs w base v vs) (hb : Below w.heap.size w w') : OwnLs w' base v vs := by
  refine ⟨h.1, ?_⟩
  rcases h.2 with h2 | ⟨g, cap, cur, hv, hg, hh, r⟩
  · exact .inl h2
  · exact .inr ⟨g, cap, cur, hv, hg, by rw [hb.block g (Array.getElem?_eq_some_iff.1 hh).1]; exact hh, r⟩
/-- Rows of floats stay while rows of slices grow. -/
theorem mk_kept {W w' : World} {base b : Nat} {v u : Value} {vs : List Value} {us : List Nat} (hown : OwnLs W base v vs) (hk : ∀ k, k < W.heap.size → v.ownBlock ≠ some k → w'.heap[k]? = W.heap[k]?) (h : Mk W b u us) : Mk w' b u us := by
  refine h.keep fun k hlt cur hc => hk k hlt fun e => ?_
  rcases hown.2 with ⟨rfl, _⟩ | ⟨g, cap, cur2, rfl, _, hh, _⟩
  · simp [Value.ownBlock] at e
  · simp only [Value.ownBlock, Option.some.injEq] at e
    subst e
    rw [hc] at hh
    simp at hh
theorem to_callB {w w1 : World} {b : Nat} (h : Below w.heap.size w w1) (hb : b ≤ w.heap.size) : Below b w w1 := h.mono hb
/-- Lists of numbers in new memory, marks behind all. -/
def MkL (w : World) (base : Nat) (v : Value) (uss : List (List Nat)) : Prop :=
  ∃ G cap cur, v = .slice (some ⟨G, 0, none⟩) uss.length cap ∧ base ≤ G ∧ w.heap[G]? = some (.cells cur 27) ∧ uss.length + 1 ≤ cap ∧ cap ≤ maxLen ∧ uss.length ≤ 300 ∧
    (∀ j, j < uss.length → ∃ u, cur[j]? = some u ∧ Mk w base u (uss[j]?.getD [])) ∧
    (∃ m, cur[uss.length]? = some (.slice (some ⟨m, 0, none⟩) 1 1) ∧ w.heap[m]? = some (.cells #[.float .f64 13852790978814935040] 26))
theorem MkL.later {w w' : World} {base : Nat} {v : Value} {uss : List (List Nat)} (h : MkL w base v uss) (hb : Below w.heap.size w w') : MkL w' base v uss := by
  obtain ⟨G, cap, cur, h1, h2, h3, h4, h5, h6, h7, m, h8, h9⟩ := h
  refine ⟨G, cap, cur, h1, h2, (hb.block G (Array.getElem?_eq_some_iff.1 h3).1).trans h3, h4, h5, h6, fun j hj => ?_, m, h8, (hb.block m (Array.getElem?_eq_some_iff.1 h9).1).trans h9⟩
  obtain ⟨u, a, b⟩ := h7 j hj
  exact ⟨u, a, b.later hb⟩
theorem MkL.mono {w : World} {base b : Nat} {v : Value} {uss : List (List Nat)} (h : MkL w base v uss) (hb : b ≤ base) : MkL w b v uss := by
  obtain ⟨G, cap, cur, h1, h2, h3, h4, h5, h6, h7, r⟩ := h
  exact ⟨G, cap, cur, h1, by omega, h3, h4, h5, h6, fun j hj => by obtain ⟨u, a, c⟩ := h7 j hj; exact ⟨u, a, c.mono hb⟩, r⟩
theorem MkL.rd {w : World} {base : Nat} {v : Value} {uss : List (List Nat)} (h : MkL w base v uss) : ∃ ao cap, v = .slice ao uss.length cap ∧ RdLL w ao uss.length cap uss := by
  obtain ⟨G, cap, cur, h1, h2, h3, h4, h5, h6, h7, r⟩ := h
  refine ⟨_, cap, h1, rfl, by simp only [maxLen]; omega, .inr ⟨G, 0, rfl, fun j hj => ?_⟩⟩
  obtain ⟨u, a, b⟩ := h7 j hj
  obtain ⟨ao, c, rfl, hr⟩ := b.rd
  exact ⟨ao, _, c, by rw [Nat.zero_add, cell_of_row _ G j _ _ _ h3]; exact a, hr⟩
theorem sizeFs (w : World) : (sizeOf 27).run Try.prog w = .ok 1 w := by kernel_rfl
theorem Mk.one {w : World} {base : Nat} {v : Value} {us : List Nat} (h : Mk w base v us) : v.oneCell' = true := by
  obtain ⟨g, cap, cur, rfl, _⟩ := h; rfl
theorem Mk.sl {w : World} {base : Nat} {v : Value} {us : List Nat} (h : Mk w base v us) : ∃ (g n cap : Nat), v = .slice (some ⟨g, 0, none⟩) n cap := by
  obtain ⟨g, cap, cur, h1, _⟩ := h; exact ⟨g, _, cap, h1⟩
theorem mk_block_ne {W : World} {base k : Nat} {v : Value} {vs : List Value} {cur : Array Value} (hown : OwnLs W base v vs) (hc : W.heap[k]? = some (.cells cur 26)) : v.ownBlock ≠ some k := by
  intro e
  rcases hown.2 with ⟨rfl, _⟩ | ⟨g, cap, cur2, rfl, _, hh, _⟩
  · simp [Value.ownBlock] at e
  · simp only [Value.ownBlock, Option.some.injEq] at e
    subst e
    rw [hc] at hh
    simp at hh
theorem OwnLs.form {w : World} {base : Nat} {v : Value} {vs : List Value} (h : OwnLs w base v vs) : ∃ ao cap, v = .slice ao vs.length cap := by
  rcases h.2 with ⟨rfl, h0⟩ | ⟨g, cap, cur, rfl, _⟩
  · exact ⟨none, 0, by rw [h0]⟩
  · exact ⟨_, cap, rfl⟩
theorem MkL.of {w : World} {base m : Nat} {v x : Value} {vs : List Value} {uss : List (List Nat)} (hl : uss.length = vs.length) (hm : vs.length ≤ 300) (h : OwnLs w base v (vs ++ [.slice (some ⟨m, 0, none⟩) 1 1, x]))
    (hM : ∀ (j : Nat) (y : Value), vs[j]? = some y → Mk w base y (uss[j]?.getD [])) (hk : w.heap[m]? = some (.cells #[.float .f64 13852790978814935040] 26)) :
    ∃ G cap, v = .slice (some ⟨G, 0, none⟩) (vs.length + 2) cap ∧ vs.length + 2 ≤ cap ∧ MkL w base (.slice (some ⟨G, 0, none⟩) vs.length cap) uss := by
  have hll : (vs ++ [.slice (some ⟨m, 0, none⟩) 1 1, x]).length = vs.length + 2 := by simp
  unfold OwnLs at h
  rw [hll] at h
  rcases h.2 with ⟨_, h0⟩ | ⟨g, cap, cur, rfl, hg, hh, hc, hx, hs, ht⟩
  · omega
  · have hat : ∀ j, j < vs.length + 2 → cur[j]? = (vs ++ [.slice (some ⟨m, 0, none⟩) 1 1, x])[j]? := by
      intro j hj
      rw [← ht, List.getElem?_take, if_pos (by omega), Array.getElem?_toList]
    refine ⟨g, cap, rfl, hc, g, cap, cur, by rw [hl], hg, hh, by omega, hx, by omega, fun j hj => ?_, m, ?_, hk⟩
    · have hj2 : j < vs.length := by omega
      refine ⟨vs[j], ?_, hM j _ (List.getElem?_eq_getElem hj2)⟩
      rw [hat j (by omega), List.getElem?_append_left hj2, List.getElem?_eq_getElem hj2]
    · rw [hl, hat _ (by omega), List.getElem?_append_right (Nat.le_refl _), Nat.sub_self]
      rfl
def tk (uss : List (List Nat)) : List (List Nat) := (uss.take 300).map (·.take 300)
theorem tk_at (uss : List (List Nat)) {j : Nat} (h : j < uss.length) (h2 : j < 300) : (tk uss)[j]?.getD [] = (uss[j]?.getD []).take 300 := by
  simp [tk, h2, List.getElem?_eq_getElem h]
theorem tk_len (uss : List (List Nat)) : (tk uss).length = min uss.length 300 := by simp [tk]; omega
end Go.Proofs.Ytmbnbleahehdaaa

namespace Go.Proofs.Ytmbnbleahehdaaa
open Go.RowKit
set_option linter.unusedVariables false

def uV (us : List Nat) : List Value := us.map fun (u : Nat) => Value.int .u64 (u : Int)
theorem uV_len (us : List Nat) : (uV us).length = us.length := by simp [uV]
theorem uV_snoc (us : List Nat) (u : Nat) : uV (us ++ [u]) = uV us ++ [.int .u64 (u : Int)] := by simp [uV]
theorem uV_at (us : List Nat) (j : Nat) (h : j < us.length) : (uV us)[j]? = some (.int .u64 ((us[j]?.getD 0 : Nat) : Int)) := by
  simp [uV, List.getElem?_eq_getElem h]
/-- A row of bits that the call made. -/
def OwnUi (w : World) (base : Nat) (v : Value) (us : List Nat) : Prop := w.ownsRow base 52 1 v (uV us).length (uV us)
theorem OwnUi.nil (w : World) (base : Nat) : OwnUi w base (.slice none 0 0) [] := World.ownsRow_nil w base _ 1
theorem OwnUi.keep {w w' : World} {base : Nat} {v : Value} {us : List Nat} (h : OwnUi w base v us) (hb : ∀ k, k < w.heap.size → (∀ cur, w.heap[k]? = some (.cells cur 52) → w'.heap[k]? = w.heap[k]?)) : OwnUi w' base v us := by
  refine ⟨h.1, ?_⟩
  rcases h.2 with h2 | ⟨g, cap, cur, hv, hg, hh, r⟩
  · exact .inl h2
  · exact .inr ⟨g, cap, cur, hv, hg, (hb g (Array.getElem?_eq_some_iff.1 hh).1 cur hh).trans hh, r⟩
theorem OwnUi.later {w w' : World} {base : Nat} {v : Value} {us : List Nat} (h : OwnUi w base v us) (hb : Below w.heap.size w w') : OwnUi w' base v us := h.keep fun k hk _ _ => hb.block k hk
theorem OwnUi.mono {w : World} {base b : Nat} {v : Value} {us : List Nat} (h : OwnUi w base v us) (hb : b ≤ base) : OwnUi w b v us := by
  refine ⟨h.1, ?_⟩
  rcases h.2 with h2 | ⟨g, cap, cur, hv, hg, r⟩
  · exact .inl h2
  · exact .inr ⟨g, cap, cur, hv, by omega, r⟩
/-- THE SLICE OF uint64 '.slice ao len cap' READS AS us. -/
structure RdU (w : World) (ao : Option Addr) (len cap : Nat) (us : List Nat) : Prop where
  length : us.length = len
  max : len ≤ maxLen
  cells : len = 0 ∨ ∃ b off, ao = some ⟨b, off, none⟩ ∧ ∀ j, j < len → w.cell? ⟨b, off + j, none⟩ = some (.int .u64 ((us[j]?.getD 0 : Nat) : Int))
theorem RdU.later {w w' : World} {ao : Option Addr} {len cap : Nat} {us : List Nat} (h : RdU w ao len cap us) (hb : Below w.heap.size w w') : RdU w' ao len cap us := by
  refine ⟨h.length, h.max, ?_⟩
  rcases h.cells with h0 | ⟨b, off, ha, hc⟩
  · exact .inl h0
  · refine .inr ⟨b, off, ha, fun j hj => ?_⟩
    have hlt := World.block_lt_of_cell? w _ (hc j hj)
    rw [hb.cell (p := ⟨b, off + j, none⟩) hlt]
    exact hc j hj
theorem OwnUi.rd {w : World} {base : Nat} {v : Value} {us : List Nat} (h : OwnUi w base v us) (hm : us.length ≤ 1000) : ∃ ao cap, v = .slice ao us.length cap ∧ RdU w ao us.length cap us := by
  have h' := h
  unfold OwnUi at h'
  rw [uV_len] at h'
  rcases h'.2 with ⟨rfl, h0⟩ | ⟨g, cap, cur, rfl, hg, hh, r⟩
  · exact ⟨none, 0, by rw [h0], rfl, by simp only [maxLen]; omega, .inl h0⟩
  · refine ⟨_, cap, rfl, rfl, by simp only [maxLen]; omega, .inr ⟨g, 0, rfl, fun j hj => ?_⟩⟩
    have := World.ownsRow.cells h' (g := g) rfl j _ (uV_at us j hj)
    rw [Addr.add_lit] at this
    exact this
theorem take_snoc' {us : List Nat} {k : Nat} (h : k < us.length) : us.take (k + 1) = us.take k ++ [us[k]?.getD 0] := by
  rw [List.take_succ_eq_append_getElem h, List.getElem?_eq_getElem h]; rfl
set_option maxRecDepth 100000 in
set_option maxHeartbeats 1000000 in
theorem bitsList_any (ao : Option Addr) (len cap : Nat) (us : List Nat) (w : World) (hr : RdF w ao len cap us) (hl : len ≤ 1000) :
    Calls Try.prog 28 #[.slice ao len cap] w fun e w' => ∃ v, e = .returned v ∧ OwnUi w' w.heap.size v us ∧ Below w.heap.size w w' := by
  have HR : Hid _ := hr
  have HLN : Hid _ := hr.length
  clear hr
  go_enter Try.func28, Try.ntmps28
  go_wp2_with fail
  go_loopg [3, 4] len (fun g v u wx => ∃ (i : Nat), u = .int .i64 i ∧ i + g = len ∧ Hid (OwnUi wx w.heap.size v (us.take i)) ∧ Hid (Below w.heap.size w wx))
  case atStart => exact ⟨0, rfl, by omega, OwnUi.nil _ _, Below.refl _ _⟩
  case round =>
    obtain ⟨i, rfl, hi, HO, HB⟩ := hrel
    have hsr := HB.out.size
    by_cases hlt : i < len
    · have hd : decide ((i : Int) < (len : Int)) = true := decide_eq_true (by omega)
      obtain ⟨g, rfl⟩ : ∃ g, gk = g + 1 := ⟨gk - 1, by omega⟩
      rcases (HR.out.later HB.out).cells with h0 | ⟨b, off, rfl, hc⟩
      · omega
      have g0 := hc i hlt
      have HTS : Hid _ := take_snoc' (us := us) (k := i) (by rw [HLN.out]; exact hlt)
      generalize us[i]?.getD 0 = x at *
      have HIG : Hid _ := hi
      clear hc hi
      go_wp2_with (first
        | (go_at_call 29; refine Calls.mono (bits_any x _) ?_; rintro e w' ⟨rfl, hw⟩; rw [hw]; clear hw)
        | (at_builtin; refine appendG1 Try.underlying53 Try.infoU rfl (by decide) wr (by rfl) _ _ (by rfl) w.heap.size _ _ (by rfl) HO.out _ (by rfl) (by rfl) (by rw [uV_len, List.length_take]; omega) (by omega) ?_; intro v5 w5 hO5 hk5 hb5; have HO5 : Hid _ := hO5; have HB5 : Hid (Below w.heap.size wr w5) := hb5; clear hO5 hb5 hk5))
      go_roundg g
      case measure => omega
      case rel =>
        refine ⟨i + 1, by go_num, by have := HIG.out; omega, ?_, HB.out.trans HB5.out⟩
        have := HO5.out
        unfold Hid OwnUi
        rw [HTS.out, uV_snoc]
        exact this
    · have hd : decide ((i : Int) < (len : Int)) = false := decide_eq_false (by omega)
      have HO2 : Hid (OwnUi wr w.heap.size u3 us) := by
        have := HO.out
        rw [List.take_of_length_le (by rw [HLN.out]; omega)] at this
        exact this
      go_wp2
      go_ret
      exact ⟨_, rfl, HO2.out, HB.out⟩

def OwnUs (w : World) (base : Nat) (v : Value) (vs : List Value) : Prop := w.ownsRow base 53 1 v vs.length vs
theorem OwnUs.nil (w : World) (base : Nat) : OwnUs w base (.slice none 0 0) [] := World.ownsRow_nil w base _ 1
theorem OwnUs.later {w w' : World} {base : Nat} {v : Value} {vs : List Value} (h : OwnUs w base v vs) (hb : Below w.heap.size w w') : OwnUs w' base v vs := by
  refine ⟨h.1, ?_⟩
  rcases h.2 with h2 | ⟨g, cap, cur, hv, hg, hh, r⟩
  · exact .inl h2
  · exact .inr ⟨g, cap, cur, hv, hg, by rw [hb.block g (Array.getElem?_eq_some_iff.1 hh).1]; exact hh, r⟩
theorem ui_kept {W w' : World} {base b : Nat} {v u : Value} {vs : List Value} {us : List Nat} (hown : OwnUs W base v vs) (hk : ∀ k, k < W.heap.size → v.ownBlock ≠ some k → w'.heap[k]? = W.heap[k]?) (h : OwnUi W b u us) : OwnUi w' b u us := by
  refine h.keep fun k hlt cur hc => hk k hlt fun e => ?_
  rcases hown.2 with ⟨rfl, _⟩ | ⟨g, cap, cur2, rfl, _, hh, _⟩
  · simp [Value.ownBlock] at e
  · simp only [Value.ownBlock, Option.some.injEq] at e
    subst e
    rw [hc] at hh
    simp at hh
/-- Lists of bits that the call made. -/
def MkU (w : World) (base : Nat) (v : Value) (uss : List (List Nat)) : Prop := ∃ vs, OwnUs w base v vs ∧ vs.length = uss.length ∧ ∀ (j : Nat) (x : Value), vs[j]? = some x → OwnUi w base x (uss[j]?.getD [])
theorem MkU.later {w w' : World} {base : Nat} {v : Value} {uss : List (List Nat)} (h : MkU w base v uss) (hb : Below w.heap.size w w') : MkU w' base v uss := by
  obtain ⟨vs, h1, h2, h3⟩ := h
  exact ⟨vs, h1.later hb, h2, fun j x hx => (h3 j x hx).later hb⟩
theorem OwnUi.sl {w : World} {base : Nat} {v : Value} {us : List Nat} (h : OwnUi w base v us) : ∃ ao n cap, v = .slice ao n cap := by
  rcases h.2 with ⟨rfl, h0⟩ | ⟨g, cap, cur, rfl, _⟩
  · exact ⟨none, 0, 0, rfl⟩
  · exact ⟨_, _, cap, rfl⟩
end Go.Proofs.Ytmbnbleahehdaaa
