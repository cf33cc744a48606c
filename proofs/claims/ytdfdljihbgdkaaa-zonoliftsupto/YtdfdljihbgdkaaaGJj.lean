import Derived.Test.YtdfdljihbgdkaaaGJi
namespace Go.Proofs.Ytdfdljihbgdkaaa
open Go.RowKit Go.Shelf
set_option linter.unusedVariables false
set_option linter.unusedSimpArgs false

/-- Ids in a block of their own, two marks behind them. -/
structure WdI (w : World) (base g cap : Nat) (is : List Int) : Prop where
  lo : base ≤ g
  room : is.length + 2 ≤ cap
  max : cap ≤ maxLen
  cur : ∃ cur, w.heap[g]? = some (.cells cur 3) ∧ (∀ j, j < is.length → cur[j]? = some (.int .i64 (is[j]?.getD 0))) ∧ cur[is.length]? = some (.int .i64 901) ∧ cur[is.length + 1]? = some (.int .i64 902)
theorem WdI.keep {w w' : World} {base g cap : Nat} {is : List Int} (h : WdI w base g cap is) (hk : ∀ (k : Nat) (cur : Array Value), w.heap[k]? = some (.cells cur 3) → w'.heap[k]? = w.heap[k]?) : WdI w' base g cap is := by
  obtain ⟨cur, h1, h2⟩ := h.cur
  exact ⟨h.lo, h.room, h.max, cur, (hk g cur h1).trans h1, h2⟩
theorem WdI.rd {w : World} {base g cap : Nat} {is : List Int} (h : WdI w base g cap is) : RdIs w (some ⟨g, 0, none⟩) is.length cap is := by
  obtain ⟨cur, h1, h2, h3⟩ := h.cur
  exact ⟨rfl, by have := h.room; have := h.max; omega, .inr ⟨g, 0, rfl, fun j hj => by rw [Nat.zero_add]; exact cellAtJ h1 j _ (h2 j hj)⟩⟩
theorem WdI.of {w : World} {base c g n : Nat} {is : List Int} (h : w.ownsRow base 3 1 (.slice (some ⟨g, 0, none⟩) n c) n (is.map (Value.int .i64) ++ [.int .i64 901, .int .i64 902])) : WdI w base g c is ∧ n = is.length + 2 := by
  have hl : n = is.length + 2 := by have := h.1; simp at this; omega
  subst hl
  rcases h.2 with ⟨h1, h2⟩ | ⟨g', cap, cur, hv, hg, hh, k1, k2, k3, k4⟩
  · cases h1
  · cases hv
    have hat : ∀ j, j < is.length + 2 → cur[j]? = (is.map (Value.int .i64) ++ [.int .i64 901, .int .i64 902])[j]? := fun j hj => by rw [← k4, List.getElem?_take, if_pos (by omega), Array.getElem?_toList]
    refine ⟨⟨hg, k1, k2, cur, hh, fun j hj => ?_, ?_, ?_⟩, rfl⟩
    · rw [hat j (by omega), List.getElem?_append_left (by simpa using hj), List.getElem?_map, List.getElem?_eq_getElem hj]
      rfl
    · rw [hat _ (by omega), List.getElem?_append_right (by simp)]
      simp
    · rw [hat _ (by omega), List.getElem?_append_right (by simp)]
      simp
/-- Lists of numbers, each in a block of its own with marks behind it. -/
structure ColW (w : World) (base : Nat) (gs : List (List Nat)) (vs : List Value) : Prop where
  len : vs.length = gs.length
  col : ∀ (j : Nat) (u : Value), vs[j]? = some u → ∃ b c, u = .slice (some ⟨b, 0, none⟩) (gs[j]?.getD []).length c ∧ WdB w base b c (gs[j]?.getD [])
theorem ColW.nil (w : World) (base : Nat) : ColW w base [] [] := ⟨rfl, fun j u hj => by simp at hj⟩
theorem ColW.keep {w w' : World} {base : Nat} {gs : List (List Nat)} {vs : List Value} (h : ColW w base gs vs) (hk : ∀ (k : Nat) (cur : Array Value), w.heap[k]? = some (.cells cur 46) → w'.heap[k]? = w.heap[k]?) : ColW w' base gs vs :=
  ⟨h.len, fun j u hj => by obtain ⟨b, c, h1, h2⟩ := h.col j u hj; exact ⟨b, c, h1, h2.keep hk⟩⟩
theorem ColW.snoc {w : World} {base b c : Nat} {gs : List (List Nat)} {vs : List Value} {us : List Nat} (h : ColW w base gs vs) (hb : WdB w base b c us) : ColW w base (gs ++ [us]) (vs ++ [.slice (some ⟨b, 0, none⟩) us.length c]) := by
  refine ⟨by simp [h.len], fun j u hj => ?_⟩
  by_cases e : j < vs.length
  · rw [List.getElem?_append_left e] at hj
    rw [List.getElem?_append_left (by rw [← h.len]; exact e)]
    exact h.col j u hj
  · have hl := (List.getElem?_eq_some_iff.1 hj).1
    have ej : j = vs.length := by simp at hl; omega
    subst ej
    rw [List.getElem?_append_right (Nat.le_refl _), Nat.sub_self, List.getElem?_cons_zero] at hj
    cases hj
    rw [List.getElem?_append_right (by rw [h.len]; exact Nat.le_refl _), h.len, Nat.sub_self, List.getElem?_cons_zero]
    exact ⟨b, c, rfl, hb⟩
/-- What Laid laid of z: x. -/
structure LdR (w : World) (base : Nat) (z x : ZD) : Prop where
  zr : ZR w x
  N : x.N = z.N
  bad : x.bad = z.bad
  cs : x.cs = z.cs
  rs : x.rs = z.rs
  ids : x.ids = z.ids
  gs : x.gs = z.gs
  c : ∃ g, x.co = some ⟨g, 0, none⟩ ∧ WdB w base g x.cc x.cs ∧ x.cn = x.cs.length
  r : ∃ g, x.ro = some ⟨g, 0, none⟩ ∧ WdB w base g x.rc x.rs ∧ x.rn = x.rs.length
  i : ∃ g, x.io = some ⟨g, 0, none⟩ ∧ WdI w base g x.dc x.ids ∧ x.dn = x.ids.length
  g : ∃ g mb, x.go = some ⟨g, 0, none⟩ ∧ x.gn = x.gs.length ∧ x.gn + 1 ≤ x.gc ∧ x.gc ≤ maxLen ∧ w.cell? ⟨g, x.gn, none⟩ = some (.slice (some ⟨mb, 0, none⟩) 1 1) ∧ w.cell? ⟨mb, 0, none⟩ = some (.float .f64 4651136495631990784)
  col : ∀ j, j < x.gn → ∃ b, x.gv j = (some ⟨b, 0, none⟩, (x.gs[j]?.getD []).length, (x.gv j).2.2) ∧ WdB w base b (x.gv j).2.2 (x.gs[j]?.getD [])
theorem LdR.later {w w' : World} {base : Nat} {z x : ZD} (h : LdR w base z x) (hb : Below w.heap.size w w') : LdR w' base z x := by
  have cell : ∀ (p : Addr) (v : Value), w.cell? p = some v → w'.cell? p = some v := fun p v hp => (hb.cell (World.block_lt_of_cell? _ _ hp)).trans hp
  refine ⟨h.zr.later hb, h.N, h.bad, h.cs, h.rs, h.ids, h.gs, ?_, ?_, ?_, ?_, fun j hj => ?_⟩
  · obtain ⟨g, h1, h2, h3⟩ := h.c; exact ⟨g, h1, h2.later hb, h3⟩
  · obtain ⟨g, h1, h2, h3⟩ := h.r; exact ⟨g, h1, h2.later hb, h3⟩
  · obtain ⟨g, h1, h2, h3⟩ := h.i; exact ⟨g, h1, h2.keep fun k cur hc => hb.block k (blk_lt hc), h3⟩
  · obtain ⟨g, mb, h1, h2, h3, h4, h5, h6⟩ := h.g; exact ⟨g, mb, h1, h2, h3, h4, cell _ _ h5, cell _ _ h6⟩
  · obtain ⟨b, h1, h2⟩ := h.col j hj; exact ⟨b, h1, h2.later hb⟩
theorem Try.elemIJ : Try.prog.elem 23 = 3 := by kernel_rfl
theorem Try.elemGJ : Try.prog.elem 24 = 22 := by kernel_rfl
theorem sizeIJ (w : World) : (sizeOf 3).run Try.prog w = .ok 1 w := by kernel_rfl
theorem sizeGJ (w : World) : (sizeOf 22).run Try.prog w = .ok 1 w := by kernel_rfl
theorem cutIJ (b len cap q : Nat) (hq : q ≤ cap) (hc : 0 < cap) (w : World) : (Instr.slice 23 (.slice (some ⟨b, 0, none⟩) len cap) none (some (.int .i64 (q : Int))) none).run Try.prog w = .ok (.slice (some ⟨b, 0, none⟩) q cap) w := by
  rw [run_slice_h w _ _ _ _ (by rw [Try.elemIJ]; exact Try.underlying23) .i64 q (by omega) (by omega), Try.elemIJ, sizeIJ]
  simp only [Result.andThen, sliced, if_neg (Nat.ne_of_gt hc), Option.map_some, add_zeroJ]
  simp
theorem cutGJ (b len cap q : Nat) (hq : q ≤ cap) (hc : 0 < cap) (w : World) : (Instr.slice 24 (.slice (some ⟨b, 0, none⟩) len cap) none (some (.int .i64 (q : Int))) none).run Try.prog w = .ok (.slice (some ⟨b, 0, none⟩) q cap) w := by
  rw [run_slice_h w _ _ _ _ (by rw [Try.elemGJ]; exact Try.underlying24) .i64 q (by omega) (by omega), Try.elemGJ, sizeGJ]
  simp only [Result.andThen, sliced, if_neg (Nat.ne_of_gt hc), Option.map_some, add_zeroJ]
  simp
end Go.Proofs.Ytdfdljihbgdkaaa

namespace Go.Proofs.Ytdfdljihbgdkaaa
open Go.RowKit Go.Shelf
set_option linter.unusedVariables false
set_option linter.unusedSimpArgs false

theorem news_twoJ {W : World} {I : Nat} {x y : Value} {E : TypeId} (h : W.heap[I]? = some (.cells #[x, y] E)) : ∀ j u, [x, y][j]? = some u → W.cell? ((⟨I, 0, none⟩ : Addr).add j) = some u := by
  intro j u hj
  match j, hj with
  | 0, hj =>
    cases hj
    rw [Addr.add_lit, cell_of_row _ I _ _ _ _ h]
    rfl
  | 1, hj =>
    cases hj
    rw [Addr.add_lit, cell_of_row _ I _ _ _ _ h]
    rfl
theorem oneII : ∀ (x y : Value), x.oneCell' = true → y.oneCell' = true → ∀ u ∈ [x, y], u.oneCell' = true := by
  intro x y hx hy u hu
  simp only [List.mem_cons, List.not_mem_nil, or_false] at hu
  rcases hu with rfl | rfl <;> assumption
end Go.Proofs.Ytdfdljihbgdkaaa
