import Derived.Test.YtogdfdhdmfkmaaaGreatGJe
import Derived.Test.YtogdfdhdmfkmaaaGreatAG
import Derived.Test.YtogdfdhdmfkmaaaGreatGJf
import Derived.Deep.CutRange
import Derived.Test.YtogdfdhdmfkmaaaGreatGJd
namespace Go.Proofs.YtogdfdhdmfkmaaaGreat
open Go.RowKit Go.Shelf
set_option linter.unusedVariables false
set_option linter.unusedSimpArgs false

/-- append(s, x...) onto a row in a block of its own: where the answer lies. -/
theorem append_grM {SE E : TypeId} {z : Value} {bytes : Nat} (hu : Tryz.prog.underlying SE = some (.slice E)) (hinfo : (Tryz.prog.info? E).map (fun i => (i.zero, i.size, i.bytes)) = some (some z, 1, bytes)) (hzc : z.cells.size = 1) (hby : bytes ≤ 24)
    {ops : Array Oper} {rest : List Oper} {o : Oper} {a : Act} {Q : Exit → Act → World → Prop} (W : World) (hgd : o.guard = none) (s x : Operand) (ho : o.op = .call { callee := .builtin .append, args := #[s, x], argTypes := #[SE, SE] })
    (base : Nat) (v : Value) (xs : List Value) (hs : a.eval s = v) (hown : W.ownsRow base E 1 v xs.length xs)
    (ad : Addr) (m c : Nat) (news : List Value) (hx : a.eval x = .slice (some ad) m c) (hl : news.length = m) (hm : 0 < m) (hnews : ∀ j u, news[j]? = some u → W.cell? (ad.add j) = some u) (h1 : ∀ u ∈ news, u.oneCell' = true)
    (hlen : xs.length + m ≤ 4000000) (hbase : base ≤ W.heap.size)
    (h : ∀ v' w', w'.ownsRow base E 1 v' (xs ++ news).length (xs ++ news) → Grw W w' v.ownBlock v'.ownBlock → wpList Tryz.prog ops Q rest (a.put o.dst v') w') : wpList Tryz.prog ops Q (o :: rest) a W := by
  obtain ⟨i0, hi, hz0, hz1, hz2⟩ := info3' hinfo
  have hb2 : (xs.length + m) * bytes ≤ 140737488355328 := Nat.le_trans (Nat.mul_le_mul hlen hby) (by decide)
  have grow : ∀ (w' : World) (v' : Value), w'.ownsRow W.heap.size E 1 v' (xs.length + m) (xs ++ news) → W.grownBy w' none → wpList Tryz.prog ops Q rest (a.put o.dst v') w' := by
    intro w' v' g1 g2
    refine h v' w' ?_ ⟨⟨g2.os, g2.tape, g2.output, g2.size, fun k hk _ => g2.block k hk (by simp)⟩, .inr fun k hk => (World.ownsRow.lt g1 k hk).1⟩
    rw [List.length_append, hl]
    refine ⟨g1.1, ?_⟩
    rcases g1.2 with g3 | ⟨g, cap, cur, hv, hg, r⟩
    · exact .inl g3
    · exact .inr ⟨g, cap, cur, hv, Nat.le_trans hbase hg, r⟩
  rcases hown.2 with ⟨rfl, h0⟩ | ⟨g, cap, cur, hv, hg, hh, k1, k2, k3, k4⟩
  · have hx0 : xs = [] := List.eq_nil_of_length_eq_zero h0
    subst hx0
    refine wpList_append_grows W hgd s x SE ho E i0 z 1 bytes hu hi hz0 hz1 hz2 hzc (by decide) none 0 0 [] hs (fun _ => ⟨rfl, rfl⟩) rfl (fun b hb => by cases hb) ad m c news hx (by omega) hnews h1 (by omega) (by simp only [maxLen]; simp at hlen; omega) (by simpa using hb2) ?_
    intro v' w' r1 r2
    exact grow w' v' (by simpa using r1) r2
  · by_cases hr : xs.length + m ≤ cap
    · subst hv
      refine wpList_append_fits W hgd s x SE ho base E i0 1 hu hi hz1 g xs.length cap xs hs hown ad m c news hx (by omega) hnews h1 hr ?_
      intro w' r1 r2
      exact h _ w' (by rw [List.length_append, hl]; exact r1) ⟨r2, .inl rfl⟩
    · refine wpList_append_grows W hgd s x SE ho E i0 z 1 bytes hu hi hz0 hz1 hz2 hzc (by decide) (some ⟨g, 0, none⟩) xs.length cap xs (by rw [hs, hv]) (fun c => by cases c) (by omega) ?_ ad m c news hx (by omega) hnews h1 (by omega) (by simp only [maxLen]; omega) hb2 ?_
      · intro b hb j u hj
        cases hb
        exact World.ownsRow.cells hown (by rw [hv]; rfl) j u hj
      · intro v' w' r1 r2
        exact grow w' v' r1 r2
theorem append_gr1M {SE E : TypeId} {z : Value} {bytes : Nat} (hu : Tryz.prog.underlying SE = some (.slice E)) (hinfo : (Tryz.prog.info? E).map (fun i => (i.zero, i.size, i.bytes)) = some (some z, 1, bytes)) (hzc : z.cells.size = 1) (hby : bytes ≤ 24)
    {ops : Array Oper} {rest : List Oper} {o : Oper} {a : Act} {Q : Exit → Act → World → Prop} (W : World) (hgd : o.guard = none) (s x : Operand) (ho : o.op = .call { callee := .builtin .append, args := #[s, x], argTypes := #[SE, SE] })
    (base : Nat) (v : Value) (xs : List Value) (hs : a.eval s = v) (hown : W.ownsRow base E 1 v xs.length xs)
    (y : Value) (hx : a.eval x = .slice (some ⟨W.heap.size, 0, none⟩) 1 1) (h1 : y.oneCell' = true)
    (hlen : xs.length + 1 ≤ 4000000) (hbase : base ≤ W.heap.size)
    (h : ∀ v' w', w'.ownsRow base E 1 v' (xs ++ [y]).length (xs ++ [y]) → Grw W w' v.ownBlock v'.ownBlock → wpList Tryz.prog ops Q rest (a.put o.dst v') w') : wpList Tryz.prog ops Q (o :: rest) a (W.alloc (.cells #[y] E)) := by
  have hsz : (W.alloc (.cells #[y] E)).heap.size = W.heap.size + 1 := Array.size_push ..
  refine append_grM hu hinfo hzc hby (W.alloc (.cells #[y] E)) hgd s x ho base v xs hs (World.ownsRow.alloc hown _) ⟨W.heap.size, 0, none⟩ 1 1 [y] hx rfl (by decide) ?_ (by intro u hu; simp at hu; subst hu; exact h1) hlen (by omega) ?_
  · intro j u hj
    match j, hj with
    | 0, hj =>
      simp only [List.getElem?_cons_zero, Option.some.injEq] at hj
      subst hj
      rw [Addr.add_lit, cell_of_row _ W.heap.size _ _ _ _ (heap_alloc_new W _)]
      rfl
  · intro v' w' o2 g2
    refine h v' w' o2 ⟨⟨g2.by'.os, g2.by'.tape, g2.by'.output, by have := g2.by'.size; omega, fun j hj hne => ?_⟩, ?_⟩
    · rw [g2.by'.block j (by omega) hne, Below.heap_alloc W _ j hj]
    · rcases g2.new with e | e
      · exact .inl e
      · exact .inr fun k hk => by have := e k hk; omega
theorem own_valJ {w : World} {E : TypeId} {base size n : Nat} {v : Value} {xs : List Value} (h : w.ownsRow base E size v n xs) : v.oneCell' = true ∧ v.cells = #[v] := by
  rcases h.2 with ⟨rfl, _⟩ | ⟨g, cap, cur, rfl, _⟩ <;> exact ⟨rfl, rfl⟩
theorem Tryz.infoIJ : (Tryz.prog.info? 3).map (fun i => (i.zero, i.size, i.bytes)) = some (some (.int .i64 0), 1, 8) := by kernel_rfl
theorem Tryz.infoFsJ : (Tryz.prog.info? 22).map (fun i => (i.zero, i.size, i.bytes)) = some (some (.slice none 0 0), 1, 24) := by kernel_rfl
theorem Tryz.szIs : (Tryz.prog.info? 23).map (·.size) = some 1 := by kernel_rfl
theorem Tryz.szFss : (Tryz.prog.info? 24).map (·.size) = some 1 := by kernel_rfl
theorem rdF_keep {w w' : World} {B len cap : Nat} {us : List Nat} (h : RdF w (some ⟨B, 0, none⟩) len cap us) (hb : w'.heap[B]? = w.heap[B]?) : RdF w' (some ⟨B, 0, none⟩) len cap us := by
  refine ⟨h.length, h.max, h.lt, ?_⟩
  rcases h.cells with h0 | ⟨b, off, ha, hc⟩
  · exact .inl h0
  · cases ha
    refine .inr ⟨B, 0, rfl, fun j hj => ?_⟩
    rw [World.cell?_of_block (w := w) (a := ⟨B, 0 + j, none⟩) hb]
    exact hc j hj
/-- A list of numbers in a block of its own. -/
structure OwB (w : World) (base n b : Nat) (us : List Nat) : Prop where
  lo : base ≤ b
  cur : ∃ cur, w.heap[b]? = some (.cells cur 45)
  rd : RdF w (some ⟨b, 0, none⟩) n n us
theorem OwB.keep {w w' : World} {base n b : Nat} {us : List Nat} (h : OwB w base n b us) (hk : ∀ (k : Nat) (cur : Array Value), w.heap[k]? = some (.cells cur 45) → w'.heap[k]? = w.heap[k]?) : OwB w' base n b us := by
  obtain ⟨cur, hc⟩ := h.cur
  exact ⟨h.lo, ⟨cur, (hk b cur hc).trans hc⟩, rdF_keep h.rd (hk b cur hc)⟩
theorem OwB.lt {w : World} {base n b : Nat} {us : List Nat} (h : OwB w base n b us) : b < w.heap.size := by
  obtain ⟨cur, hc⟩ := h.cur
  exact blk_lt hc
def slN (n b : Nat) : Value := .slice (some ⟨b, 0, none⟩) n n
/-- Lists of numbers, each in a block of its own. -/
structure ColL (w : World) (base n : Nat) (gl : List Nat) (gs : List (List Nat)) : Prop where
  len : gl.length = gs.length
  row : ∀ j, j < gl.length → OwB w base n (gl[j]?.getD 0) (gs[j]?.getD [])
  nodup : gl.Nodup
theorem ColL.nil (w : World) (base n : Nat) : ColL w base n [] [] := ⟨rfl, fun j hj => absurd hj (Nat.not_lt_zero _), List.nodup_nil⟩
theorem ColL.keep {w w' : World} {base n : Nat} {gl : List Nat} {gs : List (List Nat)} (h : ColL w base n gl gs) (hk : ∀ (k : Nat) (cur : Array Value), w.heap[k]? = some (.cells cur 45) → w'.heap[k]? = w.heap[k]?) : ColL w' base n gl gs :=
  ⟨h.len, fun j hj => (h.row j hj).keep hk, h.nodup⟩
theorem ColL.mem_lt {w : World} {base n : Nat} {gl : List Nat} {gs : List (List Nat)} (h : ColL w base n gl gs) {b : Nat} (hb : b ∈ gl) : b < w.heap.size := by
  obtain ⟨j, hj, rfl⟩ := List.getElem_of_mem hb
  have := (h.row j hj).lt
  rwa [List.getElem?_eq_getElem hj] at this
theorem ColL.snoc {w : World} {base n b : Nat} {gl : List Nat} {gs : List (List Nat)} {us : List Nat} (h : ColL w base n gl gs) (ho : OwB w base n b us) (hn : b ∉ gl) : ColL w base n (gl ++ [b]) (gs ++ [us]) := by
  refine ⟨by simp [h.len], fun j hj => ?_, ?_⟩
  · by_cases e : j < gl.length
    · rw [List.getElem?_append_left e, List.getElem?_append_left (by rw [← h.len]; exact e)]
      exact h.row j e
    · have ej : j = gl.length := by simp at hj; omega
      subst ej
      rw [List.getElem?_append_right (Nat.le_refl _), List.getElem?_append_right (by rw [h.len]; exact Nat.le_refl _)]
      simpa [h.len] using ho
  · rw [List.nodup_append]
    refine ⟨h.nodup, by simp, fun a ha c hc => ?_⟩
    simp only [List.mem_cons, List.not_mem_nil, or_false] at hc
    subst hc
    exact fun e => hn (e ▸ ha)
/-- A zonotope's lists, in memory of their own. -/
structure FrL (w : World) (base n bc br : Nat) (cs rs : List Nat) (ids : List Int) (gs : List (List Nat)) (vi vg : Value) (gl : List Nat) : Prop where
  c : OwB w base n bc cs
  r : OwB w base n br rs
  i : w.ownsRow base 3 1 vi (ids.map (Value.int .i64)).length (ids.map (Value.int .i64))
  g : w.ownsRow base 22 1 vg (gl.map (slN n)).length (gl.map (slN n))
  col : ColL w base n gl gs
  cr : bc ≠ br
  cg : bc ∉ gl
  rg : br ∉ gl
theorem owns_keepT {w w' : World} {E : TypeId} {base size : Nat} {v : Value} {n : Nat} {xs : List Value} (h : w.ownsRow base E size v n xs) (hb : ∀ (k : Nat) (cur : Array Value), w.heap[k]? = some (.cells cur E) → w'.heap[k]? = w.heap[k]?) : w'.ownsRow base E size v n xs :=
  owns_keep h fun k hk => by obtain ⟨cur, hc⟩ := owns_type h hk; exact hb k cur hc
theorem FrL.keep {w w' : World} {base n bc br : Nat} {cs rs : List Nat} {ids : List Int} {gs : List (List Nat)} {vi vg : Value} {gl : List Nat} (h : FrL w base n bc br cs rs ids gs vi vg gl) (hk : ∀ (k : Nat) (cur : Array Value) (t : TypeId), t ≠ 26 → w.heap[k]? = some (.cells cur t) → w'.heap[k]? = w.heap[k]?) : FrL w' base n bc br cs rs ids gs vi vg gl :=
  have hf := fun k cur => hk k cur 45 (by decide)
  ⟨h.c.keep hf, h.r.keep hf, owns_keepT h.i fun k cur => hk k cur _ (by decide), owns_keepT h.g fun k cur => hk k cur _ (by decide), h.col.keep hf, h.cr, h.cg, h.rg⟩
theorem FrL.later {w w' : World} {base n bc br : Nat} {cs rs : List Nat} {ids : List Int} {gs : List (List Nat)} {vi vg : Value} {gl : List Nat} (h : FrL w base n bc br cs rs ids gs vi vg gl) (hb : Below w.heap.size w w') : FrL w' base n bc br cs rs ids gs vi vg gl :=
  h.keep fun k cur t _ hc => hb.block k (blk_lt hc)
/-- What an append onto a row changes: blocks of other types stay. -/
theorem grw_types {w w' : World} {E : TypeId} {base size n : Nat} {v v' : Value} {xs : List Value} (h : w.ownsRow base E size v n xs) (hg : Grw w w' v.ownBlock v'.ownBlock) : ∀ (k : Nat) (cur : Array Value) (t : TypeId), t ≠ E → w.heap[k]? = some (.cells cur t) → w'.heap[k]? = w.heap[k]? := by
  intro k cur t ht hc
  refine hg.by'.block k (blk_lt hc) fun e => ?_
  obtain ⟨cur', hc'⟩ := owns_type h e.symm
  rw [hc] at hc'
  cases hc'
  exact ht rfl
theorem FrL.pushI {w w' : World} {base n bc br : Nat} {cs rs : List Nat} {ids : List Int} {gs : List (List Nat)} {vi vg vi' : Value} {gl : List Nat} {x : Int} (h : FrL w base n bc br cs rs ids gs vi vg gl) (hg : Grw w w' vi.ownBlock vi'.ownBlock)
    (ho : w'.ownsRow base 3 1 vi' (ids.map (Value.int .i64) ++ [Value.int .i64 x]).length (ids.map (Value.int .i64) ++ [Value.int .i64 x])) : FrL w' base n bc br cs rs (ids ++ [x]) gs vi' vg gl := by
  have hk := grw_types h.i hg
  have hf := fun k cur => hk k cur 45 (by decide)
  refine ⟨h.c.keep hf, h.r.keep hf, ?_, owns_keepT h.g fun k cur => hk k cur _ (by decide), h.col.keep hf, h.cr, h.cg, h.rg⟩
  rw [List.map_append]
  exact ho
/-- A new column, laid and appended. -/
theorem FrL.pushG {w w' : World} {base n bc br b : Nat} {cs rs us : List Nat} {ids : List Int} {gs : List (List Nat)} {vi vg vg' : Value} {gl : List Nat} (h : FrL w base n bc br cs rs ids gs vi vg gl) (hg : Grw w w' vg.ownBlock vg'.ownBlock)
    (ho : w'.ownsRow base 22 1 vg' (gl.map (slN n) ++ [slN n b]).length (gl.map (slN n) ++ [slN n b])) (hb : OwB w base n b us) (h1 : b ≠ bc) (h2 : b ≠ br) (h3 : b ∉ gl) : FrL w' base n bc br cs rs ids (gs ++ [us]) vi vg' (gl ++ [b]) := by
  have hk := grw_types h.g hg
  have hf := fun k cur => hk k cur 45 (by decide)
  refine ⟨h.c.keep hf, h.r.keep hf, owns_keepT h.i fun k cur => hk k cur _ (by decide), ?_, (h.col.keep hf).snoc (hb.keep hf) h3, h.cr, ?_, ?_⟩
  · rw [List.map_append]
    exact ho
  · simp only [List.mem_append, List.mem_cons, List.not_mem_nil, or_false, not_or]
    exact ⟨h.cg, fun e => h1 e.symm⟩
  · simp only [List.mem_append, List.mem_cons, List.not_mem_nil, or_false, not_or]
    exact ⟨h.rg, fun e => h2 e.symm⟩
theorem owns_slice {w : World} {E : TypeId} {base : Nat} {v : Value} {n : Nat} {xs : List Value} (h : w.ownsRow base E 1 v n xs) : ∃ ao cap, v = .slice ao n cap ∧ n ≤ maxLen ∧ (n = 0 ∨ ∃ g, ao = some ⟨g, 0, none⟩ ∧ ∀ j, j < n → w.cell? ⟨g, j, none⟩ = xs[j]?) := by
  have hs := h
  rcases h.2 with ⟨rfl, rfl⟩ | ⟨g, cap, cur, rfl, hg, hh, h1, h2, h3, h4⟩
  · exact ⟨none, 0, rfl, Nat.zero_le _, .inl rfl⟩
  · exact ⟨_, cap, rfl, Nat.le_trans h1 h2, .inr ⟨g, rfl, fun j hj => World.ownsRow.cellAt hs j (by omega)⟩⟩
/-- So it is a zonotope that lies in w. -/
theorem FrL.zr {w : World} {base n bc br : Nat} {cs rs : List Nat} {ids : List Int} {gs : List (List Nat)} {vi vg : Value} {gl : List Nat} (h : FrL w base n bc br cs rs ids gs vi vg gl) (N : Int) (bad : Bool) :
    ∃ y : ZD, (.agg #[.int .i64 N, slN n bc, vi, vg, slN n br, .bool bad] : Value) = .agg (zRow y) ∧ ZR w y ∧ y.N = N ∧ y.bad = bad ∧ y.cs = cs ∧ y.rs = rs ∧ y.ids = ids ∧ y.gs = gs ∧ y.cn = n ∧ y.rn = n ∧ y.dn = ids.length ∧ y.gn = gs.length := by
  obtain ⟨io, dc, rfl, hm1, h1⟩ := owns_slice h.i
  obtain ⟨go, gc, rfl, hm2, h2⟩ := owns_slice h.g
  have e1 : (ids.map (Value.int .i64)).length = ids.length := List.length_map _
  have e2 : (gl.map (slN n)).length = gs.length := (List.length_map _).trans h.col.len
  rw [e1] at hm1 h1
  rw [e2] at hm2 h2
  rw [e1, e2]
  refine ⟨⟨N, some ⟨bc, 0, none⟩, n, n, io, ids.length, dc, go, gs.length, gc, some ⟨br, 0, none⟩, n, n, bad, cs, ids, fun j => (some ⟨gl[j]?.getD 0, 0, none⟩, n, n), gs, rs⟩, rfl, ⟨h.c.rd, ⟨rfl, hm1, ?_⟩, ⟨rfl, hm2, ?_, fun j hj => (h.col.row j (by rw [h.col.len]; exact hj)).rd⟩, h.r.rd⟩, rfl, rfl, rfl, rfl, rfl, rfl, rfl, rfl, rfl, rfl⟩
  · rcases h1 with h0 | ⟨g, rfl, hc⟩
    · exact .inl h0
    · refine .inr ⟨g, 0, rfl, fun j hj => ?_⟩
      dsimp only at hj ⊢
      rw [Nat.zero_add, hc j hj, List.getElem?_map, List.getElem?_eq_getElem hj]
      rfl
  · rcases h2 with h0 | ⟨g, rfl, hc⟩
    · exact .inl h0
    · refine .inr ⟨g, 0, rfl, fun j hj => ?_⟩
      dsimp only at hj ⊢
      have hj' : j < gl.length := by rw [h.col.len]; exact hj
      rw [Nat.zero_add, hc j hj, List.getElem?_map, List.getElem?_eq_getElem hj']
      rfl
theorem FrL.kept {W W' : World} {row : Option Nat} {base n bc br : Nat} {cs rs : List Nat} {ids : List Int} {gs : List (List Nat)} {vi vg : Value} {gl : List Nat} (h : FrL W base n bc br cs rs ids gs vi vg gl) (hg : W.grownBy W' row) (hr : ∀ r, row = some r → ∃ o, W.heap[r]? = some o ∧ o.isCells = false) : FrL W' base n bc br cs rs ids gs vi vg gl :=
  h.keep fun k cur t _ hc => (heap_keptJ hc hg hr).trans hc.symm
theorem OwB.mono {w : World} {base base' n b : Nat} {us : List Nat} (h : OwB w base n b us) (hb : base' ≤ base) : OwB w base' n b us := ⟨Nat.le_trans hb h.lo, h.cur, h.rd⟩
theorem OwB.later {w w' : World} {base n b : Nat} {us : List Nat} (h : OwB w base n b us) (hb : Below w.heap.size w w') : OwB w' base n b us := h.keep fun k cur hc => hb.block k (blk_lt hc)
theorem numsB_fin {us : List Nat} (h : ∀ u ∈ us, Fin u) : numsB us = true := by
  unfold numsB
  exact List.all_eq_true.2 fun u hu => decide_eq_true (h u hu)
theorem plainOwn_any (ao : Option Addr) (len cap : Nat) (us : List Nat) (hl : len ≤ 100000) (hf : ∀ u ∈ us, Fin u) (w : World) (h : RdF w ao len cap us) :
    Calls Tryz.prog 39 #[.slice ao len cap] w fun e w' => ∃ b, e = .returned (slN len b) ∧ OwB w' w.heap.size len b (us.map plainM) ∧ Below w.heap.size w w' := by
  refine Calls.mono (plainT_any ao len cap us hl (numsB_fin hf) w h) ?_
  rintro e w' ⟨rfl, h1, h2, h3, h4⟩
  exact ⟨w.heap.size, rfl, ⟨Nat.le_refl _, h2, h1⟩, h3⟩
end Go.Proofs.YtogdfdhdmfkmaaaGreat


namespace Go.Proofs.YtogdfdhdmfkmaaaGreat
open Go.RowKit Go.Shelf
set_option linter.unusedVariables false
set_option linter.unusedSimpArgs false
attribute [local go_sem] Oper.semAt_some

theorem hopAJ {P : Program} {ops : Array Oper} {Q : Exit → Act → World → Prop} {i : Nat} {o : Oper} {K : Act → World → Prop} {a : Act} {w : World} (d : Nat) (ho : ops[i]? = some o) (hg : o.guard = none) (hd : o.dst = some d) (t : TypeId) (hop : o.op = .alloc t) (z : Array Value)
    (hz : ∀ w, (Instr.alloc t true (.tuple #[])).run P w = .ok (.pointer (some ⟨w.heap.size, 0, none⟩)) (w.alloc (.cells z t)))
    (h : ∀ D W', W'.heap[D]? = some (.cells z t) → w.heap.size ≤ D → Below w.heap.size w W' → K (a.put (some d) (.pointer (some ⟨D, 0, none⟩))) W') : wpOp P ops Q i K a w :=
  hopV d ho hg hd (ex_alloc _ t hop _ _ _ (hz w)) (h _ _ (heap_alloc_new w _) (Nat.le_refl _) ((Below.refl _ w).alloc (Nat.le_refl _) _))
theorem allocZJ (w : World) : (Instr.alloc 26 true (.tuple #[])).run Tryz.prog w = .ok (.pointer (some ⟨w.heap.size, 0, none⟩)) (w.alloc (.cells #[.int .i64 0, .slice none 0 0, .slice none 0 0, .slice none 0 0, .slice none 0 0, .bool false] 26)) := by kernel_rfl
theorem map_getD {α : Type} (l : List α) (d : α) (n : Nat) (h : l.length = n) : (List.finRange n).map (fun k : _root_.Fin n => l[k.val]?.getD d) = l := by
  subst h
  apply List.ext_getElem
  · simp
  · intro i h1 h2
    simp [List.getElem?_eq_getElem h2]
theorem map_getD2 {α β : Type} (l : List α) (d : α) (g : α → β) (n : Nat) (h : l.length = n) : (List.finRange n).map (fun k : _root_.Fin n => g (l[k.val]?.getD d)) = l.map g := by
  have := congrArg (List.map g) (map_getD l d n h)
  rw [List.map_map] at this
  exact this
theorem grw_keeps {w w' : World} {E : TypeId} {base size n : Nat} {v v' : Value} {xs : List Value} (h : w.ownsRow base E size v n xs) (hg : Grw w w' v.ownBlock v'.ownBlock) : ∀ (k : Nat) (o : Obj), w.heap[k]? = some o → o.isCells = false → w'.heap[k]? = some o := by
  intro k o hk hc
  rw [hg.by'.block k (blk_lt hk) fun e => ?_]
  · exact hk
  · obtain ⟨cur, h2⟩ := owns_type h e.symm
    rw [hk] at h2
    cases h2
    cases hc
set_option maxRecDepth 100000 in
set_option maxHeartbeats 4000000 in
theorem fresh_ok (z : ZD) (w : World) (hz : ZR w z) (hb : z.bad = false) (hrn : z.cn = z.rn) (hdg : z.dn = z.gn) (hn : z.cn ≤ 100000) (hdn : z.dn ≤ 2000000) (hw : ∀ k, k < z.dn → (z.gs[k]?.getD []).length = z.cn) (hF : FinZ z) :
    Calls Tryz.prog 40 #[.agg (zRow z)] w fun e w' => ∃ bc br vi vg gl, e = .returned (.agg #[.int .i64 z.N, slN z.cn bc, vi, vg, slN z.cn br, .bool false]) ∧ FrL w' w.heap.size z.cn bc br (z.cs.map plainM) (z.rs.map plainM) z.ids (z.gs.map (·.map plainM)) vi vg gl ∧ Below w.heap.size w w' := by
  obtain ⟨N, co, n, cc, io, dn, dc, go, gn, gc, ro, rn, rc, bad, cs, ids, gv, gs, rs⟩ := z
  dsimp only at hb hrn hdg hn hdn hw hF ⊢
  subst hb hrn hdg
  have HZ : Hid (∀ W', Below w.heap.size w W' → ZR W' ⟨N, co, n, cc, io, dn, dc, go, dn, gc, ro, n, rc, false, cs, ids, gv, gs, rs⟩) := fun W' hb => hz.later hb
  have HC : Hid (∀ W', Below w.heap.size w W' → Calls Tryz.prog 39 #[.slice co n cc] W' fun e w' => ∃ b, e = .returned (slN n b) ∧ OwB w' W'.heap.size n b (cs.map plainM) ∧ Below W'.heap.size W' w') := fun W' hb => plainOwn_any co n cc cs hn hF.c W' (hz.later hb).c
  have HR : Hid (∀ W', Below w.heap.size w W' → Calls Tryz.prog 39 #[.slice ro n rc] W' fun e w' => ∃ b, e = .returned (slN n b) ∧ OwB w' W'.heap.size n b (rs.map plainM) ∧ Below W'.heap.size W' w') := fun W' hb => plainOwn_any ro n rc rs hn hF.r W' (hz.later hb).r
  have HGa : Hid (∀ x, x < dn → ∀ W', Below w.heap.size w W' → Calls Tryz.prog 39 #[.slice (gv x).1 (gv x).2.1 (gv x).2.2] W' fun e w' => ∃ b, e = .returned (slN n b) ∧ OwB w' W'.heap.size n b ((gs[x]?.getD []).map plainM) ∧ Below W'.heap.size W' w') := fun x hx W' hb => by
    have h1 := (hz.later hb).g.each x hx
    have h2 := h1.length
    rw [hw x hx] at h2
    have hgl := hz.g.length
    have h3 := plainOwn_any (gv x).1 (gv x).2.1 (gv x).2.2 (gs[x]?.getD []) (by dsimp only at h2; omega) (fun u hu => hF.g _ (by rw [List.getElem?_eq_getElem (by dsimp only at hgl; omega)]; exact List.getElem_mem _) u hu) W' h1
    dsimp only at h2
    rw [← h2] at h3 ⊢
    exact h3
  have HLN : Hid (ids.length = dn ∧ gs.length = dn) := ⟨hz.i.length, hz.g.length⟩
  clear hz hw hF
  have X0 : Below w.heap.size w ((w.alloc (.cells #[.int .i64 N, .slice co n cc, .slice io dn dc, .slice go dn gc, .slice ro n rc, .bool false] 26)).alloc (.cells #[.int .i64 0, .slice none 0 0, .slice none 0 0, .slice none 0 0, .slice none 0 0, .bool false] 26)) := ((Below.refl _ w).alloc (Nat.le_refl _) _).alloc (by simp only [alloc_size]; omega) _
  have Y0 : ((w.alloc (.cells #[.int .i64 N, .slice co n cc, .slice io dn dc, .slice go dn gc, .slice ro n rc, .bool false] 26)).alloc (.cells #[.int .i64 0, .slice none 0 0, .slice none 0 0, .slice none 0 0, .slice none 0 0, .bool false] 26)).heap[w.heap.size]? = some (.cells #[.int .i64 N, .slice co n cc, .slice io dn dc, .slice go dn gc, .slice ro n rc, .bool false] 26) := alloc_kept (heap_alloc_new w _) _
  have Y1 : ((w.alloc (.cells #[.int .i64 N, .slice co n cc, .slice io dn dc, .slice go dn gc, .slice ro n rc, .bool false] 26)).alloc (.cells #[.int .i64 0, .slice none 0 0, .slice none 0 0, .slice none 0 0, .slice none 0 0, .bool false] 26)).heap[w.heap.size + 1]? = some (.cells #[.int .i64 0, .slice none 0 0, .slice none 0 0, .slice none 0 0, .slice none 0 0, .bool false] 26) := heap_at _ _ (w.heap.size + 1) (by simp only [alloc_size])
  unfold zRow
  dsimp only
  refine (callsIn_wide (n := 3)).1 ?_
  refine callsIn_of_wp_marks Tryz.func40 rfl trivial ?_ rfl
  refine wpIn_wide.2 ?_
  simp only [Tryz.ntmps40, List.size_toArray, List.length_cons, List.length_nil, Nat.reduceAdd, Nat.reduceSub, Array.replicate_succ, Array.replicate_zero, List.push_toArray, List.append_toArray, List.nil_append, List.cons_append]
  go_upto_region 3 with fail
  obtain ⟨X, hX⟩ : ∃ X, ((w.alloc (.cells #[.int .i64 N, .slice co n cc, .slice io dn dc, .slice go dn gc, .slice ro n rc, .bool false] 26)).alloc (.cells #[.int .i64 0, .slice none 0 0, .slice none 0 0, .slice none 0 0, .slice none 0 0, .bool false] 26)) = X := ⟨_, rfl⟩
  rw [hX] at X0 Y0 Y1 ⊢
  clear hX
  have HX : Hid (Below w.heap.size w X ∧ X.heap[w.heap.size]? = some (.cells #[.int .i64 N, .slice co n cc, .slice io dn dc, .slice go dn gc, .slice ro n rc, .bool false] 26) ∧ X.heap[w.heap.size + 1]? = some (.cells #[.int .i64 0, .slice none 0 0, .slice none 0 0, .slice none 0 0, .slice none 0 0, .bool false] 26)) := ⟨X0, Y0, Y1⟩
  clear X0 Y0 Y1
  go_cut [3] from 6 to 37 (fun v wx => ∃ D bc br, v = .pointer (some ⟨D, 0, none⟩) ∧ Hid (wx.heap[D]? = some (.cells #[.int .i64 N, slN n bc, .slice none 0 0, .slice none 0 0, slN n br, .bool false] 26)) ∧ Hid (OwB wx w.heap.size n bc (cs.map plainM) ∧ OwB wx w.heap.size n br (rs.map plainM) ∧ bc ≠ br) ∧ Hid (Below w.heap.size w wx) ∧ Hid (wx.heap[w.heap.size]? = some (.cells #[.int .i64 N, .slice co n cc, .slice io dn dc, .slice go dn gc, .slice ro n rc, .bool false] 26) ∧ wx.heap[w.heap.size + 1]? = some (.cells #[.int .i64 0, .slice none 0 0, .slice none 0 0, .slice none 0 0, .slice none 0 0, .bool false] 26)) ∧ w.heap.size + 1 < D)
  case first =>
    have bX : Below X.heap.size X X.drew := (Below.refl _ _).drew
    refine wp_region_noPanic ?_
    refine wp_region_held_drew (S := (fun W' => Below X.heap.size X W')) (by kernel_rfl) bX (fun _ => ?_)
    refine takeH 11 (i := 0) (v := ?_) rfl rfl (by kernel_rfl) (by kernel_rfl) (by kernel_rfl) (fun _ _ _ h => h) (Or.inl ⟨by kernel_rfl, ?_⟩) bX ?_
    rotate_left
    · intro w' hSw; obtain ⟨c0, c1, c2, c3, c4, c5⟩ := cells6 ((hSw.block _ (blk_lt HX.out.2.1)).trans HX.out.2.1); go_simp; try with_reducible rfl
    try simp only [Act.put, List.setIfInBounds_toArray, List.set_cons_zero, List.set_cons_succ]
    refine takeH 12 (i := 1) (v := ?_) rfl rfl (by kernel_rfl) (by kernel_rfl) (by kernel_rfl) (fun _ _ _ h => h) (Or.inl ⟨by kernel_rfl, ?_⟩) bX ?_
    rotate_left
    · intro w' hSw; obtain ⟨c0, c1, c2, c3, c4, c5⟩ := cells6 ((hSw.block _ (blk_lt HX.out.2.1)).trans HX.out.2.1); go_simp; try with_reducible rfl
    try simp only [Act.put, List.setIfInBounds_toArray, List.set_cons_zero, List.set_cons_succ]
    refine takeH 13 (i := 2) (v := ?_) rfl rfl (by kernel_rfl) (by kernel_rfl) (by kernel_rfl) (fun _ _ _ h => h) (Or.inl ⟨by kernel_rfl, ?_⟩) bX ?_
    rotate_left
    · intro w' hSw; obtain ⟨c0, c1, c2, c3, c4, c5⟩ := cells6 ((hSw.block _ (blk_lt HX.out.2.1)).trans HX.out.2.1); go_simp; try with_reducible rfl
    try simp only [Act.put, List.setIfInBounds_toArray, List.set_cons_zero, List.set_cons_succ]
    refine takeH 14 (i := 3) (v := ?_) rfl rfl (by kernel_rfl) (by kernel_rfl) (by kernel_rfl) (fun _ _ _ h => h) (Or.inl ⟨by kernel_rfl, ?_⟩) bX ?_
    rotate_left
    · intro w' hSw; obtain ⟨c0, c1, c2, c3, c4, c5⟩ := cells6 ((hSw.block _ (blk_lt HX.out.2.1)).trans HX.out.2.1); go_simp; try with_reducible rfl
    try simp only [Act.put, List.setIfInBounds_toArray, List.set_cons_zero, List.set_cons_succ]
    refine takeH 16 (i := 5) (v := ?_) rfl rfl (by kernel_rfl) (by kernel_rfl) (by kernel_rfl) (fun _ _ _ h => h) (Or.inl ⟨by kernel_rfl, ?_⟩) bX ?_
    rotate_left
    · intro w' hSw; obtain ⟨c0, c1, c2, c3, c4, c5⟩ := cells6 ((hSw.block _ (blk_lt HX.out.2.1)).trans HX.out.2.1); go_simp; try with_reducible rfl
    try simp only [Act.put, List.setIfInBounds_toArray, List.set_cons_zero, List.set_cons_succ]
    refine takeH 17 (i := 6) (v := ?_) rfl rfl (by kernel_rfl) (by kernel_rfl) (by kernel_rfl) (fun _ _ _ h => h) (Or.inl ⟨by kernel_rfl, ?_⟩) bX ?_
    rotate_left
    · intro w' hSw; obtain ⟨c0, c1, c2, c3, c4, c5⟩ := cells6 ((hSw.block _ (blk_lt HX.out.2.1)).trans HX.out.2.1); go_simp; try with_reducible rfl
    try simp only [Act.put, List.setIfInBounds_toArray, List.set_cons_zero, List.set_cons_succ]
    obtain ⟨V, hV⟩ : ∃ V, X.drew = V := ⟨_, rfl⟩
    have bV : Below X.heap.size X V := hV ▸ bX
    rw [hV]
    clear hV bX
    refine wpAnyH_ready (rs := [4, 9]) (by kernel_rfl) (by simp) ?_
    refine consH _ rfl ?_ (consH _ rfl ?_ AllReadyH.nil)
    · refine hopCd 15 rfl (by kernel_rfl) rfl (by kernel_rfl) (Calls.mono (HC.out _ (HX.out.1.trans (bV.mono HX.out.1.size))) ?_)
      rintro e Vc ⟨bc, rfl, o1, hb⟩
      have bVc : Below X.heap.size X Vc := bV.trans (hb.mono bV.size)
      have ocVc := o1.mono bV.size
      clear o1 hb
      refine ⟨_, rfl, bVc, ?_⟩
      try simp only [Act.put, List.setIfInBounds_toArray, List.set_cons_zero, List.set_cons_succ]
      refine wpAnyH_ready (rs := [7, 9]) (by kernel_rfl) (by simp) ?_
      refine consH _ rfl ?_ (consH _ rfl ?_ AllReadyH.nil)
      · refine hopCd 18 rfl (by kernel_rfl) rfl (by kernel_rfl) (Calls.mono (HR.out _ (HX.out.1.trans (bVc.mono HX.out.1.size))) ?_)
        rintro e Vcr ⟨br, rfl, o1, hb⟩
        have bVcr : Below X.heap.size X Vcr := bVc.trans (hb.mono bVc.size)
        have ocVcr := ocVc.later hb
        have hne : bc ≠ br := Nat.ne_of_lt (Nat.lt_of_lt_of_le ocVc.lt o1.lo)
        have orVcr := o1.mono bVc.size
        clear o1 hb
        refine ⟨_, rfl, bVcr, ?_⟩
        try simp only [Act.put, List.setIfInBounds_toArray, List.set_cons_zero, List.set_cons_succ]
        refine takeH 19 (i := 8) (v := .agg #[.int .i64 N, slN n bc, .slice none 0 0, .slice none 0 0, slN n br, .bool false]) rfl rfl (by kernel_rfl) (by kernel_rfl) (by kernel_rfl) (fun _ _ _ h => h) (Or.inl ⟨by kernel_rfl, fun w' _ => by kernel_rfl⟩) bVcr ?_
        try simp only [Act.put, List.setIfInBounds_toArray, List.set_cons_zero, List.set_cons_succ]
        refine wpAnyH_ready (rs := [9]) (by kernel_rfl) (by simp) ?_
        refine consH _ rfl ?_ AllReadyH.nil
        · refine hopAJ 3 rfl rfl rfl 26 rfl #[.int .i64 0, .slice none 0 0, .slice none 0 0, .slice none 0 0, .slice none 0 0, .bool false] allocZJ fun D Vcra hDVcra hDl hb => ?_
          have bVcra : Below X.heap.size X Vcra := bVcr.trans (hb.mono bVcr.size)
          have hDX : X.heap.size ≤ D := Nat.le_trans bVcr.size hDl
          have ocVcra := ocVcr.later hb
          have orVcra := orVcr.later hb
          refine ⟨bVcra, ?_⟩
          try simp only [Act.put, List.setIfInBounds_toArray, List.set_cons_zero, List.set_cons_succ]
          refine wpAnyH_ready (rs := [10]) (by kernel_rfl) (by simp) ?_
          refine consH _ rfl (hopL rfl (wpList_store_row (by rfl) 26 _ _ (by rfl) X X.heap.size D #[.int .i64 N, slN n bc, .slice none 0 0, .slice none 0 0, slN n br, .bool false] _ (by kernel_rfl) (by kernel_rfl) hDVcra bVcra hDX 6 Tryz.infoZ (by rfl) (by rfl) (oneZ _ _ _ _ _ rfl rfl rfl rfl _) fun W9 e9 b9 hs9 ho9 => ?_)) AllReadyH.nil
          refine (And.intro b9 ?_ : _ ∧ _)
          try simp only [Act.put, List.setIfInBounds_toArray, List.set_cons_zero, List.set_cons_succ]
          refine wpAnyH_done (by kernel_rfl) ?_ _
          refine NoPanic.normal ?_
          try simp only [Act.put, List.setIfInBounds_toArray, List.set_cons_zero, List.set_cons_succ]
          go_wp2_with fail
          go_meet
          have hk9 : ∀ (k : Nat) (cur : Array Value), Vcra.heap[k]? = some (.cells cur 45) → W9.heap[k]? = Vcra.heap[k]? := fun k cur hc => ho9 k (by rintro rfl; rw [hDVcra] at hc; cases hc)
          exact ⟨D, bc, br, rfl, e9, ⟨(ocVcra.keep hk9).mono HX.out.1.size, (orVcra.keep hk9).mono HX.out.1.size, hne⟩, HX.out.1.trans (b9.mono HX.out.1.size), ⟨(b9.block _ (blk_lt HX.out.2.1)).trans HX.out.2.1, (b9.block _ (blk_lt HX.out.2.2)).trans HX.out.2.2⟩, Nat.lt_of_lt_of_le (blk_lt HX.out.2.2) hDX⟩
      · refine hopAJ 3 rfl rfl rfl 26 rfl #[.int .i64 0, .slice none 0 0, .slice none 0 0, .slice none 0 0, .slice none 0 0, .bool false] allocZJ fun D Vca hDVca hDl hb => ?_
        have bVca : Below X.heap.size X Vca := bVc.trans (hb.mono bVc.size)
        have hDX : X.heap.size ≤ D := Nat.le_trans bVc.size hDl
        have ocVca := ocVc.later hb
        refine ⟨bVca, ?_⟩
        try simp only [Act.put, List.setIfInBounds_toArray, List.set_cons_zero, List.set_cons_succ]
        refine wpAnyH_ready (rs := [7]) (by kernel_rfl) (by simp) ?_
        refine consH _ rfl ?_ AllReadyH.nil
        · refine hopCd 18 rfl (by kernel_rfl) rfl (by kernel_rfl) (Calls.mono (HR.out _ (HX.out.1.trans (bVca.mono HX.out.1.size))) ?_)
          rintro e Vcar ⟨br, rfl, o1, hb⟩
          have bVcar : Below X.heap.size X Vcar := bVca.trans (hb.mono bVca.size)
          have ocVcar := ocVca.later hb
          have hDVcar := kept hb hDVca
          have hne : bc ≠ br := Nat.ne_of_lt (Nat.lt_of_lt_of_le ocVca.lt o1.lo)
          have orVcar := o1.mono bVca.size
          clear o1 hb
          refine ⟨_, rfl, bVcar, ?_⟩
          try simp only [Act.put, List.setIfInBounds_toArray, List.set_cons_zero, List.set_cons_succ]
          refine takeH 19 (i := 8) (v := .agg #[.int .i64 N, slN n bc, .slice none 0 0, .slice none 0 0, slN n br, .bool false]) rfl rfl (by kernel_rfl) (by kernel_rfl) (by kernel_rfl) (fun _ _ _ h => h) (Or.inl ⟨by kernel_rfl, fun w' _ => by kernel_rfl⟩) bVcar ?_
          try simp only [Act.put, List.setIfInBounds_toArray, List.set_cons_zero, List.set_cons_succ]
          refine wpAnyH_ready (rs := [10]) (by kernel_rfl) (by simp) ?_
          refine consH _ rfl (hopL rfl (wpList_store_row (by rfl) 26 _ _ (by rfl) X X.heap.size D #[.int .i64 N, slN n bc, .slice none 0 0, .slice none 0 0, slN n br, .bool false] _ (by kernel_rfl) (by kernel_rfl) hDVcar bVcar hDX 6 Tryz.infoZ (by rfl) (by rfl) (oneZ _ _ _ _ _ rfl rfl rfl rfl _) fun W9 e9 b9 hs9 ho9 => ?_)) AllReadyH.nil
          refine (And.intro b9 ?_ : _ ∧ _)
          try simp only [Act.put, List.setIfInBounds_toArray, List.set_cons_zero, List.set_cons_succ]
          refine wpAnyH_done (by kernel_rfl) ?_ _
          refine NoPanic.normal ?_
          try simp only [Act.put, List.setIfInBounds_toArray, List.set_cons_zero, List.set_cons_succ]
          go_wp2_with fail
          go_meet
          have hk9 : ∀ (k : Nat) (cur : Array Value), Vcar.heap[k]? = some (.cells cur 45) → W9.heap[k]? = Vcar.heap[k]? := fun k cur hc => ho9 k (by rintro rfl; rw [hDVcar] at hc; cases hc)
          exact ⟨D, bc, br, rfl, e9, ⟨(ocVcar.keep hk9).mono HX.out.1.size, (orVcar.keep hk9).mono HX.out.1.size, hne⟩, HX.out.1.trans (b9.mono HX.out.1.size), ⟨(b9.block _ (blk_lt HX.out.2.1)).trans HX.out.2.1, (b9.block _ (blk_lt HX.out.2.2)).trans HX.out.2.2⟩, Nat.lt_of_lt_of_le (blk_lt HX.out.2.2) hDX⟩
    · refine hopAJ 3 rfl rfl rfl 26 rfl #[.int .i64 0, .slice none 0 0, .slice none 0 0, .slice none 0 0, .slice none 0 0, .bool false] allocZJ fun D Va hDVa hDl hb => ?_
      have bVa : Below X.heap.size X Va := bV.trans (hb.mono bV.size)
      have hDX : X.heap.size ≤ D := Nat.le_trans bV.size hDl
      refine ⟨bVa, ?_⟩
      try simp only [Act.put, List.setIfInBounds_toArray, List.set_cons_zero, List.set_cons_succ]
      refine wpAnyH_ready (rs := [4]) (by kernel_rfl) (by simp) ?_
      refine consH _ rfl ?_ AllReadyH.nil
      · refine hopCd 15 rfl (by kernel_rfl) rfl (by kernel_rfl) (Calls.mono (HC.out _ (HX.out.1.trans (bVa.mono HX.out.1.size))) ?_)
        rintro e Vac ⟨bc, rfl, o1, hb⟩
        have bVac : Below X.heap.size X Vac := bVa.trans (hb.mono bVa.size)
        have hDVac := kept hb hDVa
        have ocVac := o1.mono bVa.size
        clear o1 hb
        refine ⟨_, rfl, bVac, ?_⟩
        try simp only [Act.put, List.setIfInBounds_toArray, List.set_cons_zero, List.set_cons_succ]
        refine wpAnyH_ready (rs := [7]) (by kernel_rfl) (by simp) ?_
        refine consH _ rfl ?_ AllReadyH.nil
        · refine hopCd 18 rfl (by kernel_rfl) rfl (by kernel_rfl) (Calls.mono (HR.out _ (HX.out.1.trans (bVac.mono HX.out.1.size))) ?_)
          rintro e Vacr ⟨br, rfl, o1, hb⟩
          have bVacr : Below X.heap.size X Vacr := bVac.trans (hb.mono bVac.size)
          have ocVacr := ocVac.later hb
          have hDVacr := kept hb hDVac
          have hne : bc ≠ br := Nat.ne_of_lt (Nat.lt_of_lt_of_le ocVac.lt o1.lo)
          have orVacr := o1.mono bVac.size
          clear o1 hb
          refine ⟨_, rfl, bVacr, ?_⟩
          try simp only [Act.put, List.setIfInBounds_toArray, List.set_cons_zero, List.set_cons_succ]
          refine takeH 19 (i := 8) (v := .agg #[.int .i64 N, slN n bc, .slice none 0 0, .slice none 0 0, slN n br, .bool false]) rfl rfl (by kernel_rfl) (by kernel_rfl) (by kernel_rfl) (fun _ _ _ h => h) (Or.inl ⟨by kernel_rfl, fun w' _ => by kernel_rfl⟩) bVacr ?_
          try simp only [Act.put, List.setIfInBounds_toArray, List.set_cons_zero, List.set_cons_succ]
          refine wpAnyH_ready (rs := [10]) (by kernel_rfl) (by simp) ?_
          refine consH _ rfl (hopL rfl (wpList_store_row (by rfl) 26 _ _ (by rfl) X X.heap.size D #[.int .i64 N, slN n bc, .slice none 0 0, .slice none 0 0, slN n br, .bool false] _ (by kernel_rfl) (by kernel_rfl) hDVacr bVacr hDX 6 Tryz.infoZ (by rfl) (by rfl) (oneZ _ _ _ _ _ rfl rfl rfl rfl _) fun W9 e9 b9 hs9 ho9 => ?_)) AllReadyH.nil
          refine (And.intro b9 ?_ : _ ∧ _)
          try simp only [Act.put, List.setIfInBounds_toArray, List.set_cons_zero, List.set_cons_succ]
          refine wpAnyH_done (by kernel_rfl) ?_ _
          refine NoPanic.normal ?_
          try simp only [Act.put, List.setIfInBounds_toArray, List.set_cons_zero, List.set_cons_succ]
          go_wp2_with fail
          go_meet
          have hk9 : ∀ (k : Nat) (cur : Array Value), Vacr.heap[k]? = some (.cells cur 45) → W9.heap[k]? = Vacr.heap[k]? := fun k cur hc => ho9 k (by rintro rfl; rw [hDVacr] at hc; cases hc)
          exact ⟨D, bc, br, rfl, e9, ⟨(ocVacr.keep hk9).mono HX.out.1.size, (orVacr.keep hk9).mono HX.out.1.size, hne⟩, HX.out.1.trans (b9.mono HX.out.1.size), ⟨(b9.block _ (blk_lt HX.out.2.1)).trans HX.out.2.1, (b9.block _ (blk_lt HX.out.2.2)).trans HX.out.2.2⟩, Nat.lt_of_lt_of_le (blk_lt HX.out.2.2) hDX⟩
  case rest =>
  obtain ⟨D, bc, br, rfl, ED, EO, EB, EK, hDl'⟩ := hcut
  have hDl : w.heap.size ≤ D := by omega
  have hD1 : w.heap.size + 1 ≠ D := by omega
  have hDx : D < wc.heap.size := blk_lt ED.out
  clear HX HC HR
  go_wp2_with (first
    | (refine wpList_load_row (by rfl) 26 _ (by rfl) w.heap.size _ (by rfl) EK.out.1 _ Tryz.underlying26 rfl 6 Tryz.infoZ (by rfl) ?_)
    | (go_at_call 54; refine Calls.mono (columns_any _ rfl _) ?_; rintro e w' ⟨rfl, hw⟩; rw [hw]; clear hw))
  obtain ⟨X5, hX5⟩ : ∃ X5, wc = X5 := ⟨_, rfl⟩
  subst hX5
  have V1 : (wc.alloc (.cells #[.int .i64 N, .slice co n cc, .slice io dn dc, .slice go dn gc, .slice ro n rc, .bool false] 26)).heap[D]? = _ := alloc_kept ED.out _
  have V2 : Below w.heap.size w (wc.alloc (.cells #[.int .i64 N, .slice co n cc, .slice io dn dc, .slice go dn gc, .slice ro n rc, .bool false] 26)) := EB.out.alloc EB.out.size _
  have V3 : FrL (wc.alloc (.cells #[.int .i64 N, .slice co n cc, .slice io dn dc, .slice go dn gc, .slice ro n rc, .bool false] 26)) w.heap.size n bc br (cs.map plainM) (rs.map plainM) [] [] (.slice none 0 0) (.slice none 0 0) [] := ⟨EO.out.1.later ((Below.refl _ _).alloc (Nat.le_refl _) _), EO.out.2.1.later ((Below.refl _ _).alloc (Nat.le_refl _) _), World.ownsRow_nil _ _ _ _, World.ownsRow_nil _ _ _ _, ColL.nil _ _ _, EO.out.2.2, by simp, by simp⟩
  have V4 : (wc.alloc (.cells #[.int .i64 N, .slice co n cc, .slice io dn dc, .slice go dn gc, .slice ro n rc, .bool false] 26)).heap[w.heap.size + 1]? = _ := alloc_kept EK.out.2 _
  have V5 : (wc.alloc (.cells #[.int .i64 N, .slice co n cc, .slice io dn dc, .slice go dn gc, .slice ro n rc, .bool false] 26)).heap[wc.heap.size]? = some (.cells #[.int .i64 N, .slice co n cc, .slice io dn dc, .slice go dn gc, .slice ro n rc, .bool false] 26) := heap_alloc_new wc _
  obtain ⟨X, hX⟩ : ∃ X, wc.alloc (.cells #[.int .i64 N, .slice co n cc, .slice io dn dc, .slice go dn gc, .slice ro n rc, .bool false] 26) = X := ⟨_, rfl⟩
  rw [hX] at V1 V2 V3 V4 V5 ⊢
  clear hX ED EO EB EK
  have hxs := blk_lt V5
  have hDX5 : D < wc.heap.size := hDx
  refine (wpIn_wide (n := 3)).1 ?_
  refine wpIn_rangeFunc_ownF rfl (by decide) (gf := 71) (lb := #[.pointer (some ⟨wc.heap.size, 0, none⟩)]) rfl trivial (enters_of Tryz.func71 (by kernel_rfl) rfl)
    (cols_stops Fence.wide 2 trivial rfl (by decide) wc.heap.size ⟨N, co, n, cc, io, dn, dc, go, dn, gc, ro, n, rc, false, cs, ids, gv, gs, rs⟩ (Nat.le_refl _) w X V2 (HZ.out w (Below.refl _ _)) V5) KpZ.trans (kpZ_b V2.size hxs) (Below.refl _ _) (fun _ => rfl)
    (fun pre W => ((∃ vi vg gl, W.heap[D]? = some (.cells #[.int .i64 N, slN n bc, vi, vg, slN n br, .bool false] 26) ∧ FrL W w.heap.size n bc br (cs.map plainM) (rs.map plainM) (pre.map fun k => ids[k.val]?.getD 0) (pre.map fun k => (gs[k.val]?.getD []).map plainM) vi vg gl) ∧ W.heap[wc.heap.size]? = some (.cells #[.int .i64 N, .slice co n cc, .slice io dn dc, .slice go dn gc, .slice ro n rc, .bool false] 26) ∧ W.heap[w.heap.size + 1]? = some (.cells #[.int .i64 0, .slice none 0 0, .slice none 0 0, .slice none 0 0, .slice none 0 0, .bool false] 26)) ∧ Below w.heap.size w W)
    (fun _ _ _ => False)
    (OwnFrom.and (Own.from (fun s A B row hs hg hr => ⟨(by obtain ⟨vi, vg, gl, h1, h2⟩ := hs.1; exact ⟨vi, vg, gl, heap_keptJ h1 hg hr, h2.kept hg hr⟩), heap_keptJ hs.2.1 hg hr, heap_keptJ hs.2.2 hg hr⟩) _) (ownFrom_below (Nat.le_refl _) V2.size))
    (fun _ _ _ _ _ hs _ _ => hs)
    ⟨⟨⟨_, _, [], V1, V3⟩, V5, V4⟩, V2⟩
    ?a1 ?assign ?body ?done ?stop
  case assign =>
    intro l x W K hK
    dsimp only [encZ]
    gi_wp2
    exact hK
  case body =>
    rintro l pre x W ⟨⟨⟨vi, vg, gl, h1, hL⟩, h2, h3⟩, hB⟩ hlen
    have HL0 : Hid (FrL W.drew w.heap.size n bc br (cs.map plainM) (rs.map plainM) (pre.map fun k => ids[k.val]?.getD 0) (pre.map fun k => (gs[k.val]?.getD []).map plainM) vi vg gl) := hL.keep fun _ _ _ _ _ => rfl
    have HG : Hid _ := HGa.out x.val x.isLt
    have HBS : Hid (w.heap.size ≤ W.drew.heap.size) := hB.size
    have hgl : gl.length = pre.length := by have := hL.col.len; simpa using this
    have HLI : Hid (((pre.map fun k => ids[k.val]?.getD 0).map (Value.int .i64)).length + 1 ≤ 4000000) := by unfold Hid; simp only [List.length_map]; dsimp only at hlen; omega
    have HLG : Hid ((gl.map (slN n)).length + 1 ≤ 4000000) := by unfold Hid; simp only [List.length_map]; dsimp only at hlen; omega
    have hS0 : W.drew.heap[D]? = some (.cells #[.int .i64 N, slN n bc, vi, vg, slN n br, .bool false] 26) := h1
    obtain ⟨xi, hxi⟩ : ∃ xi, ids[x.val]?.getD 0 = xi := ⟨_, rfl⟩
    rw [hxi]
    clear hgl
    refine wpIn_block ?_
    refine wpIn_round_P (fun V => V.heap[D]? = some (.cells #[.int .i64 N, slN n bc, vi, vg, slN n br, .bool false] 26)) 12 (by kernel_rfl) (by kernel_rfl) ?_
    refine takeP0 24 (i := 0) (v := ?_) rfl rfl (by kernel_rfl) (by kernel_rfl) (by kernel_rfl) rfl (fun _ _ _ h => h) (Or.inl ⟨by kernel_rfl, ?_⟩) (fun _ => hS0) ?_
    rotate_left
    · intro w' hSw; go_simp; try with_reducible rfl
    try simp only [Act.put, List.setIfInBounds_toArray, List.set_cons_zero, List.set_cons_succ]
    refine takeP 25 (i := 1) (v := ?_) rfl rfl (by kernel_rfl) (by kernel_rfl) (by kernel_rfl) (by kernel_rfl) rfl (by kernel_rfl) (fun _ _ _ h => h) (Or.inl ⟨by kernel_rfl, ?_⟩) hS0 ?_
    rotate_left
    · intro w' hSw; (try obtain ⟨c0, c1, c2, c3, c4, c5⟩ := cells6 hSw); go_simp; try with_reducible rfl
    try simp only [Act.put, List.setIfInBounds_toArray, List.set_cons_zero, List.set_cons_succ]
    refine takeP0 26 (i := 2) (v := ?_) rfl rfl (by kernel_rfl) (by kernel_rfl) (by kernel_rfl) rfl (fun _ _ _ h => h) (Or.inl ⟨by kernel_rfl, ?_⟩) (fun _ => hS0) ?_
    rotate_left
    · intro w' hSw; go_simp; try with_reducible rfl
    try simp only [Act.put, List.setIfInBounds_toArray, List.set_cons_zero, List.set_cons_succ]
    refine takeP0 29 (i := 5) (v := ?_) rfl rfl (by kernel_rfl) (by kernel_rfl) (by kernel_rfl) rfl (fun _ _ _ h => h) (Or.inl ⟨by kernel_rfl, ?_⟩) (fun _ => hS0) ?_
    rotate_left
    · intro w' hSw; go_simp; try with_reducible rfl
    try simp only [Act.put, List.setIfInBounds_toArray, List.set_cons_zero, List.set_cons_succ]
    refine takeP 30 (i := 6) (v := ?_) rfl rfl (by kernel_rfl) (by kernel_rfl) (by kernel_rfl) (by kernel_rfl) rfl (by kernel_rfl) (fun _ _ _ h => h) (Or.inl ⟨by kernel_rfl, ?_⟩) hS0 ?_
    rotate_left
    · intro w' hSw; (try obtain ⟨c0, c1, c2, c3, c4, c5⟩ := cells6 hSw); go_simp; try with_reducible rfl
    try simp only [Act.put, List.setIfInBounds_toArray, List.set_cons_zero, List.set_cons_succ]
    refine takeP0 31 (i := 7) (v := ?_) rfl rfl (by kernel_rfl) (by kernel_rfl) (by kernel_rfl) rfl (fun _ _ _ h => h) (Or.inl ⟨by kernel_rfl, ?_⟩) (fun _ => hS0) ?_
    rotate_left
    · intro w' hSw; go_simp; try with_reducible rfl
    try simp only [Act.put, List.setIfInBounds_toArray, List.set_cons_zero, List.set_cons_succ]
    refine wpAnyP_ready (rs := [3]) (by kernel_rfl) (by simp) ?_
    refine consP _ rfl (hopV 27 (v := .slice (some ⟨W.drew.heap.size, 0, none⟩) 1 1) (w' := W.drew.alloc (.cells #[.int .i64 xi] 3)) rfl rfl rfl (by kernel_rfl) ?_) AllReadyP.nil
    refine ⟨alloc_kept hS0 _, ?_⟩
    try simp only [Act.put, List.setIfInBounds_toArray, List.set_cons_zero, List.set_cons_succ]
    refine wpAnyP_ready (rs := [4]) (by kernel_rfl) (by simp) ?_
    refine consP _ rfl (hopL rfl (append_gr1M Tryz.underlying23 Tryz.infoIJ rfl (by decide) W.drew (by rfl) _ _ (by rfl) w.heap.size vi _ (by kernel_rfl) HL0.out.i (.int .i64 xi) (by kernel_rfl) rfl HLI.out HBS.out fun v4 w4 o4 g4 => ?_)) AllReadyP.nil
    change QK _ _ Exit.normal (Act.put _ (some 28) v4) w4
    have hS4 := (grw_types HL0.out.i g4 D _ _ (by decide) hS0).trans hS0
    have L4 := HL0.out.pushI g4 o4
    have q4 : Below w.heap.size W w4 := (fun (h : Below w.heap.size W.drew w4) => ⟨h.os, h.tape, h.output, h.size, h.block⟩) (g4.below (fun k hk => (World.ownsRow.lt HL0.out.i k hk).1) HBS.out)
    have t4 : ∀ (k : Nat) (cur : Array Value) (t : TypeId), t ≠ 3 → W.heap[k]? = some (.cells cur t) → w4.heap[k]? = W.heap[k]? := fun k cur t ht hc => grw_types HL0.out.i g4 k cur t ht hc
    have k4 : ∀ (k : Nat) (o : Obj), W.heap[k]? = some o → o.isCells = false → w4.heap[k]? = some o := fun k o hk hc => grw_keeps HL0.out.i g4 k o hk hc
    refine (And.intro hS4 ?_ : _ ∧ _)
    try simp only [Act.put, List.setIfInBounds_toArray, List.set_cons_zero, List.set_cons_succ]
    clear g4
    refine takeP0 35 (i := 11) (v := ?_) rfl rfl (by kernel_rfl) (by kernel_rfl) (by kernel_rfl) rfl (fun _ _ _ h => h) (Or.inl ⟨by kernel_rfl, ?_⟩) (fun _ => hS4) ?_
    rotate_left
    · intro w' hSw; go_simp; try with_reducible rfl
    try simp only [Act.put, List.setIfInBounds_toArray, List.set_cons_zero, List.set_cons_succ]
    refine wpAnyP_ready (rs := [8]) (by kernel_rfl) (by simp) ?_
    refine consP _ rfl (hopCd 32 rfl (by kernel_rfl) rfl (by kernel_rfl) (Calls.mono (HG.out _ (hB.trans q4)) ?_)) AllReadyP.nil
    rintro e w5 ⟨b, rfl, o5, q5⟩
    have hS5 := kept q5 hS4
    have L5 := L4.later q5
    have nb : b ≠ bc ∧ b ≠ br ∧ b ∉ gl := ⟨Nat.ne_of_gt (Nat.lt_of_lt_of_le L4.c.lt o5.lo), Nat.ne_of_gt (Nat.lt_of_lt_of_le L4.r.lt o5.lo), fun hm => absurd (L4.col.mem_lt hm) (Nat.not_lt.2 o5.lo)⟩
    have o5' := o5.mono (Nat.le_trans HBS.out q4.size)
    refine ⟨_, rfl, hS5, ?_⟩
    try simp only [Act.put, List.setIfInBounds_toArray, List.set_cons_zero, List.set_cons_succ]
    refine wpAnyP_ready (rs := [9]) (by kernel_rfl) (by simp) ?_
    refine consP _ rfl (hopV 33 (v := .slice (some ⟨w5.heap.size, 0, none⟩) 1 1) (w' := w5.alloc (.cells #[slN n b] 22)) rfl rfl rfl (by kernel_rfl) ?_) AllReadyP.nil
    refine ⟨alloc_kept hS5 _, ?_⟩
    try simp only [Act.put, List.setIfInBounds_toArray, List.set_cons_zero, List.set_cons_succ]
    refine wpAnyP_ready (rs := [10]) (by kernel_rfl) (by simp) ?_
    refine consP _ rfl (hopL rfl (append_gr1M Tryz.underlying24 Tryz.infoFsJ rfl (by decide) w5 (by rfl) _ _ (by rfl) w.heap.size vg _ (by kernel_rfl) L5.g (slN n b) (by kernel_rfl) rfl HLG.out (Nat.le_trans HBS.out (Nat.le_trans q4.size q5.size)) fun v6 w6 o6 g6 => ?_)) AllReadyP.nil
    change QK _ _ Exit.normal (Act.put _ (some 34) v6) w6
    have hS6 := (grw_types L5.g g6 D _ _ (by decide) hS5).trans hS5
    have L6 := L5.pushG g6 o6 o5' nb.1 nb.2.1 nb.2.2
    have q6 : Below w.heap.size w5 w6 := (g6.below (fun k hk => (World.ownsRow.lt L5.g k hk).1) (Nat.le_trans HBS.out (Nat.le_trans q4.size q5.size)))
    have t6 : ∀ (k : Nat) (cur : Array Value) (t : TypeId), t ≠ 22 → w5.heap[k]? = some (.cells cur t) → w6.heap[k]? = w5.heap[k]? := grw_types L5.g g6
    have k6 : ∀ (k : Nat) (o : Obj), w5.heap[k]? = some o → o.isCells = false → w6.heap[k]? = some o := grw_keeps L5.g g6
    refine (And.intro hS6 ?_ : _ ∧ _)
    try simp only [Act.put, List.setIfInBounds_toArray, List.set_cons_zero, List.set_cons_succ]
    have qW6 : Below w.heap.size w w6 := hB.trans (q4.trans ((q5.mono (Nat.le_trans HBS.out q4.size)).trans q6))
    clear g6
    refine wpAnyP_ready (rs := [12]) (by kernel_rfl) (by simp) ?_
    refine consPs _ rfl (by kernel_rfl) (hopL rfl (wpList_store_at (by rfl) 23 _ _ (by rfl) w w.heap.size D 2 v4 _ #[.int .i64 N, slN n bc, v4, vg, slN n br, .bool false] 26 (by kernel_rfl) (by kernel_rfl) hS6 qW6 hDl 1 Tryz.szIs (by rw [(own_valJ L6.i).2]; rfl) (Nat.le_of_ble_eq_true rfl) (by intro u hu; rw [(own_valJ L6.i).2] at hu; simp only [List.mem_cons, List.not_mem_nil, or_false] at hu; subst hu; exact (own_valJ L6.i).1) (by rw [(own_valJ L6.i).2]; rfl) fun w7 e7 b7 s7 k7 => ?_)) AllReadyP.nil
    refine (And.intro trivial ?_ : _ ∧ _)
    try simp only [Act.put, List.setIfInBounds_toArray, List.set_cons_zero, List.set_cons_succ]
    refine takeP0 36 (i := 13) (v := ?_) rfl rfl (by kernel_rfl) (by kernel_rfl) (by kernel_rfl) rfl (fun _ _ _ h => h) (Or.inl ⟨by kernel_rfl, ?_⟩) (fun e => by cases e) ?_
    rotate_left
    · intro w' hSw; go_simp; try with_reducible rfl
    try simp only [Act.put, List.setIfInBounds_toArray, List.set_cons_zero, List.set_cons_succ]
    refine wpAnyP_ready (rs := [14]) (by kernel_rfl) (by simp) ?_
    refine consPs _ rfl (by kernel_rfl) (hopL rfl (wpList_store_at (by rfl) 24 _ _ (by rfl) w w.heap.size D 3 v6 _ #[.int .i64 N, slN n bc, v4, v6, slN n br, .bool false] 26 (by kernel_rfl) (by kernel_rfl) e7 b7 hDl 1 Tryz.szFss (by rw [(own_valJ L6.g).2]; rfl) (Nat.le_of_ble_eq_true rfl) (by intro u hu; rw [(own_valJ L6.g).2] at hu; simp only [List.mem_cons, List.not_mem_nil, or_false] at hu; subst hu; exact (own_valJ L6.g).1) (by rw [(own_valJ L6.g).2]; rfl) fun w8 e8 b8 s8 k8 => ?_)) AllReadyP.nil
    refine (And.intro trivial ?_ : _ ∧ _)
    try simp only [Act.put, List.setIfInBounds_toArray, List.set_cons_zero, List.set_cons_succ]
    refine wpAnyP_done (by kernel_rfl) ?_ _
    try simp only [Act.put, List.setIfInBounds_toArray, List.set_cons_zero, List.set_cons_succ]
    have kk : ∀ k, k ≠ D → w8.heap[k]? = w6.heap[k]? := fun k hk => (k8 k hk).trans (k7 k hk)
    have L8 := L6.keep (w' := w8) fun k cur t ht hc => kk k (by rintro rfl; rw [hS6] at hc; cases hc; exact ht rfl)
    have zk : ∀ (k : Nat) (cur : Array Value), k ≠ D → W.heap[k]? = some (.cells cur 26) → w8.heap[k]? = some (.cells cur 26) := fun k cur hk hc => by
      have h1 := (t4 k cur _ (by decide) hc).trans hc
      have h2 := kept q5 h1
      exact (kk k hk).trans ((t6 k cur _ (by decide) h2).trans h2)
    have hko : KeepsOthers W w8 := ⟨by rw [s8, s7]; exact Nat.le_trans q4.size (Nat.le_trans q5.size q6.size), fun k o hk hc => by
      have hkD : k ≠ D := by rintro rfl; rw [show W.heap[k]? = _ from hS0] at hk; cases hk; cases hc
      exact (kk k hkD).trans (k6 k o ((q5.block k (blk_lt (k4 k o hk hc))).trans (k4 k o hk hc)) hc)⟩
    have b8W : Below w.heap.size W w8 := ⟨b8.os.trans hB.os.symm, b8.tape.trans hB.tape.symm, b8.output.trans hB.output.symm, hko.1, fun k hk => (b8.block k hk).trans (hB.block k hk).symm⟩
    have z5 := zk _ _ (Nat.ne_of_gt hDX5) h2
    have z6 := zk _ _ hD1 h3
    refine ⟨hko, ⟨b8W, z5.trans h2.symm⟩, ⟨⟨v4, v6, gl ++ [b], e8, ?_⟩, z5, z6⟩, b8⟩
    rw [← hxi] at L8
    rw [List.map_append, List.map_append]
    exact L8
  case done =>
    rintro Dd ys W hD rfl ⟨⟨⟨vi, vg, gl, h1, hL⟩, h2, h3⟩, hB⟩ hK
    rw [map_getD ids 0 dn HLN.out.1, map_getD2 gs [] (·.map plainM) dn HLN.out.2] at hL
    have hDw : w.heap.size ≤ Dd := Nat.le_trans V2.size hD
    have HH : Hid _ := And.intro h1 (And.intro hL h3)
    clear h1 h2 h3 hL V1 V3 V4 V5 HGa HZ
    go_wp2_with (first
      | (refine wpList_load_row (by rfl) 26 _ (by rfl) D _ (by rfl) HH.out.1 _ Tryz.underlying26 rfl 6 Tryz.infoZ (by rfl) ?_)
      | (refine wpList_store_row (by rfl) 26 _ _ (by rfl) w w.heap.size (w.heap.size + 1) _ _ (by rfl) (by rfl) HH.out.2.2 hB (Nat.le_succ _) 6 Tryz.infoZ (by rfl) (by rfl) (oneZ _ _ _ _ _ rfl (own_valJ HH.out.2.1.i).1 (own_valJ HH.out.2.1.g).1 rfl _) ?_; intro W9 e9 b9 s9 o9))
    have hK9 : W9.heap[Dd]? = some (.deferred (some [])) := (o9 Dd (by rintro rfl; rw [HH.out.2.2] at hK; cases hK)).trans hK
    refine ⟨by simp, .inl ⟨_, _, rfl, run_takeDeferred hK9, ?_⟩⟩
    have hgr := grownBy_putObj' W9 Dd (.deferred none)
    have hrr : ∀ r, some Dd = some r → ∃ o, W9.heap[r]? = some o ∧ o.isCells = false := fun r e => by cases e; exact ⟨_, hK9, rfl⟩
    have L9 := HH.out.2.1.keep (w' := W9) fun k cur t ht hc => o9 k (by rintro rfl; rw [HH.out.2.2] at hc; cases hc; exact ht rfl)
    exact ⟨_, res_oneJ _ 2 26 (by kernel_rfl) _ _ (w.heap.size + 1) _ (by rfl) _ Tryz.underlying26 rfl 6 Tryz.infoZ rfl (heap_keptJ e9 hgr hrr), bc, br, vi, vg, gl, rfl, L9.kept hgr hrr, b9.trans (belowK_b (w := w) (Nat.le_refl _) W9 Dd _ _ hDw hK9 rfl rfl)⟩
  case stop =>
    rintro D c pre W _ _ h _
    exact h.elim
end Go.Proofs.YtogdfdhdmfkmaaaGreat

namespace Go.Proofs.YtogdfdhdmfkmaaaGreat
open Go.RowKit Go.Shelf
set_option linter.unusedVariables false
set_option linter.unusedSimpArgs false

/-- One element built. -/
theorem hopBJ {P : Program} {ops : Array Oper} {Q : Exit → Act → World → Prop} {i : Nat} {o : Oper} {K : Act → World → Prop} {a : Act} {w : World} (d : Nat) (y : Value) (E : TypeId) (ho : ops[i]? = some o) (hg : o.guard = none) (hd : o.dst = some d)
    (hr : (execOp a.eval o).run P w = .ok (.value (.slice (some ⟨w.heap.size, 0, none⟩) 1 1)) (w.alloc (.cells #[y] E)))
    (h : ∀ I W', W'.heap[I]? = some (.cells #[y] E) → Below w.heap.size w W' → K (a.put (some d) (.slice (some ⟨I, 0, none⟩) 1 1)) W') : wpOp P ops Q i K a w :=
  hopV d ho hg hd hr (h _ _ (heap_alloc_new w _) ((Below.refl _ w).alloc (Nat.le_refl _) _))
theorem news_oneJ {W : World} {I : Nat} {y : Value} {E : TypeId} (h : W.heap[I]? = some (.cells #[y] E)) : ∀ j u, [y][j]? = some u → W.cell? ((⟨I, 0, none⟩ : Addr).add j) = some u := by
  intro j u hj
  match j, hj with
  | 0, hj =>
    simp only [List.getElem?_cons_zero, Option.some.injEq] at hj
    subst hj
    rw [Addr.add_lit, cell_of_row _ I _ _ _ _ h]
    rfl
/-- A number of a list in a block of its own is written over. -/
theorem OwB.set {w : World} {base n b : Nat} {us : List Nat} (h : OwB w base n b us) {k u : Nat} (hk : k < n) (hu : u < 18446744073709551616) : OwB (w.setCell ⟨b, k, none⟩ (.float .f64 u)) base n b (us.set k u) := by
  obtain ⟨cur, hc⟩ := h.cur
  have hl := h.rd.length
  refine ⟨h.lo, ⟨_, heap_setCell_same w b k _ _ _ hc⟩, ⟨by rw [List.length_set]; exact hl, h.rd.max, fun x hx => ?_, .inr ⟨b, 0, rfl, fun j hj => ?_⟩⟩⟩
  · rcases List.mem_or_eq_of_mem_set hx with h1 | h1
    · exact h.rd.lt x h1
    · rw [h1]; exact hu
  · rcases h.rd.cells with h0 | ⟨b', off, e, hcs⟩
    · omega
    cases e
    rw [Nat.zero_add]
    by_cases e : j = k
    · subst e
      rw [World.cell?_setCell_same' _ _ _ (by have := hcs j hj; rw [Nat.zero_add] at this; rw [this]; rfl), List.getElem?_set_self (by omega)]
      rfl
    · rw [World.cell?_setCell_other _ _ _ _ (by intro c; cases c; exact e rfl), List.getElem?_set_ne (fun c => e c.symm)]
      have := hcs j hj
      rw [Nat.zero_add] at this
      exact this
end Go.Proofs.YtogdfdhdmfkmaaaGreat

