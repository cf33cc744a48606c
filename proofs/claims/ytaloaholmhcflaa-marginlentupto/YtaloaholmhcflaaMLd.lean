import Derived.OwnWalk
import Derived.ArgAppend
import Derived.Laws.AppendOwn
import Derived.Test.YtaloaholmhcflaaMLc
namespace Go.Proofs.Ytaloaholmhcflaa
open Go.RowKit Go.Shelf
set_option linter.unusedVariables false
set_option linter.unusedSimpArgs false
theorem info3P {P : Program} {E : TypeId} {z : Value} {size bytes : Nat} (h : (P.info? E).map (fun i => (i.zero, i.size, i.bytes)) = some (some z, size, bytes)) : ∃ i, P.info? E = some i ∧ i.zero = some z ∧ i.size = size ∧ i.bytes = bytes := by
  obtain ⟨i, h1, h2⟩ := Option.map_eq_some_iff.1 h
  simp only [Prod.mk.injEq] at h2
  exact ⟨i, h1, h2.1, h2.2.1, h2.2.2⟩
/-- Where an append's answer lies. -/
def Gx (W w' : World) (v v' : Value) (n m : Nat) : Prop :=
  (∃ g cap, v = .slice (some ⟨g, 0, none⟩) n cap ∧ v' = .slice (some ⟨g, 0, none⟩) (n + m) cap ∧ W.grownBy w' (some g)) ∨
  ((∀ g cap, v = .slice (some ⟨g, 0, none⟩) n cap → cap < n + m) ∧ W.grownBy w' none ∧ ∀ k, v'.ownBlock = some k → W.heap.size ≤ k)
/-- A list at the beginning of a block; where it has room, the block is just so long. -/
def OwX (W : World) (base : Nat) (E : TypeId) (v : Value) (n : Nat) (xs : List Value) : Prop := xs.length = n ∧ ((v = .slice none 0 0 ∧ n = 0) ∨ ∃ g cap cur, v = .slice (some ⟨g, 0, none⟩) n cap ∧ base ≤ g ∧ W.heap[g]? = some (.cells cur E) ∧ n ≤ cap ∧ cap ≤ maxLen ∧ n ≤ cur.size ∧ (n < cap → cur.size = cap) ∧ cur.toList.take n = xs)
theorem OwX.of {W : World} {base : Nat} {E : TypeId} {v : Value} {n : Nat} {xs : List Value} (h : W.ownsRow base E 1 v n xs) : OwX W base E v n xs := by
  refine ⟨by rw [h.1, Nat.mul_one], ?_⟩
  rcases h.2 with h1 | ⟨g, cap, cur, h1, h2, h3, h4, h5, h6, h7⟩
  · exact .inl h1
  · rw [Nat.mul_one] at h6 h7
    exact .inr ⟨g, cap, cur, h1, h2, h3, h4, h5, by omega, fun _ => h6, h7⟩
theorem OwX.lt {W : World} {base : Nat} {E : TypeId} {v : Value} {n : Nat} {xs : List Value} (h : OwX W base E v n xs) (k : Nat) (hk : v.ownBlock = some k) : base ≤ k ∧ k < W.heap.size := by
  rcases h.2 with ⟨rfl, _⟩ | ⟨g, cap, cur, rfl, h2, h3, _⟩
  · cases hk
  · cases hk; exact ⟨h2, blk_lt h3⟩
theorem OwX.ty {W : World} {base : Nat} {E : TypeId} {v : Value} {n : Nat} {xs : List Value} (h : OwX W base E v n xs) (k : Nat) (hk : v.ownBlock = some k) : ∃ cur, W.heap[k]? = some (.cells cur E) := by
  rcases h.2 with ⟨rfl, _⟩ | ⟨g, cap, cur, rfl, h2, h3, _⟩
  · cases hk
  · cases hk; exact ⟨cur, h3⟩
theorem OwX.ne {W : World} {base base' : Nat} {E E' : TypeId} {v v' : Value} {n n' : Nat} {xs xs' : List Value} (h : OwX W base E v n xs) (h' : OwX W base' E' v' n' xs') (hne : E ≠ E') (k : Nat) (e : v.ownBlock = some k) : v'.ownBlock ≠ some k := by
  intro e'
  obtain ⟨c, hc⟩ := h.ty k e
  obtain ⟨c', hc'⟩ := h'.ty k e'
  rw [hc] at hc'
  injection hc' with hc'
  injection hc' with _ hc'
  exact hne hc'
theorem OwX.keep {W W' : World} {base : Nat} {E : TypeId} {v : Value} {n : Nat} {xs : List Value} (h : OwX W base E v n xs) (hk : ∀ k, v.ownBlock = some k → W'.heap[k]? = W.heap[k]?) : OwX W' base E v n xs := by
  refine ⟨h.1, ?_⟩
  rcases h.2 with h1 | ⟨g, cap, cur, h1, h2, h3, r⟩
  · exact .inl h1
  · exact .inr ⟨g, cap, cur, h1, h2, (hk g (by rw [h1]; rfl)).trans h3, r⟩
theorem OwX.alloc {W : World} {base : Nat} {E : TypeId} {v : Value} {n : Nat} {xs : List Value} (h : OwX W base E v n xs) (o : Obj) : OwX (W.alloc o) base E v n xs := h.keep fun k hk => Below.heap_alloc W o k (h.lt k hk).2
theorem OwX.form {W : World} {base : Nat} {E : TypeId} {v : Value} {n : Nat} {xs : List Value} (h : OwX W base E v n xs) : ∃ ao cap, v = .slice ao n cap ∧ n ≤ maxLen := by
  rcases h.2 with ⟨rfl, rfl⟩ | ⟨g, cap, cur, rfl, h2, h3, h4, h5, _⟩
  · exact ⟨none, 0, rfl, Nat.zero_le _⟩
  · exact ⟨_, cap, rfl, by omega⟩
/-- append(s, x...), elements of one cell: where the answer lies, and with which room. -/
theorem append_gx {P : Program} {SE E : TypeId} {z : Value} {bytes : Nat} (hu : P.underlying SE = some (.slice E)) (hinfo : (P.info? E).map (fun i => (i.zero, i.size, i.bytes)) = some (some z, 1, bytes)) (hzc : z.cells.size = 1) (hby : bytes ≤ 64)
    {ops : Array Oper} {rest : List Oper} {o : Oper} {a : Act} {Q : Exit → Act → World → Prop} (W : World) (hgd : o.guard = none) (s x : Operand) (ho : o.op = .call { callee := .builtin .append, args := #[s, x], argTypes := #[SE, SE] })
    (base : Nat) (v : Value) (n : Nat) (xs : List Value) (hs : a.eval s = v) (hown : OwX W base E v n xs)
    (ad : Addr) (m c : Nat) (news : List Value) (hx : a.eval x = .slice (some ad) m c) (hl : news.length = m) (hm : 0 < m) (hnews : ∀ j u, news[j]? = some u → W.cell? (ad.add j) = some u) (h1 : ∀ u ∈ news, u.oneCell' = true)
    (hlen : n + m ≤ 2000000) (hbase : base ≤ W.heap.size)
    (h : ∀ v' w', w'.ownsRow base E 1 v' (n + m) (xs ++ news) → Gx W w' v v' n m → wpList P ops Q rest (a.put o.dst v') w') : wpList P ops Q (o :: rest) a W := by
  obtain ⟨i0, hi, hz0, hz1, hz2⟩ := info3P hinfo
  have hb2 : (n + m) * bytes ≤ 140737488355328 := Nat.le_trans (Nat.mul_le_mul hlen hby) (by decide)
  have hmx : n + m ≤ maxLen := Nat.le_trans hlen (by decide)
  have grow : ∀ (w' : World) (v' : Value), (∀ g cap, v = .slice (some ⟨g, 0, none⟩) n cap → cap < n + m) → w'.ownsRow W.heap.size E 1 v' (n + m) (xs ++ news) → W.grownBy w' none → wpList P ops Q rest (a.put o.dst v') w' := by
    intro w' v' g0 g1 g2
    exact h v' w' (owns_monoJ g1 hbase) (.inr ⟨g0, g2, fun k hk => (World.ownsRow.lt g1 k hk).1⟩)
  rcases hown.2 with ⟨rfl, rfl⟩ | ⟨g, cap, cur, hv, hg, hh, k1, k2, k3, k4, k5⟩
  · have hx0 : xs = [] := List.eq_nil_of_length_eq_zero hown.1
    subst hx0
    refine wpList_append_grows W hgd s x SE ho E i0 z 1 bytes hu hi hz0 hz1 hz2 hzc (by decide) none 0 0 [] hs (fun _ => ⟨rfl, rfl⟩) (by simp) (fun b hb => by cases hb) ad m c news hx (by omega) hnews h1 (by omega) hmx hb2 ?_
    intro v' w' r1 r2
    exact grow w' v' (fun g cap e => by cases e) r1 r2
  · by_cases hr : n + m ≤ cap
    · subst hv
      have hcs := k4 (by omega)
      refine wpList_append_fits W hgd s x SE ho base E i0 1 hu hi hz1 g n cap xs hs ⟨by rw [hown.1, Nat.mul_one], .inr ⟨g, cap, cur, rfl, hg, hh, k1, k2, by omega, by rw [Nat.mul_one]; exact k5⟩⟩ ad m c news hx (by omega) hnews h1 hr ?_
      intro w' r1 r2
      exact h _ w' r1 (.inl ⟨g, cap, rfl, rfl, r2⟩)
    · refine wpList_append_grows W hgd s x SE ho E i0 z 1 bytes hu hi hz0 hz1 hz2 hzc (by decide) (some ⟨g, 0, none⟩) n cap xs (by rw [hs, hv]) (fun c => by cases c) (by rw [hown.1, Nat.mul_one]) ?_ ad m c news hx (by omega) hnews h1 (by omega) hmx hb2 ?_
      · intro b hb j u hj
        cases hb
        have hj' : j < n := by have := (List.getElem?_eq_some_iff.1 hj).1; rw [hown.1] at this; exact this
        rw [Addr.add_lit, cell_of_row _ g _ _ _ _ hh, Nat.zero_add, ← hj, ← k5, List.getElem?_take, if_pos hj', Array.getElem?_toList]
      · intro v' w' r1 r2
        exact grow w' v' (fun g' cap' e => by rw [hv] at e; cases e; omega) r1 r2
theorem setP_cells {c : Array Value} {k : Nat} {v : Value} (hk : k < c.size) (hv : v.cells.toList = [v]) : ∃ d : Array Value, (c.toList.take k ++ v.cells.toList ++ c.toList.drop (k + 1)).toArray = d ∧ d.size = c.size ∧ d[k]? = some v ∧ ∀ j, j ≠ k → d[j]? = c[j]? := by
  refine ⟨_, rfl, ?_, ?_, fun j hj => ?_⟩
  · rw [hv]; simp; omega
  · rw [hv]
    simp only [List.getElem?_toArray]
    rw [List.getElem?_append_left (by simp; omega), List.getElem?_append_right (by simp; omega)]
    have h3 : min k c.size = k := by omega
    simp [h3]
  · rw [hv]
    simp only [List.getElem?_toArray]
    by_cases h1 : j < k
    · rw [List.append_assoc, List.getElem?_append_left (by simp; omega), List.getElem?_take_of_lt h1, Array.getElem?_toList]
    · have hlen : (c.toList.take k ++ [v]).length = k + 1 := by simp; omega
      rw [List.getElem?_append_right (by omega), hlen, List.getElem?_drop, show k + 1 + (j - (k + 1)) = j by omega, Array.getElem?_toList]
theorem Gx.size {W W' : World} {v v' : Value} {n m : Nat} (h : Gx W W' v v' n m) : W.heap.size ≤ W'.heap.size := by
  rcases h with ⟨_, _, _, _, h⟩ | ⟨_, h, _⟩ <;> exact h.size
theorem Gx.alloc {W W' : World} {v v' : Value} {n m : Nat} {o : Obj} (h : Gx (W.alloc o) W' v v' n m) : Gx W W' v v' n m := by
  have hsz : (W.alloc o).heap.size = W.heap.size + 1 := Array.size_push ..
  rcases h with ⟨g, cap, h1, h2, g1⟩ | ⟨h1, g1, h2⟩
  · exact .inl ⟨g, cap, h1, h2, g1.os, g1.tape, g1.output, by have := g1.size; omega, fun j hj hne => by rw [g1.block j (by omega) hne, Below.heap_alloc W _ j hj]⟩
  · exact .inr ⟨h1, ⟨g1.os, g1.tape, g1.output, by have := g1.size; omega, fun j hj hne => by rw [g1.block j (by omega) hne, Below.heap_alloc W _ j hj]⟩, fun k hk => by have := h2 k hk; omega⟩
/-- A list of values at the beginning of a block of its own, with its room. -/
def OwV (W : World) (base : Nat) (E : TypeId) (G n c : Nat) (vs : List Value) : Prop := W.ownsRow base E 1 (.slice (some ⟨G, 0, none⟩) n c) n vs
theorem OwV.get {W : World} {base G n c : Nat} {E : TypeId} {vs : List Value} (h : OwV W base E G n c vs) : vs.length = n ∧ base ≤ G ∧ n ≤ c ∧ c ≤ maxLen ∧ ∃ cur, W.heap[G]? = some (.cells cur E) ∧ cur.size = c ∧ cur.toList.take n = vs := by
  have h1 := h.1
  rw [Nat.mul_one] at h1
  rcases h.2 with ⟨h2, _⟩ | ⟨g, cap, cur, hv, hg, hh, k1, k2, k3, k4⟩
  · cases h2
  · cases hv
    rw [Nat.mul_one] at k3 k4
    exact ⟨h1, hg, k1, k2, cur, hh, k3, k4⟩
theorem OwV.mk {W : World} {base G n c : Nat} {E : TypeId} {vs : List Value} (h1 : vs.length = n) (h2 : base ≤ G) (h3 : n ≤ c) (h4 : c ≤ maxLen) (cur : Array Value) (h5 : W.heap[G]? = some (.cells cur E)) (h6 : cur.size = c) (h7 : cur.toList.take n = vs) : OwV W base E G n c vs :=
  ⟨by rw [Nat.mul_one]; exact h1, .inr ⟨G, c, cur, rfl, h2, h5, h3, h4, by rw [Nat.mul_one]; exact h6, by rw [Nat.mul_one]; exact h7⟩⟩
theorem OwV.b {W : World} {base G n c : Nat} {E : TypeId} {vs : List Value} (h : OwV W base E G n c vs) : base ≤ G := h.get.2.1
theorem OwV.lt {W : World} {base G n c : Nat} {E : TypeId} {vs : List Value} (h : OwV W base E G n c vs) : G < W.heap.size := by
  obtain ⟨_, _, _, _, cur, h1, _⟩ := h.get
  exact blk_lt h1
theorem OwV.keep {W W' : World} {base G n c : Nat} {E : TypeId} {vs : List Value} (h : OwV W base E G n c vs) (hk : W'.heap[G]? = W.heap[G]?) : OwV W' base E G n c vs := owns_keep h fun k hk' => by cases hk'; exact hk
theorem OwV.later {W W' : World} {base G n c : Nat} {E : TypeId} {vs : List Value} (h : OwV W base E G n c vs) (hb : Below W.heap.size W W') : OwV W' base E G n c vs := h.keep (hb.block G h.lt)
theorem OwV.mono {W : World} {base base' G n c : Nat} {E : TypeId} {vs : List Value} (h : OwV W base E G n c vs) (hb : base' ≤ base) : OwV W base' E G n c vs := owns_monoJ h hb
theorem OwV.at {W : World} {base G n c : Nat} {E : TypeId} {vs : List Value} (h : OwV W base E G n c vs) (j : Nat) (hj : j < n) : W.cell? ⟨G, j, none⟩ = vs[j]? := World.ownsRow.cellAt h j (by omega)
/-- One value of it is written. -/
theorem OwV.write {P : Program} {ops : Array Oper} {rest : List Oper} {op : Oper} {a : Act} {W : World} {Q : Exit → Act → World → Prop} {E : TypeId} (hgd : op.guard = none) (x y : Operand) (hop : op.op = .store E x y) (hi : (P.info? E).map (·.size) = some 1)
    (w : World) (base base' G n c s : Nat) (vs : List Value) (v : Value) (hv1 : v.cells = #[v]) (hv2 : v.oneCell' = true) (hx : a.eval x = .pointer (some ⟨G, s, none⟩)) (hy : a.eval y = v) (hG : OwV W base' E G n c vs) (hs : s < n) (hb : Below base w W) (hbb : base ≤ base')
    (h : ∀ W', OwV W' base' E G n c (vs.set s v) → Below base w W' → W'.heap.size = W.heap.size → (∀ k, k ≠ G → W'.heap[k]? = W.heap[k]?) → wpList P ops Q rest (a.put op.dst undef) W') : wpList P ops Q (op :: rest) a W := by
  obtain ⟨hl, h1, h2, h3, cur, h4, h5, h6⟩ := hG.get
  obtain ⟨d, hd, hsz, hds, hdo⟩ := setP_cells (c := cur) (k := s) (v := v) (by omega) (by rw [hv1])
  refine wpList_store_at hgd E x y hop w base G s v cur d E hx hy h4 hb (Nat.le_trans hbb h1) 1 hi (by rw [hv1]; rfl) (by omega) (by intro u hu; rw [hv1] at hu; simp only [List.mem_cons, List.not_mem_nil, or_false] at hu; subst hu; exact hv2) hd ?_
  intro W' e b sz o
  refine h W' (OwV.mk (by rw [List.length_set]; exact hl) h1 h2 h3 d e (by omega) ?_) b sz o
  apply List.ext_getElem?
  intro j
  have h6j := congrArg (fun l => l[j]?) h6
  simp only [List.getElem?_take] at h6j ⊢
  by_cases hj : j < n
  · rw [if_pos hj] at h6j ⊢
    rw [Array.getElem?_toList] at h6j ⊢
    by_cases hj2 : j = s
    · subst hj2
      rw [hds, List.getElem?_set_self (by omega)]
    · rw [hdo j hj2, List.getElem?_set_ne (Ne.symm hj2), h6j]
  · rw [if_neg hj, List.getElem?_eq_none (by rw [List.length_set]; omega)]
/-- Of old memory nothing changed but the block r, where the answer lies; or nothing at all, and it is new. -/
def Grx (w w' : World) (r r' : Option Nat) : Prop := (w.grownBy w' r ∧ r' = r) ∨ (w.grownBy w' none ∧ ∀ k, r' = some k → w.heap.size ≤ k)
theorem Gx.grx {W W' : World} {v v' : Value} {n m : Nat} (h : Gx W W' v v' n m) : Grx W W' v.ownBlock v'.ownBlock := by
  rcases h with ⟨g, cap, rfl, rfl, h⟩ | ⟨_, h1, h2⟩
  · exact .inl ⟨h, rfl⟩
  · exact .inr ⟨h1, h2⟩
theorem Grx.by' {w w' : World} {r r' : Option Nat} (h : Grx w w' r r') : w.grownBy w' r := by
  rcases h with ⟨h1, _⟩ | ⟨h1, _⟩
  · exact h1
  · exact ⟨h1.os, h1.tape, h1.output, h1.size, fun k hk _ => h1.block k hk (by simp)⟩
theorem grown_cell {W W' : World} {r : Option Nat} {p : Addr} {v : Value} (h : W.grownBy W' r) (hc : W.cell? p = some v) (hne : some p.block ≠ r) : W'.cell? p = some v := by
  rw [World.cell?_of_block (w := W) (h.block p.block (World.block_lt_of_cell? _ _ hc) hne)]
  exact hc
/-- The k-th of many lists. -/
def slV (g c : Nat → Nat) (n k : Nat) : Value := .slice (some ⟨g k, 0, none⟩) n (c k)
def slL (g c : Nat → Nat) (n K : Nat) : List Value := (List.range K).map (slV g c n)
theorem slL_len (g c : Nat → Nat) (n K : Nat) : (slL g c n K).length = K := by unfold slL; simp
theorem slL_at (g c : Nat → Nat) (n K k : Nat) (h : k < K) : (slL g c n K)[k]? = some (.slice (some ⟨g k, 0, none⟩) n (c k)) := by
  unfold slL
  rw [List.getElem?_map, List.getElem?_range h]
  rfl
theorem slL_succ (g c : Nat → Nat) (n K : Nat) : slL g c n K ++ [.slice (some ⟨g K, 0, none⟩) n (c K)] = slL g c n (K + 1) := by
  unfold slL
  rw [List.range_succ, List.map_append]
  rfl
theorem slL_ext {g c g' c' : Nat → Nat} {n K : Nat} (h : ∀ k, k < K → g k = g' k ∧ c k = c' k) : slL g c n K = slL g' c' n K := by
  unfold slL
  apply List.map_congr_left
  intro k hk
  have := h k (List.mem_range.1 hk)
  unfold slV
  rw [this.1, this.2]
def mkV (f : Nat → Nat → Value) (n i : Nat) : List Value := (List.range n).map (f i)
theorem mkV_len (f : Nat → Nat → Value) (n i : Nat) : (mkV f n i).length = n := by unfold mkV; simp
theorem mkV_at (f : Nat → Nat → Value) (n i j : Nat) (h : j < n) : (mkV f n i)[j]? = some (f i j) := by
  unfold mkV
  rw [List.getElem?_map, List.getElem?_range h]
  rfl
theorem mkV_succ (f : Nat → Nat → Value) (m i : Nat) : mkV f m i ++ [f i m] = mkV f (m + 1) i := by
  unfold mkV
  rw [List.range_succ, List.map_append]
  rfl
theorem mkV_of {f : Nat → Nat → Value} {vs : List Value} {n i : Nat} (hl : vs.length = n) (h : ∀ j, j < n → vs[j]? = some (f i j)) : vs = mkV f n i := by
  apply List.ext_getElem?
  intro j
  by_cases hj : j < n
  · rw [h j hj, mkV_at f n i j hj]
  · rw [List.getElem?_eq_none (by omega), List.getElem?_eq_none (by rw [mkV_len]; omega)]
/-- The lists while they are marked. -/
structure SvA (W0 W : World) (E : TypeId) (base n K : Nat) (g c : Nat → Nat) (C : Nat → List Value) : Prop where
  b : Below base W0 W
  f : ∀ k, k < K → OwV W base E (g k) n (c k) (C k)
theorem SvA.write {W0 W W' : World} {E : TypeId} {base n K : Nat} {g c : Nat → Nat} {C : Nat → List Value} (h : SvA W0 W E base n K g c C) (hi : ∀ i j, i < K → j < K → g i = g j → i = j)
    {i : Nat} (hiK : i < K) {vs : List Value} (e : OwV W' base E (g i) n (c i) vs) (b : Below base W0 W') (o : ∀ k, k ≠ g i → W'.heap[k]? = W.heap[k]?) : SvA W0 W' E base n K g c (fun k => if k = i then vs else C k) := by
  refine ⟨b, fun k hk => ?_⟩
  by_cases hki : k = i
  · subst hki
    simp only [if_pos]
    exact e
  · simp only [if_neg hki]
    exact (h.f k hk).keep (o _ fun hc => hki (hi k i hk hiK hc))
theorem SvA.later {W0 W W' : World} {E : TypeId} {base n K : Nat} {g c : Nat → Nat} {C : Nat → List Value} (h : SvA W0 W E base n K g c C) (hb : Below W.heap.size W W') (h0 : base ≤ W.heap.size) : SvA W0 W' E base n K g c C :=
  ⟨h.b.trans (hb.mono h0), fun k hk => (h.f k hk).later hb⟩
/-- The lists while they are lengthened: i of them are. -/
structure SvB (W0 W : World) (E LE : TypeId) (fm fx : Nat → Nat → Value) (X H base n K i : Nat) (g c h d : Nat → Nat) (gv : Value) : Prop where
  b : Below base W0 W
  v : W.ownsRow H LE 1 gv i (slL h d (n + X) i)
  f : ∀ k, i ≤ k → k < K → OwV W base E (g k) n (c k) (mkV fm n k)
  r : ∀ k, k < K → ∀ j, j < n → W.cell? ⟨g k, j, none⟩ = some (fm k j)
  w : ∀ k, k < i → OwV W base E (h k) (n + X) (d k) (mkV fm n k ++ mkV fx X k)
  s : ∀ k, k < i → h k = g k ∨ H ≤ h k
  z : H ≤ W.heap.size
  o : ∀ k, k < H → (∀ i, i < K → k ≠ g i) → W.heap[k]? = W0.heap[k]?
structure SvC (Wy W : World) (E : TypeId) (fm fx : Nat → Nat → Value) (base n gi i j hh dd : Nat) : Prop where
  gr : Wy.grownBy W (some gi)
  o : OwV W base E hh (n + j) dd (mkV fm n i ++ mkV fx j i)
  s : hh = gi ∨ Wy.heap.size ≤ hh
  r : ∀ j', j' < n → W.cell? ⟨gi, j', none⟩ = some (fm i j')
theorem SvC.step {Wy W w' : World} {E : TypeId} {fm fx : Nat → Nat → Value} {base n gi i j hh dd : Nat} {v' : Value} (h : SvC Wy W E fm fx base n gi i j hh dd) (o' : w'.ownsRow base E 1 v' (n + j + 1) ((mkV fm n i ++ mkV fx j i) ++ [fx i j])) (g' : Grx W w' (some hh) v'.ownBlock) :
    ∃ hh' dd', v' = .slice (some ⟨hh', 0, none⟩) (n + (j + 1)) dd' ∧ SvC Wy w' E fm fx base n gi i (j + 1) hh' dd' := by
  rw [List.append_assoc, mkV_succ] at o'
  obtain ⟨G, dd', rfl⟩ : ∃ G c, v' = .slice (some ⟨G, 0, none⟩) (n + j + 1) c := by
    rcases o'.2 with ⟨_, hx⟩ | ⟨G, cap, cur, rfl, _⟩
    · omega
    · exact ⟨G, cap, rfl⟩
  have o : OwV w' base E G (n + (j + 1)) dd' (mkV fm n i ++ mkV fx (j + 1) i) := o'
  refine ⟨G, dd', rfl, ?_⟩
  have hs := h.gr.size
  have hG : ∀ j', j' < n → gi = G → w'.cell? ⟨gi, j', none⟩ = some (fm i j') := by
    rintro j' hj' rfl
    have := o.at j' (by omega)
    rw [List.getElem?_append_left (by rw [mkV_len]; exact hj'), mkV_at _ _ _ _ hj'] at this
    exact this
  rcases g' with ⟨g1, g2⟩ | ⟨g1, g2⟩
  · obtain rfl : G = hh := by injection g2
    refine ⟨⟨g1.os.trans h.gr.os, g1.tape.trans h.gr.tape, g1.output.trans h.gr.output, Nat.le_trans hs g1.size, fun k hk hne => ?_⟩, o, h.s, fun j' hj' => ?_⟩
    · refine (g1.block k (by omega) ?_).trans (h.gr.block k hk hne)
      intro hc
      injection hc with hc
      rcases h.s with h1 | h1
      · exact hne (by rw [hc, h1])
      · omega
    · by_cases hc : gi = G
      · exact hG j' hj' hc
      · exact grown_cell g1 (h.r j' hj') (by intro hx; injection hx with hx; exact hc hx)
  · have hn := g2 G rfl
    refine ⟨⟨g1.os.trans h.gr.os, g1.tape.trans h.gr.tape, g1.output.trans h.gr.output, Nat.le_trans hs g1.size, fun k hk hne => (g1.block k (by omega) (by simp)).trans (h.gr.block k hk hne)⟩, o, .inr (by omega), fun j' hj' => grown_cell g1 (h.r j' hj') (by simp)⟩
theorem SvB.begin {W0 W : World} {E LE : TypeId} {fm fx : Nat → Nat → Value} {X H base n K i : Nat} {g c h d : Nat → Nat} {gv : Value} (S : SvB W0 W E LE fm fx X H base n K i g c h d gv) (hi : i < K) : SvC W W E fm fx base n (g i) i 0 (g i) (c i) := by
  refine ⟨⟨rfl, rfl, rfl, Nat.le_refl _, fun _ _ _ => rfl⟩, ?_, .inl rfl, S.r i hi⟩
  have := S.f i (Nat.le_refl _) hi
  rw [show mkV fx 0 i = [] from rfl, List.append_nil]
  exact this
theorem SvC.v {W0 Wy W : World} {E LE : TypeId} {fm fx : Nat → Nat → Value} {X H base n K i hh dd j : Nat} {g c h d : Nat → Nat} {gv : Value} (S : SvB W0 Wy E LE fm fx X H base n K i g c h d gv) (T : SvC Wy W E fm fx base n (g i) i j hh dd) (hg : g i < H) : W.ownsRow H LE 1 gv i (slL h d (n + X) i) := by
  refine World.ownsRow.kept S.v T.gr ?_
  cases hb : gv.ownBlock with
  | none => exact .inl rfl
  | some k =>
    refine .inr fun hc => ?_
    injection hc with hc
    have := (World.ownsRow.lt S.v k hb).1
    omega
theorem SvB.next {W0 Wy W w' : World} {E LE : TypeId} (hEL : E ≠ LE) {fm fx : Nat → Nat → Value} {X H base n K i hh dd : Nat} {g c h d : Nat → Nat} {gv gv' : Value} (S : SvB W0 Wy E LE fm fx X H base n K i g c h d gv) (T : SvC Wy W E fm fx base n (g i) i X hh dd) (hi : i < K) (hg : ∀ k, k < K → g k < H) (hinj : ∀ i j, i < K → j < K → g i = g j → i = j) (hbH : base ≤ H)
    (o' : w'.ownsRow H LE 1 gv' (i + 1) (slL h d (n + X) i ++ [.slice (some ⟨hh, 0, none⟩) (n + X) dd])) (g' : Grx W w' gv.ownBlock gv'.ownBlock) :
    ∃ h' d', SvB W0 w' E LE fm fx X H base n K (i + 1) g c h' d' gv' := by
  have G := g'.by'
  have hz := T.gr.size
  have hz2 := G.size
  have hz0 := S.z
  have hgv : ∀ k, gv.ownBlock = some k → H ≤ k := fun k hk => (World.ownsRow.lt S.v k hk).1
  have keep : ∀ k, k < W.heap.size → (∀ q, gv.ownBlock = some q → k ≠ q) → w'.heap[k]? = W.heap[k]? := fun k hk hne => G.block k hk fun hc => hne k hc.symm rfl
  have ints : ∀ {b N cc : Nat} {vs : List Value}, OwV W base E b N cc vs → ∀ q, gv.ownBlock = some q → b ≠ q := by
    intro b N cc vs hb q hq hc
    subst hc
    have hv := SvC.v S T (hg i hi)
    obtain ⟨_, _, _, _, cur, h1, _⟩ := hb.get
    rcases hv.2 with ⟨h2, _⟩ | ⟨q', cap, cur', h2, _, h3, _⟩
    · rw [h2] at hq; cases hq
    · rw [h2] at hq
      cases hq
      rw [h1] at h3
      injection h3 with h3
      injection h3 with _ h3
      exact hEL h3
  refine ⟨fun k => if k = i then hh else h k, fun k => if k = i then dd else d k, ?_, ?_, ?_, ?_, ?_, ?_, by omega, ?_⟩
  · have B1 : Below base Wy W := ⟨T.gr.os, T.gr.tape, T.gr.output, hz, fun k hk => T.gr.block k (by omega) (fun hc => by injection hc with hc; have := (S.f i (Nat.le_refl _) hi).b; omega)⟩
    have B2 : Below base W w' := ⟨G.os, G.tape, G.output, hz2, fun k hk => G.block k (by omega) (fun hc => by have := hgv k hc.symm; omega)⟩
    exact (S.b.trans B1).trans B2
  · have e1 : slL (fun k => if k = i then hh else h k) (fun k => if k = i then dd else d k) (n + X) i = slL h d (n + X) i := slL_ext fun k hk => by simp only [if_neg (show k ≠ i by omega)]; exact ⟨trivial, trivial⟩
    rw [← slL_succ, e1]
    simp only [if_pos]
    exact o'
  · intro k hk hkK
    have h1 := S.f k (by omega) hkK
    have h2 : OwV W base E (g k) n (c k) (mkV fm n k) := h1.keep (T.gr.block _ h1.lt fun hc => by injection hc with hc; have := hinj k i hkK hi hc; omega)
    exact h2.keep (keep _ h2.lt (ints h2))
  · intro k hk j hj
    have h1 : W.cell? ⟨g k, j, none⟩ = some (fm k j) := by
      by_cases hki : k = i
      · subst hki; exact T.r j hj
      · exact grown_cell T.gr (S.r k hk j hj) (fun hc => by injection hc with hc; exact hki (hinj k i hk hi hc))
    exact grown_cell G h1 (fun hc => by have := hgv _ hc.symm; have := hg k hk; simp only at *; omega)
  · intro k hk
    by_cases hki : k = i
    · subst hki
      simp only [if_pos]
      exact T.o.keep (keep _ T.o.lt (ints T.o))
    · simp only [if_neg hki]
      have h1 := S.w k (by omega)
      have h2 : OwV W base E (h k) (n + X) (d k) (mkV fm n k ++ mkV fx X k) := h1.keep (T.gr.block _ h1.lt fun hc => by
        injection hc with hc
        rcases S.s k (by omega) with h3 | h3
        · rw [h3] at hc; have := hinj k i (by omega) hi hc; omega
        · have := hg i hi; omega)
      exact h2.keep (keep _ h2.lt (ints h2))
  · intro k hk
    by_cases hki : k = i
    · subst hki
      simp only [if_pos]
      rcases T.s with h1 | h1
      · exact .inl h1
      · exact .inr (by omega)
    · simp only [if_neg hki]
      exact S.s k (by omega)
  · intro k hk hne
    rw [keep k (by omega) (fun q hq => by have := hgv q hq; omega), T.gr.block k (by omega) (fun hc => by injection hc with hc; exact hne i hi hc)]
    exact S.o k hk hne
theorem SvA.toB {W0 W : World} {E LE : TypeId} {fm fx : Nat → Nat → Value} {X base n K : Nat} {g c : Nat → Nat} {C : Nat → List Value} (h : SvA W0 W E base n K g c C) (hC : ∀ k, k < K → C k = mkV fm n k) : SvB W W E LE fm fx X W.heap.size base n K 0 g c g c (.slice none 0 0) := by
  refine ⟨Below.refl _ _, World.ownsRow_nil _ _ _ _, fun k _ hk => hC k hk ▸ h.f k hk, fun k hk j hj => ?_, fun k hk => absurd hk (by omega), fun k hk => absurd hk (by omega), Nat.le_refl _, fun _ _ _ => rfl⟩
  have h1 := (h.f k hk).at j hj
  rw [hC k hk, mkV_at fm n k j hj] at h1
  exact h1
/-- All that is looked at in the end: what each list holds, and the longer ones. -/
structure SvE (W : World) (E LE : TypeId) (fm fx : Nat → Nat → Value) (X n K : Nat) (g c h d : Nat → Nat) (lv gv : Value) : Prop where
  l : ∃ b, W.ownsRow b LE 1 lv K (slL g c n K)
  v : ∃ b, W.ownsRow b LE 1 gv K (slL h d (n + X) K)
  r : ∀ k, k < K → ∀ j, j < n → W.cell? ⟨g k, j, none⟩ = some (fm k j)
  w : ∀ k, k < K → ∀ j, j < X → W.cell? ⟨h k, n + j, none⟩ = some (fx k j)
theorem SvE.later {W W' : World} {E LE : TypeId} {fm fx : Nat → Nat → Value} {X n K : Nat} {g c h d : Nat → Nat} {lv gv : Value} (S : SvE W E LE fm fx X n K g c h d lv gv) (hb : Below W.heap.size W W') : SvE W' E LE fm fx X n K g c h d lv gv := by
  obtain ⟨b, hl⟩ := S.l
  obtain ⟨b', hv⟩ := S.v
  exact ⟨⟨b, owns_keep hl fun k e => hb.block k (World.ownsRow.lt hl k e).2⟩, ⟨b', owns_keep hv fun k e => hb.block k (World.ownsRow.lt hv k e).2⟩, fun k hk j hj => (hb.cell (World.block_lt_of_cell? _ _ (S.r k hk j hj))).trans (S.r k hk j hj), fun k hk j hj => (hb.cell (World.block_lt_of_cell? _ _ (S.w k hk j hj))).trans (S.w k hk j hj)⟩
end Go.Proofs.Ytaloaholmhcflaa
