import Derived.Test.YtipmejkofamfeaaGreatChecked
import Derived.Test.YtipmejkofamfeaaGreatBase
import Derived.Laws.OwnMore
import Derived.ArgAppend
import Derived.OwnWalk
import Derived.Orders
import Derived.RegionTactic
import Derived.Deep.MidRow
import Derived.Deep.WholeRow
import Derived.Laws.CopyOwn
import Derived.WalkKit
import Derived.Below
namespace Go.Proofs.YtipmejkofamfeaaGreat
open Go.RowKit
set_option linter.unusedVariables false

/-- v is a row of n places of one cell each (type E) in a block of its own, all of them mv. -/
def Mr (w : World) (E : TypeId) (base : Nat) (v : Value) (n : Nat) (mv : Value) : Prop := w.ownsRow base E 1 v n (List.replicate n mv)
theorem owns_keep {w w' : World} {E : TypeId} {base size : Nat} {v : Value} {n : Nat} {xs : List Value} (h : w.ownsRow base E size v n xs) (hb : ∀ k, v.ownBlock = some k → w'.heap[k]? = w.heap[k]?) : w'.ownsRow base E size v n xs := by
  refine ⟨h.1, ?_⟩
  rcases h.2 with h2 | ⟨g, cap, cur, hv, hg, hh, r⟩
  · exact .inl h2
  · exact .inr ⟨g, cap, cur, hv, hg, by rw [hb g (by rw [hv]; rfl)]; exact hh, r⟩
/-- A block's number tells its type. -/
theorem owns_type {w : World} {E : TypeId} {base size : Nat} {v : Value} {n : Nat} {xs : List Value} (h : w.ownsRow base E size v n xs) {k : Nat} (hk : v.ownBlock = some k) : ∃ cur, w.heap[k]? = some (.cells cur E) := by
  rcases h.2 with ⟨rfl, _⟩ | ⟨g, cap, cur, rfl, hg, hh, r⟩
  · simp [Value.ownBlock] at hk
  · simp only [Value.ownBlock, Option.some.injEq] at hk
    subst hk
    exact ⟨cur, hh⟩
theorem mr_set {w w' : World} {E : TypeId} {base : Nat} {v : Value} {n : Nat} {mv : Value} {g k : Nat} {cur : Array Value} (h : Mr w E base v n mv) (hg : w.heap[g]? = some (.cells cur E)) (hw : w'.heap[g]? = some (.cells (cur.setIfInBounds k mv) E)) (ho : ∀ j, j ≠ g → w'.heap[j]? = w.heap[j]?) : Mr w' E base v n mv := by
  refine ⟨h.1, ?_⟩
  rcases h.2 with h2 | ⟨g', cap, cur', hv, hb, hh, h1, h2, h3, h4⟩
  · exact .inl h2
  · by_cases e : g' = g
    · subst e
      rw [hg] at hh
      cases hh
      refine .inr ⟨g', cap, _, hv, hb, hw, h1, h2, by simpa using h3, ?_⟩
      rw [Array.toList_setIfInBounds, List.take_set, h4]
      exact List.set_replicate_self
    · exact .inr ⟨g', cap, cur', hv, hb, by rw [ho g' e]; exact hh, h1, h2, h3, h4⟩
/-- Of old memory nothing changed but, perhaps, the block r; v' lies there, or is new. -/
structure Grw (w w' : World) (r r' : Option Nat) : Prop where
  by' : w.grownBy w' r
  new : r' = r ∨ ∀ k, r' = some k → w.heap.size ≤ k
theorem heap_set1 (w : World) (g i : Nat) (cur : Array Value) (E : TypeId) (u : Value) (h : w.heap[g]? = some (.cells cur E)) : (w.setCells g i [u]).heap[g]? = some (.cells (cur.setIfInBounds i u) E) ∧ (∀ j, j ≠ g → (w.setCells g i [u]).heap[j]? = w.heap[j]?) := by
  constructor
  · show (w.setCell ⟨g, i, none⟩ u).heap[g]? = _
    exact heap_setCell_same w g i _ _ u h
  · intro j hj
    show (w.setCell ⟨g, i, none⟩ u).heap[j]? = _
    exact heap_setCell_other w ⟨g, i, none⟩ j u hj
theorem info3' {P : Program} {t : TypeId} {z : Value} {s b : Nat} (h : (P.info? t).map (fun i => (i.zero, i.size, i.bytes)) = some (some z, s, b)) : ∃ i, P.info? t = some i ∧ i.zero = some z ∧ i.size = s ∧ i.bytes = b := by
  cases hi : P.info? t with
  | none => simp [hi] at h
  | some i =>
    simp [hi] at h
    exact ⟨i, rfl, h.1, h.2.1, h.2.2⟩
theorem mr_mono {w : World} {E : TypeId} {base b : Nat} {v : Value} {n : Nat} {mv : Value} (h : Mr w E base v n mv) (hb : b ≤ base) : Mr w E b v n mv := by
  refine ⟨h.1, ?_⟩
  rcases h.2 with h2 | ⟨g, cap, cur, hv, hg, r⟩
  · exact .inl h2
  · exact .inr ⟨g, cap, cur, hv, Nat.le_trans hb hg, r⟩
theorem grown_alloc {W w' : World} {r : Option Nat} (o : Obj) (h : (W.alloc o).grownBy w' r) : W.grownBy w' r := by
  refine ⟨h.os, h.tape, h.output, Nat.le_trans (by simp) h.size, fun k hk hr => ?_⟩
  rw [h.block k (by simp; omega) hr]
  exact Below.heap_alloc W o k hk
/-- append(s, m) onto a row of m's: what else is a row of m's stays one. -/
theorem append_m {SE E : TypeId} {z : Value} {bytes : Nat} (hu : Tryz.prog.underlying SE = some (.slice E)) (hinfo : (Tryz.prog.info? E).map (fun i => (i.zero, i.size, i.bytes)) = some (some z, 1, bytes)) (hzc : z.cells.size = 1) (hby : bytes ≤ 24)
    {ops : Array Oper} {rest : List Oper} {o : Oper} {a : Act} {Q : Exit → Act → World → Prop} (W : World) (hgd : o.guard = none) (s x : Operand) (ho : o.op = .call { callee := .builtin .append, args := #[s, x], argTypes := #[SE, SE] })
    (base : Nat) (v : Value) (n : Nat) (mv : Value) (hm1 : mv.oneCell' = true) (hs : a.eval s = v) (hown : Mr W E base v n mv) (TX : TypeId) (hx : a.eval x = .slice (some ⟨W.heap.size, 0, none⟩) 1 1) (hn : n ≤ 100000) (hbase : base ≤ W.heap.size)
    (h : ∀ v' w', Mr w' E base v' (n + 1) mv → (∀ u k, Mr W E base u k mv → Mr w' E base u k mv) → Grw W w' v.ownBlock v'.ownBlock → wpList Tryz.prog ops Q rest (a.put o.dst v') w') : wpList Tryz.prog ops Q (o :: rest) a (W.alloc (.cells #[mv] TX)) := by
  obtain ⟨i0, hi, hz0, hz1, hz2⟩ := info3' hinfo
  have hnc : ∀ j u, [mv][j]? = some u → (W.alloc (.cells #[mv] TX)).cell? ((⟨W.heap.size, 0, none⟩ : Addr).add j) = some u := by
    intro j u hu
    match j, hu with
    | 0, hu =>
      simp only [List.getElem?_cons_zero, Option.some.injEq] at hu
      subst hu
      rw [Addr.add_lit, cell_of_row _ W.heap.size _ _ _ _ (heap_alloc_new W _)]
      rfl
  have h1c : ∀ u ∈ [mv], u.oneCell' = true := by
    intro u hu
    simp only [List.mem_cons, List.mem_nil_iff, or_false] at hu
    subst hu
    exact hm1
  have hb2 : (n + 1) * bytes ≤ 140737488355328 := Nat.le_trans (Nat.mul_le_mul (show n + 1 ≤ 100001 by omega) hby) (by decide)
  have grow : ∀ (w' : World) (v' : Value), w'.ownsRow (W.alloc (.cells #[mv] TX)).heap.size E 1 v' (n + 1) (List.replicate n mv ++ [mv]) → (W.alloc (.cells #[mv] TX)).grownBy w' none → wpList Tryz.prog ops Q rest (a.put o.dst v') w' := by
    intro w' v' h1 h2
    have h2' := grown_alloc _ h2
    refine h v' w' ?_ ?_ ⟨⟨h2'.os, h2'.tape, h2'.output, h2'.size, fun k hk _ => h2'.block k hk (by simp)⟩, .inr fun k hk => ?_⟩
    · rw [← List.replicate_succ'] at h1
      exact mr_mono (b := base) h1 (by simp; omega)
    · intro u k hu
      exact owns_keep hu fun j hj => h2'.block j (World.ownsRow.lt hu j hj).2 (by simp)
    · have := (World.ownsRow.lt h1 k hk).1
      simp at this
      omega
  have hown' : Mr (W.alloc (.cells #[mv] TX)) E base v n mv := World.ownsRow.alloc hown _
  rcases hown.2 with ⟨rfl, h0⟩ | ⟨g, cap, cur, rfl, hg, hh, h1, h2, h3, h4⟩
  · subst h0
    refine wpList_append_grows _ hgd s x SE ho E i0 z 1 bytes hu hi hz0 hz1 hz2 hzc (by decide) none 0 0 [] hs (fun _ => ⟨rfl, rfl⟩) rfl (fun b hb => by cases hb) ⟨W.heap.size, 0, none⟩ 1 1 [mv] hx rfl hnc h1c (by omega) (by decide) (by simpa using hb2) ?_
    intro v' w' r1 r2
    exact grow w' v' (by simpa using r1) r2
  · have hgl := (Array.getElem?_eq_some_iff.1 hh).1
    have hh' : (W.alloc (.cells #[mv] TX)).heap[g]? = some (.cells cur E) := by rw [Below.heap_alloc W _ g hgl]; exact hh
    refine wpList_append_arg _ hgd s x SE ho E i0 z 1 bytes hu hi hz0 hz1 hz2 hzc (by decide) g 0 n cap (List.replicate n mv) hs (by simp) ?_ ⟨W.heap.size, 0, none⟩ 1 1 [mv] hx rfl hnc h1c ?_ (by simp only [maxLen]; omega) hb2 ?_ ?_
    · intro j u hj
      have hjn : j < n := by
        have := (List.getElem?_eq_some_iff.1 hj).1
        simpa using this
      have := World.ownsRow.cellAt hown' j (by omega)
      rw [Nat.zero_add, this]; exact hj
    · intro hr j hj
      have hj0 : j = 0 := by simp at hj; omega
      subst hj0
      have hcl : n < cur.size := by omega
      refine ⟨?_, ?_⟩
      · rw [show 0 + n * 1 + 0 = n by omega, cell_of_row _ g _ _ _ _ hh']
        simp [hcl]
      · exact World.ownsRow.frozenAt hown' _
    · intro hr
      obtain ⟨s1, s2⟩ := heap_set1 (W.alloc (.cells #[mv] TX)) g (0 + n * 1) cur E mv hh'
      have hoth : ∀ j, j < W.heap.size → j ≠ g → ((W.alloc (.cells #[mv] TX)).setCells g (0 + n * 1) [mv]).heap[j]? = W.heap[j]? := fun j hj hne => (s2 j hne).trans (Below.heap_alloc W _ j hj)
      refine h _ _ ?_ ?_ ⟨⟨rfl, rfl, rfl, ?_, fun k hk hne => hoth k hk (fun c => hne (by rw [c]; rfl))⟩, .inl rfl⟩
      · refine ⟨by simp, .inr ⟨g, cap, _, rfl, hg, s1, hr, h2, by simpa using h3, ?_⟩⟩
        rw [Array.toList_setIfInBounds]
        have hl : cur.toList.length = cap := by simpa using h3
        rw [show 0 + n * 1 = n by omega, show (n + 1) * 1 = n + 1 by omega]
        have e1 : (cur.toList.set n mv).take (n + 1) = (cur.toList.take n) ++ [mv] := by
          rw [List.take_add_one, List.take_set, List.getElem?_set_self (by omega)]
          rw [List.set_eq_of_length_le (by simp; omega)]
          rfl
        rw [e1, show cur.toList.take n = List.replicate n mv by simpa using h4, ← List.replicate_succ']
      · intro u k hu
        exact mr_set (World.ownsRow.alloc hu _) hh' s1 s2
      · show W.heap.size ≤ ((W.alloc (.cells #[mv] TX)).setCell ⟨g, 0 + n * 1, none⟩ mv).heap.size
        simp
    · intro hr v' w' r1 r2
      exact grow w' v' r1 r2
theorem Grw.refl (w : World) (r : Option Nat) : Grw w w r r := ⟨⟨rfl, rfl, rfl, Nat.le_refl _, fun _ _ _ => rfl⟩, .inl rfl⟩
theorem Grw.trans {w w1 w2 : World} {r r1 r2 : Option Nat} (h : Grw w w1 r r1) (k : Grw w1 w2 r1 r2) : Grw w w2 r r2 := by
  have hs := h.by'.size
  refine ⟨⟨k.by'.os.trans h.by'.os, k.by'.tape.trans h.by'.tape, k.by'.output.trans h.by'.output, Nat.le_trans hs k.by'.size, fun j hj hne => ?_⟩, ?_⟩
  · rw [k.by'.block j (by omega) ?_, h.by'.block j hj hne]
    intro c
    rcases h.new with h1 | h1
    · exact hne (by rw [c, h1])
    · have := h1 j c.symm
      omega
  · rcases k.new with k1 | k1
    · rw [k1]; exact h.new
    · exact .inr fun j hj => Nat.le_trans hs (k1 j hj)
theorem Grw.below {w w' : World} {r r' : Option Nat} {base : Nat} (h : Grw w w' r r') (hb : ∀ k, r = some k → base ≤ k) (hw : base ≤ w.heap.size) : Below base w w' :=
  ⟨h.by'.os, h.by'.tape, h.by'.output, h.by'.size, fun k hk => h.by'.block k (by omega) (fun c => by have := hb k c.symm; omega)⟩
/-- append(s, x...) onto a row in a block of its own: where the answer lies. -/
theorem append_gr {SE E : TypeId} {z : Value} {bytes : Nat} (hu : Tryz.prog.underlying SE = some (.slice E)) (hinfo : (Tryz.prog.info? E).map (fun i => (i.zero, i.size, i.bytes)) = some (some z, 1, bytes)) (hzc : z.cells.size = 1) (hby : bytes ≤ 24)
    {ops : Array Oper} {rest : List Oper} {o : Oper} {a : Act} {Q : Exit → Act → World → Prop} (W : World) (hgd : o.guard = none) (s x : Operand) (ho : o.op = .call { callee := .builtin .append, args := #[s, x], argTypes := #[SE, SE] })
    (base : Nat) (v : Value) (xs : List Value) (hs : a.eval s = v) (hown : W.ownsRow base E 1 v xs.length xs)
    (ad : Addr) (m c : Nat) (news : List Value) (hx : a.eval x = .slice (some ad) m c) (hl : news.length = m) (hm : 0 < m) (hnews : ∀ j u, news[j]? = some u → W.cell? (ad.add j) = some u) (h1 : ∀ u ∈ news, u.oneCell' = true)
    (hlen : xs.length + m ≤ 1000000) (hbase : base ≤ W.heap.size)
    (h : ∀ v' w', w'.ownsRow base E 1 v' (xs ++ news).length (xs ++ news) → Grw W w' v.ownBlock v'.ownBlock → wpList Tryz.prog ops Q rest (a.put o.dst v') w') : wpList Tryz.prog ops Q (o :: rest) a W := by
  obtain ⟨i0, hi, hz0, hz1, hz2⟩ := info3' hinfo
  have hb2 : (xs.length + m) * bytes ≤ 140737488355328 := Nat.le_trans (Nat.mul_le_mul hlen hby) (by decide)
  have grow : ∀ (w' : World) (v' : Value), w'.ownsRow W.heap.size E 1 v' (xs.length + m) (xs ++ news) → W.grownBy w' none → wpList Tryz.prog ops Q rest (a.put o.dst v') w' := by
    intro w' v' g1 g2
    refine h v' w' ?_ ⟨⟨g2.os, g2.tape, g2.output, g2.size, fun k hk _ => g2.block k hk (by simp)⟩, .inr fun k hk => (World.ownsRow.lt g1 k hk).1⟩
    rw [List.length_append, hl]
    refine ⟨g1.1, ?_⟩
    rcases g1.2 with g3 | ⟨g, cap, cur, hv, hg, r⟩
    · exact .inl g3
    · exact .inr ⟨g, cap, cur, hv, Nat.le_trans hbase hg, r⟩
  rcases hown.2 with ⟨rfl, h0⟩ | ⟨g, cap, cur, hv, hg, hh, k1, k2, k3, k4⟩
  · have hx0 : xs = [] := List.eq_nil_of_length_eq_zero h0
    subst hx0
    refine wpList_append_grows W hgd s x SE ho E i0 z 1 bytes hu hi hz0 hz1 hz2 hzc (by decide) none 0 0 [] hs (fun _ => ⟨rfl, rfl⟩) rfl (fun b hb => by cases hb) ad m c news hx (by omega) hnews h1 (by omega) (by simp only [maxLen]; simp at hlen; omega) (by simpa using hb2) ?_
    intro v' w' r1 r2
    exact grow w' v' (by simpa using r1) r2
  · by_cases hr : xs.length + m ≤ cap
    · subst hv
      refine wpList_append_fits W hgd s x SE ho base E i0 1 hu hi hz1 g xs.length cap xs hs hown ad m c news hx (by omega) hnews h1 hr ?_
      intro w' r1 r2
      exact h _ w' (by rw [List.length_append, hl]; exact r1) ⟨r2, .inl rfl⟩
    · refine wpList_append_grows W hgd s x SE ho E i0 z 1 bytes hu hi hz0 hz1 hz2 hzc (by decide) (some ⟨g, 0, none⟩) xs.length cap xs (by rw [hs, hv]) (fun c => by cases c) (by omega) ?_ ad m c news hx (by omega) hnews h1 (by omega) (by simp only [maxLen]; omega) hb2 ?_
      · intro b hb j u hj
        cases hb
        exact World.ownsRow.cells hown (by rw [hv]; rfl) j u hj
      · intro v' w' r1 r2
        exact grow w' v' r1 r2
/-- What comes behind one operation, put in the place of the normal exit. -/
theorem append_gr1 {SE E : TypeId} {z : Value} {bytes : Nat} (hu : Tryz.prog.underlying SE = some (.slice E)) (hinfo : (Tryz.prog.info? E).map (fun i => (i.zero, i.size, i.bytes)) = some (some z, 1, bytes)) (hzc : z.cells.size = 1) (hby : bytes ≤ 24)
    {ops : Array Oper} {rest : List Oper} {o : Oper} {a : Act} {Q : Exit → Act → World → Prop} (W : World) (hgd : o.guard = none) (s x : Operand) (ho : o.op = .call { callee := .builtin .append, args := #[s, x], argTypes := #[SE, SE] })
    (base : Nat) (v : Value) (xs : List Value) (hs : a.eval s = v) (hown : W.ownsRow base E 1 v xs.length xs)
    (y : Value) (hx : a.eval x = .slice (some ⟨W.heap.size, 0, none⟩) 1 1) (h1 : y.oneCell' = true)
    (hlen : xs.length + 1 ≤ 1000000) (hbase : base ≤ W.heap.size)
    (h : ∀ v' w', w'.ownsRow base E 1 v' (xs ++ [y]).length (xs ++ [y]) → Grw W w' v.ownBlock v'.ownBlock → wpList Tryz.prog ops Q rest (a.put o.dst v') w') : wpList Tryz.prog ops Q (o :: rest) a (W.alloc (.cells #[y] E)) := by
  have hsz : (W.alloc (.cells #[y] E)).heap.size = W.heap.size + 1 := Array.size_push ..
  refine append_gr hu hinfo hzc hby (W.alloc (.cells #[y] E)) hgd s x ho base v xs hs (World.ownsRow.alloc hown _) ⟨W.heap.size, 0, none⟩ 1 1 [y] hx rfl (by decide) ?_ (by intro u hu; simp at hu; subst hu; exact h1) hlen (by omega) ?_
  · intro j u hj
    match j, hj with
    | 0, hj =>
      simp only [List.getElem?_cons_zero, Option.some.injEq] at hj
      subst hj
      rw [Addr.add_lit, cell_of_row _ W.heap.size _ _ _ _ (heap_alloc_new W _)]
      rfl
  · intro v' w' o2 g2
    refine h v' w' o2 ⟨⟨g2.by'.os, g2.by'.tape, g2.by'.output, by have := g2.by'.size; omega, fun j hj hne => ?_⟩, ?_⟩
    · rw [g2.by'.block j (by omega) hne, Below.heap_alloc W _ j hj]
    · rcases g2.new with e | e
      · exact .inl e
      · exact .inr fun k hk => by have := e k hk; omega
end Go.Proofs.YtipmejkofamfeaaGreat
