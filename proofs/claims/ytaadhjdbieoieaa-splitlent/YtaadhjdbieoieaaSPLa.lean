import Derived.Test.YtaadhjdbieoieaaSPP
namespace Go.Proofs.Ytaadhjdbieoieaa
open Go.RowKit
set_option linter.unusedVariables false
set_option linter.unusedSimpArgs false
/-- A list of ints at the beginning of a block of its own, with its room. -/
def OwL (W : World) (base G n c : Nat) (is : List Int) : Prop := W.ownsRow base 3 1 (.slice (some ⟨G, 0, none⟩) n c) n (is.map (Value.int .i64))
theorem OwL.get {W : World} {base G n c : Nat} {is : List Int} (h : OwL W base G n c is) : is.length = n ∧ base ≤ G ∧ n ≤ c ∧ c ≤ maxLen ∧ ∃ cur, W.heap[G]? = some (.cells cur 3) ∧ cur.size = c ∧ cur.toList.take n = is.map (Value.int .i64) := by
  have h1 := h.1
  rw [List.length_map, Nat.mul_one] at h1
  rcases h.2 with ⟨h2, _⟩ | ⟨g, cap, cur, hv, hg, hh, k1, k2, k3, k4⟩
  · cases h2
  · cases hv
    rw [Nat.mul_one] at k3 k4
    exact ⟨h1, hg, k1, k2, cur, hh, k3, k4⟩
theorem OwL.mk {W : World} {base G n c : Nat} {is : List Int} (h1 : is.length = n) (h2 : base ≤ G) (h3 : n ≤ c) (h4 : c ≤ maxLen) (cur : Array Value) (h5 : W.heap[G]? = some (.cells cur 3)) (h6 : cur.size = c) (h7 : cur.toList.take n = is.map (Value.int .i64)) : OwL W base G n c is :=
  ⟨by rw [List.length_map, Nat.mul_one]; exact h1, .inr ⟨G, c, cur, rfl, h2, h5, h3, h4, by rw [Nat.mul_one]; exact h6, by rw [Nat.mul_one]; exact h7⟩⟩
theorem OwL.b {W : World} {base G n c : Nat} {is : List Int} (h : OwL W base G n c is) : base ≤ G := h.get.2.1
theorem OwL.lt {W : World} {base G n c : Nat} {is : List Int} (h : OwL W base G n c is) : G < W.heap.size := by
  obtain ⟨_, _, _, _, cur, h1, _⟩ := h.get
  exact blk_lt h1
theorem OwL.keep {W W' : World} {base G n c : Nat} {is : List Int} (h : OwL W base G n c is) (hk : W'.heap[G]? = W.heap[G]?) : OwL W' base G n c is := owns_keep h fun k hk' => by cases hk'; exact hk
theorem OwL.other {W W' : World} {base G n c B : Nat} {is : List Int} (h : OwL W base G n c is) (hne : G ≠ B) (ho : ∀ k, k ≠ B → W'.heap[k]? = W.heap[k]?) : OwL W' base G n c is := h.keep (ho G hne)
theorem OwL.later {W W' : World} {base G n c : Nat} {is : List Int} (h : OwL W base G n c is) (hb : Below W.heap.size W W') : OwL W' base G n c is := by
  obtain ⟨_, _, _, _, cur, h1, _⟩ := h.get
  exact h.keep ((kept hb h1).trans h1.symm)
theorem OwL.mono {W : World} {base base' G n c : Nat} {is : List Int} (h : OwL W base G n c is) (hb : base' ≤ base) : OwL W base' G n c is := owns_monoJ h hb
theorem OwL.at {W : World} {base G n c : Nat} {is : List Int} (h : OwL W base G n c is) (j : Nat) (hj : j < n) : W.cell? ⟨G, j, none⟩ = some (.int .i64 (is[j]?.getD 0)) := by
  obtain ⟨hl, _, _, _, cur, h1, _, h3⟩ := h.get
  have h2 := World.ownsRow.cellAt h j (by omega)
  rw [List.getElem?_map, List.getElem?_eq_getElem (by omega)] at h2
  rw [List.getElem?_eq_getElem (by omega)]
  exact h2
theorem OwL.rd {W : World} {base G n c : Nat} {is : List Int} (h : OwL W base G n c is) : RdIs W (some ⟨G, 0, none⟩) n c is := by
  obtain ⟨hl, _, h3, h4, _⟩ := h.get
  exact ⟨hl, Nat.le_trans h3 h4, .inr ⟨G, 0, rfl, fun j hj => by rw [Nat.zero_add]; exact h.at j hj⟩⟩
theorem OwL.ty {W : World} {base G n c B : Nat} {is : List Int} {cc : Array Value} {T : TypeId} (h : OwL W base G n c is) (hT : T ≠ 3) (hb : W.heap[B]? = some (.cells cc T)) : G ≠ B := by
  obtain ⟨_, _, _, _, cur, h1, _⟩ := h.get
  rintro rfl
  rw [h1] at hb; injection hb with hb; injection hb with _ hb; exact absurd hb.symm hT
theorem OwL.of_rg {W : World} {base B : Nat} {is : List Int} (hb : base ≤ B) (hm : is.length ≤ maxLen) (h : W.heap[B]? = some (.cells (inC is) 3)) : OwL W base B is.length is.length is := by
  refine OwL.mk rfl hb (Nat.le_refl _) hm _ h ?_ ?_
  · unfold inC; simp
  · unfold inC
    exact List.take_of_length_le (by simp)
/-- One number of it is written. -/
theorem OwL.write {P : Program} {ops : Array Oper} {rest : List Oper} {op : Oper} {a : Act} {W : World} {Q : Exit → Act → World → Prop} (hgd : op.guard = none) (x y : Operand) (hop : op.op = .store 3 x y) (hi : (P.info? 3).map (·.size) = some 1)
    (w : World) (base base' G n c s : Nat) (is : List Int) (v : Int) (hx : a.eval x = .pointer (some ⟨G, s, none⟩)) (hy : a.eval y = .int .i64 v) (hG : OwL W base' G n c is) (hs : s < n) (hb : Below base w W) (hbb : base ≤ base')
    (h : ∀ W', OwL W' base' G n c (is.set s v) → Below base w W' → W'.heap.size = W.heap.size → (∀ k, k ≠ G → W'.heap[k]? = W.heap[k]?) → wpList P ops Q rest (a.put op.dst undef) W') : wpList P ops Q (op :: rest) a W := by
  obtain ⟨hl, h1, h2, h3, cur, h4, h5, h6⟩ := hG.get
  obtain ⟨d, hd, hsz, hds, hdo⟩ := setP_cells (c := cur) (k := s) (v := .int .i64 v) (by omega) rfl
  refine wpList_store_at hgd 3 x y hop w base G s (.int .i64 v) cur d 3 hx hy h4 hb (Nat.le_trans hbb h1) 1 hi rfl (by omega) (one_inM _) hd ?_
  intro W' e b sz o
  refine h W' (OwL.mk (by rw [List.length_set]; exact hl) h1 h2 h3 d e (by omega) ?_) b sz o
  apply List.ext_getElem?
  intro j
  have h6j := congrArg (fun l => l[j]?) h6
  simp only [List.getElem?_take, List.getElem?_map] at h6j ⊢
  by_cases hj : j < n
  · rw [if_pos hj] at h6j ⊢
    rw [Array.getElem?_toList] at h6j ⊢
    by_cases hj2 : j = s
    · subst hj2
      rw [hds, List.getElem?_set_self (by omega)]
      rfl
    · rw [hdo j hj2, List.getElem?_set_ne (Ne.symm hj2), h6j]
  · rw [if_neg hj, List.getElem?_eq_none (by rw [List.length_set]; omega)]
    rfl
/-- Of old memory nothing changed but the block r, where the answer lies; or nothing at all, and it is new. -/
def Grx (w w' : World) (r r' : Option Nat) : Prop := (w.grownBy w' r ∧ r' = r) ∨ (w.grownBy w' none ∧ ∀ k, r' = some k → w.heap.size ≤ k)
theorem Grx.grw {w w' : World} {r r' : Option Nat} (h : Grx w w' r r') : Grw w w' r r' := by
  rcases h with ⟨h1, h2⟩ | ⟨h1, h2⟩
  · exact ⟨h1, .inl h2⟩
  · exact ⟨⟨h1.os, h1.tape, h1.output, h1.size, fun k hk _ => h1.block k hk (by simp)⟩, .inr h2⟩
/-- append(s, x...) onto a row in a block of its own, elements of any size: where the answer lies. -/
theorem append_gS {SE E : TypeId} {z : Value} {size bytes : Nat} (hu : Try.prog.underlying SE = some (.slice E)) (hinfo : (Try.prog.info? E).map (fun i => (i.zero, i.size, i.bytes)) = some (some z, size, bytes)) (hzc : z.cells.size = size) (hs0 : 0 < size) (hby : bytes ≤ 100)
    {ops : Array Oper} {rest : List Oper} {o : Oper} {a : Act} {Q : Exit → Act → World → Prop} (W : World) (hgd : o.guard = none) (s x : Operand) (ho : o.op = .call { callee := .builtin .append, args := #[s, x], argTypes := #[SE, SE] })
    (base : Nat) (v : Value) (n : Nat) (xs : List Value) (hs : a.eval s = v) (hown : W.ownsRow base E size v n xs)
    (ad : Addr) (m c : Nat) (news : List Value) (hx : a.eval x = .slice (some ad) m c) (hl : news.length = m * size) (hm : 0 < m) (hnews : ∀ j u, news[j]? = some u → W.cell? (ad.add j) = some u) (h1 : ∀ u ∈ news, u.oneCell' = true)
    (hlen : n + m ≤ 1000000) (hbase : base ≤ W.heap.size)
    (h : ∀ v' w', w'.ownsRow base E size v' (n + m) (xs ++ news) → Grx W w' v.ownBlock v'.ownBlock → wpList Try.prog ops Q rest (a.put o.dst v') w') : wpList Try.prog ops Q (o :: rest) a W := by
  obtain ⟨i0, hi, hz0, hz1, hz2⟩ := info3' hinfo
  have hb2 : (n + m) * bytes ≤ 140737488355328 := Nat.le_trans (Nat.mul_le_mul hlen hby) (by decide)
  have hmx : n + m ≤ maxLen := Nat.le_trans hlen (by decide)
  have grow : ∀ (w' : World) (v' : Value), w'.ownsRow W.heap.size E size v' (n + m) (xs ++ news) → W.grownBy w' none → wpList Try.prog ops Q rest (a.put o.dst v') w' := by
    intro w' v' g1 g2
    exact h v' w' (owns_monoJ g1 hbase) (.inr ⟨g2, fun k hk => (World.ownsRow.lt g1 k hk).1⟩)
  rcases hown.2 with ⟨rfl, rfl⟩ | ⟨g, cap, cur, hv, hg, hh, k1, k2, k3, k4⟩
  · have hx0 : xs = [] := List.eq_nil_of_length_eq_zero (by rw [hown.1]; omega)
    subst hx0
    refine wpList_append_grows W hgd s x SE ho E i0 z size bytes hu hi hz0 hz1 hz2 hzc hs0 none 0 0 [] hs (fun _ => ⟨rfl, rfl⟩) (by simp) (fun b hb => by cases hb) ad m c news hx hl hnews h1 (by omega) hmx hb2 ?_
    intro v' w' r1 r2
    exact grow w' v' r1 r2
  · by_cases hr : n + m ≤ cap
    · subst hv
      refine wpList_append_fits W hgd s x SE ho base E i0 size hu hi hz1 g n cap xs hs hown ad m c news hx hl hnews h1 hr ?_
      intro w' r1 r2
      exact h _ w' r1 (.inl ⟨r2, rfl⟩)
    · refine wpList_append_grows W hgd s x SE ho E i0 z size bytes hu hi hz0 hz1 hz2 hzc hs0 (some ⟨g, 0, none⟩) n cap xs (by rw [hs, hv]) (fun c => by cases c) hown.1 ?_ ad m c news hx hl hnews h1 (by omega) hmx hb2 ?_
      · intro b hb j u hj
        cases hb
        exact World.ownsRow.cells hown (by rw [hv]; rfl) j u hj
      · intro v' w' r1 r2
        exact grow w' v' r1 r2
/-- The same, where what is appended was built just now. -/
theorem append_gSB {SE E : TypeId} {z : Value} {size bytes : Nat} (hu : Try.prog.underlying SE = some (.slice E)) (hinfo : (Try.prog.info? E).map (fun i => (i.zero, i.size, i.bytes)) = some (some z, size, bytes)) (hzc : z.cells.size = size) (hs0 : 0 < size) (hby : bytes ≤ 100)
    {ops : Array Oper} {rest : List Oper} {o : Oper} {a : Act} {Q : Exit → Act → World → Prop} (W : World) (hgd : o.guard = none) (s x : Operand) (ho : o.op = .call { callee := .builtin .append, args := #[s, x], argTypes := #[SE, SE] })
    (base : Nat) (v : Value) (n : Nat) (xs : List Value) (hs : a.eval s = v) (hown : W.ownsRow base E size v n xs)
    (m : Nat) (news : List Value) (hx : a.eval x = .slice (some ⟨W.heap.size, 0, none⟩) m m) (hl : news.length = m * size) (hm : 0 < m) (h1 : ∀ u ∈ news, u.oneCell' = true)
    (hlen : n + m ≤ 1000000) (hbase : base ≤ W.heap.size)
    (h : ∀ v' w', w'.ownsRow base E size v' (n + m) (xs ++ news) → Grx W w' v.ownBlock v'.ownBlock → wpList Try.prog ops Q rest (a.put o.dst v') w') : wpList Try.prog ops Q (o :: rest) a (W.alloc (.cells news.toArray E)) := by
  have hsz : (W.alloc (.cells news.toArray E)).heap.size = W.heap.size + 1 := Array.size_push ..
  refine append_gS hu hinfo hzc hs0 hby (W.alloc (.cells news.toArray E)) hgd s x ho base v n xs hs (World.ownsRow.alloc hown _) ⟨W.heap.size, 0, none⟩ m m news hx hl hm ?_ h1 hlen (by omega) ?_
  · intro j u hj
    rw [Addr.add_lit, cell_of_row _ W.heap.size _ _ _ _ (heap_alloc_new W _)]
    simpa using hj
  · intro v' w' o2 g2
    refine h v' w' o2 ?_
    rcases g2 with ⟨g, e⟩ | ⟨g, e⟩
    · exact .inl ⟨⟨g.os, g.tape, g.output, by have := g.size; omega, fun j hj hne => by rw [g.block j (by omega) hne, Below.heap_alloc W _ j hj]⟩, e⟩
    · exact .inr ⟨⟨g.os, g.tape, g.output, by have := g.size; omega, fun j hj hne => by rw [g.block j (by omega) hne, Below.heap_alloc W _ j hj]⟩, fun k hk => by have := e k hk; omega⟩
theorem OwL.of {W : World} {base : Nat} {v : Value} {is : List Int} (h : W.ownsRow base 3 1 v ([] ++ is.map (Value.int .i64)).length ([] ++ is.map (Value.int .i64))) (h0 : 0 < is.length) : ∃ G c, v = .slice (some ⟨G, 0, none⟩) is.length c ∧ OwL W base G is.length c is := by
  simp only [List.nil_append, List.length_map] at h
  rcases h.2 with ⟨_, hx⟩ | ⟨G, cap, cur, rfl, hlo, hh, h1, h2, h3, h4⟩
  · omega
  · exact ⟨G, cap, rfl, h⟩
set_option maxRecDepth 100000 in
set_option maxHeartbeats 4000000 in
theorem refCopyL_any (la ba : Option Addr) (n c d : Nat) (ls bs : List Int) (w : World) (hn0 : 0 < n) (hn : n ≤ 256) (hl : RdIs w la n c ls) (ha : RdIs w ba n d bs) :
    Calls Try.prog 24 #[.agg #[.slice la n c, .slice ba n d]] w fun e w' => (∃ G H c1 c2, e = .returned (.agg #[.slice (some ⟨G, 0, none⟩) n c1, .slice (some ⟨H, 0, none⟩) n c2]) ∧ OwL w' w.heap.size G n c1 ls ∧ OwL w' w.heap.size H n c2 bs ∧ G < H) ∧ Below w.heap.size w w' := by
  have RGn : True := trivial
  have X0 : Below w.heap.size w (((w.alloc (.cells #[.slice la n c, .slice ba n d] 24)).alloc (.cells #[.slice none 0 0, .slice none 0 0] 24)).alloc (.cells #[.slice none 0 0, .slice none 0 0] 24)) := below_al (below_al (below_al (Below.refl _ w) _) _) _
  have Y0 : (((w.alloc (.cells #[.slice la n c, .slice ba n d] 24)).alloc (.cells #[.slice none 0 0, .slice none 0 0] 24)).alloc (.cells #[.slice none 0 0, .slice none 0 0] 24)).heap[w.heap.size]? = some (.cells #[.slice la n c, .slice ba n d] 24) := alloc_kept (alloc_kept (heap_alloc_new w _) _) _
  have Y1 : (((w.alloc (.cells #[.slice la n c, .slice ba n d] 24)).alloc (.cells #[.slice none 0 0, .slice none 0 0] 24)).alloc (.cells #[.slice none 0 0, .slice none 0 0] 24)).heap[w.heap.size + 1]? = some (.cells #[.slice none 0 0, .slice none 0 0] 24) := alloc_kept (alloc_at _ _ _ (by simp)) _
  have Y2 : (((w.alloc (.cells #[.slice la n c, .slice ba n d] 24)).alloc (.cells #[.slice none 0 0, .slice none 0 0] 24)).alloc (.cells #[.slice none 0 0, .slice none 0 0] 24)).heap[w.heap.size + 1 + 1]? = some (.cells #[.slice none 0 0, .slice none 0 0] 24) := alloc_at _ _ _ (by simp)
  have HLA : Hid (ls.length = n ∧ bs.length = n) := ⟨hl.length, ha.length⟩
  rcases hl.cells with h0 | ⟨lb, lo, rfl, hcl⟩
  · omega
  rcases ha.cells with h0 | ⟨bb, bo, rfl, hca⟩
  · omega
  have HL1 : Hid (∀ W, Below w.heap.size w W → (ls.length = n ∧ ∀ j u, (ls.map (Value.int .i64))[j]? = some u → W.cell? ((⟨lb, lo, none⟩ : Addr).add j) = some u)) := by
    refine fun W hb => ⟨HLA.out.1, fun j u hu => ?_⟩
    rw [List.getElem?_map] at hu
    obtain ⟨z, hz, rfl⟩ := Option.map_eq_some_iff.1 hu
    obtain ⟨hj, rfl⟩ := List.getElem?_eq_some_iff.1 hz
    have := hcl j (by rw [← HLA.out.1]; exact hj)
    rw [List.getElem?_eq_getElem hj] at this
    rw [Addr.add_lit]
    exact cell_later this hb
  have HL2 : Hid (∀ W, Below w.heap.size w W → (bs.length = n ∧ ∀ j u, (bs.map (Value.int .i64))[j]? = some u → W.cell? ((⟨bb, bo, none⟩ : Addr).add j) = some u)) := by
    refine fun W hb => ⟨HLA.out.2, fun j u hu => ?_⟩
    rw [List.getElem?_map] at hu
    obtain ⟨z, hz, rfl⟩ := Option.map_eq_some_iff.1 hu
    obtain ⟨hj, rfl⟩ := List.getElem?_eq_some_iff.1 hz
    have := hca j (by rw [← HLA.out.2]; exact hj)
    rw [List.getElem?_eq_getElem hj] at this
    rw [Addr.add_lit]
    exact cell_later this hb
  clear hl ha hcl hca
  go_enter Try.func24, Try.ntmps24
  go_upto_region 2 with fail
  obtain ⟨X, hX⟩ : ∃ X, (((w.alloc (.cells #[.slice (some ⟨lb, lo, none⟩) n c, .slice (some ⟨bb, bo, none⟩) n d] 24)).alloc (.cells #[.slice none 0 0, .slice none 0 0] 24)).alloc (.cells #[.slice none 0 0, .slice none 0 0] 24)) = X := ⟨_, rfl⟩
  rw [hX] at X0 Y0 Y1 Y2 ⊢
  clear hX
  have P1 : Hid (Below w.heap.size w X ∧ X.heap[w.heap.size]? = some (.cells #[.slice (some ⟨lb, lo, none⟩) n c, .slice (some ⟨bb, bo, none⟩) n d] 24) ∧ X.heap[w.heap.size + 1]? = some (.cells #[.slice none 0 0, .slice none 0 0] 24) ∧ X.heap[w.heap.size + 1 + 1]? = some (.cells #[.slice none 0 0, .slice none 0 0] 24)) := ⟨X0, Y0, Y1, Y2⟩
  have c0 := cellAtJ Y0 0 _ rfl
  have c2 := cellAtJ Y2 0 _ rfl
  clear X0 Y0 Y1 Y2
  have hN1 := HL1.out _ P1.out.1
  go_upto_region 3 with (first
    | (at_builtin; refine append_grM Try.underlying22 Try.infoIJ rfl (by decide) X (by rfl) _ _ (by rfl) X.heap.size (.slice none 0 0) [] (by rfl) (World.ownsRow_nil _ _ _ _) ⟨lb, lo, none⟩ n _ (ls.map (Value.int .i64)) (by rfl) (by rw [List.length_map]; exact hN1.1) (by omega) hN1.2 (fun u hu => by obtain ⟨z, -, rfl⟩ := List.mem_map.1 hu; rfl) (by show 0 + n ≤ 4000000; omega) (Nat.le_refl _) ?_; intro v1 w1 o1 g1; obtain ⟨G, c1, rfl, q1⟩ := OwL.of (is := ls) o1 (by have := HLA.out; omega); have bb1 : Below X.heap.size X w1 := g1.below (fun k hk => by simp [Value.ownBlock] at hk) (Nat.le_refl _); rw [HLA.out.1] at q1; rw [HLA.out.1]; have P2 : Hid (Below w.heap.size w w1 ∧ w1.heap[w.heap.size]? = some (.cells #[.slice (some ⟨lb, lo, none⟩) n c, .slice (some ⟨bb, bo, none⟩) n d] 24) ∧ w1.heap[w.heap.size + 1]? = some (.cells #[.slice none 0 0, .slice none 0 0] 24) ∧ w1.heap[w.heap.size + 1 + 1]? = some (.cells #[.slice none 0 0, .slice none 0 0] 24) ∧ OwL w1 X.heap.size G n c1 ls) := ⟨to_call P1.out.1 bb1, kept bb1 P1.out.2.1, kept bb1 P1.out.2.2.1, kept bb1 P1.out.2.2.2, q1⟩)
    | (refine wpList_store_at (by rfl) 22 _ _ (by rfl) w w.heap.size (w.heap.size + 1 + 1) 0 (.slice (some ⟨G, 0, none⟩) n c1) _ #[.slice (some ⟨G, 0, none⟩) n c1, .slice none 0 0] 24 (by rfl) (by rfl) P2.out.2.2.2.1 P2.out.1 (by omega) 1 Try.szLI rfl (by show _ ≤ 2; decide) (one_sl _ _ _) (by rfl) ?_; intro W5 e5 b5 s5 o5))
  have hXs := blk_lt P1.out.2.2.2
  have P3 : Hid (Below w.heap.size w W5 ∧ W5.heap[w.heap.size]? = some (.cells #[.slice (some ⟨lb, lo, none⟩) n c, .slice (some ⟨bb, bo, none⟩) n d] 24) ∧ W5.heap[w.heap.size + 1]? = some (.cells #[.slice none 0 0, .slice none 0 0] 24) ∧ W5.heap[w.heap.size + 1 + 1]? = some (.cells #[.slice (some ⟨G, 0, none⟩) n c1, .slice none 0 0] 24) ∧ OwL W5 X.heap.size G n c1 ls) := ⟨b5, (o5 _ (by omega)).trans P2.out.2.1, (o5 _ (by omega)).trans P2.out.2.2.1, e5, P2.out.2.2.2.2.other (by have := P2.out.2.2.2.2.b; omega) o5⟩
  have k0 := cellAtJ P3.out.2.1 1 _ rfl
  have k2 := cellAtJ P3.out.2.2.2.1 1 _ rfl
  have hN2 := HL2.out _ P3.out.1
  clear P2 e5 b5 s5 o5 c0 c2 hN1 o1 g1 bb1 q1
  go_upto_region 4 with (first
    | (at_builtin; refine append_grM Try.underlying22 Try.infoIJ rfl (by decide) W5 (by rfl) _ _ (by rfl) W5.heap.size (.slice none 0 0) [] (by rfl) (World.ownsRow_nil _ _ _ _) ⟨bb, bo, none⟩ n _ (bs.map (Value.int .i64)) (by rfl) (by rw [List.length_map]; exact hN2.1) (by omega) hN2.2 (fun u hu => by obtain ⟨z, -, rfl⟩ := List.mem_map.1 hu; rfl) (by show 0 + n ≤ 4000000; omega) (Nat.le_refl _) ?_; intro v2 w2 o2 g2; obtain ⟨H, c2, rfl, q2⟩ := OwL.of (is := bs) o2 (by have := HLA.out; omega); have bb2 : Below W5.heap.size W5 w2 := g2.below (fun k hk => by simp [Value.ownBlock] at hk) (Nat.le_refl _); rw [HLA.out.2] at q2; rw [HLA.out.2]; have P4 : Hid (Below w.heap.size w w2 ∧ w2.heap[w.heap.size + 1]? = some (.cells #[.slice none 0 0, .slice none 0 0] 24) ∧ w2.heap[w.heap.size + 1 + 1]? = some (.cells #[.slice (some ⟨G, 0, none⟩) n c1, .slice none 0 0] 24) ∧ OwL w2 X.heap.size G n c1 ls ∧ OwL w2 W5.heap.size H n c2 bs) := ⟨to_call P3.out.1 bb2, kept bb2 P3.out.2.2.1, kept bb2 P3.out.2.2.2.1, P3.out.2.2.2.2.later bb2, q2⟩)
    | (refine wpList_store_at (by rfl) 22 _ _ (by rfl) w w.heap.size (w.heap.size + 1 + 1) 1 (.slice (some ⟨H, 0, none⟩) n c2) _ #[.slice (some ⟨G, 0, none⟩) n c1, .slice (some ⟨H, 0, none⟩) n c2] 24 (by rfl) (by rfl) P4.out.2.2.1 P4.out.1 (by omega) 1 Try.szLI rfl (by show _ ≤ 2; decide) (one_sl _ _ _) (by rfl) ?_; intro W6 e6 b6 s6 o6))
  have hG5 := P3.out.2.2.2.2.lt
  have hH5 := P4.out.2.2.2.2.b
  have hGb := P3.out.2.2.2.2.b
  have P5 : Hid (Below w.heap.size w W6 ∧ W6.heap[w.heap.size + 1]? = some (.cells #[.slice none 0 0, .slice none 0 0] 24) ∧ W6.heap[w.heap.size + 1 + 1]? = some (.cells #[.slice (some ⟨G, 0, none⟩) n c1, .slice (some ⟨H, 0, none⟩) n c2] 24) ∧ OwL W6 w.heap.size G n c1 ls ∧ OwL W6 w.heap.size H n c2 bs) := ⟨b6, (o6 _ (by omega)).trans P4.out.2.1, e6, (P4.out.2.2.2.1.other (by omega) o6).mono (by omega), (P4.out.2.2.2.2.other (by omega) o6).mono (by omega)⟩
  clear P4 P3 e6 b6 s6 o6 k0 k2 hN2 o2 g2 bb2 q2
  go_wp2_with (first | (refine wpList_load_row (by rfl) 24 _ (by rfl) (w.heap.size + 1 + 1) #[.slice (some ⟨G, 0, none⟩) n c1, .slice (some ⟨H, 0, none⟩) n c2] (by rfl) P5.out.2.2.1 _ Try.underlying24 rfl 2 Try.szRT (by rfl) ?_) | (refine wpList_store_row (by rfl) 24 _ _ (by rfl) w w.heap.size (w.heap.size + 1) #[.slice (some ⟨G, 0, none⟩) n c1, .slice (some ⟨H, 0, none⟩) n c2] _ (by rfl) (by rfl) P5.out.2.1 P5.out.1 (by omega) 2 Try.szRT rfl rfl (one_rg _ _ _ _ _ _) ?_; intro W7 e7 b7 s7 o7))
  refine bodyPost_ret (res_c _ _ _ 24 _ 2 2 (by kernel_rfl) (w.heap.size + 1) _ rfl Try.underlying24 rfl Try.szRT rfl e7) rfl ?_
  exact ⟨⟨G, H, c1, c2, rfl, P5.out.2.2.2.1.other (by omega) o7, P5.out.2.2.2.2.other (by omega) o7, by omega⟩, b7⟩
set_option maxRecDepth 100000 in
set_option maxHeartbeats 4000000 in
theorem refCopy0_any (lb lo bb bo c d : Nat) (w : World) :
    Calls Try.prog 24 #[.agg #[.slice (some ⟨lb, lo, none⟩) 0 c, .slice (some ⟨bb, bo, none⟩) 0 d]] w fun e w' => e = .returned (.agg #[.slice none 0 0, .slice none 0 0]) ∧ Below w.heap.size w w' := by
  obtain ⟨i0, hi0, hi1, hi2, hi3⟩ := info3' Try.infoIJ
  have HI : Hid (Try.prog.info? 3 = some i0 ∧ i0.zero = some (.int .i64 0) ∧ i0.size = 1 ∧ i0.bytes = 8) := ⟨hi0, hi1, hi2, hi3⟩
  clear hi0 hi1 hi2 hi3
  have X0 : Below w.heap.size w (((w.alloc (.cells #[.slice (some ⟨lb, lo, none⟩) 0 c, .slice (some ⟨bb, bo, none⟩) 0 d] 24)).alloc (.cells #[.slice none 0 0, .slice none 0 0] 24)).alloc (.cells #[.slice none 0 0, .slice none 0 0] 24)) := below_al (below_al (below_al (Below.refl _ w) _) _) _
  have Y0 : ((((w.alloc (.cells #[.slice (some ⟨lb, lo, none⟩) 0 c, .slice (some ⟨bb, bo, none⟩) 0 d] 24)).alloc (.cells #[.slice none 0 0, .slice none 0 0] 24)).alloc (.cells #[.slice none 0 0, .slice none 0 0] 24))).heap[w.heap.size]? = some (.cells #[.slice (some ⟨lb, lo, none⟩) 0 c, .slice (some ⟨bb, bo, none⟩) 0 d] 24) := alloc_kept (alloc_kept (heap_alloc_new w _) _) _
  have Y1 : ((((w.alloc (.cells #[.slice (some ⟨lb, lo, none⟩) 0 c, .slice (some ⟨bb, bo, none⟩) 0 d] 24)).alloc (.cells #[.slice none 0 0, .slice none 0 0] 24)).alloc (.cells #[.slice none 0 0, .slice none 0 0] 24))).heap[w.heap.size + 1]? = some (.cells #[.slice none 0 0, .slice none 0 0] 24) := alloc_kept (alloc_at _ _ _ (by simp)) _
  have Y2 : ((((w.alloc (.cells #[.slice (some ⟨lb, lo, none⟩) 0 c, .slice (some ⟨bb, bo, none⟩) 0 d] 24)).alloc (.cells #[.slice none 0 0, .slice none 0 0] 24)).alloc (.cells #[.slice none 0 0, .slice none 0 0] 24))).heap[w.heap.size + 1 + 1]? = some (.cells #[.slice none 0 0, .slice none 0 0] 24) := alloc_at _ _ _ (by simp)
  go_enter Try.func24, Try.ntmps24
  go_upto_region 2 with fail
  obtain ⟨X, hX⟩ : ∃ X, (((w.alloc (.cells #[.slice (some ⟨lb, lo, none⟩) 0 c, .slice (some ⟨bb, bo, none⟩) 0 d] 24)).alloc (.cells #[.slice none 0 0, .slice none 0 0] 24)).alloc (.cells #[.slice none 0 0, .slice none 0 0] 24)) = X := ⟨_, rfl⟩
  rw [hX] at X0 Y0 Y1 Y2 ⊢
  clear hX
  have P1 : Hid (Below w.heap.size w X ∧ X.heap[w.heap.size]? = some (.cells #[.slice (some ⟨lb, lo, none⟩) 0 c, .slice (some ⟨bb, bo, none⟩) 0 d] 24) ∧ X.heap[w.heap.size + 1]? = some (.cells #[.slice none 0 0, .slice none 0 0] 24) ∧ X.heap[w.heap.size + 1 + 1]? = some (.cells #[.slice none 0 0, .slice none 0 0] 24)) := ⟨X0, Y0, Y1, Y2⟩
  have c0 := cellAtJ Y0 0 _ rfl
  have c2 := cellAtJ Y2 0 _ rfl
  clear X0 Y0 Y1 Y2
  go_upto_region 3 with (first
    | (at_builtin; refine wpList_append_own X (by rfl) _ _ 22 (by rfl) X.heap.size 3 _ (.int .i64 0) 1 8 Try.underlying22 HI.out.1 HI.out.2.1 HI.out.2.2.1 HI.out.2.2.2 rfl (by decide) (.slice none 0 0) 0 [] (by rfl) (World.ownsRow_nil _ _ _ _) _ 0 _ [] (by rfl) rfl (fun j u hu => by simp at hu) (fun u hu => by simp at hu) (by decide) (by decide) (Nat.le_refl _) ?_; intro v1 w1 o1 g1 n1; obtain rfl := n1.2 ⟨rfl, rfl⟩)
    | (refine wpList_store_at (by rfl) 22 _ _ (by rfl) w w.heap.size (w.heap.size + 1 + 1) 0 (.slice none 0 0) _ #[.slice none 0 0, .slice none 0 0] 24 (by rfl) (by rfl) ((g1.block _ (blk_lt P1.out.2.2.2) (by simp [Value.ownBlock])).trans P1.out.2.2.2) (to_call P1.out.1 ⟨g1.os, g1.tape, g1.output, g1.size, fun k hk => g1.block k hk (by simp [Value.ownBlock])⟩) (by omega) 1 Try.szLI rfl (by show _ ≤ 2; decide) (one_sl _ _ _) (by rfl) ?_; intro W5 e5 b5 s5 o5))
  have hq : ∀ k, k < X.heap.size → w1.heap[k]? = X.heap[k]? := fun k hk => g1.block k hk (by simp [Value.ownBlock])
  have hz := blk_lt P1.out.2.2.2
  have P3 : Hid (Below w.heap.size w W5 ∧ W5.heap[w.heap.size]? = some (.cells #[.slice (some ⟨lb, lo, none⟩) 0 c, .slice (some ⟨bb, bo, none⟩) 0 d] 24) ∧ W5.heap[w.heap.size + 1]? = some (.cells #[.slice none 0 0, .slice none 0 0] 24) ∧ W5.heap[w.heap.size + 1 + 1]? = some (.cells #[.slice none 0 0, .slice none 0 0] 24)) := ⟨b5, (o5 _ (by omega)).trans ((hq _ (by omega)).trans P1.out.2.1), (o5 _ (by omega)).trans ((hq _ (by omega)).trans P1.out.2.2.1), e5⟩
  have k0 := cellAtJ P3.out.2.1 1 _ rfl
  have k2 := cellAtJ P3.out.2.2.2 1 _ rfl
  clear P1 e5 b5 s5 o5 c0 c2 o1 g1 n1 hq hz
  go_upto_region 4 with (first
    | (at_builtin; refine wpList_append_own W5 (by rfl) _ _ 22 (by rfl) W5.heap.size 3 _ (.int .i64 0) 1 8 Try.underlying22 HI.out.1 HI.out.2.1 HI.out.2.2.1 HI.out.2.2.2 rfl (by decide) (.slice none 0 0) 0 [] (by rfl) (World.ownsRow_nil _ _ _ _) _ 0 _ [] (by rfl) rfl (fun j u hu => by simp at hu) (fun u hu => by simp at hu) (by decide) (by decide) (Nat.le_refl _) ?_; intro v2 w2 o2 g2 n2; obtain rfl := n2.2 ⟨rfl, rfl⟩)
    | (refine wpList_store_at (by rfl) 22 _ _ (by rfl) w w.heap.size (w.heap.size + 1 + 1) 1 (.slice none 0 0) _ #[.slice none 0 0, .slice none 0 0] 24 (by rfl) (by rfl) ((g2.block _ (blk_lt P3.out.2.2.2) (by simp [Value.ownBlock])).trans P3.out.2.2.2) (to_call P3.out.1 ⟨g2.os, g2.tape, g2.output, g2.size, fun k hk => g2.block k hk (by simp [Value.ownBlock])⟩) (by omega) 1 Try.szLI rfl (by show _ ≤ 2; decide) (one_sl _ _ _) (by rfl) ?_; intro W6 e6 b6 s6 o6))
  have hz := blk_lt P3.out.2.2.2
  have hq : ∀ k, k < W5.heap.size → w2.heap[k]? = W5.heap[k]? := fun k hk => g2.block k hk (by simp [Value.ownBlock])
  have P5 : Hid (Below w.heap.size w W6 ∧ W6.heap[w.heap.size + 1]? = some (.cells #[.slice none 0 0, .slice none 0 0] 24) ∧ W6.heap[w.heap.size + 1 + 1]? = some (.cells #[.slice none 0 0, .slice none 0 0] 24)) := ⟨b6, (o6 _ (by omega)).trans ((hq _ (by omega)).trans P3.out.2.2.1), e6⟩
  clear P3 e6 b6 s6 o6 k0 k2 o2 g2 n2 hq hz
  go_wp2_with (first | (refine wpList_load_row (by rfl) 24 _ (by rfl) (w.heap.size + 1 + 1) #[.slice none 0 0, .slice none 0 0] (by rfl) P5.out.2.2 _ Try.underlying24 rfl 2 Try.szRT (by rfl) ?_) | (refine wpList_store_row (by rfl) 24 _ _ (by rfl) w w.heap.size (w.heap.size + 1) #[.slice none 0 0, .slice none 0 0] _ (by rfl) (by rfl) P5.out.2.1 P5.out.1 (by omega) 2 Try.szRT rfl rfl (one_rg _ _ _ _ _ _) ?_; intro W7 e7 b7 s7 o7))
  refine bodyPost_ret (res_c _ _ _ 24 _ 2 2 (by kernel_rfl) (w.heap.size + 1) _ rfl Try.underlying24 rfl Try.szRT rfl e7) rfl ?_
  exact ⟨rfl, b7⟩
end Go.Proofs.Ytaadhjdbieoieaa
