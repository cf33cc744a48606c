import Derived.Test.YtaadhjdbieoieaaSPt
namespace Go.Proofs.Ytaadhjdbieoieaa
open Go.RowKit
set_option linter.unusedVariables false
set_option linter.unusedSimpArgs false
/-- A list of ints at the beginning of a block of its own. -/
structure OwB (W : World) (base G n : Nat) (is : List Int) : Prop where
  b : base ≤ G
  len : is.length = n
  h : ∃ cur, W.heap[G]? = some (.cells cur 3) ∧ n ≤ cur.size ∧ ∀ j, j < n → cur[j]? = some (.int .i64 (is[j]?.getD 0))
theorem OwB.later {W W' : World} {base G n : Nat} {is : List Int} (h : OwB W base G n is) (hb : Below W.heap.size W W') : OwB W' base G n is := by
  obtain ⟨cur, h1, h2, h3⟩ := h.h
  exact ⟨h.b, h.len, cur, kept hb h1, h2, h3⟩
theorem OwB.lt {W : World} {base G n : Nat} {is : List Int} (h : OwB W base G n is) : G < W.heap.size := by
  obtain ⟨cur, h1, h2, h3⟩ := h.h
  exact blk_lt h1
theorem OwB.other {W W' : World} {base G n B : Nat} {is : List Int} (h : OwB W base G n is) (hne : G ≠ B) (ho : ∀ k, k ≠ B → W'.heap[k]? = W.heap[k]?) : OwB W' base G n is := by
  obtain ⟨cur, h1, h2, h3⟩ := h.h
  exact ⟨h.b, h.len, cur, (ho G hne).trans h1, h2, h3⟩
theorem OwB.mono {W : World} {base base' G n : Nat} {is : List Int} (h : OwB W base G n is) (hb : base' ≤ base) : OwB W base' G n is := ⟨Nat.le_trans hb h.b, h.len, h.h⟩
theorem OwB.rd {W : World} {base G n c : Nat} {is : List Int} (h : OwB W base G n is) (hn : n ≤ 1000000) : RdIs W (some ⟨G, 0, none⟩) n c is := by
  obtain ⟨cur, h1, h2, h3⟩ := h.h
  exact ⟨h.len, Nat.le_trans hn (by decide), .inr ⟨G, 0, rfl, fun j hj => by rw [Nat.zero_add]; exact cellAtJ h1 j _ (h3 j hj)⟩⟩
theorem OwB.ty {W : World} {base G n B : Nat} {is : List Int} {c : Array Value} (h : OwB W base G n is) (hb : W.heap[B]? = some (.cells c 24)) : G ≠ B := by
  obtain ⟨cur, h1, h2, h3⟩ := h.h
  rintro rfl
  rw [h1] at hb; injection hb with hb; injection hb with _ hb; exact absurd hb (by decide)
theorem Try.szLI : (Try.prog.info? 22).map (·.size) = some 1 := by kernel_rfl
theorem one_sl (a : Option Addr) (n c : Nat) : ∀ u ∈ (Value.slice a n c).cells.toList, u.oneCell' = true := by
  intro u hu
  have : u = .slice a n c := by simpa [Value.cells] using hu
  rw [this]; rfl
/-- One number of it is written. -/
theorem OwB.write {P : Program} {ops : Array Oper} {rest : List Oper} {op : Oper} {a : Act} {W : World} {Q : Exit → Act → World → Prop} (hgd : op.guard = none) (x y : Operand) (hop : op.op = .store 3 x y) (hi : (P.info? 3).map (·.size) = some 1)
    (w : World) (base base' G n s : Nat) (is : List Int) (v : Int) (hx : a.eval x = .pointer (some ⟨G, s, none⟩)) (hy : a.eval y = .int .i64 v) (hG : OwB W base' G n is) (hs : s < n) (hb : Below base w W) (hbb : base ≤ base')
    (h : ∀ W', OwB W' base' G n (is.set s v) → Below base w W' → W'.heap.size = W.heap.size → (∀ k, k ≠ G → W'.heap[k]? = W.heap[k]?) → wpList P ops Q rest (a.put op.dst undef) W') : wpList P ops Q (op :: rest) a W := by
  obtain ⟨cur, h1, h2, h3⟩ := hG.h
  obtain ⟨d, hd, hsz, hds, hdo⟩ := setP_cells (c := cur) (k := s) (v := .int .i64 v) (by omega) rfl
  refine wpList_store_at hgd 3 x y hop w base G s (.int .i64 v) cur d 3 hx hy h1 hb (Nat.le_trans hbb hG.b) 1 hi rfl (by omega) (one_inM _) hd ?_
  intro W' e b sz o
  refine h W' ⟨hG.b, by rw [List.length_set]; exact hG.len, d, e, by omega, fun j hj => ?_⟩ b sz o
  by_cases hj2 : j = s
  · subst hj2
    rw [hds, List.getElem?_set_self (by rw [hG.len]; exact hj)]
    rfl
  · rw [hdo j hj2, h3 j hj, List.getElem?_set_ne (Ne.symm hj2)]
theorem OwB.of {W : World} {base : Nat} {v : Value} {is : List Int} (h : W.ownsRow base 3 1 v ([] ++ is.map (Value.int .i64)).length ([] ++ is.map (Value.int .i64))) (h0 : 0 < is.length) : ∃ G c, v = .slice (some ⟨G, 0, none⟩) is.length c ∧ OwB W base G is.length is := by
  have hs := h
  simp only [List.nil_append, List.length_map] at hs h
  rcases h.2 with ⟨_, hx⟩ | ⟨G, cap, cur, rfl, hlo, hh, h1, h2, h3, h4⟩
  · omega
  · refine ⟨G, cap, rfl, hlo, rfl, cur, hh, by omega, fun j hj => ?_⟩
    have h9 := World.ownsRow.cellAt hs j (by omega)
    rw [List.getElem?_map, List.getElem?_eq_getElem hj] at h9
    rw [List.getElem?_eq_getElem hj]
    have h7 : W.cell? ⟨G, j, none⟩ = cur[j]? := cell_of_row _ _ j _ _ _ hh
    rw [← h7]
    exact h9
set_option maxRecDepth 100000 in
set_option maxHeartbeats 4000000 in
theorem refCopy_any (la ba : Option Addr) (n c d : Nat) (ls bs : List Int) (w : World) (hn0 : 0 < n) (hn : n ≤ 256) (hl : RdIs w la n c ls) (ha : RdIs w ba n d bs) :
    Calls Try.prog 24 #[.agg #[.slice la n c, .slice ba n d]] w fun e w' => (∃ G H c1 c2, e = .returned (.agg #[.slice (some ⟨G, 0, none⟩) n c1, .slice (some ⟨H, 0, none⟩) n c2]) ∧ OwB w' w.heap.size G n ls ∧ OwB w' w.heap.size H n bs ∧ G < H) ∧ Below w.heap.size w w' := by
  have RGn : True := trivial
  have X0 : Below w.heap.size w (((w.alloc (.cells #[.slice la n c, .slice ba n d] 24)).alloc (.cells #[.slice none 0 0, .slice none 0 0] 24)).alloc (.cells #[.slice none 0 0, .slice none 0 0] 24)) := below_al (below_al (below_al (Below.refl _ w) _) _) _
  have Y0 : (((w.alloc (.cells #[.slice la n c, .slice ba n d] 24)).alloc (.cells #[.slice none 0 0, .slice none 0 0] 24)).alloc (.cells #[.slice none 0 0, .slice none 0 0] 24)).heap[w.heap.size]? = some (.cells #[.slice la n c, .slice ba n d] 24) := alloc_kept (alloc_kept (heap_alloc_new w _) _) _
  have Y1 : (((w.alloc (.cells #[.slice la n c, .slice ba n d] 24)).alloc (.cells #[.slice none 0 0, .slice none 0 0] 24)).alloc (.cells #[.slice none 0 0, .slice none 0 0] 24)).heap[w.heap.size + 1]? = some (.cells #[.slice none 0 0, .slice none 0 0] 24) := alloc_kept (alloc_at _ _ _ (by simp)) _
  have Y2 : (((w.alloc (.cells #[.slice la n c, .slice ba n d] 24)).alloc (.cells #[.slice none 0 0, .slice none 0 0] 24)).alloc (.cells #[.slice none 0 0, .slice none 0 0] 24)).heap[w.heap.size + 1 + 1]? = some (.cells #[.slice none 0 0, .slice none 0 0] 24) := alloc_at _ _ _ (by simp)
  have HLA : Hid (ls.length = n ∧ bs.length = n) := ⟨hl.length, ha.length⟩
  rcases hl.cells with h0 | ⟨lb, lo, rfl, hcl⟩
  · omega
  rcases ha.cells with h0 | ⟨bb, bo, rfl, hca⟩
  · omega
  have HL1 : Hid (∀ W, Below w.heap.size w W → (ls.length = n ∧ ∀ j u, (ls.map (Value.int .i64))[j]? = some u → W.cell? ((⟨lb, lo, none⟩ : Addr).add j) = some u)) := by
    refine fun W hb => ⟨HLA.out.1, fun j u hu => ?_⟩
    rw [List.getElem?_map] at hu
    obtain ⟨z, hz, rfl⟩ := Option.map_eq_some_iff.1 hu
    obtain ⟨hj, rfl⟩ := List.getElem?_eq_some_iff.1 hz
    have := hcl j (by rw [← HLA.out.1]; exact hj)
    rw [List.getElem?_eq_getElem hj] at this
    rw [Addr.add_lit]
    exact cell_later this hb
  have HL2 : Hid (∀ W, Below w.heap.size w W → (bs.length = n ∧ ∀ j u, (bs.map (Value.int .i64))[j]? = some u → W.cell? ((⟨bb, bo, none⟩ : Addr).add j) = some u)) := by
    refine fun W hb => ⟨HLA.out.2, fun j u hu => ?_⟩
    rw [List.getElem?_map] at hu
    obtain ⟨z, hz, rfl⟩ := Option.map_eq_some_iff.1 hu
    obtain ⟨hj, rfl⟩ := List.getElem?_eq_some_iff.1 hz
    have := hca j (by rw [← HLA.out.2]; exact hj)
    rw [List.getElem?_eq_getElem hj] at this
    rw [Addr.add_lit]
    exact cell_later this hb
  clear hl ha hcl hca
  go_enter Try.func24, Try.ntmps24
  go_upto_region 2 with fail
  obtain ⟨X, hX⟩ : ∃ X, (((w.alloc (.cells #[.slice (some ⟨lb, lo, none⟩) n c, .slice (some ⟨bb, bo, none⟩) n d] 24)).alloc (.cells #[.slice none 0 0, .slice none 0 0] 24)).alloc (.cells #[.slice none 0 0, .slice none 0 0] 24)) = X := ⟨_, rfl⟩
  rw [hX] at X0 Y0 Y1 Y2 ⊢
  clear hX
  have P1 : Hid (Below w.heap.size w X ∧ X.heap[w.heap.size]? = some (.cells #[.slice (some ⟨lb, lo, none⟩) n c, .slice (some ⟨bb, bo, none⟩) n d] 24) ∧ X.heap[w.heap.size + 1]? = some (.cells #[.slice none 0 0, .slice none 0 0] 24) ∧ X.heap[w.heap.size + 1 + 1]? = some (.cells #[.slice none 0 0, .slice none 0 0] 24)) := ⟨X0, Y0, Y1, Y2⟩
  have c0 := cellAtJ Y0 0 _ rfl
  have c2 := cellAtJ Y2 0 _ rfl
  clear X0 Y0 Y1 Y2
  have hN1 := HL1.out _ P1.out.1
  go_upto_region 3 with (first
    | (at_builtin; refine append_grM Try.underlying22 Try.infoIJ rfl (by decide) X (by rfl) _ _ (by rfl) X.heap.size (.slice none 0 0) [] (by rfl) (World.ownsRow_nil _ _ _ _) ⟨lb, lo, none⟩ n _ (ls.map (Value.int .i64)) (by rfl) (by rw [List.length_map]; exact hN1.1) (by omega) hN1.2 (fun u hu => by obtain ⟨z, -, rfl⟩ := List.mem_map.1 hu; rfl) (by show 0 + n ≤ 4000000; omega) (Nat.le_refl _) ?_; intro v1 w1 o1 g1; obtain ⟨G, c1, rfl, q1⟩ := OwB.of (is := ls) o1 (by have := HLA.out; omega); have bb1 : Below X.heap.size X w1 := g1.below (fun k hk => by simp [Value.ownBlock] at hk) (Nat.le_refl _); rw [HLA.out.1] at q1; rw [HLA.out.1]; have P2 : Hid (Below w.heap.size w w1 ∧ w1.heap[w.heap.size]? = some (.cells #[.slice (some ⟨lb, lo, none⟩) n c, .slice (some ⟨bb, bo, none⟩) n d] 24) ∧ w1.heap[w.heap.size + 1]? = some (.cells #[.slice none 0 0, .slice none 0 0] 24) ∧ w1.heap[w.heap.size + 1 + 1]? = some (.cells #[.slice none 0 0, .slice none 0 0] 24) ∧ OwB w1 X.heap.size G n ls) := ⟨to_call P1.out.1 bb1, kept bb1 P1.out.2.1, kept bb1 P1.out.2.2.1, kept bb1 P1.out.2.2.2, q1⟩)
    | (refine wpList_store_at (by rfl) 22 _ _ (by rfl) w w.heap.size (w.heap.size + 1 + 1) 0 (.slice (some ⟨G, 0, none⟩) n c1) _ #[.slice (some ⟨G, 0, none⟩) n c1, .slice none 0 0] 24 (by rfl) (by rfl) P2.out.2.2.2.1 P2.out.1 (by omega) 1 Try.szLI rfl (by show _ ≤ 2; decide) (one_sl _ _ _) (by rfl) ?_; intro W5 e5 b5 s5 o5))
  have hXs := blk_lt P1.out.2.2.2
  have P3 : Hid (Below w.heap.size w W5 ∧ W5.heap[w.heap.size]? = some (.cells #[.slice (some ⟨lb, lo, none⟩) n c, .slice (some ⟨bb, bo, none⟩) n d] 24) ∧ W5.heap[w.heap.size + 1]? = some (.cells #[.slice none 0 0, .slice none 0 0] 24) ∧ W5.heap[w.heap.size + 1 + 1]? = some (.cells #[.slice (some ⟨G, 0, none⟩) n c1, .slice none 0 0] 24) ∧ OwB W5 X.heap.size G n ls) := ⟨b5, (o5 _ (by omega)).trans P2.out.2.1, (o5 _ (by omega)).trans P2.out.2.2.1, e5, P2.out.2.2.2.2.other (by have := P2.out.2.2.2.2.b; omega) o5⟩
  have k0 := cellAtJ P3.out.2.1 1 _ rfl
  have k2 := cellAtJ P3.out.2.2.2.1 1 _ rfl
  have hN2 := HL2.out _ P3.out.1
  clear P2 e5 b5 s5 o5 c0 c2 hN1 o1 g1 bb1 q1
  go_upto_region 4 with (first
    | (at_builtin; refine append_grM Try.underlying22 Try.infoIJ rfl (by decide) W5 (by rfl) _ _ (by rfl) W5.heap.size (.slice none 0 0) [] (by rfl) (World.ownsRow_nil _ _ _ _) ⟨bb, bo, none⟩ n _ (bs.map (Value.int .i64)) (by rfl) (by rw [List.length_map]; exact hN2.1) (by omega) hN2.2 (fun u hu => by obtain ⟨z, -, rfl⟩ := List.mem_map.1 hu; rfl) (by show 0 + n ≤ 4000000; omega) (Nat.le_refl _) ?_; intro v2 w2 o2 g2; obtain ⟨H, c2, rfl, q2⟩ := OwB.of (is := bs) o2 (by have := HLA.out; omega); have bb2 : Below W5.heap.size W5 w2 := g2.below (fun k hk => by simp [Value.ownBlock] at hk) (Nat.le_refl _); rw [HLA.out.2] at q2; rw [HLA.out.2]; have P4 : Hid (Below w.heap.size w w2 ∧ w2.heap[w.heap.size + 1]? = some (.cells #[.slice none 0 0, .slice none 0 0] 24) ∧ w2.heap[w.heap.size + 1 + 1]? = some (.cells #[.slice (some ⟨G, 0, none⟩) n c1, .slice none 0 0] 24) ∧ OwB w2 X.heap.size G n ls ∧ OwB w2 W5.heap.size H n bs) := ⟨to_call P3.out.1 bb2, kept bb2 P3.out.2.2.1, kept bb2 P3.out.2.2.2.1, P3.out.2.2.2.2.later bb2, q2⟩)
    | (refine wpList_store_at (by rfl) 22 _ _ (by rfl) w w.heap.size (w.heap.size + 1 + 1) 1 (.slice (some ⟨H, 0, none⟩) n c2) _ #[.slice (some ⟨G, 0, none⟩) n c1, .slice (some ⟨H, 0, none⟩) n c2] 24 (by rfl) (by rfl) P4.out.2.2.1 P4.out.1 (by omega) 1 Try.szLI rfl (by show _ ≤ 2; decide) (one_sl _ _ _) (by rfl) ?_; intro W6 e6 b6 s6 o6))
  have hG5 := P3.out.2.2.2.2.lt
  have hH5 := P4.out.2.2.2.2.b
  have hGb := P3.out.2.2.2.2.b
  have P5 : Hid (Below w.heap.size w W6 ∧ W6.heap[w.heap.size + 1]? = some (.cells #[.slice none 0 0, .slice none 0 0] 24) ∧ W6.heap[w.heap.size + 1 + 1]? = some (.cells #[.slice (some ⟨G, 0, none⟩) n c1, .slice (some ⟨H, 0, none⟩) n c2] 24) ∧ OwB W6 w.heap.size G n ls ∧ OwB W6 w.heap.size H n bs) := ⟨b6, (o6 _ (by omega)).trans P4.out.2.1, e6, (P4.out.2.2.2.1.other (by omega) o6).mono (by omega), (P4.out.2.2.2.2.other (by omega) o6).mono (by omega)⟩
  clear P4 P3 e6 b6 s6 o6 k0 k2 hN2 o2 g2 bb2 q2
  go_wp2_with (first | (refine wpList_load_row (by rfl) 24 _ (by rfl) (w.heap.size + 1 + 1) #[.slice (some ⟨G, 0, none⟩) n c1, .slice (some ⟨H, 0, none⟩) n c2] (by rfl) P5.out.2.2.1 _ Try.underlying24 rfl 2 Try.szRT (by rfl) ?_) | (refine wpList_store_row (by rfl) 24 _ _ (by rfl) w w.heap.size (w.heap.size + 1) #[.slice (some ⟨G, 0, none⟩) n c1, .slice (some ⟨H, 0, none⟩) n c2] _ (by rfl) (by rfl) P5.out.2.1 P5.out.1 (by omega) 2 Try.szRT rfl rfl (one_rg _ _ _ _ _ _) ?_; intro W7 e7 b7 s7 o7))
  refine bodyPost_ret (res_c _ _ _ 24 _ 2 2 (by kernel_rfl) (w.heap.size + 1) _ rfl Try.underlying24 rfl Try.szRT rfl e7) rfl ?_
  exact ⟨⟨G, H, c1, c2, rfl, P5.out.2.2.2.1.other (by omega) o7, P5.out.2.2.2.2.other (by omega) o7, by omega⟩, b7⟩
end Go.Proofs.Ytaadhjdbieoieaa
