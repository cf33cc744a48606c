import Derived.Test.YtaadhjdbieoieaaSPLa
namespace Go.Proofs.Ytaadhjdbieoieaa
open Go.RowKit
set_option linter.unusedVariables false
set_option linter.unusedSimpArgs false
theorem Try.infoLJ : (Try.prog.info? 22).map (fun i => (i.zero, i.size, i.bytes)) = some (some (.slice none 0 0), 1, 24) := by kernel_rfl
/-- The k-th of many lists. -/
def slV (g c : Nat → Nat) (n k : Nat) : Value := .slice (some ⟨g k, 0, none⟩) n (c k)
def slL (g c : Nat → Nat) (n K : Nat) : List Value := (List.range K).map (slV g c n)
theorem slL_len (g c : Nat → Nat) (n K : Nat) : (slL g c n K).length = K := by unfold slL; simp
theorem slL_at (g c : Nat → Nat) (n K k : Nat) (h : k < K) : (slL g c n K)[k]? = some (.slice (some ⟨g k, 0, none⟩) n (c k)) := by
  unfold slL
  rw [List.getElem?_map, List.getElem?_range h]
  rfl
theorem slL_succ (g c : Nat → Nat) (n K : Nat) : slL g c n K ++ [.slice (some ⟨g K, 0, none⟩) n (c K)] = slL g c n (K + 1) := by
  unfold slL
  rw [List.range_succ, List.map_append]
  rfl
theorem slL_two (g c : Nat → Nat) (n i : Nat) : slL g c n (2 * i) ++ [.slice (some ⟨g (2 * i), 0, none⟩) n (c (2 * i)), .slice (some ⟨g (2 * i + 1), 0, none⟩) n (c (2 * i + 1))] = slL g c n (2 * (i + 1)) := by
  rw [show 2 * (i + 1) = 2 * i + 1 + 1 by omega, ← slL_succ, ← slL_succ, List.append_assoc]
  rfl
theorem slL_one (g c : Nat → Nat) (n K : Nat) : ∀ u ∈ slL g c n K, u.oneCell' = true := by
  intro u hu
  unfold slL at hu
  obtain ⟨k, -, rfl⟩ := List.mem_map.1 hu
  rfl
theorem slL_ext {g c g' c' : Nat → Nat} {n K : Nat} (h : ∀ k, k < K → g k = g' k ∧ c k = c' k) : slL g c n K = slL g' c' n K := by
  unfold slL
  apply List.map_congr_left
  intro k hk
  have := h k (List.mem_range.1 hk)
  unfold slV
  rw [this.1, this.2]
def mkL (n i : Nat) : List Int := (List.range n).map fun (j : Nat) => 1000 * (i : Int) + (j : Int)
def ngL (m i : Nat) : List Int := (List.range m).map fun (j : Nat) => -(1000 * (i : Int) + (j : Int) + 1)
theorem mkL_len (n i : Nat) : (mkL n i).length = n := by unfold mkL; simp
theorem ngL_len (n i : Nat) : (ngL n i).length = n := by unfold ngL; simp
theorem mkL_at (n i j : Nat) (h : j < n) : (mkL n i)[j]? = some (1000 * (i : Int) + (j : Int)) := by
  unfold mkL
  rw [List.getElem?_map, List.getElem?_range h]
  rfl
theorem ngL_at (n i j : Nat) (h : j < n) : (ngL n i)[j]? = some (-(1000 * (i : Int) + (j : Int) + 1)) := by
  unfold ngL
  rw [List.getElem?_map, List.getElem?_range h]
  rfl
theorem ngL_succ (m i : Nat) : ngL m i ++ [-(1000 * (i : Int) + (m : Int) + 1)] = ngL (m + 1) i := by
  unfold ngL
  rw [List.range_succ, List.map_append]
  rfl
theorem mkL_of {is : List Int} {n i : Nat} (hl : is.length = n) (h : ∀ j, j < n → is[j]? = some (1000 * (i : Int) + (j : Int))) : is = mkL n i := by
  apply List.ext_getElem?
  intro j
  by_cases hj : j < n
  · rw [h j hj, mkL_at n i j hj]
  · rw [List.getElem?_eq_none (by omega), List.getElem?_eq_none (by rw [mkL_len]; omega)]
theorem OwL.ofApp {W : World} {base N : Nat} {v : Value} {is : List Int} {y : Int} (h : W.ownsRow base 3 1 v (N + 1) (is.map (Value.int .i64) ++ [.int .i64 y])) : ∃ G c, v = .slice (some ⟨G, 0, none⟩) (N + 1) c ∧ OwL W base G (N + 1) c (is ++ [y]) := by
  rcases h.2 with ⟨_, hx⟩ | ⟨G, cap, cur, rfl, hlo, hh, h1, h2, h3, h4⟩
  · omega
  · refine ⟨G, cap, rfl, ?_⟩
    unfold OwL
    rw [List.map_append]
    exact h
theorem own_some {W : World} {base : Nat} {E : TypeId} {lo : Option Addr} {K lc : Nat} {xs : List Value} (h : W.ownsRow base E 1 (.slice lo K lc) K xs) (hK : 0 < K) : ∃ q, lo = some ⟨q, 0, none⟩ := by
  rcases h.2 with ⟨_, h2⟩ | ⟨q, cap, cur, h2, _⟩
  · omega
  · injection h2 with h2
    exact ⟨q, h2⟩
theorem wr_i {i : Nat} (h : i < 300) : IntKind.i64.wrap (1000 * (i : Int)) = 1000 * (i : Int) := wrI _ (by omega)
theorem wr_ij {i j : Nat} (h : i < 300) (hj : j < 300) : IntKind.i64.wrap (1000 * (i : Int) + (j : Int)) = 1000 * (i : Int) + (j : Int) := wrI _ (by omega)
theorem wr_ij1 {i j : Nat} (h : i < 300) (hj : j < 300) : IntKind.i64.wrap (1000 * (i : Int) + (j : Int) + 1) = 1000 * (i : Int) + (j : Int) + 1 := wrI _ (by omega)
theorem wr_ijn {i j : Nat} (h : i < 300) (hj : j < 300) : IntKind.i64.wrap (-(1000 * (i : Int) + (j : Int) + 1)) = -(1000 * (i : Int) + (j : Int) + 1) := wrI _ (by omega)
theorem wr_nj {i j : Nat} (h : i < 300) (hj : j < 300) : IntKind.i64.wrap ((i : Int) + (j : Int)) = (i : Int) + (j : Int) := wrI _ (by omega)
theorem one_int (y : Int) : ∀ u ∈ [Value.int .i64 y], u.oneCell' = true := by intro u hu; rcases List.mem_cons.1 hu with rfl | hu; rfl; cases hu
theorem one_slc (a : Option Addr) (n c : Nat) : ∀ u ∈ [Value.slice a n c], u.oneCell' = true := by intro u hu; rcases List.mem_cons.1 hu with rfl | hu; rfl; cases hu
theorem len_ok {n j : Nat} (hn : n ≤ 100) (hj : j < 20) : n + j + 1 ≤ 1000000 := by omega
/-- The lists while they are marked. -/
structure SeA (W0 W : World) (base n K : Nat) (g c : Nat → Nat) (lo : Option Addr) (lc : Nat) (C : Nat → List Int) : Prop where
  b : Below base W0 W
  l : W.ownsRow W0.heap.size 22 1 (.slice lo K lc) K (slL g c n K)
  f : ∀ k, k < K → OwL W base (g k) n (c k) (C k)
theorem SeA.write {W0 W W' : World} {base n K : Nat} {g c : Nat → Nat} {lo : Option Addr} {lc : Nat} {C : Nat → List Int} (h : SeA W0 W base n K g c lo lc C) (hg : ∀ k, k < K → g k < W0.heap.size) (hi : ∀ i j, i < K → j < K → g i = g j → i = j)
    {i : Nat} (hiK : i < K) {is : List Int} (e : OwL W' base (g i) n (c i) is) (b : Below base W0 W') (o : ∀ k, k ≠ g i → W'.heap[k]? = W.heap[k]?) : SeA W0 W' base n K g c lo lc (fun k => if k = i then is else C k) := by
  refine ⟨b, owns_keep h.l fun k hk => o k ?_, fun k hk => ?_⟩
  · have h1 := (World.ownsRow.lt h.l k hk).1
    have h2 := hg i hiK
    omega
  · by_cases hki : k = i
    · subst hki
      simp only [if_pos]
      exact e
    · simp only [if_neg hki]
      exact (h.f k hk).keep (o _ fun hc => hki (hi k i hk hiK hc))
/-- The lists while they are lengthened. -/
structure SeB (W0 W : World) (H base n K i : Nat) (g c h d : Nat → Nat) (lo : Option Addr) (lc : Nat) (gv : Value) : Prop where
  b : Below base W0 W
  l : W.ownsRow W0.heap.size 22 1 (.slice lo K lc) K (slL g c n K)
  lb : ∀ k, (Value.slice lo K lc).ownBlock = some k → k < H
  v : W.ownsRow H 22 1 gv i (slL h d (n + 20) i)
  f : ∀ k, i ≤ k → k < K → OwL W base (g k) n (c k) (mkL n k)
  r : ∀ k, k < K → ∀ j, j < n → W.cell? ⟨g k, j, none⟩ = some (.int .i64 (1000 * (k : Int) + (j : Int)))
  w : ∀ k, k < i → OwL W base (h k) (n + 20) (d k) (mkL n k ++ ngL 20 k)
  s : ∀ k, k < i → h k = g k ∨ H ≤ h k
  z : H ≤ W.heap.size
structure SeC (Wy W : World) (base n gi i j hh dd : Nat) : Prop where
  gr : Wy.grownBy W (some gi)
  o : OwL W base hh (n + j) dd (mkL n i ++ ngL j i)
  s : hh = gi ∨ Wy.heap.size ≤ hh
  r : ∀ j', j' < n → W.cell? ⟨gi, j', none⟩ = some (.int .i64 (1000 * (i : Int) + (j' : Int)))
theorem SeC.step {Wy W w' : World} {base n gi i j hh dd : Nat} {v' : Value} (h : SeC Wy W base n gi i j hh dd) (o' : w'.ownsRow base 3 1 v' (n + j + 1) ((mkL n i ++ ngL j i).map (Value.int .i64) ++ [.int .i64 (-(1000 * (i : Int) + (j : Int) + 1))])) (g' : Grx W w' (some hh) v'.ownBlock) :
    ∃ hh' dd', v' = .slice (some ⟨hh', 0, none⟩) (n + (j + 1)) dd' ∧ SeC Wy w' base n gi i (j + 1) hh' dd' := by
  obtain ⟨G, dd', rfl, o⟩ := OwL.ofApp o'
  rw [List.append_assoc, ngL_succ] at o
  refine ⟨G, dd', rfl, ?_⟩
  have hs := h.gr.size
  have hG : ∀ j', j' < n → gi = G → w'.cell? ⟨gi, j', none⟩ = some (.int .i64 (1000 * (i : Int) + (j' : Int))) := by
    rintro j' hj' rfl
    have := o.at j' (by omega)
    rw [List.getElem?_append_left (by rw [mkL_len]; exact hj'), mkL_at _ _ _ hj'] at this
    exact this
  rcases g' with ⟨g1, g2⟩ | ⟨g1, g2⟩
  · obtain rfl : G = hh := by injection g2
    refine ⟨⟨g1.os.trans h.gr.os, g1.tape.trans h.gr.tape, g1.output.trans h.gr.output, Nat.le_trans hs g1.size, fun k hk hne => ?_⟩, o, h.s, fun j' hj' => ?_⟩
    · refine (g1.block k (by omega) ?_).trans (h.gr.block k hk hne)
      intro hc
      injection hc with hc
      rcases h.s with h1 | h1
      · exact hne (by rw [hc, h1])
      · omega
    · by_cases hc : gi = G
      · exact hG j' hj' hc
      · have h1 := h.r j' hj'
        exact g1.cell h1 (by intro hx; injection hx with hx; exact hc hx)
  · have hn := g2 G rfl
    refine ⟨⟨g1.os.trans h.gr.os, g1.tape.trans h.gr.tape, g1.output.trans h.gr.output, Nat.le_trans hs g1.size, fun k hk hne => (g1.block k (by omega) (by simp)).trans (h.gr.block k hk hne)⟩, o, .inr (by omega), fun j' hj' => g1.cell (h.r j' hj') (by simp)⟩
theorem SeB.begin {W0 W : World} {H base n K i : Nat} {g c h d : Nat → Nat} {lo : Option Addr} {lc : Nat} {gv : Value} (S : SeB W0 W H base n K i g c h d lo lc gv) (hi : i < K) : SeC W W base n (g i) i 0 (g i) (c i) := by
  refine ⟨⟨rfl, rfl, rfl, Nat.le_refl _, fun _ _ _ => rfl⟩, ?_, .inl rfl, S.r i hi⟩
  have := S.f i (Nat.le_refl _) hi
  rw [show ngL 0 i = [] from rfl, List.append_nil]
  exact this
theorem SeC.v {W0 Wy W : World} {H base n K i hh dd j : Nat} {g c h d : Nat → Nat} {lo : Option Addr} {lc : Nat} {gv : Value} (S : SeB W0 Wy H base n K i g c h d lo lc gv) (T : SeC Wy W base n (g i) i j hh dd) (hg : g i < H) : W.ownsRow H 22 1 gv i (slL h d (n + 20) i) := by
  refine World.ownsRow.kept S.v T.gr ?_
  cases hb : gv.ownBlock with
  | none => exact .inl rfl
  | some k =>
    refine .inr fun hc => ?_
    injection hc with hc
    have := (World.ownsRow.lt S.v k hb).1
    omega
theorem SeB.next {W0 Wy W w' : World} {H base n K i hh dd : Nat} {g c h d : Nat → Nat} {lo : Option Addr} {lc : Nat} {gv gv' : Value} (S : SeB W0 Wy H base n K i g c h d lo lc gv) (T : SeC Wy W base n (g i) i 20 hh dd) (hi : i < K) (hg : ∀ k, k < K → g k < H) (hinj : ∀ i j, i < K → j < K → g i = g j → i = j) (hbH : base ≤ H)
    (o' : w'.ownsRow H 22 1 gv' (i + 1) (slL h d (n + 20) i ++ [.slice (some ⟨hh, 0, none⟩) (n + 20) dd])) (g' : Grx W w' gv.ownBlock gv'.ownBlock) :
    ∃ h' d', SeB W0 w' H base n K (i + 1) g c h' d' lo lc gv' := by
  have G := g'.grw.by'
  have hz := T.gr.size
  have hz2 := G.size
  have hz0 := S.z
  have hgv : ∀ k, gv.ownBlock = some k → H ≤ k := fun k hk => (World.ownsRow.lt S.v k hk).1
  have keep : ∀ k, k < W.heap.size → (∀ q, gv.ownBlock = some q → k ≠ q) → w'.heap[k]? = W.heap[k]? := fun k hk hne => G.block k hk fun hc => hne k hc.symm rfl
  -- blocks below H, or of ints, are not long's
  have ints : ∀ {b N cc : Nat} {is : List Int}, OwL W base b N cc is → ∀ q, gv.ownBlock = some q → b ≠ q := by
    intro b N cc is hb q hq hc
    subst hc
    have hv := SeC.v S T (hg i hi)
    obtain ⟨_, _, _, _, cur, h1, _⟩ := hb.get
    rcases hv.2 with ⟨h2, _⟩ | ⟨q', cap, cur', h2, _, h3, _⟩
    · rw [h2] at hq; cases hq
    · rw [h2] at hq
      cases hq
      rw [h1] at h3
      injection h3 with h3
      injection h3 with _ h3
      exact absurd h3 (by decide)
  refine ⟨fun k => if k = i then hh else h k, fun k => if k = i then dd else d k, ?_, ?_, S.lb, ?_, ?_, ?_, ?_, ?_, by omega⟩
  · have B1 : Below base Wy W := ⟨T.gr.os, T.gr.tape, T.gr.output, hz, fun k hk => T.gr.block k (by omega) (fun hc => by injection hc with hc; have := (S.f i (Nat.le_refl _) hi).b; omega)⟩
    have B2 : Below base W w' := ⟨G.os, G.tape, G.output, hz2, fun k hk => G.block k (by omega) (fun hc => by have := hgv k hc.symm; omega)⟩
    exact (S.b.trans B1).trans B2
  · refine owns_keep S.l fun k hk => ?_
    have h1 := S.lb k hk
    have h2 := (World.ownsRow.lt S.l k hk).2
    rw [keep k (by omega) (fun q hq => by have := hgv q hq; omega)]
    refine T.gr.block k h2 fun hc => ?_
    injection hc with hc
    subst hc
    obtain ⟨_, _, _, _, cur, e1, _⟩ := (S.f i (Nat.le_refl _) hi).get
    rcases S.l.2 with ⟨h2, _⟩ | ⟨q', cap, cur', h2, _, h3, _⟩
    · rw [h2] at hk; cases hk
    · rw [h2] at hk
      cases hk
      rw [e1] at h3
      injection h3 with h3
      injection h3 with _ h3
      exact absurd h3 (by decide)
  · have e1 : slL (fun k => if k = i then hh else h k) (fun k => if k = i then dd else d k) (n + 20) i = slL h d (n + 20) i := slL_ext fun k hk => by simp only [if_neg (show k ≠ i by omega)]; exact ⟨trivial, trivial⟩
    rw [← slL_succ, e1]
    simp only [if_pos]
    exact o'
  · intro k hk hkK
    have h1 := S.f k (by omega) hkK
    have h2 : OwL W base (g k) n (c k) (mkL n k) := h1.keep (T.gr.block _ h1.lt fun hc => by injection hc with hc; have := hinj k i hkK hi hc; omega)
    exact h2.keep (keep _ h2.lt (ints h2))
  · intro k hk j hj
    have h1 : W.cell? ⟨g k, j, none⟩ = some (.int .i64 (1000 * (k : Int) + (j : Int))) := by
      by_cases hki : k = i
      · subst hki; exact T.r j hj
      · exact T.gr.cell (S.r k hk j hj) (fun hc => by injection hc with hc; exact hki (hinj k i hk hi hc))
    exact G.cell h1 (fun hc => by have := hgv _ hc.symm; have := hg k hk; simp only at *; omega)
  · intro k hk
    by_cases hki : k = i
    · subst hki
      simp only [if_pos]
      exact T.o.keep (keep _ T.o.lt (ints T.o))
    · simp only [if_neg hki]
      have h1 := S.w k (by omega)
      have h2 : OwL W base (h k) (n + 20) (d k) (mkL n k ++ ngL 20 k) := h1.keep (T.gr.block _ h1.lt fun hc => by
        injection hc with hc
        rcases S.s k (by omega) with h3 | h3
        · rw [h3] at hc; have := hinj k i (by omega) hi hc; omega
        · have := hg i hi; omega)
      exact h2.keep (keep _ h2.lt (ints h2))
  · intro k hk
    by_cases hki : k = i
    · subst hki
      simp only [if_pos]
      rcases T.s with h1 | h1
      · exact .inl h1
      · exact .inr (by omega)
    · simp only [if_neg hki]
      exact S.s k (by omega)
theorem SeA.toB {W0 W : World} {base n K : Nat} {g c : Nat → Nat} {lo : Option Addr} {lc : Nat} {C : Nat → List Int} (h : SeA W0 W base n K g c lo lc C) (hC : ∀ k, k < K → C k = mkL n k) : SeB W0 W W.heap.size base n K 0 g c g c lo lc (.slice none 0 0) := by
  refine ⟨h.b, h.l, fun k hk => (World.ownsRow.lt h.l k hk).2, World.ownsRow_nil _ _ _ _, fun k _ hk => hC k hk ▸ h.f k hk, fun k hk j hj => ?_, fun k hk => absurd hk (by omega), fun k hk => absurd hk (by omega), Nat.le_refl _⟩
  have h1 := (h.f k hk).at j hj
  rw [hC k hk, mkL_at n k j hj] at h1
  exact h1
end Go.Proofs.Ytaadhjdbieoieaa
