import Derived.Test.YthmhgpadinecfaaGreatTDj
set_option linter.unusedVariables false
set_option linter.unusedSimpArgs false
namespace Go.Proofs.YthmhgpadinecfaaGreat
open Go.RowKit Go.Shelf
theorem Tryz.szUsD : (Tryz.prog.info? 29).map (·.size) = some 1 := by kernel_rfl
theorem run_maxD (x y : Int) : ∀ ts t w, (Builtin.max_ ts t #[.int .i64 x, .int .i64 y]).run Tryz.prog w = .ok (.int .i64 (max x y)) w := by
 intro ts t w
 have e : (if y > x then y else x) = max x y := by split <;> omega
 unfold Builtin.max_
 simp [Builtin.max2, e]
theorem wr64D (x : Int) (h : -9223372036854775808 <= x) (h2 : x <= 9223372036854775807) : wrap64 x = x := by unfold wrap64; omega
theorem sub_wrD {a b d : Nat} (h : a - b = d) (h1 : b < a) (h2 : a <= 1050000) : IntKind.i64.wrap ((a : Int) - (b : Int)) = (d : Int) /\ wrap64 ((a : Int) - (b : Int)) = (d : Int) := by
 have e : (a : Int) - (b : Int) = (d : Int) := by omega
 rw [e]
 refine ⟨?_, ?_⟩
 ·simp [IntKind.wrap, IntKind.bits, IntKind.signed]; omega
 ·exact wr64D _ (by omega) (by omega)
structure RdT (w W : World) (row : Array Value) (G n : Nat) (f : Nat -> Bool) (cs rs : List Nat) (ids : List Int) (gs : List (List Nat)) (vc vr vi vg : Value) (gl : List Value) : Prop where
 bel : Below w.heap.size w W
 zb : W.heap[w.heap.size]? = some (.cells row 32)
 ans : W.heap[w.heap.size + 1]? = some (.cells #[.int .i64 0, .slice none 0 0, .slice none 0 0, .slice none 0 0, .slice none 0 0, .bool false] 32)
 ma : W.heap[G]? = some (.cells (blN n f) 4)
 l : OfL W w.heap.size cs rs ids gs vc vr vi vg gl
 nr : ∀ g, vr.ownBlock = some g -> vc.ownBlock ≠ some g /\ ∀ u ∈ gl, u.ownBlock ≠ some g
theorem RdT.later {w W W' : World} {row : Array Value} {G n : Nat} {f : Nat -> Bool} {cs rs : List Nat} {ids : List Int} {gs : List (List Nat)} {vc vr vi vg : Value} {gl : List Value} (h : RdT w W row G n f cs rs ids gs vc vr vi vg gl) (hb : Below W.heap.size W W') : RdT w W' row G n f cs rs ids gs vc vr vi vg gl := ⟨to_callD h.bel hb, kept hb h.zb, kept hb h.ans, kept hb h.ma, h.l.later hb, h.nr⟩
theorem RdT.keepN {w W W' : World} {row : Array Value} {G n : Nat} {f : Nat -> Bool} {cs rs : List Nat} {ids : List Int} {gs : List (List Nat)} {vc vr vi vg : Value} {gl : List Value} (h : RdT w W row G n f cs rs ids gs vc vr vi vg gl) (hk : ∀ (k : Nat) (cur : Array Value) (t : TypeId), t ≠ 65 -> W.heap[k]? = some (.cells cur t) -> W'.heap[k]? = W.heap[k]?) (hb : Below w.heap.size w W') : RdT w W' row G n f cs rs ids gs vc vr vi vg gl :=
 ⟨hb, (hk _ _ _ (by decide) h.zb).trans h.zb, (hk _ _ _ (by decide) h.ans).trans h.ans, (hk _ _ _ (by decide) h.ma).trans h.ma, ⟨owns_keepT h.l.c fun k cur => hk k cur _ (by decide), owns_keepT h.l.r fun k cur => hk k cur _ (by decide), owns_keepT h.l.i fun k cur => hk k cur _ (by decide), owns_keepT h.l.g fun k cur => hk k cur _ (by decide), h.l.len, fun j u hj => owns_keepT (h.l.col j u hj) fun k cur => hk k cur _ (by decide)⟩, h.nr⟩
theorem RdT.setD {w W W' : World} {row : Array Value} {G n : Nat} {f : Nat -> Bool} {cs rs : List Nat} {ids : List Int} {gs : List (List Nat)} {vc vr vi vg : Value} {gl : List Value} {D : Nat} {c : Array Value} (h : RdT w W row G n f cs rs ids gs vc vr vi vg gl) (hD : W.heap[D]? = some (.cells c 32)) (h1 : w.heap.size + 1 < D) (hk : ∀ k, k ≠ D -> W'.heap[k]? = W.heap[k]?) (hb : Below w.heap.size w W') : RdT w W' row G n f cs rs ids gs vc vr vi vg gl := by
 refine ⟨hb, (hk _ (by omega)).trans h.zb, (hk _ (by omega)).trans h.ans, (hk _ ?_).trans h.ma, h.l.keep fun k cur t ht hc => hk k (by rintro rfl; rw [hD] at hc; cases hc; exact ht rfl), h.nr⟩
 intro e
 have hm := h.ma
 rw [e, hD] at hm
 cases hm
theorem RdT.pushI {w W W' : World} {row : Array Value} {G n : Nat} {f : Nat -> Bool} {cs rs : List Nat} {ids : List Int} {gs : List (List Nat)} {vc vr vi vg : Value} {gl : List Value} {vi' : Value} {is : List Int} (h : RdT w W row G n f cs rs ids gs vc vr vi vg gl) (hg : Grw W W' vi.ownBlock vi'.ownBlock) (ho : W'.ownsRow w.heap.size 3 1 vi' is.length (is.map (Value.int .i64))) : RdT w W' row G n f cs rs is gs vc vr vi' vg gl := by
 have hk := grw_types h.l.i hg
 exact ⟨h.bel.trans (hg.below (fun k hk => (World.ownsRow.lt h.l.i k hk).1) h.bel.size), (hk _ _ _ (by decide) h.zb).trans h.zb, (hk _ _ _ (by decide) h.ans).trans h.ans, (hk _ _ _ (by decide) h.ma).trans h.ma, h.l.pushI hg ho, h.nr⟩
theorem RdT.pushG {w W W' : World} {row : Array Value} {G n : Nat} {f : Nat -> Bool} {cs rs : List Nat} {ids : List Int} {gs : List (List Nat)} {vc vr vi vg : Value} {gl : List Value} {vg' v : Value} {us : List Nat} (h : RdT w W row G n f cs rs ids gs vc vr vi vg gl) (hn : vr.ownBlock = none) (hg : Grw W W' vg.ownBlock vg'.ownBlock) (ho : W'.ownsRow w.heap.size 29 1 vg' (gl.length + 1) (gl ++ [v])) (hv : W.ownsRow w.heap.size 50 1 v us.length (uJ us)) : RdT w W' row G n f cs rs ids (gs ++ [us]) vc vr vi vg' (gl ++ [v]) := by
 have hk := grw_types h.l.g hg
 exact ⟨h.bel.trans (hg.below (fun k hk => (World.ownsRow.lt h.l.g k hk).1) h.bel.size), (hk _ _ _ (by decide) h.zb).trans h.zb, (hk _ _ _ (by decide) h.ans).trans h.ans, (hk _ _ _ (by decide) h.ma).trans h.ma, h.l.pushG hg ho hv, fun g hg => by rw [hn] at hg; cases hg⟩
theorem RdT.pushR {w W W' : World} {row : Array Value} {G n : Nat} {f : Nat -> Bool} {cs rs : List Nat} {ids : List Int} {gs : List (List Nat)} {vc vr vi vg : Value} {gl : List Value} {vr' : Value} {x : Nat} (h : RdT w W row G n f cs rs ids gs vc vr vi vg gl) (hg : Grw W W' vr.ownBlock vr'.ownBlock) (ho : W'.ownsRow w.heap.size 50 1 vr' (rs.length + 1) (uJ rs ++ [.int .u64 (x : Int)])) : RdT w W' row G n f cs (rs ++ [x]) ids gs vc vr' vi vg gl := by
 have hk := grw_types h.l.r hg
 refine ⟨h.bel.trans (hg.below (fun k hk => (World.ownsRow.lt h.l.r k hk).1) h.bel.size), (hk _ _ _ (by decide) h.zb).trans h.zb, (hk _ _ _ (by decide) h.ans).trans h.ans, (hk _ _ _ (by decide) h.ma).trans h.ma, ⟨owns_keep h.l.c fun k hc => hg.by'.block k (World.ownsRow.lt h.l.c k hc).2 (fun e => (h.nr k e.symm).1 hc), ?_, owns_keepT h.l.i fun k cur => hk k cur _ (by decide), owns_keepT h.l.g fun k cur => hk k cur _ (by decide), h.l.len, fun j u hj => owns_keep (h.l.col j u hj) fun k hc => hg.by'.block k (World.ownsRow.lt (h.l.col j u hj) k hc).2 (fun e => (h.nr k e.symm).2 u (List.mem_of_getElem? hj) hc)⟩, fun g hg' => ?_⟩
 ·rw [List.length_append, uJ_snoc]; exact ho
 ·rcases hg.new with e | e
  ·rw [e] at hg'; exact h.nr g hg'
  ·have hge := e g hg'
   refine ⟨fun hc => by have := (World.ownsRow.lt h.l.c g hc).2; omega, fun u hu hc => ?_⟩
   obtain ⟨j, hj⟩ := List.mem_iff_getElem?.1 hu
   have := (World.ownsRow.lt (h.l.col j u hj) g hc).2
   omega
def pkD (f : Nat -> Bool) (k : Nat) : List Nat := (List.range k).filter f
theorem pkD_yes {f : Nat -> Bool} {k : Nat} (h : f k = true) : pkD f (k + 1) = pkD f k ++ [k] := by unfold pkD; rw [List.range_succ, List.filter_append]; simp [h]
theorem pkD_no {f : Nat -> Bool} {k : Nat} (h : f k = false) : pkD f (k + 1) = pkD f k := by unfold pkD; rw [List.range_succ, List.filter_append]; simp [h]
theorem pkD_len (f : Nat -> Bool) (k : Nat) : (pkD f k).length <= k := by unfold pkD; have := List.length_filter_le f (List.range k); simpa using this
def mgD (gs : List (List Nat)) (j : Nat) (l : List Nat) : Nat := (l.map fun k => rmag (frung ((gs[k]?.getD [])[j]?.getD 0))).sum
theorem mgD_snoc (gs : List (List Nat)) (j : Nat) (l : List Nat) (k : Nat) : mgD gs j (l ++ [k]) = mgD gs j l + rmag (frung ((gs[k]?.getD [])[j]?.getD 0)) := by unfold mgD; rw [List.map_append, List.sum_append]; simp
theorem mgD_le {gs : List (List Nat)} {F : Nat} (hF : F = 2098) (hf : ∀ k j : Nat, Fin ((gs[k]?.getD [])[j]?.getD 0)) (j : Nat) : ∀ l : List Nat, mgD gs j l <= l.length * 2 ^ F
 | [] => Nat.zero_le _
 | k :: l => by
  have h1 := mgD_le hF hf j l
  have h2 := fval_ltJ (hf k j) hF
  unfold mgD at h1 ⊢
  rw [List.map_cons, List.sum_cons, List.length_cons, Nat.add_mul, Nat.one_mul]
  omega
def vlD (rs : List Nat) (gs : List (List Nat)) (f : Nat -> Bool) (j k : Nat) : Int := fval (rs[j]?.getD 0) + (mgD gs j (pkD f k) : Int)
theorem vlD_zero (rs : List Nat) (gs : List (List Nat)) (f : Nat -> Bool) (j : Nat) : vlD rs gs f j 0 = fval (rs[j]?.getD 0) := by unfold vlD; rw [show mgD gs j (pkD f 0) = 0 from rfl]; simp
theorem vlD_yes {rs : List Nat} {gs : List (List Nat)} {f : Nat -> Bool} {j k : Nat} (h : f k = true) : vlD rs gs f j (k + 1) = vlD rs gs f j k + (rmag (frung ((gs[k]?.getD [])[j]?.getD 0)) : Int) := by unfold vlD; rw [pkD_yes h, mgD_snoc, Int.natCast_add, Int.add_assoc]
theorem vlD_no {rs : List Nat} {gs : List (List Nat)} {f : Nat -> Bool} {j k : Nat} (h : f k = false) : vlD rs gs f j (k + 1) = vlD rs gs f j k := by unfold vlD; rw [pkD_no h]
theorem vlD_bound {rs : List Nat} {gs : List (List Nat)} {G : Nat} (hG : G = 2374) (hr : ∀ j : Nat, Fin (rs[j]?.getD 0)) (hf : ∀ k j : Nat, Fin ((gs[k]?.getD [])[j]?.getD 0)) (f : Nat -> Bool) (j : Nat) {k : Nat} (hk : k <= 1050000) : (vlD rs gs f j k).natAbs < 2 ^ G := by
 obtain ⟨F, hF⟩ : ∃ F : Nat, F = 2098 := ⟨_, rfl⟩
 have h1 := fval_ltJ (hr j) hF
 rw [<- fval_absJ] at h1
 have h2 := mgD_le hF hf j (pkD f k)
 have h3 := pkD_len f k
 obtain ⟨D, hD⟩ : ∃ D : Nat, D = 276 := ⟨_, rfl⟩
 have h4 : (2 : Nat) ^ G = 2 ^ F * 2 ^ D := by rw [show G = F + D by omega, Nat.pow_add]
 have h5 : 1050002 <= (2 : Nat) ^ D := Nat.le_trans (show 1050002 <= 2 ^ 21 by decide) (Nat.pow_le_pow_right (by decide) (by omega))
 have h6 : mgD gs j (pkD f k) <= 1050000 * 2 ^ F := Nat.le_trans h2 (Nat.mul_le_mul_right _ (by omega))
 have h7 : 2 ^ F * 1050002 <= 2 ^ F * 2 ^ D := Nat.mul_le_mul_left _ h5
 have h8 : (vlD rs gs f j k).natAbs <= (fval (rs[j]?.getD 0)).natAbs + mgD gs j (pkD f k) := by unfold vlD; have := Int.natAbs_add_le (fval (rs[j]?.getD 0)) (mgD gs j (pkD f k) : Int); rw [Int.natAbs_natCast] at this; exact this
 rw [h4]
 generalize 2 ^ F * 2 ^ D = Y at *
 generalize (2 : Nat) ^ F = X at *
 omega
def bdD (n : Int) : ZD := ⟨n, none, 0, 0, none, 0, 0, none, 0, 0, none, 0, 0, true, [], [], fun _ => (none, 0, 0), [], []⟩
theorem bdD_ZU (w : World) (n : Int) : ZU w (bdD n) := ⟨⟨rfl, Nat.zero_le _, .inl rfl⟩, ⟨rfl, Nat.zero_le _, .inl rfl⟩, ⟨rfl, Nat.zero_le _, .inl rfl, fun j hj => absurd hj (Nat.not_lt_zero _)⟩, ⟨rfl, Nat.zero_le _, .inl rfl⟩⟩
def ZUT (w : World) (y : ZD) : Prop := ∀ W : World, (∀ (k : Nat) (cur : Array Value) (t : TypeId), t ≠ 32 -> w.heap[k]? = some (.cells cur t) -> W.heap[k]? = w.heap[k]?) -> ZU W y
theorem ZUT.zu {w : World} {y : ZD} (h : ZUT w y) : ZU w y := h w fun _ _ _ _ _ => rfl
theorem OfL.zut {w : World} {base : Nat} {cs rs : List Nat} {ids : List Int} {gs : List (List Nat)} {vc vr vi vg : Value} {gl : List Value} (h : OfL w base cs rs ids gs vc vr vi vg gl) (u : ZD) {N : Int} {bad : Bool} (hv : (.agg #[.int .i64 N, vc, vi, vg, vr, .bool bad] : Value) = .agg (zRow u)) (hu : ZU w u) (h1 : u.cs = cs) (h2 : u.rs = rs) (h3 : u.ids = ids) (h4 : u.gs = gs) : ZUT w u := by
 obtain ⟨uN, co, cn, cc, io, dn, dc, go, gn, gc, ro, rn, rc, ub, ucs, uids, gv, ugs, urs⟩ := u
 dsimp only at h1 h2 h3 h4
 subst h1 h2 h3 h4
 intro W hk
 have hW := h.keep hk
 unfold zRow at hv
 simp only [Value.agg.injEq, Array.mk.injEq, List.cons.injEq, and_true] at hv
 obtain ⟨-, e1, e2, e3, e4, -⟩ := hv
 subst e1 e2 e3 e4
 obtain ⟨ao, cap, e, hrc⟩ := rdU_of hW.c
 cases e
 obtain ⟨ao, cap, e, hm, hc⟩ := owns_slice hW.i
 cases e
 obtain ⟨ao, cap, e, hmg, hcW⟩ := owns_slice hW.g
 cases e
 obtain ⟨ao, cap, e, _, hcw⟩ := owns_slice h.g
 cases e
 obtain ⟨ao, cap, e, hrr⟩ := rdU_of hW.r
 cases e
 have hg := hu.g
 dsimp only at hg
 have hcell : ∀ j, j < gl.length -> gl[j]? = some (.slice (gv j).1 (gv j).2.1 (gv j).2.2) := fun j hj => by
  rcases hg.cells with h0 | ⟨b, off, e, hc⟩
  ·omega
  ·rcases hcw with h0 | ⟨g, e', hc'⟩
   ·omega
   ·rw [e] at e'
    cases e'
    have h9 := hc j hj
    rw [Nat.zero_add] at h9
    rw [<- hc' j hj]; exact h9
 refine ⟨hrc, ⟨rfl, hm, ?_⟩, ⟨hg.length, hg.max, ?_, fun j hj => ?_⟩, hrr⟩
 ·rcases hc with h0 | ⟨g, e, hc⟩
  ·exact .inl h0
  ·refine .inr ⟨g, 0, e, fun j hj => ?_⟩
   dsimp only at hj ⊢
   rw [Nat.zero_add, hc j hj, List.getElem?_map, List.getElem?_eq_getElem hj]
   rfl
 ·rcases hcW with h0 | ⟨g, e, hc⟩
  ·exact .inl h0
  ·exact .inr ⟨g, 0, e, fun j hj => by rw [Nat.zero_add, hc j hj]; exact hcell j hj⟩
 ·obtain ⟨ao, cap, e, hr⟩ := rdU_of (hW.col j _ (hcell j hj))
  dsimp only at hj ⊢
  rw [Value.slice.injEq] at e
  rw [e.1, e.2.1, e.2.2]
  exact hr
structure RdD (gd : Bool) (ck N : Int) (gn rn : Nat) (cs rs : List Nat) (ids : List Int) (gs : List (List Nat)) (f : Nat -> Bool) (y : ZD) : Prop where
 is : (gd = false /\ ck ≠ 0 /\ y = bdD 0) \/ (gd = false /\ ck = 0 /\ y = bdD N) \/ (gd = true /\ (∃ j r, j < rn /\ RndZ 1 (vlD rs gs f j gn) 1 (r, false)) /\ y = bdD N) ∨
  (gd = true /\ y.N = N /\ y.bad = false /\ y.cs = cs.map plD /\ y.ids = (pkD (fun j => !f j) gn).map (fun j => ids[j]?.getD 0) /\ y.gs = (pkD (fun j => !f j) gn).map (fun j => (gs[j]?.getD []).map plD) /\ y.rs.length = rn /\ ∀ j, j < rn -> RndZ 1 (vlD rs gs f j gn) 1 (y.rs[j]?.getD 0, true))
structure MkD (w W : World) (row : Array Value) (G n : Nat) (f : Nat -> Bool) (vl : Value) (p : List Nat) : Prop where
 bel : Below w.heap.size w W
 zb : W.heap[w.heap.size]? = some (.cells row 32)
 ans : W.heap[w.heap.size + 1]? = some (.cells #[.int .i64 0, .slice none 0 0, .slice none 0 0, .slice none 0 0, .slice none 0 0, .bool false] 32)
 ma : W.heap[G]? = some (.cells (blN n f) 4)
 l : W.ownsRow w.heap.size 3 1 vl p.length (p.map fun x : Nat => Value.int .i64 (x : Int))
theorem MkD.setB {w W W' : World} {row : Array Value} {G n : Nat} {f g : Nat -> Bool} {vl : Value} {p : List Nat} (h : MkD w W row G n f vl p) (e2 : W'.heap[G]? = some (.cells (blN n g) 4)) (o2 : ∀ i, i ≠ G -> W'.heap[i]? = W.heap[i]?) (b2 : Below w.heap.size w W') : MkD w W' row G n g vl p := by
 have hne : ∀ (k : Nat) (cur : Array Value) (t : TypeId), t ≠ 4 -> W.heap[k]? = some (.cells cur t) -> k ≠ G := by
  intro k cur t ht hc e
  subst e
  rw [h.ma] at hc
  cases hc
  exact ht rfl
 refine ⟨b2, (o2 _ (hne _ _ _ (by decide) h.zb)).trans h.zb, (o2 _ (hne _ _ _ (by decide) h.ans)).trans h.ans, e2, owns_keepT h.l fun k cur hc => o2 _ (hne _ _ _ (by decide) hc)⟩
theorem mark_set {p : List Nat} {i x : Nat} (hi : i < p.length) (hx : p[i] = x) (j : Nat) : decide (j ∈ p.take (i + 1)) = if j = x then true else decide (j ∈ p.take i) := by
 rw [List.take_succ_eq_append_getElem hi, hx]
 by_cases e : j = x
 ·rw [if_pos e]; simp [e]
 ·rw [if_neg e]; simp [e]
end Go.Proofs.YthmhgpadinecfaaGreat
