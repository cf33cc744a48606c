import Derived.Laws.CopyRow
import Derived.Laws.AppendOwn
import Derived.Test.YthmhgpadinecfaaGreatBKa
set_option linter.unusedVariables false
set_option linter.unusedSimpArgs false
namespace Go.Proofs.YthmhgpadinecfaaGreat
open Go.RowKit Go.Shelf
theorem info3P {P : Program} {E : TypeId} {z : Value} {size bytes : Nat} (h : (P.info? E).map (fun i => (i.zero, i.size, i.bytes)) = some (some z, size, bytes)) : ∃ i, P.info? E = some i /\ i.zero = some z /\ i.size = size /\ i.bytes = bytes := by
 obtain ⟨i, h1, h2⟩ := Option.map_eq_some_iff.1 h
 simp only [Prod.mk.injEq] at h2
 exact ⟨i, h1, h2.1, h2.2.1, h2.2.2⟩
def Gx (W w' : World) (v v' : Value) (n m : Nat) : Prop :=
 (∃ g cap, v = .slice (some ⟨g, 0, none⟩) n cap /\ v' = .slice (some ⟨g, 0, none⟩) (n + m) cap /\ W.grownBy w' (some g)) ∨
 ((∀ g cap, v = .slice (some ⟨g, 0, none⟩) n cap -> cap < n + m) /\ W.grownBy w' none /\ ∀ k, v'.ownBlock = some k -> W.heap.size <= k)
def OwX (W : World) (base : Nat) (E : TypeId) (v : Value) (n : Nat) (xs : List Value) : Prop := xs.length = n /\ ((v = .slice none 0 0 /\ n = 0) \/ ∃ g cap cur, v = .slice (some ⟨g, 0, none⟩) n cap /\ base <= g /\ W.heap[g]? = some (.cells cur E) /\ n <= cap /\ cap <= maxLen /\ n <= cur.size /\ (n < cap -> cur.size = cap) /\ cur.toList.take n = xs)
theorem OwX.of {W : World} {base : Nat} {E : TypeId} {v : Value} {n : Nat} {xs : List Value} (h : W.ownsRow base E 1 v n xs) : OwX W base E v n xs := by
 refine ⟨by rw [h.1, Nat.mul_one], ?_⟩
 rcases h.2 with h1 | ⟨g, cap, cur, h1, h2, h3, h4, h5, h6, h7⟩
 ·exact .inl h1
 ·rw [Nat.mul_one] at h6 h7
  exact .inr ⟨g, cap, cur, h1, h2, h3, h4, h5, by omega, fun _ => h6, h7⟩
theorem OwX.lt {W : World} {base : Nat} {E : TypeId} {v : Value} {n : Nat} {xs : List Value} (h : OwX W base E v n xs) (k : Nat) (hk : v.ownBlock = some k) : base <= k /\ k < W.heap.size := by
 rcases h.2 with ⟨rfl, _⟩ | ⟨g, cap, cur, rfl, h2, h3, _⟩
 ·cases hk
 ·cases hk; exact ⟨h2, blk_lt h3⟩
theorem OwX.ty {W : World} {base : Nat} {E : TypeId} {v : Value} {n : Nat} {xs : List Value} (h : OwX W base E v n xs) (k : Nat) (hk : v.ownBlock = some k) : ∃ cur, W.heap[k]? = some (.cells cur E) := by
 rcases h.2 with ⟨rfl, _⟩ | ⟨g, cap, cur, rfl, h2, h3, _⟩
 ·cases hk
 ·cases hk; exact ⟨cur, h3⟩
theorem OwX.ne {W : World} {base base' : Nat} {E E' : TypeId} {v v' : Value} {n n' : Nat} {xs xs' : List Value} (h : OwX W base E v n xs) (h' : OwX W base' E' v' n' xs') (hne : E ≠ E') (k : Nat) (e : v.ownBlock = some k) : v'.ownBlock ≠ some k := by
 intro e'
 obtain ⟨c, hc⟩ := h.ty k e
 obtain ⟨c', hc'⟩ := h'.ty k e'
 rw [hc] at hc'
 injection hc' with hc'
 injection hc' with _ hc'
 exact hne hc'
theorem OwX.keep {W W' : World} {base : Nat} {E : TypeId} {v : Value} {n : Nat} {xs : List Value} (h : OwX W base E v n xs) (hk : ∀ k, v.ownBlock = some k -> W'.heap[k]? = W.heap[k]?) : OwX W' base E v n xs := by
 refine ⟨h.1, ?_⟩
 rcases h.2 with h1 | ⟨g, cap, cur, h1, h2, h3, r⟩
 ·exact .inl h1
 ·exact .inr ⟨g, cap, cur, h1, h2, (hk g (by rw [h1]; rfl)).trans h3, r⟩
theorem OwX.alloc {W : World} {base : Nat} {E : TypeId} {v : Value} {n : Nat} {xs : List Value} (h : OwX W base E v n xs) (o : Obj) : OwX (W.alloc o) base E v n xs := h.keep fun k hk => Below.heap_alloc W o k (h.lt k hk).2
theorem OwX.form {W : World} {base : Nat} {E : TypeId} {v : Value} {n : Nat} {xs : List Value} (h : OwX W base E v n xs) : ∃ ao cap, v = .slice ao n cap /\ n <= maxLen := by
 rcases h.2 with ⟨rfl, rfl⟩ | ⟨g, cap, cur, rfl, h2, h3, h4, h5, _⟩
 ·exact ⟨none, 0, rfl, Nat.zero_le _⟩
 ·exact ⟨_, cap, rfl, by omega⟩
theorem append_gx {P : Program} {SE E : TypeId} {z : Value} {bytes : Nat} (hu : P.underlying SE = some (.slice E)) (hinfo : (P.info? E).map (fun i => (i.zero, i.size, i.bytes)) = some (some z, 1, bytes)) (hzc : z.cells.size = 1) (hby : bytes <= 64)
  {ops : Array Oper} {rest : List Oper} {o : Oper} {a : Act} {Q : Exit -> Act -> World -> Prop} (W : World) (hgd : o.guard = none) (s x : Operand) (ho : o.op = .call { callee := .builtin .append, args := #[s, x], argTypes := #[SE, SE] })
  (base : Nat) (v : Value) (n : Nat) (xs : List Value) (hs : a.eval s = v) (hown : OwX W base E v n xs)
  (ad : Addr) (m c : Nat) (news : List Value) (hx : a.eval x = .slice (some ad) m c) (hl : news.length = m) (hm : 0 < m) (hnews : ∀ j u, news[j]? = some u -> W.cell? (ad.add j) = some u) (h1 : ∀ u ∈ news, u.oneCell' = true)
  (hlen : n + m <= 2000000) (hbase : base <= W.heap.size)
  (h : ∀ v' w', w'.ownsRow base E 1 v' (n + m) (xs ++ news) -> Gx W w' v v' n m -> wpList P ops Q rest (a.put o.dst v') w') : wpList P ops Q (o :: rest) a W := by
 obtain ⟨i0, hi, hz0, hz1, hz2⟩ := info3P hinfo
 have hb2 : (n + m) * bytes <= 140737488355328 := Nat.le_trans (Nat.mul_le_mul hlen hby) (by decide)
 have hmx : n + m <= maxLen := Nat.le_trans hlen (by decide)
 have grow : ∀ (w' : World) (v' : Value), (∀ g cap, v = .slice (some ⟨g, 0, none⟩) n cap -> cap < n + m) -> w'.ownsRow W.heap.size E 1 v' (n + m) (xs ++ news) -> W.grownBy w' none -> wpList P ops Q rest (a.put o.dst v') w' := by
  intro w' v' g0 g1 g2
  exact h v' w' (owns_monoJ g1 hbase) (.inr ⟨g0, g2, fun k hk => (World.ownsRow.lt g1 k hk).1⟩)
 rcases hown.2 with ⟨rfl, rfl⟩ | ⟨g, cap, cur, hv, hg, hh, k1, k2, k3, k4, k5⟩
 ·have hx0 : xs = [] := List.eq_nil_of_length_eq_zero hown.1
  subst hx0
  refine wpList_append_grows W hgd s x SE ho E i0 z 1 bytes hu hi hz0 hz1 hz2 hzc (by decide) none 0 0 [] hs (fun _ => ⟨rfl, rfl⟩) (by simp) (fun b hb => by cases hb) ad m c news hx (by omega) hnews h1 (by omega) hmx hb2 ?_
  intro v' w' r1 r2
  exact grow w' v' (fun g cap e => by cases e) r1 r2
 ·by_cases hr : n + m <= cap
  ·subst hv
   have hcs := k4 (by omega)
   refine wpList_append_fits W hgd s x SE ho base E i0 1 hu hi hz1 g n cap xs hs ⟨by rw [hown.1, Nat.mul_one], .inr ⟨g, cap, cur, rfl, hg, hh, k1, k2, by omega, by rw [Nat.mul_one]; exact k5⟩⟩ ad m c news hx (by omega) hnews h1 hr ?_
   intro w' r1 r2
   exact h _ w' r1 (.inl ⟨g, cap, rfl, rfl, r2⟩)
  ·refine wpList_append_grows W hgd s x SE ho E i0 z 1 bytes hu hi hz0 hz1 hz2 hzc (by decide) (some ⟨g, 0, none⟩) n cap xs (by rw [hs, hv]) (fun c => by cases c) (by rw [hown.1, Nat.mul_one]) ?_ ad m c news hx (by omega) hnews h1 (by omega) hmx hb2 ?_
   ·intro b hb j u hj
    cases hb
    have hj' : j < n := by have := (List.getElem?_eq_some_iff.1 hj).1; rw [hown.1] at this; exact this
    rw [Addr.add_lit, cell_of_row _ g _ _ _ _ hh, Nat.zero_add, <- hj, <- k5, List.getElem?_take, if_pos hj', Array.getElem?_toList]
   ·intro v' w' r1 r2
    exact grow w' v' (fun g' cap' e => by rw [hv] at e; cases e; omega) r1 r2
def LMk (W : World) (base : Nat) (E : TypeId) (v : Value) (n : Nat) (u : Value) : Prop :=
 (v = .slice none 0 0 /\ n = 0) \/ ∃ g cap cur, v = .slice (some ⟨g, 0, none⟩) n cap /\ base <= g /\ W.heap[g]? = some (.cells cur E) /\ n <= cap /\ cap <= maxLen /\ (n < cap -> cur.size = cap) /\ (∀ i, i < n -> cur[i]? = some u) /\ (n < cap -> cur[n]? = some u)
def FulG (W : World) (E : TypeId) (v : Value) (u : Value) : Prop := ∃ ao n cap, v = .slice ao n cap /\ n <= maxLen /\ (n = 0 \/ ∃ g cur, ao = some ⟨g, 0, none⟩ /\ W.heap[g]? = some (.cells cur E) /\ ∀ i, i < n -> cur[i]? = some u)
theorem FulG.keep {W W' : World} {E : TypeId} {v u : Value} (h : FulG W E v u) (hk : ∀ k, v.ownBlock = some k -> k < W.heap.size -> W'.heap[k]? = W.heap[k]?) : FulG W' E v u := by
 obtain ⟨ao, n, cap, h1, h2, h3⟩ := h
 refine ⟨ao, n, cap, h1, h2, ?_⟩
 rcases h3 with h0 | ⟨g, cur, a, b, c⟩
 ·exact .inl h0
 ·exact .inr ⟨g, cur, a, (hk g (by rw [h1, a]; rfl) (blk_lt b)).trans b, c⟩
theorem rep_cur {cur : Array Value} {n : Nat} {u : Value} (h : cur.toList.take (n * 1) = List.replicate n u) (i : Nat) (hi : i < n) : cur[i]? = some u := by
 have h2 := congrArg (fun l => l[i]?) h
 simp only [List.getElem?_take, Nat.mul_one, if_pos hi, Array.getElem?_toList, List.getElem?_replicate] at h2
 exact h2
theorem FulG.of {W : World} {base : Nat} {E : TypeId} {v : Value} {n : Nat} {u : Value} (h : W.ownsRow base E 1 v n (List.replicate n u)) : FulG W E v u := by
 rcases h.2 with ⟨rfl, h0⟩ | ⟨g, cap, cur, rfl, h2, h3, h4, h5, h6, h7⟩
 ·exact ⟨none, 0, 0, rfl, Nat.zero_le _, .inl rfl⟩
 ·exact ⟨_, n, cap, rfl, by omega, .inr ⟨g, cur, rfl, h3, fun i hi => rep_cur h7 i hi⟩⟩
theorem LMk.ful {W : World} {base : Nat} {E : TypeId} {v : Value} {n : Nat} {u : Value} (h : LMk W base E v n u) : FulG W E v u := by
 rcases h with ⟨rfl, h0⟩ | ⟨g, cap, cur, rfl, h2, h3, h4, h5, h6, h7, h8⟩
 ·exact ⟨none, 0, 0, rfl, Nat.zero_le _, .inl rfl⟩
 ·exact ⟨_, n, cap, rfl, by omega, .inr ⟨g, cur, rfl, h3, h7⟩⟩
theorem LMk.keep {W W' : World} {base : Nat} {E : TypeId} {v : Value} {n : Nat} {u : Value} (h : LMk W base E v n u) (hk : ∀ k, v.ownBlock = some k -> k < W.heap.size -> W'.heap[k]? = W.heap[k]?) : LMk W' base E v n u := by
 rcases h with h | ⟨g, cap, cur, rfl, h2, h3, r⟩
 ·exact .inl h
 ·exact .inr ⟨g, cap, cur, rfl, h2, (hk g rfl (blk_lt h3)).trans h3, r⟩
theorem LMk.lt {W : World} {base : Nat} {E : TypeId} {v : Value} {n : Nat} {u : Value} (h : LMk W base E v n u) (k : Nat) (hk : v.ownBlock = some k) : k < W.heap.size := by
 rcases h with ⟨rfl, _⟩ | ⟨g, cap, cur, rfl, h2, h3, r⟩
 ·cases hk
 ·cases hk; exact blk_lt h3
theorem rep_curX {cur : Array Value} {n : Nat} {u : Value} (h : cur.toList.take n = List.replicate n u) (i : Nat) (hi : i < n) : cur[i]? = some u := rep_cur (by rw [Nat.mul_one]; exact h) i hi
structure Fx (base : Nat) (S W : World) (v : Value) : Prop where
 bel : Below base S W
 blk : ∀ k, k < S.heap.size -> v.ownBlock ≠ some k -> W.heap[k]? = S.heap[k]?
theorem Fx.later {base : Nat} {S W W' : World} {v : Value} (h : Fx base S W v) (hb : base <= W.heap.size) (hl : Below W.heap.size W W') : Fx base S W' v :=
 ⟨h.bel.trans (hl.mono hb), fun k hk hv => (hl.block k (Nat.lt_of_lt_of_le hk h.bel.size)).trans (h.blk k hk hv)⟩
structure MkS (S W : World) (base : Nat) (E : TypeId) (v gv : Value) (n k : Nat) (u : Value) : Prop where
 l : LMk W base E v n u
 g : W.ownsRow base E 1 gv k (List.replicate k u)
 nk : n < k
 gb : ∀ b, gv.ownBlock = some b -> v.ownBlock = some b \/ S.heap.size <= b
 sc : ∀ b, v.ownBlock = some b -> gv.ownBlock = some b -> ∃ cap, v = .slice (some ⟨b, 0, none⟩) n cap /\ gv = .slice (some ⟨b, 0, none⟩) k cap
 fx : Fx base S W v
theorem MkS.later {S W W' : World} {base : Nat} {E : TypeId} {v gv : Value} {n k : Nat} {u : Value} (h : MkS S W base E v gv n k u) (hb : base <= W.heap.size) (hl : Below W.heap.size W W') : MkS S W' base E v gv n k u :=
 ⟨h.l.keep fun k _ hk => hl.block k hk, owns_keep h.g fun k hk => hl.block k (World.ownsRow.lt h.g k hk).2, h.nk, h.gb, h.sc, h.fx.later hb hl⟩
theorem rep_snoc (n : Nat) (u : Value) : List.replicate n u ++ [u] = List.replicate (n + 1) u := by rw [List.replicate_succ']
theorem MkS.first {S W w' : World} {base : Nat} {E : TypeId} {v v' : Value} {n : Nat} {u : Value} (hf : Fx base S W v) (hb : base <= W.heap.size) (h : OwX W base E v n (List.replicate n u)) (h' : w'.ownsRow base E 1 v' (n + 1) (List.replicate n u ++ [u])) (hg : Gx W w' v v' n 1) : MkS S w' base E v v' n (n + 1) u := by
 rw [rep_snoc] at h'
 rcases hg with ⟨g, cap, rfl, rfl, hg⟩ | ⟨hc, hg, hn⟩
 ·have hbg : base <= g := (h.lt g rfl).1
  refine ⟨?_, h', Nat.lt_succ_self _, fun b hb => .inl hb, fun b e _ => (by cases e; exact ⟨cap, rfl, rfl⟩), ⟨hf.bel.grown hg hb fun k hk => (by cases hk; exact hbg), fun k hk hv => (hg.block k (Nat.lt_of_lt_of_le hk hf.bel.size) (fun e => hv e.symm)).trans (hf.blk k hk hv)⟩⟩
  rcases h'.2 with ⟨c, _⟩ | ⟨g', cap', cur, e, h2, h3, h4, h5, h6, h7⟩
  ·cases c
  ·cases e
   exact .inr ⟨g, cap, cur, rfl, h2, h3, by omega, h5, fun _ => by omega, fun i hi => rep_cur h7 i (by omega), fun _ => rep_cur h7 n (by omega)⟩
 ·refine ⟨?_, h', Nat.lt_succ_self _, fun b hb => .inr (Nat.le_trans hf.bel.size (hn b hb)), fun b e e' => (by have := (h.lt b e).2; have := hn b e'; omega), ⟨hf.bel.grown hg hb fun k hk => (by cases hk), fun k hk hv => (hg.block k (Nat.lt_of_lt_of_le hk hf.bel.size) (by simp)).trans (hf.blk k hk hv)⟩⟩
  rcases h.2 with ⟨e, h0⟩ | ⟨g, cap, cur, rfl, h2, h3, h4, h5, h6, h7, h8⟩
  ·exact .inl ⟨e, h0⟩
  ·have := hc g cap rfl
   exact .inr ⟨g, cap, cur, rfl, h2, (hg.block g (blk_lt h3) (by simp)).trans h3, h4, h5, fun hh => by omega, fun i hi => rep_curX h8 i hi, fun hh => by omega⟩
theorem MkS.step {S W w' : World} {base : Nat} {E : TypeId} {v gv v' : Value} {n k : Nat} {u : Value} (h : MkS S W base E v gv n k u) (hb : base <= W.heap.size) (h' : w'.ownsRow base E 1 v' (k + 1) (List.replicate k u ++ [u])) (hg : Gx W w' gv v' k 1) : MkS S w' base E v v' n (k + 1) u := by
 rw [rep_snoc] at h'
 have hnk := h.nk
 rcases hg with ⟨g, cap, rfl, rfl, hg⟩ | ⟨hc, hg, hn⟩
 ·have hbg : base <= g := (World.ownsRow.lt h.g g rfl).1
  have hgb := h.gb g rfl
  have hsc := h.sc
  refine ⟨?_, h', by omega, fun b hb => h.gb b hb, fun b e e' => ?_, ⟨h.fx.bel.grown hg hb fun k hk => (by cases hk; exact hbg), fun j hj hv => (hg.block j (Nat.lt_of_lt_of_le hj h.fx.bel.size) (fun e => by cases e; rcases hgb with e | e; exact hv e; omega)).trans (h.fx.blk j hj hv)⟩⟩
  ·by_cases hv : v.ownBlock = some g
   ·obtain ⟨cap1, e1, e2⟩ := hsc g hv rfl
    cases e2
    subst e1
    rcases h'.2 with ⟨e, _⟩ | ⟨g3, cap3, cur3, e, c2, c3, c4, c5, c6, c7⟩
    ·cases e
    ·cases e
     exact .inr ⟨_, cap, cur3, rfl, c2, c3, by omega, c5, fun _ => by omega, fun i hi => rep_cur c7 i (by omega), fun _ => rep_cur c7 n (by omega)⟩
   ·exact h.l.keep fun j hj hl => hg.block j hl (fun e => by cases e; exact hv hj)
  ·obtain ⟨cap1, e1, e2⟩ := hsc b e e'
   cases e2
   exact ⟨cap, e1, rfl⟩
 ·exact ⟨h.l.keep fun j hj hl => hg.block j hl (by simp), h', by omega, fun b hb => .inr (Nat.le_trans h.fx.bel.size (hn b hb)), fun b e e' => (by have := h.l.lt b e; have := hn b e'; omega), ⟨h.fx.bel.grown hg hb fun k hk => (by cases hk), fun j hj hv => (hg.block j (Nat.lt_of_lt_of_le hj h.fx.bel.size) (by simp)).trans (h.fx.blk j hj hv)⟩⟩
theorem append_lm {P : Program} {SE E : TypeId} {z : Value} {bytes : Nat} (hu : P.underlying SE = some (.slice E)) (hinfo : (P.info? E).map (fun i => (i.zero, i.size, i.bytes)) = some (some z, 1, bytes)) (hzc : z.cells.size = 1) (hby : bytes <= 64)
  {ops : Array Oper} {rest : List Oper} {o : Oper} {a : Act} {Q : Exit -> Act -> World -> Prop} (W : World) (hgd : o.guard = none) (s x : Operand) (ho : o.op = .call { callee := .builtin .append, args := #[s, x], argTypes := #[SE, SE] })
  (base : Nat) (v : Value) (n : Nat) (u : Value) (hs : a.eval s = v) (hl : LMk W base E v n u)
  (ad : Addr) (c : Nat) (hx : a.eval x = .slice (some ad) 1 c) (hnews : W.cell? (ad.add 0) = some u) (h1 : u.oneCell' = true) (hlen : n + 1 <= 2000000)
  (h : ∀ v' w', FulG w' E v' u -> W.grownBy w' none -> (∀ b, v'.ownBlock = some b -> (v.ownBlock = some b \/ W.heap.size <= b) /\ b < w'.heap.size) -> wpList P ops Q rest (a.put o.dst v') w') : wpList P ops Q (o :: rest) a W := by
 obtain ⟨i0, hi, hz0, hz1, hz2⟩ := info3P hinfo
 have hb2 : (n + 1) * bytes <= 140737488355328 := Nat.le_trans (Nat.mul_le_mul hlen hby) (by decide)
 have hmx : n + 1 <= maxLen := Nat.le_trans hlen (by decide)
 have hnw : ∀ j x, [u][j]? = some x -> W.cell? (ad.add j) = some x := by
  intro j x hj
  match j, hj with
  | 0, hj => cases hj; exact hnews
 have h1' : ∀ x ∈ [u], x.oneCell' = true := fun x hx => by cases List.mem_singleton.1 hx; exact h1
 have grow : ∀ (w' : World) (v' : Value), w'.ownsRow W.heap.size E 1 v' (n + 1) (List.replicate n u ++ [u]) -> W.grownBy w' none -> wpList P ops Q rest (a.put o.dst v') w' := by
  intro w' v' g1 g2
  rw [rep_snoc] at g1
  exact h v' w' (FulG.of g1) g2 fun k hk => ⟨.inr (World.ownsRow.lt g1 k hk).1, (World.ownsRow.lt g1 k hk).2⟩
 rcases hl with ⟨rfl, rfl⟩ | ⟨g, cap, cur, rfl, h2, h3, h4, h5, h6, h7, h8⟩
 ·refine wpList_append_grows W hgd s x SE ho E i0 z 1 bytes hu hi hz0 hz1 hz2 hzc (by decide) none 0 0 [] hs (fun _ => ⟨rfl, rfl⟩) (by simp) (fun b hb => by cases hb) ad 1 c [u] hx (by simp) hnw h1' (by omega) hmx hb2 ?_
  intro v' w' r1 r2
  exact grow w' v' r1 r2
 ·by_cases hr : n + 1 <= cap
  ·have hun := h8 (by omega)
   have hrun := run_append_room (P := P) (w := W) SE o.type E i0 hu hi g n cap cur h3 ad 1 c [u] (by rw [hz1]; rfl) hnw h1' hr (by rw [hz1]; have := h6 (by omega); simp; omega)
   have hcur : (cur.toList.take (n * i0.size) ++ [u] ++ cur.toList.drop (n * i0.size + [u].length)).toArray = cur := by
    apply Array.ext'
    rw [hz1]
    show cur.toList.take (n * 1) ++ [u] ++ cur.toList.drop (n * 1 + 1) = cur.toList
    rw [Nat.mul_one]
    have hn : n < cur.toList.length := by rw [Array.length_toList, h6 (by omega)]; omega
    have hgu : cur.toList[n] = u := by
     have := Array.getElem?_eq_some_iff.1 hun
     rw [Array.getElem_toList]
     exact this.2
    rw [List.append_assoc, List.singleton_append, <- hgu, <- List.drop_eq_getElem_cons hn, List.take_append_drop]
   rw [hcur, setRow_self W g cur E (0, 0) h3] at hrun
   refine wpList_plain hgd fun K hK => ?_
   unfold Oper.wp
   simp [execOp, ho, resolve, invoke, builtin, hs, hx, hrun, Result.andThen]
   exact hK _ _ (h _ W ⟨_, n + 1, cap, rfl, by omega, .inr ⟨g, cur, rfl, h3, fun i hi => by
    by_cases e : i < n
    ·exact h7 i e
    ·obtain rfl : i = n := by omega
     exact hun⟩⟩ ⟨rfl, rfl, rfl, Nat.le_refl _, fun _ _ _ => rfl⟩ fun b hb => ⟨.inl hb, by cases hb; exact blk_lt h3⟩)
  ·refine wpList_append_grows W hgd s x SE ho E i0 z 1 bytes hu hi hz0 hz1 hz2 hzc (by decide) (some ⟨g, 0, none⟩) n cap (List.replicate n u) hs (fun c => by cases c) (by simp) ?_ ad 1 c [u] hx (by simp) hnw h1' (by omega) hmx hb2 ?_
   ·intro b hb j y hj
    cases hb
    rw [List.getElem?_replicate] at hj
    by_cases e : j < n
    ·rw [if_pos e] at hj
     cases hj
     rw [Addr.add_lit, cell_of_row _ g _ _ _ _ h3]
     simpa using h7 j e
    ·rw [if_neg e] at hj; cases hj
   ·intro v' w' r1 r2
    exact grow w' v' r1 r2
end Go.Proofs.YthmhgpadinecfaaGreat
