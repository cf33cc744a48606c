import Derived.Test.YthmhgpadinecfaaGreatBKb
set_option linter.unusedVariables false
set_option linter.unusedSimpArgs false
namespace Go.Proofs.YthmhgpadinecfaaGreat
open Go.RowKit Go.Shelf
structure BkP (W : World) (B base : Nat) (cs : Array Value) (vF vM vI vN : Value) (Fs Ls : List Value) (ps ms : List Nat) (bs ns : List Int) (Q : Nat -> Prop) : Prop where
 bx : W.heap[B]? = some (.cells cs 39)
 f : W.ownsRow base 22 1 vF Fs.length Fs
 m : W.ownsRow base 55 1 vM ms.length (ms.map (Value.float .f64))
 i : W.ownsRow base 23 1 vI Ls.length Ls
 n : W.ownsRow base 3 1 vN ns.length (ns.map (Value.int .i64))
 ff : ∀ (j : Nat) (v : Value), Fs[j]? = some v -> FulG W 55 v (.float .f64 (ps[j]?.getD 0))
 fi : ∀ (j : Nat) (v : Value), Ls[j]? = some v -> FulG W 3 v (.int .i64 (bs[j]?.getD 0))
 dM : ∀ v ∈ Fs, ∀ k, v.ownBlock = some k -> vM.ownBlock ≠ some k
 dN : ∀ v ∈ Ls, ∀ k, v.ownBlock = some k -> vN.ownBlock ≠ some k
 lF : ∀ v ∈ Fs, ∀ k, v.ownBlock = some k -> k < W.heap.size /\ ¬ Q k
 lI : ∀ v ∈ Ls, ∀ k, v.ownBlock = some k -> k < W.heap.size /\ ¬ Q k
 q : ∀ k, Q k -> k < W.heap.size
 qB : ¬ Q B
 qF : ∀ k, vF.ownBlock = some k -> ¬ Q k
 qM : ∀ k, vM.ownBlock = some k -> ¬ Q k
 qI : ∀ k, vI.ownBlock = some k -> ¬ Q k
 qN : ∀ k, vN.ownBlock = some k -> ¬ Q k
 lo : base <= B /\ base <= W.heap.size
theorem BkP.keep {W W' : World} {B base : Nat} {cs : Array Value} {vF vM vI vN : Value} {Fs Ls : List Value} {ps ms : List Nat} {bs ns : List Int} {Q : Nat -> Prop} (h : BkP W B base cs vF vM vI vN Fs Ls ps ms bs ns Q) (hs : W.heap.size <= W'.heap.size) (hk : ∀ k, k < W.heap.size -> ¬ Q k -> W'.heap[k]? = W.heap[k]?) : BkP W' B base cs vF vM vI vN Fs Ls ps ms bs ns Q :=
 ⟨(hk B (blk_lt h.bx) h.qB).trans h.bx, owns_keep h.f fun k e => hk k (World.ownsRow.lt h.f k e).2 (h.qF k e), owns_keep h.m fun k e => hk k (World.ownsRow.lt h.m k e).2 (h.qM k e), owns_keep h.i fun k e => hk k (World.ownsRow.lt h.i k e).2 (h.qI k e), owns_keep h.n fun k e => hk k (World.ownsRow.lt h.n k e).2 (h.qN k e),
  fun j v hj => (h.ff j v hj).keep fun k e l => hk k l (h.lF v (List.mem_of_getElem? hj) k e).2, fun j v hj => (h.fi j v hj).keep fun k e l => hk k l (h.lI v (List.mem_of_getElem? hj) k e).2, h.dM, h.dN,
  fun v hv k e => ⟨Nat.lt_of_lt_of_le (h.lF v hv k e).1 hs, (h.lF v hv k e).2⟩, fun v hv k e => ⟨Nat.lt_of_lt_of_le (h.lI v hv k e).1 hs, (h.lI v hv k e).2⟩, fun k e => Nat.lt_of_lt_of_le (h.q k e) hs, h.qB, h.qF, h.qM, h.qI, h.qN, h.lo.1, Nat.le_trans h.lo.2 hs⟩
theorem BkP.later {W W' : World} {B base : Nat} {cs : Array Value} {vF vM vI vN : Value} {Fs Ls : List Value} {ps ms : List Nat} {bs ns : List Int} {Q : Nat -> Prop} (h : BkP W B base cs vF vM vI vN Fs Ls ps ms bs ns Q) (hb : Below W.heap.size W W') : BkP W' B base cs vF vM vI vN Fs Ls ps ms bs ns Q := h.keep hb.size fun k hk _ => hb.block k hk
theorem BkP.shrink {W : World} {B base : Nat} {cs : Array Value} {vF vM vI vN : Value} {Fs Ls : List Value} {ps ms : List Nat} {bs ns : List Int} {Q : Nat -> Prop} {Q' : Nat -> Prop} (h : BkP W B base cs vF vM vI vN Fs Ls ps ms bs ns Q) (hq : ∀ k, Q' k -> Q k) : BkP W B base cs vF vM vI vN Fs Ls ps ms bs ns Q' :=
 ⟨h.bx, h.f, h.m, h.i, h.n, h.ff, h.fi, h.dM, h.dN, fun v hv k e => ⟨(h.lF v hv k e).1, fun c => (h.lF v hv k e).2 (hq k c)⟩, fun v hv k e => ⟨(h.lI v hv k e).1, fun c => (h.lI v hv k e).2 (hq k c)⟩, fun k e => h.q k (hq k e), fun c => h.qB (hq _ c), fun k e c => h.qF k e (hq k c), fun k e c => h.qM k e (hq k c), fun k e c => h.qI k e (hq k c), fun k e c => h.qN k e (hq k c), h.lo⟩
theorem BkP.set {W W' : World} {B base : Nat} {cs : Array Value} {vF vM vI vN : Value} {Fs Ls : List Value} {ps ms : List Nat} {bs ns : List Int} {Q : Nat -> Prop} {cs' : Array Value} (h : BkP W B base cs vF vM vI vN Fs Ls ps ms bs ns Q) (hs : W'.heap.size = W.heap.size) (hB : W'.heap[B]? = some (.cells cs' 39)) (ho : ∀ k, k ≠ B -> W'.heap[k]? = W.heap[k]?) : BkP W' B base cs' vF vM vI vN Fs Ls ps ms bs ns Q := by
 have hk : ∀ (k : Nat) (cur : Array Value) (t : TypeId), t ≠ 39 -> W.heap[k]? = some (.cells cur t) -> W'.heap[k]? = W.heap[k]? := fun k cur t ht hc => ho k (by rintro rfl; rw [h.bx] at hc; injection hc with hc; injection hc with _ hc; exact ht hc.symm)
 have hl : ∀ (v u : Value) (t : TypeId), t ≠ 39 -> FulG W t v u -> FulG W' t v u := by
  rintro v u t ht ⟨ao, n, cap, h1, h2, h3⟩
  refine ⟨ao, n, cap, h1, h2, ?_⟩
  rcases h3 with h0 | ⟨g, cur, a, b, c⟩
  ·exact .inl h0
  ·exact .inr ⟨g, cur, a, (hk g cur t ht b).trans b, c⟩
 exact ⟨hB, owns_keepT h.f fun k cur => hk k cur _ (by decide), owns_keepT h.m fun k cur => hk k cur _ (by decide), owns_keepT h.i fun k cur => hk k cur _ (by decide), owns_keepT h.n fun k cur => hk k cur _ (by decide), fun j v hj => hl _ _ _ (by decide) (h.ff j v hj), fun j v hj => hl _ _ _ (by decide) (h.fi j v hj), h.dM, h.dN, fun v hv k e => ⟨by rw [hs]; exact (h.lF v hv k e).1, (h.lF v hv k e).2⟩, fun v hv k e => ⟨by rw [hs]; exact (h.lI v hv k e).1, (h.lI v hv k e).2⟩, fun k e => by rw [hs]; exact h.q k e, h.qB, h.qF, h.qM, h.qI, h.qN, h.lo.1, by rw [hs]; exact h.lo.2⟩
theorem Gx.size {W W' : World} {v v' : Value} {n m : Nat} (h : Gx W W' v v' n m) : W.heap.size <= W'.heap.size := by
 rcases h with ⟨_, _, _, _, h⟩ | ⟨_, h, _⟩ <;> exact h.size
theorem Gx.block {W W' : World} {v v' : Value} {n m : Nat} (h : Gx W W' v v' n m) (k : Nat) (hk : k < W.heap.size) (hv : v.ownBlock ≠ some k) : W'.heap[k]? = W.heap[k]? := by
 rcases h with ⟨g, cap, rfl, _, h⟩ | ⟨_, h, _⟩
 ·exact h.block k hk fun e => hv e.symm
 ·exact h.block k hk (by simp)
theorem Gx.own {W W' : World} {v v' : Value} {n m : Nat} (h : Gx W W' v v' n m) (k : Nat) (hk : v'.ownBlock = some k) : v.ownBlock = some k \/ W.heap.size <= k := by
 rcases h with ⟨g, cap, rfl, rfl, h⟩ | ⟨_, _, h⟩
 ·exact .inl hk
 ·exact .inr (h k hk)
theorem Gx.below {W W' : World} {v v' : Value} {n m base : Nat} (h : Gx W W' v v' n m) (hb : base <= W.heap.size) (hv : ∀ k, v.ownBlock = some k -> base <= k) : Below base W W' := by
 rcases h with ⟨g, cap, rfl, rfl, h⟩ | ⟨_, h, _⟩
 ·exact (Below.refl base W).grown h hb fun k hk => by cases hk; exact hv _ rfl
 ·exact (Below.refl base W).grown h hb fun k hk => by cases hk
theorem Gx.alloc {W W' : World} {v v' : Value} {n m : Nat} {o : Obj} (h : Gx (W.alloc o) W' v v' n m) : Gx W W' v v' n m := by
 have hsz : (W.alloc o).heap.size = W.heap.size + 1 := Array.size_push ..
 rcases h with ⟨g, cap, h1, h2, g1⟩ | ⟨h1, g1, h2⟩
 ·exact .inl ⟨g, cap, h1, h2, g1.os, g1.tape, g1.output, by have := g1.size; omega, fun j hj hne => by rw [g1.block j (by omega) hne, Below.heap_alloc W _ j hj]⟩
 ·exact .inr ⟨h1, ⟨g1.os, g1.tape, g1.output, by have := g1.size; omega, fun j hj hne => by rw [g1.block j (by omega) hne, Below.heap_alloc W _ j hj]⟩, fun k hk => by have := h2 k hk; omega⟩
theorem owns_ne {w : World} {base base' : Nat} {E E' : TypeId} {v v' : Value} {n n' : Nat} {xs xs' : List Value} (h : w.ownsRow base E 1 v n xs) (h' : w.ownsRow base' E' 1 v' n' xs') (hne : E ≠ E') : ∀ k, v.ownBlock = some k -> v'.ownBlock ≠ some k := by
 intro k e e'
 rcases h.2 with ⟨rfl, _⟩ | ⟨g, cap, cur, rfl, _, h3, _⟩
 ·cases e
 ·rcases h'.2 with ⟨rfl, _⟩ | ⟨g', cap', cur', rfl, _, h3', _⟩
  ·cases e'
  ·cases e
   cases e'
   rw [h3] at h3'
   injection h3' with h3'
   injection h3' with _ h3'
   exact hne h3'
theorem bx_ne {w : World} {B base : Nat} {cs : Array Value} {E : TypeId} {v : Value} {n : Nat} {xs : List Value} (hB : w.heap[B]? = some (.cells cs 39)) (h : w.ownsRow base E 1 v n xs) (hne : E ≠ 39) : v.ownBlock ≠ some B := by
 intro e
 rcases h.2 with ⟨rfl, _⟩ | ⟨g, cap, cur, rfl, _, h3, _⟩
 ·cases e
 ·cases e
  rw [hB] at h3
  injection h3 with h3
  injection h3 with _ h3
  exact hne h3.symm
theorem ful_ne {w : World} {base : Nat} {E E' : TypeId} {v x u : Value} {n : Nat} {xs : List Value} {w' : World} {v' : Value} {m : Nat} (h : w.ownsRow base E 1 v n xs) (hf : FulG w E' x u) (hne : E ≠ E') (hg : Gx w w' v v' n m) : FulG w' E' x u := by
 obtain ⟨ao, l, cap, h1, h2, h3⟩ := hf
 refine ⟨ao, l, cap, h1, h2, ?_⟩
 rcases h3 with h0 | ⟨g, cur, a, b, c⟩
 ·exact .inl h0
 ·refine .inr ⟨g, cur, a, (hg.block g (blk_lt b) ?_).trans b, c⟩
  intro e
  rcases h.2 with ⟨rfl, _⟩ | ⟨g', cap', cur', rfl, _, h3', _⟩
  ·cases e
  ·cases e
   rw [b] at h3'
   injection h3' with h3'
   injection h3' with _ h3'
   exact hne h3'.symm
theorem BkP.pushI {W W' : World} {B base : Nat} {cs : Array Value} {vF vM vI vN : Value} {Fs Ls : List Value} {ps ms : List Nat} {bs ns : List Int} {Q : Nat -> Prop} {vI' : Value} {ts : List Value} {mk : Int} (h : BkP W B base cs vF vM vI vN Fs Ls ps ms bs ns Q) (hlen : bs.length = Ls.length) (hg : Gx W W' vI vI' Ls.length ts.length) (ho : W'.ownsRow base 23 1 vI' (Ls.length + ts.length) (Ls ++ ts)) (ht : ∀ v ∈ ts, FulG W 3 v (.int .i64 mk) /\ ∀ k, v.ownBlock = some k -> k < W.heap.size /\ ¬ Q k /\ vN.ownBlock ≠ some k) : BkP W' B base cs vF vM vI' vN Fs (Ls ++ ts) ps ms (bs ++ List.replicate ts.length mk) ns Q := by
 rw [<- List.length_append] at ho
 exact ⟨(hg.block B (blk_lt h.bx) (bx_ne h.bx h.i (by decide))).trans h.bx, owns_keep h.f fun k e => hg.block k (World.ownsRow.lt h.f k e).2 (owns_ne h.f h.i (by decide) k e), owns_keep h.m fun k e => hg.block k (World.ownsRow.lt h.m k e).2 (owns_ne h.m h.i (by decide) k e), ho, owns_keep h.n fun k e => hg.block k (World.ownsRow.lt h.n k e).2 (owns_ne h.n h.i (by decide) k e), (fun j v hj => ful_ne h.i (h.ff j v hj) (by decide) hg), (fun j v hj => by
   by_cases e : j < Ls.length
   ·rw [List.getElem?_append_left e] at hj
    rw [List.getElem?_append_left (by omega)]
    exact ful_ne h.i (h.fi j v hj) (by decide) hg
   ·rw [List.getElem?_append_right (by omega)] at hj
    have hlt : j - Ls.length < ts.length := (List.getElem?_eq_some_iff.1 hj).1
    rw [List.getElem?_append_right (by omega), hlen, List.getElem?_replicate, if_pos hlt]
    exact ful_ne h.i (ht v (List.mem_of_getElem? hj)).1 (by decide) hg), h.dM, (fun v hv k e => by rcases List.mem_append.1 hv with hv | hv; exact h.dN v hv k e; exact ((ht v hv).2 k e).2.2), (fun v hv k e => ⟨Nat.lt_of_lt_of_le (h.lF v hv k e).1 hg.size, (h.lF v hv k e).2⟩), (fun v hv k e => by rcases List.mem_append.1 hv with hv | hv; exact ⟨Nat.lt_of_lt_of_le (h.lI v hv k e).1 hg.size, (h.lI v hv k e).2⟩; exact ⟨Nat.lt_of_lt_of_le ((ht v hv).2 k e).1 hg.size, ((ht v hv).2 k e).2.1⟩), fun k e => Nat.lt_of_lt_of_le (h.q k e) hg.size, h.qB, h.qF, h.qM, (fun k e c => by rcases hg.own k e with e | e; exact h.qI k e c; have := h.q k c; omega), h.qN, h.lo.1, Nat.le_trans h.lo.2 hg.size⟩
theorem BkP.pushF {W W' : World} {B base : Nat} {cs : Array Value} {vF vM vI vN : Value} {Fs Ls : List Value} {ps ms : List Nat} {bs ns : List Int} {Q : Nat -> Prop} {vF' : Value} {ts : List Value} {mk : Nat} (h : BkP W B base cs vF vM vI vN Fs Ls ps ms bs ns Q) (hlen : ps.length = Fs.length) (hg : Gx W W' vF vF' Fs.length ts.length) (ho : W'.ownsRow base 22 1 vF' (Fs.length + ts.length) (Fs ++ ts)) (ht : ∀ v ∈ ts, FulG W 55 v (.float .f64 mk) /\ ∀ k, v.ownBlock = some k -> k < W.heap.size /\ ¬ Q k /\ vM.ownBlock ≠ some k) : BkP W' B base cs vF' vM vI vN (Fs ++ ts) Ls (ps ++ List.replicate ts.length mk) ms bs ns Q := by
 rw [<- List.length_append] at ho
 exact ⟨(hg.block B (blk_lt h.bx) (bx_ne h.bx h.f (by decide))).trans h.bx, ho, owns_keep h.m fun k e => hg.block k (World.ownsRow.lt h.m k e).2 (owns_ne h.m h.f (by decide) k e), owns_keep h.i fun k e => hg.block k (World.ownsRow.lt h.i k e).2 (owns_ne h.i h.f (by decide) k e), owns_keep h.n fun k e => hg.block k (World.ownsRow.lt h.n k e).2 (owns_ne h.n h.f (by decide) k e), (fun j v hj => by
   by_cases e : j < Fs.length
   ·rw [List.getElem?_append_left e] at hj
    rw [List.getElem?_append_left (by omega)]
    exact ful_ne h.f (h.ff j v hj) (by decide) hg
   ·rw [List.getElem?_append_right (by omega)] at hj
    have hlt : j - Fs.length < ts.length := (List.getElem?_eq_some_iff.1 hj).1
    rw [List.getElem?_append_right (by omega), hlen, List.getElem?_replicate, if_pos hlt]
    exact ful_ne h.f (ht v (List.mem_of_getElem? hj)).1 (by decide) hg), (fun j v hj => ful_ne h.f (h.fi j v hj) (by decide) hg), (fun v hv k e => by rcases List.mem_append.1 hv with hv | hv; exact h.dM v hv k e; exact ((ht v hv).2 k e).2.2), h.dN, (fun v hv k e => by rcases List.mem_append.1 hv with hv | hv; exact ⟨Nat.lt_of_lt_of_le (h.lF v hv k e).1 hg.size, (h.lF v hv k e).2⟩; exact ⟨Nat.lt_of_lt_of_le ((ht v hv).2 k e).1 hg.size, ((ht v hv).2 k e).2.1⟩), (fun v hv k e => ⟨Nat.lt_of_lt_of_le (h.lI v hv k e).1 hg.size, (h.lI v hv k e).2⟩), fun k e => Nat.lt_of_lt_of_le (h.q k e) hg.size, h.qB, (fun k e c => by rcases hg.own k e with e | e; exact h.qF k e c; have := h.q k c; omega), h.qM, h.qI, h.qN, h.lo.1, Nat.le_trans h.lo.2 hg.size⟩
theorem BkP.pushN {W W' : World} {B base : Nat} {cs : Array Value} {vF vM vI vN : Value} {Fs Ls : List Value} {ps ms : List Nat} {bs ns : List Int} {Q : Nat -> Prop} {vN' : Value} {ts : List Int} (h : BkP W B base cs vF vM vI vN Fs Ls ps ms bs ns Q) (hg : Gx W W' vN vN' ns.length ts.length) (ho : W'.ownsRow base 3 1 vN' (ns.length + ts.length) (ns.map (Value.int .i64) ++ ts.map (Value.int .i64))) : BkP W' B base cs vF vM vI vN' Fs Ls ps ms bs (ns ++ ts) Q := by
 rw [<- List.length_append, <- List.map_append] at ho
 exact ⟨(hg.block B (blk_lt h.bx) (bx_ne h.bx h.n (by decide))).trans h.bx, owns_keep h.f fun k e => hg.block k (World.ownsRow.lt h.f k e).2 (owns_ne h.f h.n (by decide) k e), owns_keep h.m fun k e => hg.block k (World.ownsRow.lt h.m k e).2 (owns_ne h.m h.n (by decide) k e), owns_keep h.i fun k e => hg.block k (World.ownsRow.lt h.i k e).2 (owns_ne h.i h.n (by decide) k e), ho, (fun j v hj => ful_ne h.n (h.ff j v hj) (by decide) hg), (fun j v hj => (h.fi j v hj).keep fun k e l => hg.block k l (h.dN v (List.mem_of_getElem? hj) k e)), h.dM, (fun v hv k e c => by rcases hg.own k c with c | c; exact h.dN v hv k e c; have := (h.lI v hv k e).1; omega), (fun v hv k e => ⟨Nat.lt_of_lt_of_le (h.lF v hv k e).1 hg.size, (h.lF v hv k e).2⟩), (fun v hv k e => ⟨Nat.lt_of_lt_of_le (h.lI v hv k e).1 hg.size, (h.lI v hv k e).2⟩), fun k e => Nat.lt_of_lt_of_le (h.q k e) hg.size, h.qB, h.qF, h.qM, h.qI, (fun k e c => by rcases hg.own k e with e | e; exact h.qN k e c; have := h.q k c; omega), h.lo.1, Nat.le_trans h.lo.2 hg.size⟩
theorem BkP.pushM {W W' : World} {B base : Nat} {cs : Array Value} {vF vM vI vN : Value} {Fs Ls : List Value} {ps ms : List Nat} {bs ns : List Int} {Q : Nat -> Prop} {vM' : Value} {ts : List Nat} (h : BkP W B base cs vF vM vI vN Fs Ls ps ms bs ns Q) (hg : Gx W W' vM vM' ms.length ts.length) (ho : W'.ownsRow base 55 1 vM' (ms.length + ts.length) (ms.map (Value.float .f64) ++ ts.map (Value.float .f64))) : BkP W' B base cs vF vM' vI vN Fs Ls ps (ms ++ ts) bs ns Q := by
 rw [<- List.length_append, <- List.map_append] at ho
 exact ⟨(hg.block B (blk_lt h.bx) (bx_ne h.bx h.m (by decide))).trans h.bx, owns_keep h.f fun k e => hg.block k (World.ownsRow.lt h.f k e).2 (owns_ne h.f h.m (by decide) k e), ho, owns_keep h.i fun k e => hg.block k (World.ownsRow.lt h.i k e).2 (owns_ne h.i h.m (by decide) k e), owns_keep h.n fun k e => hg.block k (World.ownsRow.lt h.n k e).2 (owns_ne h.n h.m (by decide) k e), (fun j v hj => (h.ff j v hj).keep fun k e l => hg.block k l (h.dM v (List.mem_of_getElem? hj) k e)), (fun j v hj => ful_ne h.m (h.fi j v hj) (by decide) hg), (fun v hv k e c => by rcases hg.own k c with c | c; exact h.dM v hv k e c; have := (h.lF v hv k e).1; omega), h.dN, (fun v hv k e => ⟨Nat.lt_of_lt_of_le (h.lF v hv k e).1 hg.size, (h.lF v hv k e).2⟩), (fun v hv k e => ⟨Nat.lt_of_lt_of_le (h.lI v hv k e).1 hg.size, (h.lI v hv k e).2⟩), fun k e => Nat.lt_of_lt_of_le (h.q k e) hg.size, h.qB, h.qF, (fun k e c => by rcases hg.own k e with e | e; exact h.qM k e c; have := h.q k c; omega), h.qI, h.qN, h.lo.1, Nat.le_trans h.lo.2 hg.size⟩
def BkE (W : World) (B base : Nat) (Q : Nat -> Prop) (nF nI : Nat) : Prop := ∃ vF vM vI vN Fs Ls ms ns, BkP W B base #[vF, vM, vI, vN] vF vM vI vN Fs Ls ms ms ns ns Q /\ Fs.length = nF /\ Ls.length = nI /\ ms.length = nF /\ ns.length = nI /\ (∀ u ∈ ms, (FloatKind.f64.format.order u u != some Ordering.eq) = false)
theorem BkE.keep {W W' : World} {B base nF nI : Nat} {Q : Nat -> Prop} (h : BkE W B base Q nF nI) (hs : W.heap.size <= W'.heap.size) (hk : ∀ k, k < W.heap.size -> ¬ Q k -> W'.heap[k]? = W.heap[k]?) : BkE W' B base Q nF nI := by
 obtain ⟨vF, vM, vI, vN, Fs, Ls, ms, ns, h1, h2⟩ := h
 exact ⟨vF, vM, vI, vN, Fs, Ls, ms, ns, h1.keep hs hk, h2⟩
theorem BkE.later {W W' : World} {B base nF nI : Nat} {Q : Nat -> Prop} (h : BkE W B base Q nF nI) (hb : Below W.heap.size W W') : BkE W' B base Q nF nI := h.keep hb.size fun k hk _ => hb.block k hk
theorem BkE.shrink {W : World} {B base nF nI : Nat} {Q Q' : Nat -> Prop} (h : BkE W B base Q nF nI) (hq : ∀ k, Q' k -> Q k) : BkE W B base Q' nF nI := by
 obtain ⟨vF, vM, vI, vN, Fs, Ls, ms, ns, h1, h2⟩ := h
 exact ⟨vF, vM, vI, vN, Fs, Ls, ms, ns, h1.shrink hq, h2⟩
theorem BkE.bks {W : World} {B base nF nI : Nat} {Q : Nat -> Prop} (h : BkE W B base Q nF nI) (hF : nF <= 1050000) (hI : nI <= 1050000) : ∃ vF vM vI vN Fs Ls ms ns, BkS W B base vF vM vI vN Fs Ls ms ns := by
 obtain ⟨vF, vM, vI, vN, Fs, Ls, ms, ns, h1, a1, a2, a3, a4, a5⟩ := h
 exact ⟨vF, vM, vI, vN, Fs, Ls, ms, ns, h1.bx, h1.f, h1.m, h1.i, h1.n, by omega, by omega, h1.ff, h1.fi, a5, by omega, by omega⟩
end Go.Proofs.YthmhgpadinecfaaGreat
