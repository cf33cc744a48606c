import Derived.Test.YthmhgpadinecfaaGreatBKe
set_option maxRecDepth 100000
set_option maxHeartbeats 4000000
set_option linter.unusedVariables false
set_option linter.unusedSimpArgs false
namespace Go.Proofs.YthmhgpadinecfaaGreat
open Go.RowKit Go.Shelf
theorem BkE.grow {W W' : World} {B base nF nI : Nat} {Q Q' : Nat -> Prop} (h : BkE W B base Q nF nI) (hb : Below W.heap.size W W') (hq : ∀ k, Q' k -> Q k \/ (W.heap.size <= k /\ k < W'.heap.size)) : BkE W' B base Q' nF nI := by
 obtain ⟨vF, vM, vI, vN, Fs, Ls, ms, ns, h1, h2⟩ := h
 have hx := h1.later hb
 have no : ∀ k, k < W.heap.size -> ¬ Q k -> ¬ Q' k := fun k hk hn c => by
  rcases hq k c with c | c
  ·exact hn c
  ·omega
 exact ⟨vF, vM, vI, vN, Fs, Ls, ms, ns, ⟨hx.bx, hx.f, hx.m, hx.i, hx.n, hx.ff, hx.fi, hx.dM, hx.dN, fun v hv k e => ⟨(hx.lF v hv k e).1, no k (h1.lF v hv k e).1 (h1.lF v hv k e).2⟩, fun v hv k e => ⟨(hx.lI v hv k e).1, no k (h1.lI v hv k e).1 (h1.lI v hv k e).2⟩, fun k c => (by
  rcases hq k c with c | c
  ·exact Nat.lt_of_lt_of_le (h1.q k c) hb.size
  ·exact c.2), no B (blk_lt h1.bx) h1.qB, fun k e => no k (World.ownsRow.lt h1.f k e).2 (h1.qF k e), fun k e => no k (World.ownsRow.lt h1.m k e).2 (h1.qM k e), fun k e => no k (World.ownsRow.lt h1.i k e).2 (h1.qI k e), fun k e => no k (World.ownsRow.lt h1.n k e).2 (h1.qN k e), hx.lo⟩, h2⟩
theorem BkE.base {W : World} {B base nF nI : Nat} {Q : Nat -> Prop} (h : BkE W B base Q nF nI) : base <= W.heap.size := by
 obtain ⟨vF, vM, vI, vN, Fs, Ls, ms, ns, h1, h2⟩ := h
 exact h1.lo.2
structure ZO (W : World) (base : Nat) (vc vr vi vg : Value) (cl : List Value) : Prop where
 c : ∃ n xs, n <= 1050000 /\ OwX W base 55 vc n xs
 r : ∃ n xs, n <= 1050000 /\ OwX W base 55 vr n xs
 i : ∃ n xs, n <= 1050000 /\ OwX W base 3 vi n xs
 g : W.ownsRow base 22 1 vg cl.length cl
 col : ∀ (j : Nat) (u : Value), cl[j]? = some u -> ∃ n xs, n <= 1050000 /\ OwX W base 55 u n xs
 cr : ∀ k, vc.ownBlock = some k -> vr.ownBlock ≠ some k
 cg : ∀ (j : Nat) (u : Value), cl[j]? = some u -> ∀ k, u.ownBlock = some k -> vc.ownBlock ≠ some k /\ vr.ownBlock ≠ some k
 gg : ∀ (i j : Nat) (u v : Value), i < j -> cl[i]? = some u -> cl[j]? = some v -> ∀ k, v.ownBlock = some k -> u.ownBlock ≠ some k
 len : cl.length <= 1000
def ZB (vc vr vi vg : Value) (cl : List Value) (k : Nat) : Prop := vc.ownBlock = some k \/ vr.ownBlock = some k \/ vi.ownBlock = some k \/ vg.ownBlock = some k \/ ∃ (j : Nat) (u : Value), cl[j]? = some u /\ u.ownBlock = some k
theorem ZO.lt {W : World} {base : Nat} {vc vr vi vg : Value} {cl : List Value} (h : ZO W base vc vr vi vg cl) (k : Nat) (hk : ZB vc vr vi vg cl k) : base <= k /\ k < W.heap.size := by
 rcases hk with e | e | e | e | ⟨j, u, hu, e⟩
 ·obtain ⟨n, xs, _, h1⟩ := h.c; exact h1.lt k e
 ·obtain ⟨n, xs, _, h1⟩ := h.r; exact h1.lt k e
 ·obtain ⟨n, xs, _, h1⟩ := h.i; exact h1.lt k e
 ·exact World.ownsRow.lt h.g k e
 ·obtain ⟨n, xs, _, h1⟩ := h.col j u hu; exact h1.lt k e
theorem ZO.keep {W W' : World} {base : Nat} {vc vr vi vg : Value} {cl : List Value} (h : ZO W base vc vr vi vg cl) (hk : ∀ k, ZB vc vr vi vg cl k -> W'.heap[k]? = W.heap[k]?) : ZO W' base vc vr vi vg cl := by
 refine ⟨?_, ?_, ?_, owns_keep h.g fun k e => hk k (.inr (.inr (.inr (.inl e)))), fun j u hu => ?_, h.cr, h.cg, h.gg, h.len⟩
 ·obtain ⟨n, xs, hn, h1⟩ := h.c; exact ⟨n, xs, hn, h1.keep fun k e => hk k (.inl e)⟩
 ·obtain ⟨n, xs, hn, h1⟩ := h.r; exact ⟨n, xs, hn, h1.keep fun k e => hk k (.inr (.inl e))⟩
 ·obtain ⟨n, xs, hn, h1⟩ := h.i; exact ⟨n, xs, hn, h1.keep fun k e => hk k (.inr (.inr (.inl e)))⟩
 ·obtain ⟨n, xs, hn, h1⟩ := h.col j u hu; exact ⟨n, xs, hn, h1.keep fun k e => hk k (.inr (.inr (.inr (.inr ⟨j, u, hu, e⟩))))⟩
theorem ZO.later {W W' : World} {base : Nat} {vc vr vi vg : Value} {cl : List Value} (h : ZO W base vc vr vi vg cl) (hb : Below W.heap.size W W') : ZO W' base vc vr vi vg cl := h.keep fun k hk => hb.block k (h.lt k hk).2
structure TkB (w X W : World) (B base : Nat) (Q : Nat -> Prop) (nF nI : Nat) : Prop where
 b : BkE W B base Q nF nI
 bel : Below base w W
 same : ∀ k, Q k -> W.heap[k]? = X.heap[k]?
theorem TkB.next {w X W W' : World} {B base : Nat} {Q Q' : Nat -> Prop} {nF nI nF' nI' : Nat} {v : Value} (h : TkB w X W B base Q nF nI) (hb : BkE W' B base (fun k => Q k /\ v.ownBlock ≠ some k) nF' nI') (hl : Below base W W') (hk : ∀ k, Q k -> v.ownBlock ≠ some k -> W'.heap[k]? = W.heap[k]?) (hq : ∀ k, Q' k -> Q k /\ v.ownBlock ≠ some k) : TkB w X W' B base Q' nF' nI' :=
 ⟨hb.shrink hq, h.bel.trans hl, fun k hk' => (hk k (hq k hk').1 (hq k hk').2).trans (h.same k (hq k hk').1)⟩
def QT (Q : Nat -> Prop) (D s : Nat) (vc vr vi : Value) (cl : List Value) (i : Nat) (k : Nat) : Prop := (Q k \/ k = D) /\ (1 <= s -> vc.ownBlock ≠ some k) /\ (2 <= s -> vr.ownBlock ≠ some k) /\ (3 <= s -> vi.ownBlock ≠ some k) /\ ∀ (j : Nat) (u : Value), j < i -> cl[j]? = some u -> u.ownBlock ≠ some k
theorem takeB_any (B base : Nat) (Q : Nat -> Prop) (nF nI : Nat) (N : Int) (bad : Bool) (vc vr vi vg : Value) (cl : List Value) (w : World) (h : BkE w B base Q nF nI) (hz : ZO w base vc vr vi vg cl) (hq : ∀ k, ZB vc vr vi vg cl k -> Q k) (hF : nF <= 500000) (hI : nI <= 500000) :
  Calls Tryz.prog 15 #[.pointer (some ⟨B, 0, none⟩), .agg #[.int .i64 N, vc, vi, vg, vr, .bool bad]] w fun e w' => (∃ r, e = .returned r) /\ BkE w' B base (fun k => Q k /\ ¬ ZB vc vr vi vg cl k) (nF + 6 + 3 * cl.length) (nI + 3) /\ Below base w w' /\ ∀ k, Q k -> ¬ ZB vc vr vi vg cl k -> w'.heap[k]? = w.heap[k]? := by
 have X0 : Below w.heap.size w (w.alloc (.cells #[.int .i64 N, vc, vi, vg, vr, .bool bad] 26)) := (Below.refl _ w).alloc (Nat.le_refl _) _
 have Y0 : (w.alloc (.cells #[.int .i64 N, vc, vi, vg, vr, .bool bad] 26)).heap[w.heap.size]? = some (.cells #[.int .i64 N, vc, vi, vg, vr, .bool bad] 26) := heap_alloc_new w _
 obtain ⟨X, hX⟩ : ∃ X, (w.alloc (.cells #[.int .i64 N, vc, vi, vg, vr, .bool bad] 26)) = X := ⟨_, rfl⟩
 obtain ⟨D, hD⟩ : ∃ D, w.heap.size = D := ⟨_, rfl⟩
 have hsz : X.heap.size = w.heap.size + 1 := by rw [<- hX]; exact alloc_size ..
 obtain ⟨ga, gcp, hgv, hgm, hgc⟩ := owns_slice hz.g
 have HZ : Hid (ZO X base vc vr vi vg cl) := hz.later (hX ▸ X0)
 have HLT : Hid (∀ k, ZB vc vr vi vg cl k -> k < D) := fun k hk => hD ▸ (hz.lt k hk).2
 have HQ : Hid _ := hq
 have T0 : Hid (TkB w X X B base (QT Q D 0 vc vr vi cl 0) nF nI) := ⟨h.grow (hX ▸ X0) fun k hk => hk.1.imp id (fun e => by omega), (hX ▸ X0).mono h.base, fun _ _ => rfl⟩
 have HX : Hid (X.heap[D]? = some (.cells #[.int .i64 N, vc, vi, vg, vr, .bool bad] 26) /\ Below w.heap.size w X) := ⟨by rw [<- hX, <- hD]; exact Y0, hX ▸ X0⟩
 have hlen := hz.len
 have HGC : Hid (cl.length = 0 \/ ∃ g, ga = some ⟨g, 0, none⟩ /\ ∀ j, j < cl.length -> X.cell? ⟨g, j, none⟩ = cl[j]?) := by
  rcases hgc with h0 | ⟨g, e, hc⟩
  ·exact .inl h0
  ·have X1 : Below w.heap.size w X := hX ▸ X0
   exact .inr ⟨g, e, fun j hj => by rw [X1.cell (World.block_lt_of_cell? _ _ ((hc j hj).trans (List.getElem?_eq_getElem hj)))]; exact hc j hj⟩
 obtain ⟨n1, xs1, hn1, hc1⟩ := HZ.out.c
 obtain ⟨n2, xs2, hn2, hr1⟩ := HZ.out.r
 obtain ⟨n3, xs3, hn3, hi1⟩ := HZ.out.i
 have HC1 : Hid _ := hc1
 have HR1 : Hid _ := hr1
 have HI1 : Hid _ := hi1
 have HND : Hid ((∀ k, vi.ownBlock = some k -> vc.ownBlock ≠ some k /\ vr.ownBlock ≠ some k) /\ (∀ (j : Nat) (u : Value), cl[j]? = some u -> ∀ k, u.ownBlock = some k -> vi.ownBlock ≠ some k) /\ (∀ k, vg.ownBlock = some k -> vc.ownBlock ≠ some k /\ vr.ownBlock ≠ some k /\ vi.ownBlock ≠ some k /\ ∀ (j : Nat) (u : Value), cl[j]? = some u -> u.ownBlock ≠ some k)) := by
  refine ⟨fun k e => ⟨hi1.ne hc1 (by decide) k e, hi1.ne hr1 (by decide) k e⟩, fun j u hu k e => ?_, fun k e => ⟨(OwX.of HZ.out.g).ne hc1 (by decide) k e, (OwX.of HZ.out.g).ne hr1 (by decide) k e, (OwX.of HZ.out.g).ne hi1 (by decide) k e, fun j u hu => ?_⟩⟩
  ·obtain ⟨n, xs, _, hu1⟩ := HZ.out.col j u hu
   exact hu1.ne hi1 (by decide) k e
  ·obtain ⟨n, xs, _, hu1⟩ := HZ.out.col j u hu
   exact (OwX.of HZ.out.g).ne hu1 (by decide) k e
 have hQlt : ∀ k, Q k -> k < w.heap.size := by obtain ⟨_, _, _, _, _, _, _, _, h1, _⟩ := h; exact h1.q
 clear hc1 hr1 hi1 hz hq h hgc hgm
 have HGV : Hid (vg = .slice ga cl.length gcp) := hgv
 clear hgv
 go_enter Tryz.func15, Tryz.ntmps15
 go_upto_region 1 with fail
 have hDw : Hid (w.heap.size = D /\ X.heap.size = D + 1) := ⟨hD, by omega⟩
 clear hX hD X0 Y0 hsz
 have HDN : Hid (∀ s i, QT Q D s vc vr vi cl i D) := fun s i => ⟨.inr rfl, fun _ e => Nat.lt_irrefl _ (HLT.out D (.inl e)), fun _ e => Nat.lt_irrefl _ (HLT.out D (.inr (.inl e))), fun _ e => Nat.lt_irrefl _ (HLT.out D (.inr (.inr (.inl e)))), fun j u _ hu e => Nat.lt_irrefl _ (HLT.out D (.inr (.inr (.inr (.inr ⟨j, u, hu, e⟩)))))⟩
 obtain ⟨c0, c1, c2, c3, c4, c5⟩ := cells6 HX.out.1
 go_upto_region 2 with (first
  | (go_at_call 38; refine Calls.mono (floats_any B base _ nF nI vc n1 xs1 _ T0.out.b HC1.out (fun k e => ⟨.inl (HQ.out k (.inl e)), fun h => absurd h (by decide), fun h => absurd h (by decide), fun h => absurd h (by decide), fun j u hj => absurd hj (Nat.not_lt_zero _)⟩) hn1 (by omega) (by omega)) ?_; rintro e w1 ⟨⟨r, rfl⟩, b1, l1, k1⟩))
 have T1 : Hid (TkB w X w1 B base (QT Q D 1 vc vr vi cl 0) (nF + 3) nI) := T0.out.next b1 l1 k1 fun k hk => ⟨⟨hk.1, fun h => absurd h (by decide), fun h => absurd h (by decide), fun h => absurd h (by decide), hk.2.2.2.2⟩, hk.2.1 (by decide)⟩
 clear b1 l1 k1 T0 c0 c1 c2 c3 c4 c5
 obtain ⟨c0, c1, c2, c3, c4, c5⟩ := cells6 ((T1.out.same D (HDN.out 1 0)).trans HX.out.1)
 go_upto_region 3 with (first
  | (go_at_call 38; refine Calls.mono (floats_any B base _ (nF + 3) nI vr n2 xs2 _ T1.out.b (OwX.keep HR1.out fun k e => T1.out.same k ⟨.inl (HQ.out k (.inr (.inl e))), fun _ e' => HZ.out.cr k e' e, fun h => absurd h (by decide), fun h => absurd h (by decide), fun j u hj => absurd hj (Nat.not_lt_zero _)⟩) (fun k e => ⟨.inl (HQ.out k (.inr (.inl e))), fun _ e' => HZ.out.cr k e' e, fun h => absurd h (by decide), fun h => absurd h (by decide), fun j u hj => absurd hj (Nat.not_lt_zero _)⟩) hn2 (by omega) (by omega)) ?_; rintro e w2 ⟨⟨r, rfl⟩, b1, l1, k1⟩))
 have T2 : Hid (TkB w X w2 B base (QT Q D 2 vc vr vi cl 0) (nF + 3 + 3) nI) := T1.out.next b1 l1 k1 fun k hk => ⟨⟨hk.1, fun _ => hk.2.1 (by decide), fun h => absurd h (by decide), fun h => absurd h (by decide), hk.2.2.2.2⟩, hk.2.2.1 (by decide)⟩
 clear b1 l1 k1 T1 c0 c1 c2 c3 c4 c5
 obtain ⟨c0, c1, c2, c3, c4, c5⟩ := cells6 ((T2.out.same D (HDN.out 2 0)).trans HX.out.1)
 go_upto_region 4 with (first
  | (go_at_call 14; refine Calls.mono (ints_any B base _ (nF + 3 + 3) nI vi n3 xs3 _ T2.out.b (OwX.keep HI1.out fun k e => T2.out.same k ⟨.inl (HQ.out k (.inr (.inr (.inl e)))), fun _ => (HND.out.1 k e).1, fun _ => (HND.out.1 k e).2, fun h => absurd h (by decide), fun j u hj => absurd hj (Nat.not_lt_zero _)⟩) (fun k e => ⟨.inl (HQ.out k (.inr (.inr (.inl e)))), fun _ => (HND.out.1 k e).1, fun _ => (HND.out.1 k e).2, fun h => absurd h (by decide), fun j u hj => absurd hj (Nat.not_lt_zero _)⟩) hn3 (by omega) (by omega)) ?_; rintro e w3 ⟨⟨r, rfl⟩, b1, l1, k1⟩))
 have T3 : Hid (TkB w X w3 B base (QT Q D 3 vc vr vi cl 0) (nF + 6 + 3 * 0) (nI + 3)) := T2.out.next b1 l1 k1 fun k hk => ⟨⟨hk.1, fun _ => hk.2.1 (by decide), fun _ => hk.2.2.1 (by decide), fun h => absurd h (by decide), hk.2.2.2.2⟩, hk.2.2.2.1 (by decide)⟩
 clear b1 l1 k1 T2 c0 c1 c2 c3 c4 c5
 have HVQ : Hid (∀ (i : Nat) k, vg.ownBlock = some k -> QT Q D 3 vc vr vi cl i k) := fun i k e => ⟨.inl (HQ.out k (.inr (.inr (.inr (.inl e))))), fun _ => (HND.out.2.2 k e).1, fun _ => (HND.out.2.2 k e).2.1, fun _ => (HND.out.2.2 k e).2.2.1, fun j u _ hu => (HND.out.2.2 k e).2.2.2 j u hu⟩
 have HCU : Hid (∀ (i : Nat) (u : Value), cl[i]? = some u -> ∀ k, u.ownBlock = some k -> QT Q D 3 vc vr vi cl i k) := fun i u hu k e => ⟨.inl (HQ.out k (.inr (.inr (.inr (.inr ⟨i, u, hu, e⟩))))), fun _ => (HZ.out.cg i u hu k e).1, fun _ => (HZ.out.cg i u hu k e).2, fun _ => HND.out.2.1 i u hu k e, fun j u' hj hu' => HZ.out.gg j i u' u hj hu' hu k e⟩
 go_wp2_with fail
 go_loopg [4] cl.length (fun g v4 wx => ∃ i : Nat, v4 = .int .i64 i /\ i + g = cl.length /\ Hid (TkB w X wx B base (QT Q D 3 vc vr vi cl i) (nF + 6 + 3 * i) (nI + 3)))
 case atStart => exact ⟨0, rfl, by omega, T3⟩
 case round =>
  clear T3
  obtain ⟨i, rfl, hi, T3⟩ := hrel
  obtain ⟨c0, c1, c2, c3, c4, c5⟩ := cells6 ((T3.out.same D (HDN.out 3 i)).trans HX.out.1)
  rw [HGV.out] at c3
  by_cases hlt : i < cl.length
  ·have hd : decide ((i : Int) < (cl.length : Int)) = true := decide_eq_true (by omega)
   have hlt' : (i : Int) < (cl.length : Int) := by omega
   obtain ⟨q, rfl⟩ : ∃ q, gk = q + 1 := ⟨gk - 1, by omega⟩
   have HIG : Hid (i + (q + 1) = cl.length) := hi
   obtain ⟨g, hga, hgc⟩ : ∃ g, ga = some ⟨g, 0, none⟩ /\ ∀ j, j < cl.length -> X.cell? ⟨g, j, none⟩ = cl[j]? := by
    rcases HGC.out with h0 | h0
    ·omega
    ·exact h0
   subst hga
   obtain ⟨u, hu⟩ : ∃ u, cl[i]? = some u := ⟨_, List.getElem?_eq_getElem hlt⟩
   have gu : wr.cell? ⟨g, i, none⟩ = some u := by rw [World.cell?_of_block (w := X) (T3.out.same g (HVQ.out i g (by rw [HGV.out]; rfl))), hgc i hlt]; exact hu
   obtain ⟨n, xs, hn, hu1⟩ := HZ.out.col i u hu
   have HU : Hid _ := HCU.out i u hu
   have HUE : Hid (cl[i]? = some u) := hu
   have HCALL : Hid _ := floats_any B base _ (nF + 6 + 3 * i) (nI + 3) u n xs wr T3.out.b (OwX.keep hu1 fun k e => T3.out.same k (HU.out k e)) HU.out hn (by omega) (by omega)
   clear hgc hu hu1 hi
   go_wp2_with (first
    | (go_at_call 38; refine Calls.mono HCALL.out ?_; rintro e w4 ⟨⟨r, rfl⟩, b1, l1, k1⟩))
   have T4 : Hid (TkB w X w4 B base (QT Q D 3 vc vr vi cl (i + 1)) (nF + 6 + 3 * (i + 1)) (nI + 3)) := T3.out.next b1 l1 k1 fun k hk => ⟨⟨hk.1, hk.2.1, hk.2.2.1, hk.2.2.2.1, fun j u' hj hu' => hk.2.2.2.2 j u' (by omega) hu'⟩, hk.2.2.2.2 i u (by omega) HUE.out⟩
   clear b1 l1 k1 T3 HCALL HU HUE c0 c1 c2 c3 c4 c5 gu
   go_roundg q
   case measure => omega
   case rel => exact ⟨i + 1, by go_num, by have := HIG.out; omega, T4⟩
  ·have hd : decide ((i : Int) < (cl.length : Int)) = false := decide_eq_false (by omega)
   have hd' : decide (i < cl.length) = false := decide_eq_false hlt
   obtain rfl : i = cl.length := by omega
   clear hi hlt
   go_wp2_with fail
   obtain ⟨V, hV⟩ : ∃ V, wr = V := ⟨_, rfl⟩
   rw [hV] at T3 ⊢
   clear hV c0 c1 c2 c3 c4 c5
   have HOG : Hid (V.ownsRow base 22 1 (.slice ga cl.length gcp) cl.length cl) := by unfold Hid; rw [<- HGV.out]; exact owns_keep HZ.out.g fun k e => T3.out.same k (HVQ.out cl.length k e)
   go_loopg [5] cl.length (fun g v5 wx => ∃ i : Nat, v5 = .int .i64 i /\ i + g = cl.length /\ Hid (FlS base V wx 22 (.slice ga cl.length gcp) cl.length i (.slice none 0 0)))
   case atStart => exact ⟨0, rfl, by omega, FlS.none (OwX.of HOG.out)⟩
   case round =>
    obtain ⟨i, rfl, hi, HJ⟩ := hrel
    have hDl : D < V.heap.size := by have := T3.out.b; obtain ⟨_, _, _, _, _, _, _, _, h1, _⟩ := this; exact h1.q D (HDN.out 3 cl.length)
    obtain ⟨c0, c1, c2, c3, c4, c5⟩ := cells6 (((HJ.out.fx.blk D hDl (fun e => Nat.lt_irrefl _ (HLT.out D (.inr (.inr (.inr (.inl (by rw [HGV.out]; exact e)))))))).trans (T3.out.same D (HDN.out 3 cl.length))).trans HX.out.1)
    rw [HGV.out] at c3
    by_cases hlt : i < cl.length
    ·have hd : decide ((i : Int) < (cl.length : Int)) = true := decide_eq_true (by omega)
     have hlt' : (i : Int) < (cl.length : Int) := by omega
     obtain ⟨q, rfl⟩ : ∃ q, gk = q + 1 := ⟨gk - 1, by omega⟩
     have HIG : Hid (i + (q + 1) = cl.length) := hi
     obtain ⟨g, cap0, cur, e, hbg, hcu, hsz⟩ := HJ.out.cur hlt
     cases e
     obtain ⟨d, hd0, hds, hdi, hdo⟩ := setP_cells (c := cur) (k := i) (v := .slice none 0 0) (by omega) rfl
     have HC : Hid _ := And.intro hcu (And.intro hds (And.intro hdi hdo))
     have HD0 : Hid _ := hd0
     clear hi hcu hds hdi hdo hd0
     go_wp2_with (first
      | (refine wpList_store_at (by rfl) 22 _ _ (by rfl) V base g i (.slice none 0 0) cur d 22 (by rfl) (by rfl) HC.out.1 HJ.out.fx.bel hbg 1 Tryz.szFsB rfl hsz (by intro u hu; simp [Value.cells] at hu; subst hu; rfl) HD0.out ?_; intro W3 e3 b3 s3 o3))
     have HJ2 : Hid (FlS base V W3 22 (.slice (some ⟨g, 0, none⟩) cl.length gcp) cl.length (i + 1) (.slice none 0 0)) := HJ.out.step hlt HC.out.1 e3 s3 b3 o3 HC.out.2.1 HC.out.2.2.1 HC.out.2.2.2
     clear e3 b3 s3 o3 HC HD0 HJ c0 c1 c2 c3 c4 c5
     go_roundg q
     case measure => omega
     case rel => exact ⟨i + 1, by go_num, by have := HIG.out; omega, HJ2⟩
    ·have hd : decide ((i : Int) < (cl.length : Int)) = false := decide_eq_false (by omega)
     have hd' : decide (i < cl.length) = false := decide_eq_false hlt
     clear hi hlt
     go_wp2_with fail
     go_end0
     have hnq : ∀ k, Q k /\ ¬ ZB vc vr vi vg cl k -> QT Q D 3 vc vr vi cl cl.length k := fun k hk => ⟨.inl hk.1, fun _ e => hk.2 (.inl e), fun _ e => hk.2 (.inr (.inl e)), fun _ e => hk.2 (.inr (.inr (.inl e))), fun j u _ hu e => hk.2 (.inr (.inr (.inr (.inr ⟨j, u, hu, e⟩))))⟩
     have hlt : ∀ k, QT Q D 3 vc vr vi cl cl.length k -> k < V.heap.size := by obtain ⟨_, _, _, _, _, _, _, _, h1, _⟩ := T3.out.b; exact h1.q
     have hxl : ∀ k, Q k -> k < w.heap.size := hQlt
     refine ⟨⟨_, rfl⟩, (T3.out.b.keep HJ.out.fx.bel.size fun k hk hn => HJ.out.fx.blk k hk (fun e => hn (HVQ.out _ k (by rw [HGV.out]; exact e)))).shrink hnq, T3.out.bel.trans HJ.out.fx.bel, fun k hk hz => ?_⟩
     have h9 := hnq k ⟨hk, hz⟩
     rw [HJ.out.fx.blk k (hlt k h9) (fun e => hz (.inr (.inr (.inr (.inl (by rw [HGV.out]; exact e)))))), T3.out.same k h9]
     exact HX.out.2.block k (hxl k hk)
end Go.Proofs.YthmhgpadinecfaaGreat
