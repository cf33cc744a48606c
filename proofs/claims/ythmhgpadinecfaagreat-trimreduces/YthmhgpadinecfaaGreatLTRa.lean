import Derived.Test.YthmhgpadinecfaaGreatBKf
set_option linter.unusedVariables false
set_option linter.unusedSimpArgs false
namespace Go.Proofs.YthmhgpadinecfaaGreat
open Go.RowKit Go.Shelf
theorem OwX.mono {W : World} {base b : Nat} {E : TypeId} {v : Value} {n : Nat} {xs : List Value} (h : OwX W base E v n xs) (hb : b <= base) : OwX W b E v n xs := by
 refine ⟨h.1, ?_⟩
 rcases h.2 with h1 | ⟨g, cap, cur, h1, h2, r⟩
 ·exact .inl h1
 ·exact .inr ⟨g, cap, cur, h1, Nat.le_trans hb h2, r⟩
theorem OwB.owx {w : World} {base n b : Nat} {us : List Nat} (h : OwB w base n b us) : OwX w base 55 (slN n b) n (us.map (Value.float .f64)) := by
 obtain ⟨cur, hc⟩ := h.cur
 have hcell : ∀ j, j < n -> cur[j]? = some (.float .f64 (us[j]?.getD 0)) := fun j hj => by
  rcases h.rd.cells with h0 | ⟨b', off, e, hh⟩
  ·omega
  ·cases e
   have h9 := hh j hj
   rw [Nat.zero_add, cell_of_row _ b _ _ _ _ hc] at h9
   exact h9
 have hl : us.length = n := h.rd.length
 have hsz : n <= cur.size := by
  rcases Nat.eq_zero_or_pos n with h0 | h0
  ·omega
  ·have := (Array.getElem?_eq_some_iff.1 (hcell (n - 1) (by omega))).1
   omega
 refine ⟨by rw [List.length_map]; exact hl, .inr ⟨b, n, cur, rfl, h.lo, hc, Nat.le_refl _, h.rd.max, hsz, fun hh => absurd hh (Nat.lt_irrefl _), ?_⟩⟩
 apply List.ext_getElem?
 intro j
 rw [List.getElem?_take, List.getElem?_map]
 by_cases hj : j < n
 ·rw [if_pos hj, Array.getElem?_toList, hcell j hj, List.getElem?_eq_getElem (by omega)]
  rfl
 ·rw [if_neg hj, List.getElem?_eq_none (by omega)]
  rfl
theorem OwX.nil (w : World) (base : Nat) (E : TypeId) : OwX w base E (.slice none 0 0) 0 [] := ⟨rfl, .inl ⟨rfl, rfl⟩⟩
theorem zo_of {W : World} {lo : Nat} {x y : ZD} {most : Int} (hr : RdC x most y) (hf : y.bad = false -> FrY W lo y) (hw : ZW y) (hg : y.gn <= 1000) : ∃ vc vr vi vg cl, zRow y = #[.int .i64 y.N, vc, vi, vg, vr, .bool y.bad] /\ ZO W lo vc vr vi vg cl := by
 have nilz : ∀ n : Int, y = badN n -> ∃ vc vr vi vg cl, zRow y = #[.int .i64 y.N, vc, vi, vg, vr, .bool y.bad] /\ ZO W lo vc vr vi vg cl := by
  rintro n rfl
  exact ⟨.slice none 0 0, .slice none 0 0, .slice none 0 0, .slice none 0 0, [], rfl, ⟨0, [], Nat.zero_le _, OwX.nil _ _ _⟩, ⟨0, [], Nat.zero_le _, OwX.nil _ _ _⟩, ⟨0, [], Nat.zero_le _, OwX.nil _ _ _⟩, World.ownsRow_nil _ _ _ _, (fun j u hu => by cases hu), (fun k e => by cases e), (fun j u hu => by cases hu), (fun i j u v _ hu => by cases hu), Nat.zero_le _⟩
 rcases hr.is with ⟨_, h⟩ | ⟨_, _, h⟩ | ⟨_, _, _, h⟩ | ⟨_, _, _, hb, _⟩
 ·exact nilz _ h
 ·exact nilz _ h
 ·exact nilz _ h
 ·obtain ⟨n, bc, br, vi, vg, gl, hrow, L⟩ := hf hb
  have hrow2 := hrow
  unfold zRow at hrow2
  simp only [Array.mk.injEq, List.cons.injEq, and_true, true_and] at hrow2
  obtain ⟨e1, e2, e3, e4⟩ := hrow2
  have hn : n <= 1050000 := by
   have := hw.cl
   unfold slN at e1
   rw [Value.slice.injEq] at e1
   omega
  have hi : (y.ids.map (Value.int .i64)).length <= 1050000 := by
   obtain ⟨ao, cap, e, _⟩ := owns_slice L.i
   rw [<- e2, Value.slice.injEq] at e
   have := hw.il
   omega
  have hgl : (gl.map (slN n)).length <= 1000 := by
   obtain ⟨ao, cap, e, _⟩ := owns_slice L.g
   rw [<- e3, Value.slice.injEq] at e
   omega
  have hat : ∀ (j : Nat) (u : Value), (gl.map (slN n))[j]? = some u -> ∃ b, gl[j]? = some b /\ u = slN n b := fun j u hu => by
   rw [List.getElem?_map] at hu
   obtain ⟨b, hb, e⟩ := Option.map_eq_some_iff.1 hu
   exact ⟨b, hb, e.symm⟩
  refine ⟨slN n bc, slN n br, vi, vg, gl.map (slN n), hrow, ⟨n, _, hn, L.c.owx⟩, ⟨n, _, hn, L.r.owx⟩, ⟨_, _, hi, OwX.of L.i⟩, L.g, fun j u hu => ?_, fun k e e' => ?_, fun j u hu k e => ?_, fun i j u v hij hu hv k e e' => ?_, hgl⟩
  ·obtain ⟨b, hb, rfl⟩ := hat j u hu
   have hj : j < gl.length := (List.getElem?_eq_some_iff.1 hb).1
   have h9 := L.col.row j hj
   rw [hb, Option.getD_some] at h9
   exact ⟨n, _, hn, h9.owx⟩
  ·cases e
   cases e'
   exact L.cr rfl
  ·obtain ⟨b, hb, rfl⟩ := hat j u hu
   cases e
   refine ⟨fun e' => ?_, fun e' => ?_⟩
   ·cases e'; exact L.cg (List.mem_of_getElem? hb)
   ·cases e'; exact L.rg (List.mem_of_getElem? hb)
  ·obtain ⟨b, hb, rfl⟩ := hat i u hu
   obtain ⟨b', hb', rfl⟩ := hat j v hv
   cases e
   cases e'
   have h1 := (List.getElem?_eq_some_iff.1 hb)
   have h2 := (List.getElem?_eq_some_iff.1 hb')
   have := List.pairwise_iff_getElem.1 L.col.nodup i j h1.1 h2.1 hij
   rw [h1.2, h2.2] at this
   exact this rfl
theorem rdc_few {W : World} {x y : ZD} {most : Int} (hr : RdC x most y) (hz : ZR W y) (hx : x.gn <= 400) : y.gn <= 1000 := by
 have hl : y.gs.length = y.gn := hz.g.length
 rcases hr.is with ⟨_, rfl⟩ | ⟨_, _, rfl⟩ | ⟨_, _, _, rfl⟩ | ⟨_, _, _, hb, _, _, h, _⟩
 ·exact Nat.zero_le _
 ·exact Nat.zero_le _
 ·exact Nat.zero_le _
 ·rw [<- hl, h, List.length_map]
  have : (pickL (fun j => !goesF x ((x.dn : Int) - max most 0) j) x.gn).length <= x.gn := by
   unfold pickL
   refine Nat.le_trans (List.length_filter_le _ _) ?_
   simp
  omega
structure Ans where
 lv : Value
 y : ZD
 vc : Value
 vr : Value
 vi : Value
 vg : Value
 cl : List Value
def Ans.B (a : Ans) (k : Nat) : Prop := a.lv.ownBlock = some k \/ ZB a.vc a.vr a.vi a.vg a.cl k
structure An (W : World) (x : ZD) (most : Int) (lo hi : Nat) (a : Ans) : Prop where
 o : W.ownsRow lo 3 1 a.lv (ordL x).length ((ordL x).map (Value.int .i64))
 row : zRow a.y = #[.int .i64 a.y.N, a.vc, a.vi, a.vg, a.vr, .bool a.y.bad]
 zo : ZO W lo a.vc a.vr a.vi a.vg a.cl
 zr : ZR W a.y
 rd : RdC x most a.y
 nd : ∀ k, ZB a.vc a.vr a.vi a.vg a.cl k -> a.lv.ownBlock ≠ some k
 hi : ∀ k, a.B k -> k < hi
theorem An.lt {W : World} {x : ZD} {most : Int} {lo hi : Nat} {a : Ans} (h : An W x most lo hi a) (k : Nat) (hk : a.B k) : lo <= k /\ k < W.heap.size := by
 rcases hk with e | e
 ·exact World.ownsRow.lt h.o k e
 ·exact h.zo.lt k e
theorem rdF_bkB {w w' : World} {ao : Option Addr} {n c : Nat} {us : List Nat} (h : RdF w ao n c us) (hk : ∀ b off, ao = some ⟨b, off, none⟩ -> w'.heap[b]? = w.heap[b]?) : RdF w' ao n c us := by
 refine ⟨h.length, h.max, h.lt, ?_⟩
 rcases h.cells with h0 | ⟨b, off, e, hc⟩
 ·exact .inl h0
 ·exact .inr ⟨b, off, e, fun j hj => by rw [World.cell?_of_block (w := w) (hk b off e)]; exact hc j hj⟩
theorem zr_keep {W W' : World} {lo : Nat} {y : ZD} {vc vr vi vg : Value} {cl : List Value} (hr : zRow y = #[.int .i64 y.N, vc, vi, vg, vr, .bool y.bad]) (hz : ZO W lo vc vr vi vg cl) (h : ZR W y) (hk : ∀ k, ZB vc vr vi vg cl k -> W'.heap[k]? = W.heap[k]?) : ZR W' y := by
 unfold zRow at hr
 simp only [Array.mk.injEq, List.cons.injEq, and_true, true_and] at hr
 obtain ⟨rfl, rfl, rfl, rfl⟩ := hr
 refine ⟨rdF_bkB h.c fun b off e => hk b (.inl (by rw [e]; rfl)), ?_, ?_, rdF_bkB h.r fun b off e => hk b (.inr (.inl (by rw [e]; rfl)))⟩
 ·refine ⟨h.i.length, h.i.max, ?_⟩
  rcases h.i.cells with h0 | ⟨b, off, e, hc⟩
  ·exact .inl h0
  ·exact .inr ⟨b, off, e, fun j hj => by rw [World.cell?_of_block (w := W) (hk b (.inr (.inr (.inl (by rw [e]; rfl)))))]; exact hc j hj⟩
 ·refine ⟨h.g.length, h.g.max, ?_, fun j hj => rdF_bkB (h.g.each j hj) fun b off e => hk b ?_⟩
  ·rcases h.g.cells with h0 | ⟨b, off, e, hc⟩
   ·exact .inl h0
   ·exact .inr ⟨b, off, e, fun j hj => by rw [World.cell?_of_block (w := W) (hk b (.inr (.inr (.inr (.inl (by rw [e]; rfl))))))]; exact hc j hj⟩
  ·rcases h.g.cells with h0 | ⟨b', off', e', hc⟩
   ·omega
   ·obtain ⟨ao, cap, e2, _, hcl⟩ := owns_slice hz.g
    rw [e', Value.slice.injEq] at e2
    obtain ⟨rfl, hn, _⟩ := e2
    rcases hcl with h0 | ⟨g, e3, hcl⟩
    ·omega
    ·cases e3
     have h9 := hc j hj
     rw [Nat.zero_add, hcl j (by omega)] at h9
     exact .inr (.inr (.inr (.inr ⟨j, _, h9, by rw [e]; rfl⟩)))
theorem An.keep {W W' : World} {x : ZD} {most : Int} {lo hi : Nat} {a : Ans} (h : An W x most lo hi a) (hk : ∀ k, a.B k -> W'.heap[k]? = W.heap[k]?) : An W' x most lo hi a :=
 ⟨owns_keep h.o fun k e => hk k (.inl e), h.row, h.zo.keep fun k e => hk k (.inr e), zr_keep h.row h.zo h.zr fun k e => hk k (.inr e), h.rd, h.nd, h.hi⟩
theorem An.ty {W : World} {x : ZD} {most : Int} {lo hi : Nat} {a : Ans} (h : An W x most lo hi a) (k : Nat) (hk : a.B k) : ∃ cur t, W.heap[k]? = some (.cells cur t) /\ (t = 3 \/ t = 55 \/ t = 22) := by
 rcases hk with e | e | e | e | e | ⟨j, u, hu, e⟩
 ·obtain ⟨cur, hc⟩ := (OwX.of h.o).ty k e; exact ⟨cur, _, hc, .inl rfl⟩
 ·obtain ⟨n, xs, _, h1⟩ := h.zo.c; obtain ⟨cur, hc⟩ := h1.ty k e; exact ⟨cur, _, hc, .inr (.inl rfl)⟩
 ·obtain ⟨n, xs, _, h1⟩ := h.zo.r; obtain ⟨cur, hc⟩ := h1.ty k e; exact ⟨cur, _, hc, .inr (.inl rfl)⟩
 ·obtain ⟨n, xs, _, h1⟩ := h.zo.i; obtain ⟨cur, hc⟩ := h1.ty k e; exact ⟨cur, _, hc, .inl rfl⟩
 ·obtain ⟨cur, hc⟩ := (OwX.of h.zo.g).ty k e; exact ⟨cur, _, hc, .inr (.inr rfl)⟩
 ·obtain ⟨n, xs, _, h1⟩ := h.zo.col j u hu; obtain ⟨cur, hc⟩ := h1.ty k e; exact ⟨cur, _, hc, .inr (.inl rfl)⟩
structure L1S (Wb W : World) (x : ZD) (most : Int) (i : Nat) (v10 v11 : Value) (zs : List Ans) : Prop where
 bel : Below Wb.heap.size Wb W
 bk : W.heap[Wb.heap.size]? = some (.cells #[.slice none 0 0, .slice none 0 0, .slice none 0 0, .slice none 0 0] 39)
 len : zs.length = i
 r10 : W.ownsRow Wb.heap.size 23 1 v10 i (zs.map (·.lv))
 r11 : W.ownsRow Wb.heap.size 26 6 v11 i (zs.flatMap fun a => (zRow a.y).toList)
 an : ∀ (j : Nat) (a : Ans), zs[j]? = some a -> ∃ lo hi, Wb.heap.size <= lo /\ hi <= W.heap.size /\ An W x most lo hi a
 dj : ∀ (i j : Nat) (a b : Ans), i < j -> zs[i]? = some a -> zs[j]? = some b -> ∀ k, a.B k -> ¬ b.B k
theorem L1S.later {Wb W W' : World} {x : ZD} {most : Int} {i : Nat} {v10 v11 : Value} {zs : List Ans} (h : L1S Wb W x most i v10 v11 zs) (hb : Below W.heap.size W W') : L1S Wb W' x most i v10 v11 zs :=
 ⟨to_callD h.bel hb, kept hb h.bk, h.len, owns_keep h.r10 fun k e => hb.block k (World.ownsRow.lt h.r10 k e).2, owns_keep h.r11 fun k e => hb.block k (World.ownsRow.lt h.r11 k e).2, fun j a ha => (by obtain ⟨lo, hi, h1, h2, h3⟩ := h.an j a ha; exact ⟨lo, hi, h1, Nat.le_trans h2 hb.size, h3.keep fun k hk => hb.block k (h3.lt k hk).2⟩), h.dj⟩
theorem L1S.next {Wb W W1 W2 W3 W4 : World} {x : ZD} {most : Int} {i : Nat} {v10 v11 v10' v11' : Value} {zs : List Ans} {a : Ans} (h : L1S Wb W x most i v10 v11 zs)
  (b1 : Below W.heap.size W W1) (o1 : W1.ownsRow W.heap.size 3 1 a.lv (ordL x).length ((ordL x).map (Value.int .i64)))
  (g2 : Gx W1 W2 v10 v10' i 1) (o2 : W2.ownsRow Wb.heap.size 23 1 v10' (i + 1) (zs.map (·.lv) ++ [a.lv]))
  (b3 : Below W2.heap.size W2 W3) (hrow : zRow a.y = #[.int .i64 a.y.N, a.vc, a.vi, a.vg, a.vr, .bool a.y.bad]) (hzo : ZO W3 W2.heap.size a.vc a.vr a.vi a.vg a.cl) (hzr : ZR W3 a.y) (hrd : RdC x most a.y)
  (g4 : W3.grownBy W4 v11.ownBlock) (o4 : W4.ownsRow Wb.heap.size 26 6 v11' (i + 1) (zs.flatMap (fun a => (zRow a.y).toList) ++ (zRow a.y).toList)) : L1S Wb W4 x most (i + 1) v10' v11' (zs ++ [a]) := by
 have h1 := h.later b1
 have k2 : ∀ (k : Nat) (cur : Array Value) (t : TypeId), t ≠ 23 -> W1.heap[k]? = some (.cells cur t) -> W2.heap[k]? = W1.heap[k]? := fun k cur t ht hc => g2.block k (blk_lt hc) (fun e => by
  obtain ⟨c', hc'⟩ := (OwX.of h1.r10).ty k e
  rw [hc] at hc'
  injection hc' with hc'
  injection hc' with _ hc'
  exact ht hc')
 have r11b : W2.ownsRow Wb.heap.size 26 6 v11 i (zs.flatMap fun a => (zRow a.y).toList) := owns_keepT h1.r11 fun k cur hc => k2 k cur _ (by decide) hc
 have r11c : W3.ownsRow Wb.heap.size 26 6 v11 i (zs.flatMap fun a => (zRow a.y).toList) := owns_keep r11b fun k e => b3.block k (World.ownsRow.lt r11b k e).2
 have k4 : ∀ (k : Nat) (cur : Array Value) (t : TypeId), t ≠ 26 -> W3.heap[k]? = some (.cells cur t) -> W4.heap[k]? = W3.heap[k]? := fun k cur t ht hc => g4.block k (blk_lt hc) (fun e => by
  obtain ⟨c', hc'⟩ := owns_type r11c e.symm
  rw [hc] at hc'
  injection hc' with hc'
  injection hc' with _ hc'
  exact ht hc')
 have bel2 : Below Wb.heap.size Wb W2 := h1.bel.trans (g2.below h1.bel.size fun k e => (World.ownsRow.lt h1.r10 k e).1)
 have bel3 : Below Wb.heap.size Wb W3 := bel2.trans (b3.mono bel2.size)
 have all : ∀ (lo hi : Nat) (b : Ans), An W1 x most lo hi b -> An W4 x most lo hi b := fun lo hi b hb => by
  have hb2 : An W2 x most lo hi b := hb.keep fun k hk => by
   obtain ⟨cur, t, hc, ht⟩ := hb.ty k hk
   exact k2 k cur t (by rcases ht with rfl | rfl | rfl <;> decide) hc
  have hb3 : An W3 x most lo hi b := hb2.keep fun k hk => b3.block k (hb2.lt k hk).2
  exact hb3.keep fun k hk => by
   obtain ⟨cur, t, hc, ht⟩ := hb3.ty k hk
   exact k4 k cur t (by rcases ht with rfl | rfl | rfl <;> decide) hc
 have o2a : W2.ownsRow W.heap.size 3 1 a.lv (ordL x).length ((ordL x).map (Value.int .i64)) := owns_keepT o1 fun k cur hc => k2 k cur _ (by decide) hc
 have o3a : W3.ownsRow W.heap.size 3 1 a.lv (ordL x).length ((ordL x).map (Value.int .i64)) := owns_keep o2a fun k e => b3.block k (World.ownsRow.lt o2a k e).2
 have szW : W.heap.size <= W2.heap.size := Nat.le_trans b1.size g2.size
 have zoW : ZO W3 W.heap.size a.vc a.vr a.vi a.vg a.cl := by
  obtain ⟨n1, x1, p1, q1⟩ := hzo.c
  obtain ⟨n2, x2, p2, q2⟩ := hzo.r
  obtain ⟨n3, x3, p3, q3⟩ := hzo.i
  exact ⟨⟨n1, x1, p1, q1.mono szW⟩, ⟨n2, x2, p2, q2.mono szW⟩, ⟨n3, x3, p3, q3.mono szW⟩, owns_monoJ hzo.g szW, fun j u hu => (by obtain ⟨n, xs, p, q⟩ := hzo.col j u hu; exact ⟨n, xs, p, q.mono szW⟩), hzo.cr, hzo.cg, hzo.gg, hzo.len⟩
 have new : An W3 x most W.heap.size W3.heap.size a := by
  refine ⟨o3a, hrow, zoW, hzr, hrd, fun k hk e => ?_, fun k hk => ?_⟩
  ·have h5 := (hzo.lt k hk).1
   have h6 := (World.ownsRow.lt o2a k e).2
   omega
  ·rcases hk with e | e
   ·exact (World.ownsRow.lt o3a k e).2
   ·exact (hzo.lt k e).2
 have new4 : An W4 x most W.heap.size W3.heap.size a := new.keep fun k hk => by
  obtain ⟨cur, t, hc, ht⟩ := new.ty k hk
  exact k4 k cur t (by rcases ht with rfl | rfl | rfl <;> decide) hc
 refine ⟨bel3.grown g4 bel3.size fun k e => (World.ownsRow.lt r11c k e).1, ?_, by rw [List.length_append, h.len]; rfl, ?_, ?_, fun j b hb => ?_, fun p q b c hpq hb hc k hk hk' => ?_⟩
 ·have e2 := (k2 _ _ _ (by decide) h1.bk).trans h1.bk
  have e3 := kept b3 e2
  exact (k4 _ _ _ (by decide) e3).trans e3
 ·rw [List.map_append]
  have o3 : W3.ownsRow Wb.heap.size 23 1 v10' (i + 1) (zs.map (·.lv) ++ [a.lv]) := owns_keep o2 fun k e => b3.block k (World.ownsRow.lt o2 k e).2
  exact owns_keepT o3 fun k cur hc => k4 k cur _ (by decide) hc
 ·rw [List.flatMap_append, List.flatMap_singleton]
  exact o4
 ·by_cases e : j < zs.length
  ·rw [List.getElem?_append_left e] at hb
   obtain ⟨lo, hi, p1, p2, p3⟩ := h1.an j b hb
   exact ⟨lo, hi, p1, Nat.le_trans p2 (Nat.le_trans g2.size (Nat.le_trans b3.size g4.size)), all lo hi b p3⟩
  ·rw [List.getElem?_append_right (by omega)] at hb
   have hlt := (List.getElem?_eq_some_iff.1 hb).1
   have e0 : j - zs.length = 0 := by simp at hlt; omega
   rw [e0, List.getElem?_cons_zero] at hb
   cases hb
   exact ⟨_, _, h.bel.size, g4.size, new4⟩
 ·by_cases e : q < zs.length
  ·rw [List.getElem?_append_left e] at hc
   rw [List.getElem?_append_left (by omega)] at hb
   exact h.dj p q b c hpq hb hc k hk hk'
  ·rw [List.getElem?_append_right (by omega)] at hc
   have hlt := (List.getElem?_eq_some_iff.1 hc).1
   have e0 : q - zs.length = 0 := by simp at hlt; omega
   rw [e0, List.getElem?_cons_zero] at hc
   cases hc
   rw [List.getElem?_append_left (by omega)] at hb
   obtain ⟨lo, hi, p1, p2, p3⟩ := h.an p b hb
   have h5 := p3.hi k hk
   have h6 := (new.lt k hk').1
   omega
theorem bke_new {W : World} {B base : Nat} {Q : Nat -> Prop} (hB : W.heap[B]? = some (.cells #[.slice none 0 0, .slice none 0 0, .slice none 0 0, .slice none 0 0] 39)) (hb : base <= B) (hq : ∀ k, Q k -> k < W.heap.size /\ k ≠ B) : BkE W B base Q 0 0 :=
 ⟨.slice none 0 0, .slice none 0 0, .slice none 0 0, .slice none 0 0, [], [], [], [], ⟨hB, World.ownsRow_nil _ _ _ _, World.ownsRow_nil _ _ _ _, World.ownsRow_nil _ _ _ _, World.ownsRow_nil _ _ _ _, (fun j v hj => by cases hj), (fun j v hj => by cases hj), (fun v hv => by cases hv), (fun v hv => by cases hv), (fun v hv => by cases hv), (fun v hv => by cases hv), fun k hk => (hq k hk).1, fun c => (hq B c).2 rfl, (fun k e => by cases e), (fun k e => by cases e), (fun k e => by cases e), (fun k e => by cases e), hb, Nat.le_trans hb (Nat.le_of_lt (blk_lt hB))⟩, rfl, rfl, rfl, rfl, fun u hu => by cases hu⟩
def Qi (v10 v11 : Value) (zs : List Ans) (i k : Nat) : Prop := v10.ownBlock = some k \/ v11.ownBlock = some k \/ ∃ (j : Nat) (a : Ans), i <= j /\ zs[j]? = some a /\ a.B k
structure L2S (Wb W1 W : World) (v10 v11 : Value) (zs : List Ans) (i : Nat) : Prop where
 bel : Below Wb.heap.size Wb W
 bk : ∃ nF nI, nF <= 4000 * i /\ nI <= 6 * i /\ BkE W Wb.heap.size Wb.heap.size (Qi v10 v11 zs i) nF nI
 same : ∀ k, Qi v10 v11 zs i k -> W.heap[k]? = W1.heap[k]?
theorem L2S.start {Wb W : World} {x : ZD} {most : Int} {i : Nat} {v10 v11 : Value} {zs : List Ans} (h : L1S Wb W x most i v10 v11 zs) : L2S Wb W W v10 v11 zs 0 := by
 refine ⟨h.bel, ⟨0, 0, by omega, by omega, bke_new h.bk (Nat.le_refl _) fun k hk => ?_⟩, fun _ _ => rfl⟩
 have ne : ∀ (cur : Array Value) (t : TypeId), t ≠ 39 -> W.heap[k]? = some (.cells cur t) -> k < W.heap.size /\ k ≠ Wb.heap.size := fun cur t ht hc => ⟨blk_lt hc, by
  rintro rfl
  rw [h.bk] at hc
  injection hc with hc
  injection hc with _ hc
  exact ht hc.symm⟩
 rcases hk with e | e | ⟨j, a, _, ha, hk⟩
 ·obtain ⟨cur, hc⟩ := owns_type h.r10 e; exact ne cur _ (by decide) hc
 ·obtain ⟨cur, hc⟩ := owns_type h.r11 e; exact ne cur _ (by decide) hc
 ·obtain ⟨lo, hi, _, _, ha⟩ := h.an j a ha
  obtain ⟨cur, t, hc, ht⟩ := ha.ty k hk
  exact ne cur t (by rcases ht with rfl | rfl | rfl <;> decide) hc
end Go.Proofs.YthmhgpadinecfaaGreat
