import Derived.Test.YthmhgpadinecfaaGreatBKc
set_option maxRecDepth 100000
set_option maxHeartbeats 4000000
set_option linter.unusedVariables false
set_option linter.unusedSimpArgs false
namespace Go.Proofs.YthmhgpadinecfaaGreat
open Go.RowKit Go.Shelf
theorem Tryz.infoIsB : (Tryz.prog.info? 23).map (fun i => (i.zero, i.size, i.bytes)) = some (some (.slice none 0 0), 1, 24) := by kernel_rfl
theorem Tryz.infoFsB : (Tryz.prog.info? 22).map (fun i => (i.zero, i.size, i.bytes)) = some (some (.slice none 0 0), 1, 24) := by kernel_rfl
theorem Tryz.infoIB : (Tryz.prog.info? 3).map (fun i => (i.zero, i.size, i.bytes)) = some (some (.int .i64 0), 1, 8) := by kernel_rfl
theorem Tryz.infoFB : (Tryz.prog.info? 55).map (fun i => (i.zero, i.size, i.bytes)) = some (some (.float .f64 0), 1, 8) := by kernel_rfl
theorem Tryz.szIssB : (Tryz.prog.info? 37).map (·.size) = some 1 := by kernel_rfl
theorem Tryz.szFssB : (Tryz.prog.info? 24).map (·.size) = some 1 := by kernel_rfl
theorem Tryz.szIsB : (Tryz.prog.info? 23).map (·.size) = some 1 := by kernel_rfl
theorem Tryz.szFsB : (Tryz.prog.info? 22).map (·.size) = some 1 := by kernel_rfl
theorem Tryz.szIB : (Tryz.prog.info? 3).map (·.size) = some 1 := by kernel_rfl
theorem Tryz.szFB : (Tryz.prog.info? 55).map (·.size) = some 1 := by kernel_rfl
theorem hopBn {P : Program} {ops : Array Oper} {Q : Exit -> Act -> World -> Prop} {i : Nat} {o : Oper} {K : Act -> World -> Prop} {a : Act} {w : World} (d : Nat) (n : Nat) (ys : Array Value) (E : TypeId) (ho : ops[i]? = some o) (hg : o.guard = none) (hd : o.dst = some d)
  (hr : (execOp a.eval o).run P w = .ok (.value (.slice (some ⟨w.heap.size, 0, none⟩) n n)) (w.alloc (.cells ys E)))
  (h : ∀ I W', W'.heap[I]? = some (.cells ys E) -> Below w.heap.size w W' -> K (a.put (some d) (.slice (some ⟨I, 0, none⟩) n n)) W') : wpOp P ops Q i K a w :=
 hopV d ho hg hd hr (h _ _ (heap_alloc_new w _) ((Below.refl _ w).alloc (Nat.le_refl _) _))
theorem news_threeB {W : World} {I : Nat} {x y z : Value} {E : TypeId} (h : W.heap[I]? = some (.cells #[x, y, z] E)) : ∀ j u, [x, y, z][j]? = some u -> W.cell? ((⟨I, 0, none⟩ : Addr).add j) = some u := by
 intro j u hj
 match j, hj with
 | 0, hj => cases hj; rw [Addr.add_lit, cell_of_row _ I _ _ _ _ h]; rfl
 | 1, hj => cases hj; rw [Addr.add_lit, cell_of_row _ I _ _ _ _ h]; rfl
 | 2, hj => cases hj; rw [Addr.add_lit, cell_of_row _ I _ _ _ _ h]; rfl
theorem one_threeB {x y z : Value} (hx : x.oneCell' = true) (hy : y.oneCell' = true) (hz : z.oneCell' = true) : ∀ u ∈ [x, y, z], u.oneCell' = true := by
 intro u hu
 simp only [List.mem_cons, List.not_mem_nil, or_false] at hu
 rcases hu with rfl | rfl | rfl <;> assumption
theorem own_val1 {w : World} {E : TypeId} {base size : Nat} {v : Value} {n : Nat} {xs : List Value} (h : w.ownsRow base E size v n xs) : v.oneCell' = true /\ v.cells = #[v] := by
 rcases h.2 with ⟨rfl, _⟩ | ⟨g, cap, cur, rfl, _⟩ <;> exact ⟨rfl, rfl⟩
theorem ful_val1 {w : World} {E : TypeId} {v u : Value} (h : FulG w E v u) : ∃ ao n cap, v = .slice ao n cap := by obtain ⟨ao, n, cap, h1, _⟩ := h; exact ⟨ao, n, cap, h1⟩
structure FlS (base : Nat) (S W : World) (E : TypeId) (v : Value) (n i : Nat) (u : Value) : Prop where
 own : ∃ xs, OwX W base E v n (List.replicate i u ++ xs)
 fx : Fx base S W v
theorem FlS.cur {base : Nat} {S W : World} {E : TypeId} {v : Value} {n i : Nat} {u : Value} (h : FlS base S W E v n i u) (hi : i < n) : ∃ g cap cur, v = .slice (some ⟨g, 0, none⟩) n cap /\ base <= g /\ W.heap[g]? = some (.cells cur E) /\ i + 1 <= cur.size := by
 obtain ⟨xs, h1⟩ := h.own
 rcases h1.2 with ⟨_, h0⟩ | ⟨g, cap, cur, rfl, h2, h3, h4, h5, h6, h7⟩
 ·omega
 ·exact ⟨g, cap, cur, rfl, h2, h3, by omega⟩
theorem FlS.step {base : Nat} {S W W' : World} {E : TypeId} {n i g cap : Nat} {u : Value} {cur d : Array Value} (h : FlS base S W E (.slice (some ⟨g, 0, none⟩) n cap) n i u) (hi : i < n) (hc : W.heap[g]? = some (.cells cur E)) (hd : W'.heap[g]? = some (.cells d E)) (hs : W'.heap.size = W.heap.size) (hb : Below base S W') (ho : ∀ k, k ≠ g -> W'.heap[k]? = W.heap[k]?) (hds : d.size = cur.size) (hdi : d[i]? = some u) (hdo : ∀ j, j ≠ i -> d[j]? = cur[j]?) : FlS base S W' E (.slice (some ⟨g, 0, none⟩) n cap) n (i + 1) u := by
 obtain ⟨xs, h1⟩ := h.own
 rcases h1.2 with ⟨c, _⟩ | ⟨g', cap', cur', e, h2, h3, h4, h5, h6, h6b, h7⟩
 ·cases c
 ·cases e
  rw [hc] at h3
  cases h3
  refine ⟨⟨xs.drop 1, ?_⟩, hb, fun k hk hv => (ho k (fun e => hv (by rw [e]; rfl))).trans (h.fx.blk k hk hv)⟩
  have hl := h1.1
  rw [List.length_append, List.length_replicate] at hl
  refine ⟨by rw [List.length_append, List.length_replicate, List.length_drop]; omega, .inr ⟨g, cap, d, rfl, h2, hd, h4, h5, by omega, fun hh => by rw [hds]; exact h6b hh, ?_⟩⟩
  apply List.ext_getElem?
  intro j
  have h7j := congrArg (fun l => l[j]?) h7
  simp only [List.getElem?_take] at h7j ⊢
  by_cases hj : j < n
  ·rw [if_pos hj, Array.getElem?_toList] at h7j ⊢
   by_cases h1 : j < i
   ·rw [hdo j (by omega), h7j, List.getElem?_append_left (by simp; omega), List.getElem?_append_left (by simp; omega), List.getElem?_replicate, List.getElem?_replicate, if_pos h1, if_pos (by omega)]
   ·by_cases h2 : j = i
    ·subst h2
     rw [hdi, List.getElem?_append_left (by simp), List.getElem?_replicate, if_pos (by omega)]
    ·rw [hdo j h2, h7j, List.getElem?_append_right (by simp; omega), List.getElem?_append_right (by simp; omega), List.length_replicate, List.length_replicate, List.getElem?_drop]
     congr 1
     omega
  ·rw [if_neg hj, List.getElem?_eq_none (by rw [List.length_append, List.length_replicate, List.length_drop]; omega)]
theorem FlS.full {base : Nat} {S W : World} {E : TypeId} {v : Value} {n : Nat} {u : Value} (h : FlS base S W E v n n u) : OwX W base E v n (List.replicate n u) := by
 obtain ⟨xs, h1⟩ := h.own
 have hl := h1.1
 rw [List.length_append, List.length_replicate] at hl
 have hx : xs = [] := List.eq_nil_of_length_eq_zero (by omega)
 rw [hx, List.append_nil] at h1
 exact h1
theorem FlS.none {base : Nat} {w : World} {E : TypeId} {v : Value} {n : Nat} {u : Value} {xs : List Value} (h : OwX w base E v n xs) : FlS base w w E v n 0 u := ⟨⟨xs, h⟩, Below.refl _ _, fun _ _ _ => rfl⟩
structure Fq (base : Nat) (S W : World) (Q : Nat -> Prop) (v : Value) : Prop where
 bel : Below base S W
 q : ∀ k, Q k -> v.ownBlock ≠ some k -> W.heap[k]? = S.heap[k]?
theorem grown_below {W W' : World} (h : W.grownBy W' none) : Below W.heap.size W W' := (Below.refl _ W).grown h (Nat.le_refl _) (fun k hk => by cases hk)
theorem ex_load1B {P : Program} {ρ : Operand -> Value} (o : Oper) (ty : TypeId) (p : Operand) (ho : o.op = .load ty p) (A : Addr) (hp : ρ p = .pointer (some A)) (w : World) (v : Value) (h : w.cell? A = some v) (hag : ∀ w, (isAgg ty).run P w = .ok false w) : (execOp ρ o).run P w = .ok (.value v) w := by
 unfold execOp
 simp only [ho, hp]
 simp [go_sem, hag, h, Result.andThen]
theorem put_noneB {P : Program} {md : Region.Mode} {ops : Array Oper} {Q : Exit -> Act -> World -> Prop} {S : World -> Prop} {s fuel : Nat} {l : Array Bool} {a : Act} {dst : Option Tmp} {v : Value} {w : World} (hd : dst = none) (h : wpAnyP P md ops Q S s fuel l a w) : wpAnyP P md ops Q S s fuel l (a.put dst v) w := by subst hd; exact h
theorem ints_any (B base : Nat) (Q : Nat -> Prop) (nF nI : Nat) (v : Value) (n : Nat) (xs : List Value) (w : World) (h : BkE w B base Q nF nI) (hv : OwX w base 3 v n xs) (hq : ∀ k, v.ownBlock = some k -> Q k) (hn : n <= 1050000) (hI : nI <= 1050000) (hF : nF <= 1050000) :
  Calls Tryz.prog 14 #[.pointer (some ⟨B, 0, none⟩), v] w fun e w' => (∃ r, e = .returned r) /\ BkE w' B base (fun k => Q k /\ v.ownBlock ≠ some k) nF (nI + 3) /\ Below base w w' /\ ∀ k, Q k -> v.ownBlock ≠ some k -> w'.heap[k]? = w.heap[k]? := by
 obtain ⟨vF, vM, vI, vN, Fs, Ls, ms, ns, hp, rfl, rfl, a3', a4', a5⟩ := h
 obtain ⟨ao, cap, hvv, hmx⟩ := hv.form
 subst hvv
 obtain ⟨la, lc, hvL, hml, -⟩ := owns_slice hp.i
 have HP : Hid _ := hp
 have HV : Hid _ := hv
 have HQ : Hid _ := hq
 have HNN : Hid _ := a5
 have hns3 : ns.length + 3 <= 2000000 := by omega
 have c2 : w.cell? ⟨B, 2, none⟩ = some (.slice la Ls.length lc) := by rw [<- hvL]; obtain ⟨q0, q1, q2, q3⟩ := cells4L hp.bx; exact q2
 have HVL : Hid (vI = .slice la Ls.length lc) := hvL
 clear hp hv hq a5 hvL
 go_enter Tryz.func14, Tryz.ntmps14
 go_upto_region 1 with fail
 obtain ⟨mk, hmk⟩ : ∃ x : Int, (-2000 - (Ls.length : Int)) = x := ⟨_, rfl⟩
 rw [hmk]
 clear hmk
 clear c2 hml
 go_wp2_with fail
 go_loopg [5] n (fun g v5 wx => ∃ i : Nat, v5 = .int .i64 i /\ i + g = n /\ Hid (FlS base w wx 3 (.slice ao n cap) n i (.int .i64 mk)))
 case atStart => exact ⟨0, rfl, by omega, FlS.none HV.out⟩
 case round =>
  obtain ⟨i, rfl, hi, HJ⟩ := hrel
  by_cases hlt : i < n
  ·have hd : decide ((i : Int) < (n : Int)) = true := decide_eq_true (by omega)
   have hlt' : (i : Int) < (n : Int) := by omega
   obtain ⟨q, rfl⟩ : ∃ q, gk = q + 1 := ⟨gk - 1, by omega⟩
   have HIG : Hid (i + (q + 1) = n) := hi
   obtain ⟨g, cap0, cur, e, hbg, hcu, hsz⟩ := HJ.out.cur hlt
   cases e
   obtain ⟨d, hd0, hds, hdi, hdo⟩ := setP_cells (c := cur) (k := i) (v := (.int .i64 mk)) (by omega) rfl
   have HC : Hid _ := And.intro hcu (And.intro hds (And.intro hdi hdo))
   have HD0 : Hid _ := hd0
   clear hi hcu hds hdi hdo hd0
   go_wp2_with (first
    | (refine wpList_store_at (by rfl) 3 _ _ (by rfl) w base g i (.int .i64 mk) cur d 3 (by rfl) (by rfl) HC.out.1 HJ.out.fx.bel hbg 1 Tryz.szIB rfl hsz (by intro u hu; simp [Value.cells] at hu; subst hu; rfl) HD0.out ?_; intro W3 e3 b3 s3 o3))
   have HJ2 : Hid (FlS base w W3 3 (.slice (some ⟨g, 0, none⟩) n cap) n (i + 1) (.int .i64 mk)) := HJ.out.step hlt HC.out.1 e3 s3 b3 o3 HC.out.2.1 HC.out.2.2.1 HC.out.2.2.2
   clear e3 b3 s3 o3 HC HD0 HJ
   go_roundg q
   case measure => omega
   case rel => exact ⟨i + 1, by go_num, by have := HIG.out; omega, HJ2⟩
  ·have hd : decide ((i : Int) < (n : Int)) = false := decide_eq_false (by omega)
   have hd' : decide (i < n) = false := decide_eq_false hlt
   obtain rfl : n = i := by omega
   have HFU : Hid _ := HJ.out.full
   have HFX : Hid _ := HJ.out.fx
   have hbw : base <= wr.heap.size := Nat.le_trans HP.out.lo.2 HJ.out.fx.bel.size
   have hn1 : n + 1 <= 2000000 := by omega
   clear hi HJ hlt
   go_upto_region 6 with (first
    | (at_builtin; refine append_gx Tryz.underlying23 Tryz.infoIB rfl (by decide) _ (by rfl) _ _ (by rfl) base _ n _ (by rfl) (OwX.alloc HFU.out _) ⟨wr.heap.size, 0, none⟩ 1 1 [(.int .i64 mk)] (by rfl) rfl (by decide) (news_oneJ (heap_alloc_new wr _)) (by intro u hu; simp at hu; subst hu; rfl) hn1 (by rw [alloc_size]; exact Nat.le_succ_of_le hbw) ?_; intro v1 W1 o1 g1x; have MK1 : Hid _ := MkS.first HFX.out hbw HFU.out o1 g1x.alloc; clear g1x o1))
   go_wp2_with fail
   go_loopg [6, 7] 80 (fun g gv iv wx => ∃ k : Nat, k + g = 80 /\ iv = .int .i64 k /\ Hid (MkS w wx base 3 (.slice ao n cap) gv n (n + 1 + k) (.int .i64 mk)))
   case atStart => exact ⟨0, by omega, rfl, MK1⟩
   case round =>
    clear MK1
    obtain ⟨k, hk, rfl, MK⟩ := hrel
    have hbw : base <= wr.heap.size := Nat.le_trans HP.out.lo.2 MK.out.fx.bel.size
    by_cases hlt : k < 80
    ·have hd1 : decide ((k : Int) < 80) = true := decide_eq_true (by omega)
     have hlt' : (k : Int) < 80 := by omega
     obtain ⟨q, rfl⟩ : ∃ q, gk = q + 1 := ⟨gk - 1, by omega⟩
     have HIG : Hid (k + (q + 1) = 80) := hk
     have hn2 : n + 1 + k + 1 <= 2000000 := by omega
     clear hk
     go_wp2_with (first
      | (at_builtin; refine append_gx Tryz.underlying23 Tryz.infoIB rfl (by decide) _ (by rfl) _ _ (by rfl) base _ (n + 1 + k) _ (by rfl) (OwX.alloc (OwX.of MK.out.g) _) ⟨wr.heap.size, 0, none⟩ 1 1 [(.int .i64 mk)] (by rfl) rfl (by decide) (news_oneJ (heap_alloc_new wr _)) (by intro u hu; simp at hu; subst hu; rfl) hn2 (by rw [alloc_size]; exact Nat.le_succ_of_le hbw) ?_; intro v1 W1 o1 g1x; have MK1 : Hid _ := MkS.step MK.out hbw o1 g1x.alloc; clear g1x o1))
     go_roundg q
     case measure => omega
     case rel => exact ⟨k + 1, by have := HIG.out; omega, by go_num, MK1⟩
    ·have hd1 : decide ((k : Int) < 80) = false := decide_eq_false (by omega)
     have hd2 : decide (k < 80) = false := decide_eq_false hlt
     obtain rfl : k = 80 := by omega
     clear hk hlt
     go_upto_region 10 with fail
     obtain ⟨gv, hgv⟩ : ∃ x, u6 = x := ⟨_, rfl⟩
     rw [hgv] at MK ⊢
     clear hgv
     have hdr : Below wr.heap.size wr wr.drew := (Below.refl _ wr).drew
     have MKd : Hid _ := MK.out.later hbw hdr
     have hbd : base <= wr.drew.heap.size := hbw
     have HPd : Hid (BkP wr.drew B base #[vF, vM, vI, vN] vF vM vI vN Fs Ls ms ms ns ns Q) := HP.out.keep MKd.out.fx.bel.size fun k hk hq => MKd.out.fx.blk k hk (fun e => hq (HQ.out k e))
     clear MK hdr
     obtain ⟨ga, gcp, hgv, -⟩ := owns_slice MKd.out.g
     subst hgv
     refine wp_region_noPanic ?_
     refine wp_region_P (fun V => (V.heap[B]? = some (.cells #[vF, vM, vI, vN] 39))) 15 (by kernel_rfl) ?_
     have SS : (wr.drew.heap[B]? = some (.cells #[vF, vM, vI, vN] 39)) := HPd.out.bx
     refine tzQ 36 0 ?_ ?_ (fun _ => SS) ?_
     rotate_left
     ·intro w' hSw; go_simp; try with_reducible rfl
     try simp only [pA,pE,pB,pC,pD]
     refine tzQ 37 1 ?_ ?_ (fun _ => SS) ?_
     rotate_left
     ·intro w' hSw; go_simp; try with_reducible rfl
     try simp only [pA,pE,pB,pC,pD]
     refine tzQ 38 2 ?_ ?_ (fun _ => SS) ?_
     rotate_left
     ·intro w' hSw; go_simp; try with_reducible rfl
     try simp only [pA,pE,pB,pC,pD]
     refine tzQ 39 3 ?_ ?_ (fun _ => SS) ?_
     rotate_left
     ·intro w' hSw; go_simp; try with_reducible rfl
     try simp only [pA,pE,pB,pC,pD]
     refine tzP 40 4 (vI) (Or.inl ⟨by kernel_rfl, fun w' hSw => ex_load1B _ _ _ rfl ⟨B, 2, none⟩ (by kernel_rfl) w' vI (by obtain ⟨q0, q1, q2, q3⟩ := cells4L hSw; exact q2) (fun w => by kernel_rfl)⟩) SS ?_
     try simp only [pA,pE,pB,pC,pD]
     refine tzQ 41 5 ?_ ?_ (fun _ => SS) ?_
     rotate_left
     ·intro w' hSw; go_simp; try with_reducible rfl
     try simp only [pA,pE,pB,pC,pD]
     refine tzQ 42 6 ?_ ?_ (fun _ => SS) ?_
     rotate_left
     ·intro w' hSw; go_simp; try with_reducible rfl
     try simp only [pA,pE,pB,pC,pD]
     refine tzQ 43 7 ?_ ?_ (fun _ => SS) ?_
     rotate_left
     ·intro w' hSw; go_simp; try with_reducible rfl
     try simp only [pA,pE,pB,pC,pD]
     refine tzQ 46 10 ?_ ?_ (fun _ => SS) ?_
     rotate_left
     ·intro w' hSw; go_simp; try with_reducible rfl
     try simp only [pA,pE,pB,pC,pD]
     refine rzP [8] ?_
     refine consP _ rfl (hopBn 44 1 #[(.int .i64 mk)] 3 rfl rfl rfl (by kernel_rfl) fun I1 V1 hI1 b1 => ?_) AllReadyP.nil
     have SS1 := kept b1 SS
     have M1 := MKd.out.later hbd b1
     refine ⟨SS1, ?_⟩
     try simp only [pA,pE,pB,pC,pD]
     refine rzP [9] ?_
     refine consP _ rfl (hopL rfl (append_lm Tryz.underlying23 Tryz.infoIB rfl (by decide) V1 (by rfl) _ _ (by rfl) base (.slice ao n cap) n (.int .i64 mk) (by kernel_rfl) M1.l ⟨I1, 0, none⟩ 1 (by kernel_rfl) (by rw [Addr.add_lit, cell_of_row _ I1 _ _ _ _ hI1]; rfl) rfl (by omega) fun v2 V2 f2 g2 k2 => ?_)) AllReadyP.nil
     change QK _ _ Exit.normal (Act.put _ (some 45) v2) V2
     have b2 := grown_below g2
     have SS2 := kept b2 SS1
     have M2 := M1.later (Nat.le_trans hbd b1.size) b2
     have hk2 : ∀ b, v2.ownBlock = some b -> ((Value.slice ao n cap).ownBlock = some b \/ w.heap.size <= b) /\ b < V2.heap.size := fun b hb => ⟨(k2 b hb).1.imp id (fun e => Nat.le_trans M1.fx.bel.size e), (k2 b hb).2⟩
     refine (And.intro SS2 ?_ : _ /\ _)
     try simp only [pA,pE,pB,pC,pD]
     clear g2 k2 SS1 SS M1
     obtain ⟨ao2, n2, cap2, hv2⟩ := ful_val1 f2
     subst hv2
     refine rzP [11] ?_
     refine consP _ rfl (hopBn 47 3 #[.slice ao n cap, .slice ao2 n2 cap2, .slice ga (n + 1 + 80) gcp] 23 rfl rfl rfl (by kernel_rfl) fun I3 V3 hI3 b3 => ?_) AllReadyP.nil
     have SS3 := kept b3 SS2
     have M3 := M2.later (Nat.le_trans hbd (Nat.le_trans b1.size b2.size)) b3
     have f3 : FulG V3 3 (.slice ao2 n2 cap2) (.int .i64 mk) := f2.keep fun k _ hk => b3.block k hk
     have P3 : BkP V3 B base #[vF, vM, vI, vN] vF vM vI vN Fs Ls ms ms ns ns Q := HP.out.keep M3.fx.bel.size fun k hk hq => M3.fx.blk k hk (fun e => hq (HQ.out k e))
     refine ⟨SS3, ?_⟩
     try simp only [pA,pE,pB,pC,pD]
     refine rzP [12] ?_
     refine consP _ rfl (hopL rfl (append_gx Tryz.underlying37 Tryz.infoIsB rfl (by decide) V3 (by rfl) _ _ (by rfl) base vI Ls.length Ls (by kernel_rfl) (OwX.of P3.i) ⟨I3, 0, none⟩ 3 3 [.slice ao n cap, .slice ao2 n2 cap2, .slice ga (n + 1 + 80) gcp] (by kernel_rfl) rfl (by decide) (news_threeB hI3) (one_threeB rfl rfl (own_val1 M3.g).1) (by omega) P3.lo.2 fun x4 V4 o4 g4 => ?_)) AllReadyP.nil
     change QK _ _ Exit.normal (Act.put _ (some 48) x4) V4
     have P4 : BkP V4 B base #[vF, vM, vI, vN] vF vM x4 vN Fs (Ls ++ [.slice ao n cap, .slice ao2 n2 cap2, .slice ga (n + 1 + 80) gcp]) ms ms (ns ++ List.replicate 3 mk) ns (fun k => Q k /\ (Value.slice ao n cap).ownBlock ≠ some k) := by
      refine BkP.pushI (ts := [.slice ao n cap, .slice ao2 n2 cap2, .slice ga (n + 1 + 80) gcp]) (mk := mk) (P3.shrink fun k hk => hk.1) a4' g4 o4 ?_
      have ok : ∀ k, ((Value.slice ao n cap).ownBlock = some k \/ w.heap.size <= k) -> ¬ (Q k /\ (Value.slice ao n cap).ownBlock ≠ some k) /\ vN.ownBlock ≠ some k := by
       rintro k (e | e)
       ·exact ⟨fun c => c.2 e, fun c => HP.out.qN k c (HQ.out k e)⟩
       ·exact ⟨fun c => by have := HP.out.q k c.1; omega, fun c => by have := (World.ownsRow.lt HP.out.n k c).2; omega⟩
      have hsl : V2.heap.size <= V3.heap.size := b3.size
      intro y hy
      simp only [List.mem_cons, List.not_mem_nil, or_false] at hy
      rcases hy with rfl | rfl | rfl
      ·exact ⟨M3.l.ful, fun k hk => ⟨M3.l.lt k hk, ok k (.inl hk)⟩⟩
      ·exact ⟨f3, fun k hk => ⟨Nat.lt_of_lt_of_le (hk2 k hk).2 hsl, ok k (hk2 k hk).1⟩⟩
      ·exact ⟨FulG.of M3.g, fun k hk => ⟨(World.ownsRow.lt M3.g k hk).2, ok k (M3.gb k hk)⟩⟩
     have F4 : Fq base w V4 Q (.slice ao n cap) := ⟨M3.fx.bel.trans (g4.below P3.lo.2 fun k hk => (World.ownsRow.lt P3.i k hk).1), fun k hq hv => (g4.block k (P3.q k hq) (fun e => P3.qI k e hq)).trans (M3.fx.blk k (HP.out.q k hq) hv)⟩
     have SS4 := P4.bx
     have ov4 := own_val1 o4
     refine (And.intro SS4 ?_ : _ /\ _)
     try simp only [pA,pE,pB,pC,pD]
     clear SS3 SS2 P3 M3 M2 f2 f3 hI1 hI3 b1 b2 b3 g4 o4 hk2
     refine tzQ 49 13 ?_ ?_ (fun _ => SS4) ?_
     rotate_left
     ·intro w' hSw; go_simp; try with_reducible rfl
     try simp only [pA,pE,pB,pC,pD]
     refine tzQ 50 14 ?_ ?_ (fun _ => SS4) ?_
     rotate_left
     ·intro w' hSw; go_simp; try with_reducible rfl
     try simp only [pA,pE,pB,pC,pD]
     refine rzP [15] ?_
     refine consPs _ rfl (by kernel_rfl) (hopL rfl (wpList_store_at (by rfl) 37 _ _ (by rfl) w base B 2 x4 #[vF, vM, vI, vN] #[vF, vM, x4, vN] 39 (by kernel_rfl) (by kernel_rfl) SS4 F4.bel P4.lo.1 1 Tryz.szIssB (by rw [ov4.2]; rfl) (Nat.le_of_ble_eq_true rfl) (by intro u hu; rw [ov4.2] at hu; simp only [List.mem_cons, List.not_mem_nil, or_false] at hu; subst hu; exact ov4.1) (by rw [ov4.2]; rfl) fun V5 e5 b5 s5 k5 => ?_)) AllReadyP.nil
     refine (And.intro trivial ?_ : _ /\ _)
     refine put_noneB rfl ?_
     try simp only [pA,pE,pB,pC,pD]
     refine wpAnyP_done (by kernel_rfl) ?_ _
     refine NoPanic.normal ?_
     try simp only [pA,pE,pB,pC,pD]
     have P5 : Hid _ := P4.set (cs' := #[vF, vM, x4, vN]) s5 e5 k5
     have F5 : Hid (Fq base w V5 Q (.slice ao n cap)) := ⟨b5, fun k hq hv => (k5 k (fun e => P4.qB (e ▸ ⟨hq, hv⟩))).trans (F4.q k hq hv)⟩
     clear P4 F4 SS4 ov4 e5 b5 s5 k5 HPd MKd hbd
     have c3 : V5.cell? ⟨B, 3, none⟩ = some vN := by obtain ⟨q0, q1, q2, q3⟩ := cells4L P5.out.bx; exact q3
     have hlo5 := P5.out.lo
     go_wp2_with (first
      | (at_builtin; (refine append_gx Tryz.underlying23 Tryz.infoIB rfl (by decide) _ (by rfl) _ _ (by rfl) base vN ns.length _ (by rfl) (OwX.alloc (OwX.of P5.out.n) _) ⟨V5.heap.size, 0, none⟩ 3 3 [(.int .i64 mk), (.int .i64 mk), (.int .i64 mk)] (by rfl) rfl (by decide) (news_threeB (heap_alloc_new V5 _)) (one_threeB rfl rfl rfl) hns3 (by rw [alloc_size]; exact Nat.le_succ_of_le hlo5.2) ?_); intro x8 V8 o8 g8x; have g8 := g8x.alloc; have P8 : Hid _ := BkP.pushN (ts := [mk, mk, mk]) P5.out g8 o8; have F8 : Hid (Fq base w V8 Q (.slice ao n cap)) := ⟨F5.out.bel.trans (g8.below hlo5.2 fun k hk => (World.ownsRow.lt P5.out.n k hk).1), fun k hq hv => (g8.block k (P5.out.q k ⟨hq, hv⟩) (fun e => P5.out.qN k e ⟨hq, hv⟩)).trans (F5.out.q k hq hv)⟩; have ov8 : Hid _ := own_val1 o8; clear g8x g8 o8)
      | (refine wpList_store_at (by rfl) 23 _ _ (by rfl) w base B 3 x8 #[vF, vM, x4, vN] #[vF, vM, x4, x8] 39 (by rfl) (by rfl) P8.out.bx F8.out.bel P8.out.lo.1 1 Tryz.szIsB (by rw [ov8.out.2]; rfl) (Nat.le_of_ble_eq_true rfl) (by intro u hu; rw [ov8.out.2] at hu; simp only [List.mem_cons, List.not_mem_nil, or_false] at hu; subst hu; exact ov8.out.1) (by rw [ov8.out.2]; rfl) ?_; intro V9 e9 b9 s9 k9))
     go_end0
     have P9 := P8.out.set (cs' := #[vF, vM, x4, x8]) s9 e9 k9
     refine ⟨⟨_, rfl⟩, ⟨vF, vM, x4, x8, Fs, _, ms, _, P9, rfl, by simp, a3', by simp; omega, HNN.out⟩, b9, fun k hq hv => (k9 k (fun e => P8.out.qB (e ▸ ⟨hq, hv⟩))).trans (F8.out.q k hq hv)⟩
end Go.Proofs.YthmhgpadinecfaaGreat
