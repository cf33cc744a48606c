import Derived.Test.YthmhgpadinecfaaGreatTEj
import Derived.Test.YthmhgpadinecfaaGreatLTRa
import Derived.Test.YthmhgpadinecfaaGreatRTo
set_option maxRecDepth 100000
set_option maxHeartbeats 4000000
set_option linter.unusedVariables false
set_option linter.unusedSimpArgs false
namespace Go.Proofs.YthmhgpadinecfaaGreat
open Go.RowKit Go.Shelf
theorem ZO.mono {W : World} {base b : Nat} {vc vr vi vg : Value} {cl : List Value} (h : ZO W base vc vr vi vg cl) (hb : b <= base) : ZO W b vc vr vi vg cl := by
 obtain ⟨n1, x1, p1, q1⟩ := h.c
 obtain ⟨n2, x2, p2, q2⟩ := h.r
 obtain ⟨n3, x3, p3, q3⟩ := h.i
 exact ⟨⟨n1, x1, p1, q1.mono hb⟩, ⟨n2, x2, p2, q2.mono hb⟩, ⟨n3, x3, p3, q3.mono hb⟩, owns_monoJ h.g hb, fun j u hu => (by obtain ⟨n, xs, p, q⟩ := h.col j u hu; exact ⟨n, xs, p, q.mono hb⟩), h.cr, h.cg, h.gg, h.len⟩
theorem gsm_one {w : World} {base : Nat} {v : Value} {gl : List Value} (h : GsM w base v gl) : v.oneCell' = true := by obtain ⟨g, cap, cur, m, rfl, _⟩ := h; rfl
theorem rdI_ownB {w : World} {base : Nat} {v : Value} {is : List Int} (h : w.ownsRow base 3 1 v is.length (is.map (Value.int .i64))) : ∃ ao cap, v = .slice ao is.length cap /\ RdIs w ao is.length cap is := by
 obtain ⟨ao, cap, rfl, hm, hc⟩ := owns_slice h
 refine ⟨ao, cap, rfl, rfl, hm, ?_⟩
 rcases hc with h0 | ⟨g, rfl, hc⟩
 ·exact .inl h0
 ·exact .inr ⟨g, 0, rfl, fun j hj => by rw [Nat.zero_add, hc j hj, List.getElem?_map, List.getElem?_eq_getElem hj]; rfl⟩
structure R5S (P W : World) (x u : ZD) (most : Int) (D : Nat) (ov : Value) (yd : ZD) : Prop where
 bel : Below P.heap.size P W
 d : W.heap[D]? = some (.cells (zRow yd) 32)
 o : W.ownsRow P.heap.size 3 1 ov (ordL x).length ((ordL x).map (Value.int .i64))
 zu : ZU W yd
 rd : RdD (gdZ u) (if checkB u then 0 else 100) u.N u.gn u.rn u.cs u.rs u.ids u.gs (goD u most) yd
theorem R5S.later {P W W' : World} {x u : ZD} {most : Int} {D : Nat} {ov : Value} {yd : ZD} (h : R5S P W x u most D ov yd) (hb : Below W.heap.size W W') : R5S P W' x u most D ov yd :=
 ⟨to_callD h.bel hb, kept hb h.d, owns_keep h.o fun k e => hb.block k (World.ownsRow.lt h.o k e).2, h.zu.later hb, h.rd⟩
theorem ZUT.later {w w' : World} {y : ZD} (h : ZUT w y) (hb : Below w.heap.size w w') : ZUT w' y := fun W hk => h W fun k cur t ht hc => (hk k cur t ht (kept hb hc)).trans (hb.block k (blk_lt hc))
theorem Tryz.infoZ3 : (Tryz.prog.info? 26).map (fun i => (i.zero, i.size, i.bytes)) = some (some (.agg #[.int .i64 0, .slice none 0 0, .slice none 0 0, .slice none 0 0, .slice none 0 0, .bool false]), 6, 112) := by kernel_rfl
theorem Tryz.infoIs3 : (Tryz.prog.info? 23).map (fun i => (i.zero, i.size, i.bytes)) = some (some (.slice none 0 0), 1, 24) := by kernel_rfl
theorem zrow_one (y : ZD) : ∀ u ∈ (zRow y).toList, u.oneCell' = true := by
 intro u hu
 unfold zRow at hu
 simp only [List.mem_cons, List.not_mem_nil, or_false] at hu
 rcases hu with rfl | rfl | rfl | rfl | rfl | rfl <;> rfl
theorem news_zrow {W : World} {I : Nat} {y : ZD} {E : TypeId} (h : W.heap[I]? = some (.cells (zRow y) E)) : ∀ j u, (zRow y).toList[j]? = some u -> W.cell? ((⟨I, 0, none⟩ : Addr).add j) = some u := by
 intro j u hj
 rw [Addr.add_lit, cell_of_row _ I _ _ _ _ h, Nat.zero_add, <- Array.getElem?_toList]
 exact hj
theorem append_z6 {ops : Array Oper} {rest : List Oper} {o : Oper} {a : Act} {Q : Exit -> Act -> World -> Prop} (W : World) (hgd : o.guard = none) (s x : Operand) (ho : o.op = .call { callee := .builtin .append, args := #[s, x], argTypes := #[40, 40] })
  (base : Nat) (v : Value) (n : Nat) (xs : List Value) (hs : a.eval s = v) (hown : W.ownsRow base 26 6 v n xs) (I : Nat) (y : ZD) (hx : a.eval x = .slice (some ⟨I, 0, none⟩) 1 1) (hI : W.heap[I]? = some (.cells (zRow y) 26)) (hlen : n + 1 <= 1000) (hbase : base <= W.heap.size)
  (h : ∀ v' w', w'.ownsRow base 26 6 v' (n + 1) (xs ++ (zRow y).toList) -> W.grownBy w' v.ownBlock -> wpList Tryz.prog ops Q rest (a.put o.dst v') w') : wpList Tryz.prog ops Q (o :: rest) a W := by
 obtain ⟨i0, hi, hz0, hz1, hz2⟩ := info3P Tryz.infoZ3
 refine wpList_append_own W hgd s x 40 ho base 26 i0 (.agg #[.int .i64 0, .slice none 0 0, .slice none 0 0, .slice none 0 0, .slice none 0 0, .bool false]) 6 112 Tryz.underlying40 hi hz0 hz1 hz2 rfl (by decide) v n xs hs hown ⟨I, 0, none⟩ 1 1 (zRow y).toList hx rfl (news_zrow hI) (zrow_one y) (Nat.le_trans hlen (by decide)) (Nat.le_trans (Nat.mul_le_mul hlen (Nat.le_refl 112)) (by decide)) hbase ?_
 intro v' w' r1 r2 _
 exact h v' w' r1 r2
theorem ordl_len (x : ZD) : (ordL x).length <= x.gn := by
 unfold ordL
 split
 ·rw [List.length_map, plN_len]; exact Nat.le_refl _
 ·exact Nat.zero_le _
theorem grown_alloc {W W' : World} {o : Obj} {r : Option Nat} (h : (W.alloc o).grownBy W' r) : W.grownBy W' r := by
 have hsz : (W.alloc o).heap.size = W.heap.size + 1 := Array.size_push ..
 exact ⟨h.os, h.tape, h.output, by have := h.size; omega, fun j hj hne => by rw [h.block j (by omega) hne, Below.heap_alloc W _ j hj]⟩
theorem flat_row {zs : List Ans} {i : Nat} {a : Ans} (ha : zs[i]? = some a) : ∀ j, j < 6 -> (zs.flatMap fun a => (zRow a.y).toList)[i * 6 + j]? = (zRow a.y).toList[j]? := by
 induction zs generalizing i with
 | nil => cases ha
 | cons b zs ih =>
  intro j hj
  rw [List.flatMap_cons]
  have hl : (zRow b.y).toList.length = 6 := rfl
  cases i with
  | zero =>
   cases ha
   rw [List.getElem?_append_left (by rw [hl]; omega)]
   congr 1
   omega
  | succ i =>
   rw [List.getElem?_append_right (by rw [hl]; omega), hl]
   have e : (i + 1) * 6 + j - 6 = i * 6 + j := by omega
   rw [e]
   exact ih (by simpa using ha) j hj
theorem row_at {W : World} {base g cap n i : Nat} {zs : List Ans} {a : Ans} (h : W.ownsRow base 26 6 (.slice (some ⟨g, 0, none⟩) n cap) n (zs.flatMap fun a => (zRow a.y).toList)) (ha : zs[i]? = some a) (hi : i < n) : W.rangeAt g (i * 6) (zRow a.y).toList := by
 intro j v hv
 have hj : j < 6 := (List.getElem?_eq_some_iff.1 hv).1
 rw [World.ownsRow.cellAt h (i * 6 + j) (by omega), flat_row ha j hj]
 exact hv
theorem rangeAt_blk {w w' : World} {b o : Nat} {cs : List Value} (h : w.rangeAt b o cs) (hb : w'.heap[b]? = w.heap[b]?) : w'.rangeAt b o cs := fun j v hv => (World.cell?_of_block (w := w) hb).trans (h j v hv)
theorem trimReduces_walk
  (N : Int) (co : Option Addr) (cn cc : Nat) (io : Option Addr) (dn dc : Nat) (go : Option Addr) (gn gc : Nat) (ro : Option Addr) (rn rc : Nat) (bad : Bool) (cs0 : List Nat) (ids0 : List Int) (gv : Nat -> Option Addr × Nat × Nat) (gs0 : List (List Nat)) (rs0 : List Nat) (w : World)
  (hc : RdF w co cn cc cs0) (hi : RdIs w io dn dc ids0) (hg : RdGs w go gn gc gv gs0) (hr : RdF w ro rn rc rs0) (lc : (cn <= cc /\ (co = none -> cc = 0) /\ cc <= maxLen)) (lr : (rn <= rc /\ (ro = none -> rc = 0) /\ rc <= maxLen)) (lg : ∀ k, k < gn -> ((gv k).2.1 <= (gv k).2.2 /\ ((gv k).1 = none -> (gv k).2.2 = 0) /\ (gv k).2.2 <= maxLen))
  (most : Int) (hm1 : -9223372036854775808 <= most) (hm2 : most <= 9223372036854775807) :
  Calls Tryz.prog 3 #[.agg #[.int .i64 N, .slice co cn cc, .slice io dn dc, .slice go gn gc, .slice ro rn rc, .bool bad], .int .i64 most] w fun e w' => e = .returned (.bool true) /\ Below w.heap.size w w' := by
 have HZO : Hid (∀ W, Below w.heap.size w W -> _) := fun W hb => zonoL_any N co cn cc io dn dc go gn gc ro rn rc bad cs0 ids0 gv gs0 rs0 W (hc.later hb) (hi.later hb) (hg.later hb) (hr.later hb) lc lr lg
 clear hc hi hg hr lc lr lg
 have X0 : Below w.heap.size w (w.alloc (.cells #[.int .i64 N, .slice co cn cc, .slice io dn dc, .slice go gn gc, .slice ro rn rc, .bool bad] 26)) := (Below.refl _ w).alloc (Nat.le_refl _) _
 have Y0 : (w.alloc (.cells #[.int .i64 N, .slice co cn cc, .slice io dn dc, .slice go gn gc, .slice ro rn rc, .bool bad] 26)).heap[w.heap.size]? = some (.cells #[.int .i64 N, .slice co cn cc, .slice io dn dc, .slice go gn gc, .slice ro rn rc, .bool bad] 26) := heap_alloc_new w _
 go_enter Tryz.func3, Tryz.ntmps3
 go_upto_region 1 with fail
 obtain ⟨X, hX⟩ : ∃ X, (w.alloc (.cells #[.int .i64 N, .slice co cn cc, .slice io dn dc, .slice go gn gc, .slice ro rn rc, .bool bad] 26)) = X := ⟨_, rfl⟩
 rw [hX] at X0 Y0 ⊢
 have T0 : Hid (Below w.heap.size w X /\ X.heap[w.heap.size]? = some (.cells #[.int .i64 N, .slice co cn cc, .slice io dn dc, .slice go gn gc, .slice ro rn rc, .bool bad] 26)) := ⟨X0, Y0⟩
 clear hX X0 Y0
 go_upto_region 3 with (first
  | (go_at_call 5; refine Calls.mono (told11_any _) ?_; rintro e w1 ⟨rfl, b1⟩))
 have T1 : Hid (Below w.heap.size w w1 /\ w1.heap[w.heap.size]? = some (.cells #[.int .i64 N, .slice co cn cc, .slice io dn dc, .slice go gn gc, .slice ro rn rc, .bool bad] 26)) := ⟨to_callD T0.out.1 b1, kept b1 T0.out.2⟩
 clear b1 T0
 go_upto_region 4 with (first
  | (refine wpList_load_row (by rfl) 26 _ (by rfl) w.heap.size _ (by rfl) T1.out.2 _ Tryz.underlying26 rfl 6 Tryz.infoZ (by rfl) ?_)
  | (go_at_call 6; refine Calls.mono (HZO.out _ T1.out.1) ?_; rintro e w2 ⟨vc, vr, vi, vg, gl, rfl, hx, b2⟩; have q2 := (Below.refl _ w2).alloc (Nat.le_refl _) (.cells #[.int .i64 0, .slice none 0 0, .slice none 0 0, .slice none 0 0, .slice none 0 0, .bool false] 26))
  | (refine wpList_store_row (by rfl) 26 _ _ (by rfl) w2 w2.heap.size w2.heap.size #[.int .i64 N, vc, vi, vg, vr, .bool bad] _ (by rfl) (by rfl) (heap_alloc_new w2 _) q2 (Nat.le_refl _) 6 Tryz.infoZ rfl rfl (oneZ _ _ _ _ _ (mk_one hx.c) (idm_one hx.i) (gsm_one hx.g) (mk_one hx.r) _) ?_; intro V Y1 A1 s9 o9))
 obtain ⟨B7, hB⟩ : ∃ b, w2.heap.size = b := ⟨_, rfl⟩
 rw [hB] at Y1
 have hB7 : w.heap.size <= B7 := by rw [<- hB]; exact Nat.le_trans T1.out.1.size b2.size
 obtain ⟨cs, hcs⟩ : ∃ l, cs0.take 300 = l := ⟨_, rfl⟩
 obtain ⟨rs, hrs⟩ : ∃ l, rs0.take 300 = l := ⟨_, rfl⟩
 obtain ⟨ids, hids⟩ : ∃ l, ids0.take 400 = l := ⟨_, rfl⟩
 obtain ⟨gs, hgs⟩ : ∃ l, (gs0.take 400).map (·.take 300) = l := ⟨_, rfl⟩
 rw [hcs, hrs, hids, hgs] at hx
 have hxl : XL V w.heap.size cs rs ids gs vc vr vi vg gl := by
  have h9 := hx.later A1
  have hs := T1.out.1.size
  exact ⟨h9.c.mono hs, h9.r.mono hs, by obtain ⟨g, cap, cur, a1, a2, a3⟩ := h9.i; exact ⟨g, cap, cur, a1, by omega, a3⟩, by obtain ⟨g, cap, cur, m, a1, a2, a3⟩ := h9.g; exact ⟨g, cap, cur, m, a1, by omega, a3⟩, h9.len, fun j u hj => (h9.col j u hj).mono hs, h9.nd, h9.few⟩
 have HJ : Hid (Below w.heap.size w V /\ V.heap[B7]? = some (.cells #[.int .i64 N, vc, vi, vg, vr, .bool bad] 26)) := ⟨to_callD (to_callD T1.out.1 b2) A1, Y1⟩
 rw [hB]
 clear hB A1 Y1 hx b2 T1 HZO hids hcs hrs hgs q2 s9 o9
 obtain ⟨x, hrow, hzr, hzw, x1, x2, x3, x4, x5, x6, x7, x8⟩ := hxl.zd N bad
 have HXL : Hid (XL V w.heap.size cs rs ids gs vc vr vi vg gl) := hxl
 have HXZ : Hid (ZR V x /\ ZW x /\ x.dn <= 400 /\ x.gn <= 400) := ⟨hzr, hzw, x7, x8⟩
 have HRW : Hid (#[.int .i64 N, vc, vi, vg, vr, .bool bad] = zRow x) := hrow
 have HXE : Hid (x.N = N /\ x.bad = bad /\ x.cs = cs /\ x.rs = rs /\ x.ids = ids /\ x.gs = gs) := ⟨x1, x2, x3, x4, x5, x6⟩
 have HOF : Hid (Calls Tryz.prog 7 #[.agg #[.int .i64 N, vc, vi, vg, vr, .bool bad]] V fun e w' => ∃ u : ZD, e = .returned (.agg (zRow u)) /\ ZU w' u /\ SmZ u x /\ Below V.heap.size V w') := by unfold Hid; rw [hrow]; exact ofU x V hzr hzw
 clear hxl hzr hzw hrow x1 x2 x3 x4 x5 x6 x7 x8
 go_upto_region 5 with (first
  | (refine wpList_load_row (by rfl) 26 _ (by rfl) B7 _ (by rfl) HJ.out.2 _ Tryz.underlying26 rfl 6 Tryz.infoZ (by rfl) ?_)
  | (go_at_call 7; refine Calls.mono HOF.out ?_; rintro e w1 ⟨u, rfl, hu, hsm, b1⟩; have q1 := (Below.refl _ w1).alloc (Nat.le_refl _) (.cells #[.int .i64 0, .slice none 0 0, .slice none 0 0, .slice none 0 0, .slice none 0 0, .bool false] 32))
  | (refine wpList_store_row (by rfl) 32 _ _ (by rfl) w1 w1.heap.size w1.heap.size (zRow u) _ (by rfl) (by rfl) (heap_alloc_new w1 _) q1 (Nat.le_refl _) 6 Tryz.infoZu rfl rfl (oneZ _ _ _ _ _ rfl rfl rfl rfl _) ?_; intro P Y1 A1 s9 o9))
 obtain ⟨B9, hB⟩ : ∃ b, w1.heap.size = b := ⟨_, rfl⟩
 rw [hB] at Y1
 have bP : Below V.heap.size V P := to_callD b1 A1
 have HXP : Hid (XL P w.heap.size cs rs ids gs vc vr vi vg gl /\ ZR P x /\ ZU P u /\ SmZ u x /\ UW u) := ⟨HXL.out.later bP, HXZ.out.1.later bP, hu.later A1, hsm, hsm.uw (HXZ.out.1.later bP) HXZ.out.2.1 (hu.later A1)⟩
 rw [hB]
 have huw := HXP.out.2.2.2.2
 have hx4 : x.dn <= 1050000 := by have := HXZ.out.2.2.1; omega
 have hx8 : x.gn <= 400 := HXZ.out.2.2.2
 have HO : Hid (∀ W, Below P.heap.size P W -> Calls Tryz.prog 10 #[.agg #[.int .i64 N, vc, vi, vg, vr, .bool bad]] W fun e w' => ∃ v : Value, e = .returned v /\ w'.ownsRow W.heap.size 3 1 v (ordL x).length ((ordL x).map (Value.int .i64)) /\ Below W.heap.size W w') := fun W hb => by rw [HRW.out]; exact orderO_any 1166 rfl x W (HXP.out.2.1.later hb) hx4
 have HOD : Hid (∀ W, Below P.heap.size P W -> Calls Tryz.prog 8 #[.agg (zRow u)] W fun e w' => ∃ v : Value, e = .returned v /\ w'.ownsRow W.heap.size 3 1 v (ordL x).length ((ordL x).map (Value.int .i64)) /\ Below W.heap.size W w') := fun W hb => by
  have h9 := refOrder_any u 1074 rfl W (HXP.out.2.2.1.later hb) huw
  rw [ord_doc HXP.out.2.1 HXP.out.2.2.2.1, List.length_map] at h9
  exact h9
 have HRE : Hid (∀ W, Below P.heap.size P W -> Calls Tryz.prog 11 #[.agg #[.int .i64 N, vc, vi, vg, vr, .bool bad], .int .i64 most] W fun e w' => ∃ y : ZD, e = .returned (.agg (zRow y)) /\ ZR w' y /\ ZW y /\ TyG w' y /\ RdC x most y /\ (y.bad = false -> FrY w' W.heap.size y) /\ Below W.heap.size W w') := fun W hb => by rw [HRW.out]; exact reduceF_any 1166 rfl x W (HXP.out.2.1.later hb) hx4 most hm1 hm2
 have HRD : Hid (∀ W, Below P.heap.size P W -> Calls Tryz.prog 9 #[.agg (zRow u), .int .i64 most] W fun e w' => ∃ y : ZD, e = .returned (.agg (zRow y)) /\ ZUT w' y /\ RdD (gdZ u) (if checkB u then 0 else 100) u.N u.gn u.rn u.cs u.rs u.ids u.gs (goD u most) y /\ Below W.heap.size W w') := fun W hb => refReduceT_any u 1074 rfl most hm2 W (HXP.out.2.2.1.later hb) huw
 have HSA : Hid (∀ (y v : ZD) W, ZR W y -> ZU W v -> RdC x most y -> RdD (gdZ u) (if checkB u then 0 else 100) u.N u.gn u.rn u.cs u.rs u.ids u.gs (goD u most) v -> Calls Tryz.prog 13 #[.agg (zRow y), .agg (zRow v)] W fun e w' => e = .returned (.bool true) /\ Below W.heap.size W w') := fun y v W h1 h2 h3 h4 => by
  have h9 := refSameZ_any y v W h1 h2
  rw [h3.doc h4 HXP.out.2.1 hx4 HXP.out.2.2.2.1] at h9
  exact h9
 have HSD : Hid (∀ W, Below P.heap.size P W -> Calls Tryz.prog 17 #[.agg #[.int .i64 N, vc, vi, vg, vr, .bool bad], .agg (zRow u)] W fun e w' => e = .returned (.bool true) /\ Below W.heap.size W w') := fun W hb => by
  have sm := HXP.out.2.2.2.1
  have zu := HXP.out.2.2.1.later hb
  obtain ⟨x1, x2, x3, x4, x5, x6⟩ := HXE.out
  have ec : u.cs = cs := sm.cs.trans x3
  have er : u.rs = rs := sm.rs.trans x4
  have ei : u.ids = ids := sm.ids.trans x5
  have eg : u.gs = gs := sm.gs.trans x6
  have l1 : u.cn = cs.length := by rw [<- ec]; exact zu.c.length.symm
  have l2 : u.rn = rs.length := by rw [<- er]; exact zu.r.length.symm
  have l3 : u.dn = ids.length := by rw [<- ei]; exact zu.i.length.symm
  have l4 : u.gn = gl.length := by rw [HXP.out.1.len, <- eg]; exact zu.g.length.symm
  have erow : zRow u = #[.int .i64 N, .slice u.co cs.length u.cc, .slice u.io ids.length u.dc, .slice u.go gl.length u.gc, .slice u.ro rs.length u.rc, .bool bad] := by unfold zRow; rw [sm.N, sm.bad, x1, x2, l1, l2, l3, l4]
  rw [erow]
  exact standsL_any N bad cs rs ids gs vc vr vi vg gl w.heap.size W (HXP.out.1.later hb) u.co u.io u.go u.ro u.cc u.dc u.gc u.rc u.gv (fun W' h' => by have := (zu.later h').c; rw [l1, ec] at this; exact this) (fun W' h' => by have := (zu.later h').i; rw [l3, ei] at this; exact this) (fun W' h' => by have := (zu.later h').g; rw [l4, eg] at this; exact this) (fun W' h' => by have := (zu.later h').r; rw [l2, er] at this; exact this)
 have HPX : Hid (P.heap[B9]? = some (.cells (zRow u) 32)) := Y1
 have HPJ : Hid (Below w.heap.size w P /\ P.heap[B7]? = some (.cells #[.int .i64 N, vc, vi, vg, vr, .bool bad] 26)) := ⟨to_callD HJ.out.1 bP, kept bP HJ.out.2⟩
 clear hB Y1 A1 bP hu hsm b1 HJ HXL HXZ HRW HXE HOF HXP huw hx4 q1 s9 o9
 try simp only [pA,pE,pB,pC,pD]
 go_cut [7, 8] (fun v7 v8 wx => ∃ (D : Nat) (oao : Option Addr) (ocp : Nat) (yd : ZD), v7 = .slice oao (ordL x).length ocp /\ v8 = .pointer (some ⟨D, 0, none⟩) /\ Hid (R5S P wx x u most D (.slice oao (ordL x).length ocp) yd))
 case rest =>
  obtain ⟨D, oao, ocp, yd, rfl, rfl, HR5⟩ := hcut
  have Z0 : L1S wc (wc.alloc (.cells #[.slice none 0 0, .slice none 0 0, .slice none 0 0, .slice none 0 0] 39)) x most 0 (.slice none 0 0) (.slice none 0 0) [] := ⟨(Below.refl _ wc).alloc (Nat.le_refl _) _, heap_alloc_new wc _, rfl, World.ownsRow_nil _ _ _ _, World.ownsRow_nil _ _ _ _, (fun j a h => by cases h), (fun i j a b _ h => by cases h)⟩
  have HZ0 : Hid _ := Z0
  clear Z0
  obtain ⟨Wb, hWb⟩ : ∃ W, wc = W := ⟨_, rfl⟩
  rw [hWb] at HR5 HZ0 ⊢
  clear hWb
  have HPB : Hid (∀ W, Below Wb.heap.size Wb W -> Below P.heap.size P W /\ W.heap[B7]? = some (.cells #[.int .i64 N, vc, vi, vg, vr, .bool bad] 26) /\ W.heap[B9]? = some (.cells (zRow u) 32)) := fun W hb => by
   have h1 := HR5.out.bel
   have h2 := to_callD h1 hb
   exact ⟨h2, kept h2 HPJ.out.2, kept h2 HPX.out⟩
  go_upto_region 10 with fail
  go_wp2_with fail
  go_loopg [10, 11, 12] 2 (fun g v10 v11 v12 wx => ∃ (i : Nat) (zs : List Ans), v12 = .int .i64 i /\ i + g = 2 /\ Hid (L1S Wb wx x most i v10 v11 zs))
  case atStart => exact ⟨0, [], rfl, by omega, HZ0⟩
  case round =>
   clear HZ0
   obtain ⟨i, zs, rfl, hi, HL⟩ := hrel
   by_cases hlt : i < 2
   ·have hd : decide ((i : Int) < 2) = true := decide_eq_true (by omega)
    have hlt' : (i : Int) < 2 := by omega
    obtain ⟨q, rfl⟩ : ∃ q, gk = q + 1 := ⟨gk - 1, by omega⟩
    have HIG : Hid (i + (q + 1) = 2) := hi
    have P0 := HPB.out _ HL.out.bel
    have HP0 : Hid _ := P0
    have hb7 := P0.2.1
    have hi1 : i + 1 <= 2000000 := by omega
    have hi2 : i + 1 <= 1000 := by omega
    clear P0 hi
    go_upto_region 13 with (first
     | (refine wpList_load_row (by rfl) 26 _ (by rfl) B7 _ (by rfl) hb7 _ Tryz.underlying26 rfl 6 Tryz.infoZ (by rfl) ?_)
     | (go_at_call 10; refine Calls.mono (HO.out _ HP0.out.1) ?_; rintro e w1 ⟨lv, rfl, o1, b1⟩; obtain ⟨lao, lcp, hlv, -⟩ := owns_slice o1; subst hlv; have HB1 : Hid (Below wr.heap.size wr w1 /\ w1.ownsRow wr.heap.size 3 1 (.slice lao (ordL x).length lcp) (ordL x).length ((ordL x).map (Value.int .i64))) := ⟨b1, o1⟩; have HR1 : Hid _ := (HL.out.later b1).r10; have hsz1 : Wb.heap.size <= w1.heap.size := Nat.le_trans HL.out.bel.size b1.size; clear b1 o1)
     | (at_builtin; refine append_gx Tryz.underlying37 Tryz.infoIs3 rfl (by decide) _ (by rfl) _ _ (by rfl) Wb.heap.size _ i _ (by rfl) (OwX.alloc (OwX.of HR1.out) _) ⟨w1.heap.size, 0, none⟩ 1 1 [.slice lao (ordL x).length lcp] (by rfl) rfl (by decide) (news_oneJ (heap_alloc_new w1 _)) (by intro u hu; simp at hu; subst hu; rfl) hi1 (by rw [alloc_size]; exact Nat.le_succ_of_le hsz1) ?_; intro x2 w2 o2 g2; have HG2 : Hid (Gx w1 w2 _ x2 i 1 /\ w2.ownsRow Wb.heap.size 23 1 x2 (i + 1) (zs.map (·.lv) ++ [.slice lao (ordL x).length lcp])) := ⟨g2.alloc, o2⟩; have hb72 := (g2.alloc.block B7 (blk_lt (kept HB1.out.1 hb7)) (fun e => by obtain ⟨c', hc'⟩ := (OwX.of HR1.out).ty B7 e; rw [kept HB1.out.1 hb7] at hc'; injection hc' with hc'; injection hc' with _ hc'; exact absurd hc' (by decide))).trans (kept HB1.out.1 hb7); clear o2 g2))
    have HP2 : Hid (Below P.heap.size P w2) := by
     have h1 := to_callD HP0.out.1 HB1.out.1
     have h2 := (HG2.out.1.below hsz1 fun k e => (World.ownsRow.lt HR1.out k e).1)
     exact h1.trans (h2.mono HR5.out.bel.size)
    have HR2 : Hid (w2.ownsRow Wb.heap.size 26 6 _ i _) := owns_keepT (HL.out.later HB1.out.1).r11 fun k cur hc => HG2.out.1.block k (blk_lt hc) (fun e => by obtain ⟨c', hc'⟩ := (OwX.of HR1.out).ty k e; rw [hc] at hc'; injection hc' with hc'; injection hc' with _ hc'; exact absurd hc' (by decide))
    have hsz2 : Wb.heap.size <= w2.heap.size := Nat.le_trans hsz1 HG2.out.1.size
    clear hb7
    go_wp2_with (first
     | (refine wpList_load_row (by rfl) 26 _ (by rfl) B7 _ (by rfl) hb72 _ Tryz.underlying26 rfl 6 Tryz.infoZ (by rfl) ?_)
     | (go_at_call 11; refine Calls.mono (HRE.out _ HP2.out) ?_; rintro e w3 ⟨y, rfl, zy, wy, ty, dy, fy, b3⟩; have HB3 : Hid _ := And.intro zy (And.intro wy (And.intro dy (And.intro fy b3))); have HR3 : Hid _ := owns_keep HR2.out fun k e => b3.block k (World.ownsRow.lt HR2.out k e).2; have hsz3 : Wb.heap.size <= w3.heap.size := Nat.le_trans hsz2 b3.size; have hz6 : (zRow y).size = 6 := rfl; clear zy wy ty dy fy b3)
     | (at_builtin; refine append_z6 _ (by rfl) _ _ (by rfl) Wb.heap.size _ i _ (by rfl) (World.ownsRow.alloc HR3.out _) w3.heap.size y (by rfl) (heap_alloc_new w3 _) hi2 (by rw [alloc_size]; exact Nat.le_succ_of_le hsz3) ?_; intro x4 w4 o4 g4; have HG4 : Hid _ := And.intro o4 (grown_alloc g4); clear o4 g4))
    have HL2 : Hid (∃ a, L1S Wb w4 x most (i + 1) x2 x4 (zs ++ [a])) := by
     obtain ⟨zy, wy, dy, fy, b3⟩ := HB3.out
     obtain ⟨yc, yr, yi, yg, ycl, hyr, hzo⟩ := zo_of dy fy wy (rdc_few dy zy hx8)
     obtain ⟨o4, g4⟩ := HG4.out
     exact ⟨⟨.slice lao (ordL x).length lcp, y, yc, yr, yi, yg, ycl⟩, L1S.next (a := ⟨.slice lao (ordL x).length lcp, y, yc, yr, yi, yg, ycl⟩) HL.out HB1.out.1 HB1.out.2 HG2.out.1 HG2.out.2 b3 hyr hzo zy dy g4 o4⟩
    clear HB1 HB3 HG2 HG4 HR1 HR2 HR3 HP2 hb72 HL
    obtain ⟨a, HL2⟩ := HL2.out
    have HL3 : Hid _ := HL2
    clear HL2
    go_roundg q
    case measure => omega
    case rel => exact ⟨i + 1, zs ++ [a], by go_num, by have := HIG.out; omega, HL3⟩
   ·have hd : decide ((i : Int) < 2) = false := decide_eq_false (by omega)
    have hd' : decide (i < 2) = false := decide_eq_false hlt
    obtain rfl : i = 2 := by omega
    clear hi hlt
    go_wp2_with fail
    obtain ⟨W1, hW1⟩ : ∃ V, wr = V := ⟨_, rfl⟩
    rw [hW1] at HL ⊢
    clear hW1
    obtain ⟨a10, c10, hv10, hm10, hr10⟩ := owns_slice HL.out.r10
    obtain ⟨g11, c11, hv11⟩ : ∃ g c, u11 = .slice (some ⟨g, 0, none⟩) 2 c := by
     rcases HL.out.r11.2 with ⟨_, h0⟩ | ⟨g, cap, cur, h1, _⟩
     ·omega
     ·exact ⟨g, cap, h1⟩
    obtain ⟨g10, h10, hq10⟩ : ∃ g, a10 = some ⟨g, 0, none⟩ /\ ∀ j, j < 2 -> W1.cell? ⟨g, j, none⟩ = (zs.map (·.lv))[j]? := by
     rcases hr10 with h0 | h0
     ·omega
     ·exact h0
    subst h10 hv10 hv11
    have HC10 : Hid _ := hq10
    have HL2 : Hid _ := L2S.start HL.out
    clear hr10 hq10 hm10
    go_loopg [13] 2 (fun g v13 wx => ∃ i : Nat, v13 = .int .i64 i /\ i + g = 2 /\ Hid (L2S Wb W1 wx (.slice (some ⟨g10, 0, none⟩) 2 c10) (.slice (some ⟨g11, 0, none⟩) 2 c11) zs i))
    case atStart => exact ⟨0, rfl, by omega, HL2⟩
    case round =>
     clear HL2
     obtain ⟨i, rfl, hi, HL2⟩ := hrel
     by_cases hlt : i < 2
     ·have hd : decide ((i : Int) < 2) = true := decide_eq_true (by omega)
      have hlt' : (i : Int) < 2 := by omega
      have hlt2 : (i : Int) < ((2 : Nat) : Int) := by omega
      obtain ⟨q, rfl⟩ : ∃ q, gk = q + 1 := ⟨gk - 1, by omega⟩
      have HIG : Hid (i + (q + 1) = 2) := hi
      obtain ⟨a, ha⟩ : ∃ a, zs[i]? = some a := ⟨_, List.getElem?_eq_getElem (by rw [HL.out.len]; exact hlt)⟩
      have HA : Hid (zs[i]? = some a) := ha
      obtain ⟨lo, hh, han1, han2, han⟩ := HL.out.an i a ha
      have HAN : Hid (Wb.heap.size <= lo /\ An wr x most lo hh a) := ⟨han1, han.keep fun k hk => HL2.out.same k (.inr (.inr ⟨i, a, Nat.le_refl _, ha, hk⟩))⟩
      have C10 : wr.cell? ⟨g10, i, none⟩ = some a.lv := by rw [World.cell?_of_block (w := W1) (HL2.out.same g10 (.inl rfl)), HC10.out i hlt, List.getElem?_map, ha]; rfl
      obtain ⟨lao, lcp, hlv, hrd⟩ := rdI_ownB HAN.out.2.o
      rw [hlv] at C10
      have HLE : Hid (a.lv = .slice lao (ordL x).length lcp) := hlv
      have HLV : Hid (RdIs wr lao (ordL x).length lcp (ordL x)) := hrd
      have H5 : Hid (R5S P wr x u most D (.slice oao (ordL x).length ocp) yd) := HR5.out.later HL2.out.bel
      obtain ⟨oa2, oc2, hov, hro⟩ := rdI_ownB H5.out.o
      cases hov
      have HOV : Hid (RdIs wr oao (ordL x).length ocp (ordL x)) := hro
      have HDW : Hid (wr.heap[D]? = some (.cells (zRow yd) 32)) := H5.out.d
      have HYD : Hid (ZU wr yd) := H5.out.zu
      have HRY : Hid (RdD (gdZ u) (if checkB u then 0 else 100) u.N u.gn u.rn u.cs u.rs u.ids u.gs (goD u most) yd) := H5.out.rd
      have HZA : Hid (ZR wr a.y) := HAN.out.2.zr
      have HRA : Hid (RdC x most a.y) := HAN.out.2.rd
      have HR11 : Hid (wr.ownsRow Wb.heap.size 26 6 (.slice (some ⟨g11, 0, none⟩) 2 c11) 2 (zs.flatMap fun a => (zRow a.y).toList)) := owns_keep HL.out.r11 fun k e => HL2.out.same k (.inr (.inl e))
      have HRG : Hid (∀ W, Below wr.heap.size wr W -> W.rangeAt g11 (i * 6) (zRow a.y).toList) := fun W hb => row_at (owns_keep HR11.out fun k e => hb.block k (World.ownsRow.lt HR11.out k e).2) ha hlt
      clear han han1 han2 hlv hrd hro ha hi H5
      go_upto_region 17 with fail
      refine wp_region_noPanic ?_
      refine wp_region_held_drew (S := fun V => Below wr.heap.size wr V) (by kernel_rfl) ((Below.refl _ wr).drew) (fun _ => ?_)
      have SQ : Below wr.heap.size wr wr.drew := (Below.refl _ wr).drew
      refine tzI 46 0 ?_ ?_ SQ ?_
      rotate_left
      ·intro w' hSw; go_simp; try with_reducible rfl
      try simp only [pA,pE,pB,pC,pD]
      refine tzI 47 1 ?_ ?_ SQ ?_
      rotate_left
      ·intro w' hSw; go_simp; try with_reducible rfl
      try simp only [pA,pE,pB,pC,pD]
      refine tzI 48 2 ?_ ?_ SQ ?_
      rotate_left
      ·intro w' hSw; go_simp; try with_reducible rfl
      try simp only [pA,pE,pB,pC,pD]
      refine tzH 49 3 (.slice lao (ordL x).length lcp) (Or.inl ⟨by kernel_rfl, fun w' hSw => ex_load1B _ _ _ rfl ⟨g10, i, none⟩ (by kernel_rfl) w' _ (by rw [(hSw.cell (World.block_lt_of_cell? _ _ C10))]; exact C10) (fun w => by kernel_rfl)⟩) SQ ?_
      try simp only [pA,pE,pB,pC,pD]
      refine tzI 50 4 ?_ ?_ SQ ?_
      rotate_left
      ·intro w' hSw; go_simp; try with_reducible rfl
      try simp only [pA,pE,pB,pC,pD]
      refine rzH [5] ?_
      refine consH _ rfl (hzC 51 (Calls.mono (sameIntsT_any lao oao (ordL x).length (ordL x).length lcp ocp (ordL x) (ordL x) _ (HLV.out.later SQ) (HOV.out.later SQ)) ?_)) AllReadyH.nil
      rintro e V1 ⟨rfl, c1⟩
      rw [decide_eq_true (rfl : ordL x = ordL x)]
      have SQ := to_callD SQ c1
      clear c1
      refine ⟨_, rfl, SQ, ?_⟩
      try simp only [pA,pE,pB,pC,pD]
      refine tzI 52 6 ?_ ?_ SQ ?_
      rotate_left
      ·intro w' hSw; go_simp; try with_reducible rfl
      try simp only [pA,pE,pB,pC,pD]
      refine tzI 53 7 ?_ ?_ SQ ?_
      rotate_left
      ·intro w' hSw; go_simp; try with_reducible rfl
      try simp only [pA,pE,pB,pC,pD]
      refine tzI 54 8 ?_ ?_ SQ ?_
      rotate_left
      ·intro w' hSw; go_simp; try with_reducible rfl
      try simp only [pA,pE,pB,pC,pD]
      refine tzI 55 9 ?_ ?_ SQ ?_
      rotate_left
      ·intro w' hSw; go_simp; try with_reducible rfl
      try simp only [pA,pE,pB,pC,pD]
      refine tzI 56 10 ?_ ?_ SQ ?_
      rotate_left
      ·intro w' hSw; go_simp; try with_reducible rfl
      try simp only [pA,pE,pB,pC,pD]
      refine tzH 57 11 (.agg (zRow a.y)) (yieldsIf_load_mid (by kernel_rfl) 26 _ rfl g11 (i * 6) (by kernel_rfl) (zRow a.y).toList _ (fun w' hSw => HRG.out w' hSw) Tryz.underlying26 rfl (by kernel_rfl)) SQ ?_
      try simp only [pA,pE,pB,pC,pD]
      refine tzH 58 12 (.agg (zRow yd)) (Or.inl ⟨by kernel_rfl, fun w' hSw => ex_loadRN _ 32 _ rfl D (by kernel_rfl) w' _ (kept hSw HDW.out) _ Tryz.underlying32 rfl 6 Tryz.infoZu rfl⟩) SQ ?_
      try simp only [pA,pE,pB,pC,pD]
      refine rzH [13] ?_
      refine consH _ rfl (hzC 59 (Calls.mono (HSA.out a.y yd _ (HZA.out.later SQ) (HYD.out.later SQ) HRA.out HRY.out) ?_)) AllReadyH.nil
      rintro e V2 ⟨rfl, c2⟩
      have SQ := to_callD SQ c2
      clear c2
      refine ⟨_, rfl, SQ, ?_⟩
      try simp only [pA,pE,pB,pC,pD]
      refine tzI 60 14 ?_ ?_ SQ ?_
      rotate_left
      ·intro w' hSw; go_simp; try with_reducible rfl
      try simp only [pA,pE,pB,pC,pD]
      refine tzI 61 15 ?_ ?_ SQ ?_
      rotate_left
      ·intro w' hSw; go_simp; try with_reducible rfl
      try simp only [pA,pE,pB,pC,pD]
      refine wpAnyH_done (by kernel_rfl) ?_ _
      refine NoPanic.normal ?_
      try simp only [pA,pE,pB,pC,pD]
      have HQ2 : Hid (Below wr.heap.size wr V2) := SQ
      clear SQ
      have C10b := (HQ2.out.cell (World.block_lt_of_cell? _ _ C10)).trans C10
      clear C10
      have HL3 : Hid (L2S Wb W1 V2 (.slice (some ⟨g10, 0, none⟩) 2 c10) (.slice (some ⟨g11, 0, none⟩) 2 c11) zs i) := by
       obtain ⟨nF, nI, p1, p2, p3⟩ := HL2.out.bk
       refine ⟨to_callD HL2.out.bel HQ2.out, ⟨nF, nI, p1, p2, p3.later HQ2.out⟩, fun k hk => ?_⟩
       obtain ⟨_, _, _, _, _, _, _, _, h1, _⟩ := p3
       exact (HQ2.out.block k (h1.q k hk)).trans (HL2.out.same k hk)
      have HAN3 : Hid (An V2 x most lo hh a) := HAN.out.2.keep fun k hk => HQ2.out.block k (HAN.out.2.lt k hk).2
      have hlo := HAN.out.1
      have HRG3 : Hid (V2.rangeAt g11 (i * 6) (zRow a.y).toList) := HRG.out V2 HQ2.out
      obtain ⟨nF, nI, p1, p2, p3⟩ := HL3.out.bk
      have HBK : Hid _ := p3
      have hlr : (ordL x).length <= 1050000 := Nat.le_trans (ordl_len x) (by omega)
      have HAB : Hid (∀ k, a.lv.ownBlock = some k -> Qi (.slice (some ⟨g10, 0, none⟩) 2 c10) (.slice (some ⟨g11, 0, none⟩) 2 c11) zs i k) := fun k e => .inr (.inr ⟨i, a, Nat.le_refl _, HA.out, .inl e⟩)
      have HCI : Hid _ := ints_any Wb.heap.size Wb.heap.size _ nF nI a.lv _ _ V2 HBK.out ((OwX.of HAN3.out.o).mono hlo) HAB.out hlr (by omega) (by omega)
      rw [HLE.out] at HCI
      clear p3 HL2 HAN HLV HOV HDW HYD HRY HZA HRA HR11 HRG HQ2
      go_upto_region 20 with (first
       | (go_at_call 14; refine Calls.mono HCI.out ?_; rintro e w5 ⟨⟨r, rfl⟩, b5, l5, k5⟩))
      have HK5 : Hid (BkE w5 Wb.heap.size Wb.heap.size (fun k => Qi (.slice (some ⟨g10, 0, none⟩) 2 c10) (.slice (some ⟨g11, 0, none⟩) 2 c11) zs i k /\ a.lv.ownBlock ≠ some k) nF (nI + 3) /\ Below Wb.heap.size V2 w5 /\ ∀ k, Qi (.slice (some ⟨g10, 0, none⟩) 2 c10) (.slice (some ⟨g11, 0, none⟩) 2 c11) zs i k -> a.lv.ownBlock ≠ some k -> w5.heap[k]? = V2.heap[k]?) := by rw [HLE.out]; exact ⟨b5, l5, k5⟩
      clear b5 l5 k5 C10b HCI
      have HTY : Hid (a.lv.ownBlock ≠ some g10 /\ a.lv.ownBlock ≠ some g11) := by
       refine ⟨fun e => ?_, fun e => ?_⟩
       ·obtain ⟨c', hc'⟩ := (OwX.of HAN3.out.o).ty g10 e
        have h9 := owns_keep HL.out.r10 (w' := V2) fun k e => HL3.out.same k (.inl e)
        obtain ⟨c2, hc2⟩ := (OwX.of h9).ty g10 rfl
        rw [hc'] at hc2
        injection hc2 with hc2
        injection hc2 with _ hc2
        exact absurd hc2 (by decide)
       ·obtain ⟨c', hc'⟩ := (OwX.of HAN3.out.o).ty g11 e
        have h9 := owns_keep HL.out.r11 (w' := V2) fun k e => HL3.out.same k (.inr (.inl e))
        obtain ⟨c2, hc2⟩ := owns_type h9 (k := g11) rfl
        rw [hc'] at hc2
        injection hc2 with hc2
        injection hc2 with _ hc2
        exact absurd hc2 (by decide)
      have hrg5 : w5.rangeAt g11 (i * 6) (zRow a.y).toList := rangeAt_blk HRG3.out (HK5.out.2.2 g11 (.inr (.inl rfl)) HTY.out.2)
      have HZO5 : Hid (ZO w5 lo a.vc a.vr a.vi a.vg a.cl) := HAN3.out.zo.keep fun k hk => HK5.out.2.2 k (.inr (.inr ⟨i, a, Nat.le_refl _, HA.out, .inr hk⟩)) (HAN3.out.nd k hk)
      have HZOb : Hid (ZO w5 Wb.heap.size a.vc a.vr a.vi a.vg a.cl) := HZO5.out.mono hlo
      have HCT : Hid _ := takeB_any Wb.heap.size Wb.heap.size _ nF (nI + 3) a.y.N a.y.bad a.vc a.vr a.vi a.vg a.cl w5 HK5.out.1 HZOb.out (fun k hk => ⟨.inr (.inr ⟨i, a, Nat.le_refl _, HA.out, .inr hk⟩), HAN3.out.nd k hk⟩) (by omega) (by omega)
      rw [<- HAN3.out.row] at HCT
      go_wp2_with (first
       | (refine wpList_load_mid (by rfl) 26 _ (by rfl) g11 (i * 6) (by rfl) (zRow a.y).toList _ hrg5 Tryz.underlying26 rfl (by kernel_rfl) ?_)
       | (go_at_call 15; refine Calls.mono HCT.out ?_; rintro e w6 ⟨⟨r, rfl⟩, b6, l6, k6⟩))
      have HL6 : Hid (L2S Wb W1 w6 (.slice (some ⟨g10, 0, none⟩) 2 c10) (.slice (some ⟨g11, 0, none⟩) 2 c11) zs (i + 1)) := by
       have hqq : ∀ k, Qi (.slice (some ⟨g10, 0, none⟩) 2 c10) (.slice (some ⟨g11, 0, none⟩) 2 c11) zs (i + 1) k -> (Qi (.slice (some ⟨g10, 0, none⟩) 2 c10) (.slice (some ⟨g11, 0, none⟩) 2 c11) zs i k /\ a.lv.ownBlock ≠ some k) /\ ¬ ZB a.vc a.vr a.vi a.vg a.cl k := by
        have hty : ∀ k, a.B k -> k ≠ g10 /\ k ≠ g11 := fun k hk => by
         obtain ⟨cur, t, hc, ht⟩ := HAN3.out.ty k hk
         refine ⟨?_, ?_⟩
         ·rintro rfl
          have h9 := owns_keep HL.out.r10 (w' := V2) fun k e => HL3.out.same k (.inl e)
          obtain ⟨c2, hc2⟩ := (OwX.of h9).ty k rfl
          rw [hc] at hc2
          injection hc2 with hc2
          injection hc2 with _ hc2
          subst hc2
          revert ht; decide
         ·rintro rfl
          have h9 := owns_keep HL.out.r11 (w' := V2) fun k e => HL3.out.same k (.inr (.inl e))
          obtain ⟨c2, hc2⟩ := owns_type h9 (k := k) rfl
          rw [hc] at hc2
          injection hc2 with hc2
          injection hc2 with _ hc2
          subst hc2
          revert ht; decide
        rintro k (e | e | ⟨j, b, hj, hb, hk⟩)
        ·cases e
         exact ⟨⟨.inl rfl, HTY.out.1⟩, fun c => (hty _ (.inr c)).1 rfl⟩
        ·cases e
         exact ⟨⟨.inr (.inl rfl), HTY.out.2⟩, fun c => (hty _ (.inr c)).2 rfl⟩
        ·have hnb : ¬ a.B k := fun c => HL.out.dj i j a b (by omega) HA.out hb k c hk
         exact ⟨⟨.inr (.inr ⟨j, b, by omega, hb, hk⟩), fun c => hnb (.inl c)⟩, fun c => hnb (.inr c)⟩
       refine ⟨(HL3.out.bel.trans HK5.out.2.1).trans l6, ⟨nF + 6 + 3 * a.cl.length, nI + 3 + 3, by have := HZOb.out.len; omega, by omega, b6.shrink hqq⟩, fun k hk => ?_⟩
       have h9 := hqq k hk
       rw [k6 k h9.1 h9.2, HK5.out.2.2 k h9.1.1 h9.1.2]
       exact HL3.out.same k h9.1.1
      clear b6 l6 k6 HCT HZOb HZO5 hrg5 HK5 HTY HBK HAB HAN3 HL3 HRG3
      go_roundg q
      case measure => omega
      case rel => exact ⟨i + 1, by go_num, by have := HIG.out; omega, HL6⟩
     ·have hd : decide ((i : Int) < 2) = false := decide_eq_false (by omega)
      have hd' : decide (i < 2) = false := decide_eq_false hlt
      obtain rfl : i = 2 := by omega
      clear hi hlt
      obtain ⟨nF, nI, p1, p2, p3⟩ := HL2.out.bk
      obtain ⟨wF, wM, wI, wN, Fs, Ls, ms, ns, hbk⟩ := p3.bks (by omega) (by omega)
      have HBK : Hid _ := hbk
      have hbl := HL2.out.bel
      have HBL : Hid _ := hbl
      clear p3 hbk hbl
      go_wp2_with (first
       | (go_at_call 16; refine Calls.mono (wholeBk_any _ _ _ _ _ _ _ _ _ _ _ HBK.out) ?_; rintro e w7 ⟨rfl, b7⟩; have HB7 : Hid _ := HPB.out w7 (to_callD HBL.out b7); obtain ⟨c0, c1, c2, c3, c4, c5⟩ := cells6 HB7.out.2.1; obtain ⟨d0, d1, d2, d3, d4, d5⟩ := cells6 HB7.out.2.2; clear b7)
       | (go_at_call 17; refine Calls.mono (HSD.out _ HB7.out.1) ?_; rintro e w8 ⟨rfl, b8⟩)
       | (go_at_call 5; refine Calls.mono (told11_any _) ?_; rintro e w9 ⟨rfl, b9⟩))
      go_ret
      exact ⟨rfl, to_callD HPJ.out.1 (to_callD (to_callD HB7.out.1 b8) b9)⟩
 refine wp_region_noPanic ?_
 refine wp_region_P (fun V => V.heap[B9]? = some (.cells (zRow u) 32)) 7 (by kernel_rfl) ?_
 have Q0 : Below P.heap.size P P.drew := (Below.refl _ P).drew
 have S0 : P.drew.heap[B9]? = some (.cells (zRow u) 32) := kept Q0 HPX.out
 refine tzP 20 0 (.agg (zRow u)) (Or.inl ⟨by kernel_rfl, fun w' hSw => ex_loadRN _ 32 _ rfl B9 (by kernel_rfl) w' _ hSw _ Tryz.underlying32 rfl 6 Tryz.infoZu rfl⟩) S0 ?_
 try simp only [pA,pE,pB,pC,pD]
 refine tzP 22 2 (.agg (zRow u)) (Or.inl ⟨by kernel_rfl, fun w' hSw => ex_loadRN _ 32 _ rfl B9 (by kernel_rfl) w' _ hSw _ Tryz.underlying32 rfl 6 Tryz.infoZu rfl⟩) S0 ?_
 try simp only [pA,pE,pB,pC,pD]
 refine tzQ 23 3 ?_ ?_ (fun _ => S0) ?_
 rotate_left
 ·intro w' hSw; go_simp; try with_reducible rfl
 try simp only [pA,pE,pB,pC,pD]
 refine rzP [1, 5] ?_
 refine consP _ rfl (hzC 21 (Calls.mono (HOD.out _ Q0) ?_)) (consP _ rfl (hopAJ 8 rfl rfl rfl 32 rfl #[.int .i64 0, .slice none 0 0, .slice none 0 0, .slice none 0 0, .slice none 0 0, .bool false] allocUJ fun D V1 hD hDl c1 => ?_) AllReadyP.nil)
 ·rintro e V1 ⟨ov, rfl, oo, c1⟩
  obtain ⟨oao, ocp, hov, -⟩ := owns_slice oo
  subst hov
  have oo := owns_monoJ oo Q0.size
  have S1 := kept c1 S0
  have Q1 := to_callD Q0 c1
  clear c1
  refine ⟨_, rfl, S1, ?_⟩
  try simp only [pA,pE,pB,pC,pD]
  refine rzP [4, 5] ?_
  refine consP _ rfl (hzC 24 (Calls.mono (HRD.out _ Q1) ?_)) (consP _ rfl (hopAJ 8 rfl rfl rfl 32 rfl #[.int .i64 0, .slice none 0 0, .slice none 0 0, .slice none 0 0, .slice none 0 0, .bool false] allocUJ fun D V2 hD hDl c2 => ?_) AllReadyP.nil)
  ·rintro e V2 ⟨yd, rfl, zt, rdd, c2⟩
   have S2 := kept c2 S1
   have Q2 := to_callD Q1 c2
   have oo := owns_keep oo fun k e => c2.block k (World.ownsRow.lt oo k e).2
   clear c2
   refine ⟨_, rfl, S2, ?_⟩
   try simp only [pA,pE,pB,pC,pD]
   refine rzP [5] ?_
   refine consP _ rfl (hopAJ 8 rfl rfl rfl 32 rfl #[.int .i64 0, .slice none 0 0, .slice none 0 0, .slice none 0 0, .slice none 0 0, .bool false] allocUJ fun D V3 hD hDl c3 => ?_) AllReadyP.nil
   have hDl := Nat.le_trans Q2.size hDl
   have S3 := kept c3 S2
   have Q3 := to_callD Q2 c3
   have oo := owns_keep oo fun k e => c3.block k (World.ownsRow.lt oo k e).2
   have zt := zt.later c3
   clear c3
   refine ⟨S3, ?_⟩
   try simp only [pA,pE,pB,pC,pD]
   refine tzQ 7 6 ?_ ?_ (fun _ => S3) ?_
   rotate_left
   ·intro w' hSw; go_simp; try with_reducible rfl
   try simp only [pA,pE,pB,pC,pD]
   refine rzP [7] ?_
   refine consPs _ rfl (by kernel_rfl) (hopL rfl (wpList_store_row (by rfl) 32 _ _ (by rfl) P P.heap.size D (zRow yd) _ (by kernel_rfl) (by kernel_rfl) hD Q3 hDl 6 Tryz.infoZu rfl rfl (oneZ _ _ _ _ _ rfl rfl rfl rfl _) fun W9 e9 b9 s9 o9 => ?_)) AllReadyP.nil
   refine ⟨trivial, ?_⟩
   refine put_noneP rfl ?_
   try simp only [pA,pE,pB,pC,pD]
   refine wpAnyP_done (by kernel_rfl) ?_ _
   refine NoPanic.normal ?_
   try simp only [pA,pE,pB,pC,pD]
   have hkt : ∀ (k : Nat) (cur : Array Value) (t : TypeId), t ≠ 32 -> V3.heap[k]? = some (.cells cur t) -> W9.heap[k]? = V3.heap[k]? := fun k cur t ht hc => o9 k (by rintro rfl; rw [hD] at hc; cases hc; exact ht rfl)
   have HR5 : Hid (R5S P W9 x u most D (.slice oao (ordL x).length ocp) yd) := ⟨b9, e9, owns_keepT oo fun k cur hc => hkt k cur _ (by decide) hc, zt W9 hkt, rdd⟩
   clear hkt e9 b9 s9 o9 zt rdd oo hD hDl S3 Q3
   go_wp2_with fail
   go_meet
   exact ⟨D, oao, ocp, yd, rfl, rfl, HR5⟩
  ·have hDl := Nat.le_trans Q1.size hDl
   have S2 := kept c2 S1
   have Q2 := to_callD Q1 c2
   have oo := owns_keep oo fun k e => c2.block k (World.ownsRow.lt oo k e).2
   clear c2
   refine ⟨S2, ?_⟩
   try simp only [pA,pE,pB,pC,pD]
   refine rzP [4] ?_
   refine consP _ rfl (hzC 24 (Calls.mono (HRD.out _ Q2) ?_)) AllReadyP.nil
   rintro e V3 ⟨yd, rfl, zt, rdd, c3⟩
   have S3 := kept c3 S2
   have Q3 := to_callD Q2 c3
   have oo := owns_keep oo fun k e => c3.block k (World.ownsRow.lt oo k e).2
   have hD := kept c3 hD
   clear c3
   refine ⟨_, rfl, S3, ?_⟩
   try simp only [pA,pE,pB,pC,pD]
   refine tzQ 7 6 ?_ ?_ (fun _ => S3) ?_
   rotate_left
   ·intro w' hSw; go_simp; try with_reducible rfl
   try simp only [pA,pE,pB,pC,pD]
   refine rzP [7] ?_
   refine consPs _ rfl (by kernel_rfl) (hopL rfl (wpList_store_row (by rfl) 32 _ _ (by rfl) P P.heap.size D (zRow yd) _ (by kernel_rfl) (by kernel_rfl) hD Q3 hDl 6 Tryz.infoZu rfl rfl (oneZ _ _ _ _ _ rfl rfl rfl rfl _) fun W9 e9 b9 s9 o9 => ?_)) AllReadyP.nil
   refine ⟨trivial, ?_⟩
   refine put_noneP rfl ?_
   try simp only [pA,pE,pB,pC,pD]
   refine wpAnyP_done (by kernel_rfl) ?_ _
   refine NoPanic.normal ?_
   try simp only [pA,pE,pB,pC,pD]
   have hkt : ∀ (k : Nat) (cur : Array Value) (t : TypeId), t ≠ 32 -> V3.heap[k]? = some (.cells cur t) -> W9.heap[k]? = V3.heap[k]? := fun k cur t ht hc => o9 k (by rintro rfl; rw [hD] at hc; cases hc; exact ht rfl)
   have HR5 : Hid (R5S P W9 x u most D (.slice oao (ordL x).length ocp) yd) := ⟨b9, e9, owns_keepT oo fun k cur hc => hkt k cur _ (by decide) hc, zt W9 hkt, rdd⟩
   clear hkt e9 b9 s9 o9 zt rdd oo hD hDl S3 Q3
   go_wp2_with fail
   go_meet
   exact ⟨D, oao, ocp, yd, rfl, rfl, HR5⟩
 ·have hDl := Nat.le_trans Q0.size hDl
  have S1 := kept c1 S0
  have Q1 := to_callD Q0 c1
  clear c1
  refine ⟨S1, ?_⟩
  try simp only [pA,pE,pB,pC,pD]
  refine rzP [1] ?_
  refine consP _ rfl (hzC 21 (Calls.mono (HOD.out _ Q1) ?_)) AllReadyP.nil
  rintro e V2 ⟨ov, rfl, oo, c2⟩
  obtain ⟨oao, ocp, hov, -⟩ := owns_slice oo
  subst hov
  have oo := owns_monoJ oo Q1.size
  have S2 := kept c2 S1
  have Q2 := to_callD Q1 c2
  have hD := kept c2 hD
  clear c2
  refine ⟨_, rfl, S2, ?_⟩
  try simp only [pA,pE,pB,pC,pD]
  refine rzP [4] ?_
  refine consP _ rfl (hzC 24 (Calls.mono (HRD.out _ Q2) ?_)) AllReadyP.nil
  rintro e V3 ⟨yd, rfl, zt, rdd, c3⟩
  have S3 := kept c3 S2
  have Q3 := to_callD Q2 c3
  have oo := owns_keep oo fun k e => c3.block k (World.ownsRow.lt oo k e).2
  have hD := kept c3 hD
  clear c3
  refine ⟨_, rfl, S3, ?_⟩
  try simp only [pA,pE,pB,pC,pD]
  refine tzQ 7 6 ?_ ?_ (fun _ => S3) ?_
  rotate_left
  ·intro w' hSw; go_simp; try with_reducible rfl
  try simp only [pA,pE,pB,pC,pD]
  refine rzP [7] ?_
  refine consPs _ rfl (by kernel_rfl) (hopL rfl (wpList_store_row (by rfl) 32 _ _ (by rfl) P P.heap.size D (zRow yd) _ (by kernel_rfl) (by kernel_rfl) hD Q3 hDl 6 Tryz.infoZu rfl rfl (oneZ _ _ _ _ _ rfl rfl rfl rfl _) fun W9 e9 b9 s9 o9 => ?_)) AllReadyP.nil
  refine ⟨trivial, ?_⟩
  refine put_noneP rfl ?_
  try simp only [pA,pE,pB,pC,pD]
  refine wpAnyP_done (by kernel_rfl) ?_ _
  refine NoPanic.normal ?_
  try simp only [pA,pE,pB,pC,pD]
  have hkt : ∀ (k : Nat) (cur : Array Value) (t : TypeId), t ≠ 32 -> V3.heap[k]? = some (.cells cur t) -> W9.heap[k]? = V3.heap[k]? := fun k cur t ht hc => o9 k (by rintro rfl; rw [hD] at hc; cases hc; exact ht rfl)
  have HR5 : Hid (R5S P W9 x u most D (.slice oao (ordL x).length ocp) yd) := ⟨b9, e9, owns_keepT oo fun k cur hc => hkt k cur _ (by decide) hc, zt W9 hkt, rdd⟩
  clear hkt e9 b9 s9 o9 zt rdd oo hD hDl S3 Q3
  go_wp2_with fail
  go_meet
  exact ⟨D, oao, ocp, yd, rfl, rfl, HR5⟩
end Go.Proofs.YthmhgpadinecfaaGreat
