import Derived.Test.YthmhgpadinecfaaGreatTDh
set_option maxRecDepth 100000
set_option maxHeartbeats 4000000
set_option linter.unusedVariables false
set_option linter.unusedSimpArgs false
namespace Go.Proofs.YthmhgpadinecfaaGreat
open Go.RowKit Go.Shelf
structure OrD (w W : World) (row : Array Value) (vl vo : Value) (p : List Nat) (ys : List Value) : Prop where
 bel : Below w.heap.size w W
 zb : W.heap[w.heap.size]? = some (.cells row 32)
 l : W.ownsRow w.heap.size 3 1 vl p.length (p.map fun x : Nat => Value.int .i64 (x : Int))
 out : W.ownsRow w.heap.size 3 1 vo ys.length ys
 ne : ∀ g, vl.ownBlock = some g -> vo.ownBlock ≠ some g
theorem OrD.later {w W W' : World} {row : Array Value} {vl vo : Value} {p : List Nat} {ys : List Value} (h : OrD w W row vl vo p ys) (hb : Below W.heap.size W W') : OrD w W' row vl vo p ys :=
 ⟨to_callD h.bel hb, kept hb h.zb, owns_keep h.l fun k hk => hb.block k (World.ownsRow.lt h.l k hk).2, owns_keep h.out fun k hk => hb.block k (World.ownsRow.lt h.out k hk).2, h.ne⟩
theorem OrD.cell {w W : World} {row : Array Value} {vo : Value} {p : List Nat} {ys : List Value} {lb n cap i : Nat} (h : OrD w W row (.slice (some ⟨lb, 0, none⟩) n cap) vo p ys) (hi : i < p.length) : W.cell? ⟨lb, i, none⟩ = some (.int .i64 ((p[i] : Nat) : Int)) := by
 have h2 := World.ownsRow.cells h.l rfl i (.int .i64 ((p[i] : Nat) : Int)) (by rw [List.getElem?_map, List.getElem?_eq_getElem hi]; rfl)
 rw [Addr.add_lit] at h2
 simpa using h2
theorem OrD.app {w W W' : World} {row : Array Value} {vl vo v' y : Value} {p : List Nat} {ys : List Value} (h : OrD w W row vl vo p ys) (ho : W'.ownsRow w.heap.size 3 1 v' (ys.length + 1) (ys ++ [y])) (hg : Grw W W' vo.ownBlock v'.ownBlock) : OrD w W' row vl v' p (ys ++ [y]) := by
 refine ⟨h.bel.trans (hg.below (fun k hk => (World.ownsRow.lt h.out k hk).1) h.bel.size), (grw_types h.out hg _ _ _ (by decide) h.zb).trans h.zb, owns_keep h.l fun k hk => hg.by'.block k (World.ownsRow.lt h.l k hk).2 (fun e => h.ne k hk e.symm), by rw [List.length_append]; exact ho, fun g hgl e => ?_⟩
 rcases hg.new with e1 | e1
 ·rw [e1] at e; exact h.ne g hgl e
 ·have := e1 g e; have := (World.ownsRow.lt h.l g hgl).2; omega
theorem orderD_any
  (N : Int) (co : Option Addr) (cn cc : Nat) (io : Option Addr) (dn dc : Nat) (go : Option Addr) (gn gc : Nat) (ro : Option Addr) (rn rc : Nat) (bad : Bool) (ids : List Int) (w : World) (gd : Bool) (pl : List Nat)
  (HGo : Hid (∀ W, Below w.heap.size w W -> Calls Tryz.prog 23 #[.agg #[.int .i64 N, .slice co cn cc, .slice io dn dc, .slice go gn gc, .slice ro rn rc, .bool bad]] W fun e w' => e = .returned (.bool gd) /\ Below W.heap.size W w'))
  (HPl : Hid (gd = true -> ∀ W, Below w.heap.size w W -> Calls Tryz.prog 24 #[.agg #[.int .i64 N, .slice co cn cc, .slice io dn dc, .slice go gn gc, .slice ro rn rc, .bool bad]] W fun e w' => ∃ v, e = .returned v /\ w'.ownsRow W.heap.size 3 1 v pl.length (pl.map fun x : Nat => Value.int .i64 (x : Int)) /\ Below W.heap.size W w'))
  (HI : Hid (∀ W, Below w.heap.size w W -> RdIs W io dn dc ids)) (hx : Hid (∀ x ∈ pl, x < dn)) (hlen : pl.length <= 1050000) (hdn : dn <= 1050000) (l : List Value) (hlv : Hid (l = if gd = true then (pl.map fun x : Nat => Value.int .i64 (ids[x]?.getD 0)) else [])) :
  Calls Tryz.prog 8 #[.agg #[.int .i64 N, .slice co cn cc, .slice io dn dc, .slice go gn gc, .slice ro rn rc, .bool bad]] w fun e w' => ∃ v : Value, e = .returned v /\ w'.ownsRow w.heap.size 3 1 v l.length l /\ Below w.heap.size w w' := by
 have X0 : Below w.heap.size w (w.alloc (.cells #[.int .i64 N, .slice co cn cc, .slice io dn dc, .slice go gn gc, .slice ro rn rc, .bool bad] 32)) := (Below.refl _ w).alloc (Nat.le_refl _) _
 have Y0 : (w.alloc (.cells #[.int .i64 N, .slice co cn cc, .slice io dn dc, .slice go gn gc, .slice ro rn rc, .bool bad] 32)).heap[w.heap.size]? = some (.cells #[.int .i64 N, .slice co cn cc, .slice io dn dc, .slice go gn gc, .slice ro rn rc, .bool bad] 32) := heap_alloc_new w _
 have hmx : pl.length <= 9223372036854775807 := by omega
 go_enter Tryz.func8, Tryz.ntmps8
 go_upto_region 1 with fail
 obtain ⟨X, hX⟩ : ∃ X, (w.alloc (.cells #[.int .i64 N, .slice co cn cc, .slice io dn dc, .slice go gn gc, .slice ro rn rc, .bool bad] 32)) = X := ⟨_, rfl⟩
 rw [hX] at X0 Y0 ⊢
 have T0 : Hid (Below w.heap.size w X /\ X.heap[w.heap.size]? = some (.cells #[.int .i64 N, .slice co cn cc, .slice io dn dc, .slice go gn gc, .slice ro rn rc, .bool bad] 32)) := ⟨X0, Y0⟩
 clear hX X0 Y0
 have LDZ := T0.out.2
 go_wp2_with (first
  | (refine wpList_load_row (by rfl) 32 _ (by rfl) w.heap.size _ (by rfl) T0.out.2 _ Tryz.underlying32 rfl 6 Tryz.infoZu (by rfl) ?_))
 refine Calls.mono (HGo.out _ T0.out.1) ?_
 rintro e w1 ⟨rfl, b1⟩
 have T1 : Hid (Below w.heap.size w w1 /\ w1.heap[w.heap.size]? = some (.cells #[.int .i64 N, .slice co cn cc, .slice io dn dc, .slice go gn gc, .slice ro rn rc, .bool bad] 32)) := ⟨to_callD T0.out.1 b1, kept b1 T0.out.2⟩
 clear b1 T0 LDZ
 cases gd with
 | false =>
  go_wp2_with fail
  go_ret
  exact ⟨_, rfl, by rw [hlv.out]; exact World.ownsRow_nil _ _ _ _, T1.out.1⟩
 | true =>
  go_wp2_with (first
   | (refine wpList_load_row (by rfl) 32 _ (by rfl) w.heap.size _ (by rfl) T1.out.2 _ Tryz.underlying32 rfl 6 Tryz.infoZu (by rfl) ?_))
  refine Calls.mono (HPl.out (by trivial) _ T1.out.1) ?_
  rintro e w2 ⟨v2, rfl, o2, b2⟩
  obtain ⟨ao2, cap2, hv2, hm2, -⟩ := owns_slice o2
  subst hv2
  have T2 : Hid (OrD w w2 #[.int .i64 N, .slice co cn cc, .slice io dn dc, .slice go gn gc, .slice ro rn rc, .bool bad] (.slice ao2 pl.length cap2) (.slice none 0 0) pl []) := ⟨to_callD T1.out.1 b2, kept b2 T1.out.2, owns_monoJ o2 T1.out.1.size, World.ownsRow_nil _ _ _ _, fun g hg e => by cases e⟩
  clear o2 b2 T1
  go_wp2_with fail
  go_loopg [4, 5] pl.length (fun g v4 iv wx => ∃ i : Nat, iv = .int .i64 i /\ i + g = pl.length /\ Hid (OrD w wx #[.int .i64 N, .slice co cn cc, .slice io dn dc, .slice go gn gc, .slice ro rn rc, .bool bad] (.slice ao2 pl.length cap2) v4 pl ((pl.take i).map fun x : Nat => Value.int .i64 (ids[x]?.getD 0))))
  case atStart => exact ⟨0, rfl, by omega, T2⟩
  case round =>
   clear T2
   obtain ⟨i, rfl, hi, HJ⟩ := hrel
   by_cases hlt : i < pl.length
   ·have hd : decide ((i : Int) < (pl.length : Int)) = true := decide_eq_true (by omega)
    obtain ⟨q, rfl⟩ : ∃ q, gk = q + 1 := ⟨gk - 1, by omega⟩
    have HIG : Hid (i + (q + 1) = pl.length) := hi
    have hlt' : (i : Int) < (pl.length : Int) := by omega
    obtain ⟨x, hxe⟩ : ∃ x, pl[i] = x := ⟨_, rfl⟩
    have hxd : x < dn := by rw [<- hxe]; exact hx.out _ (List.getElem_mem hlt)
    have hxd' : (x : Int) < (dn : Int) := by omega
    have HJD0 := HJ.out.later (Below.refl _ wr).drew
    rcases (HI.out _ HJD0.bel).cells with h0 | ⟨ib, ioff, hio, hci⟩
    ·omega
    subst hio
    have gi := hci x hxd
    obtain ⟨y, hy⟩ : ∃ y, ids[x]?.getD 0 = y := ⟨_, rfl⟩
    rw [hy] at gi
    obtain ⟨ao', cap', hv', -, hcl⟩ := owns_slice HJD0.l
    cases hv'
    rcases hcl with h0 | ⟨lb, hao, hcl⟩
    ·omega
    subst hao
    have gl := hcl i hlt
    rw [List.getElem?_map, List.getElem?_eq_getElem hlt, hxe] at gl
    have HTS : Hid (((pl.take (i + 1)).map fun x : Nat => Value.int .i64 (ids[x]?.getD 0)) = ((pl.take i).map fun x : Nat => Value.int .i64 (ids[x]?.getD 0)) ++ [Value.int .i64 y]) := by
     unfold Hid
     rw [List.take_succ_eq_append_getElem hlt, List.map_append, hxe, List.map_cons, List.map_nil, hy]
    obtain ⟨c0, c1, c2, c3, c4, c5⟩ := cells6 HJD0.zb
    have HJD : Hid _ := HJD0
    have SX : (fun V : World => V.cell? ⟨w.heap.size, 2, none⟩ = some (.slice (some ⟨ib, ioff, none⟩) dn dc) /\ V.cell? ⟨lb, i, none⟩ = some (.int .i64 (x : Int)) /\ V.cell? ⟨ib, ioff + x, none⟩ = some (.int .i64 y)) wr.drew := ⟨c2, gl, gi⟩
    have HSS : Hid (∀ (V : World) (vo : Value) (ys : List Value), OrD w V #[.int .i64 N, .slice co cn cc, .slice (some ⟨ib, ioff, none⟩) dn dc, .slice go gn gc, .slice ro rn rc, .bool bad] (.slice (some ⟨lb, 0, none⟩) pl.length cap2) vo pl ys -> (fun V : World => V.cell? ⟨w.heap.size, 2, none⟩ = some (.slice (some ⟨ib, ioff, none⟩) dn dc) /\ V.cell? ⟨lb, i, none⟩ = some (.int .i64 (x : Int)) /\ V.cell? ⟨ib, ioff + x, none⟩ = some (.int .i64 y)) V) := by
     intro V vo ys h
     obtain ⟨k0, k1, k2, k3, k4, k5⟩ := cells6 h.zb
     refine ⟨k2, by rw [h.cell hlt, hxe], ?_⟩
     rcases (HI.out _ h.bel).cells with h0 | ⟨ib', ioff', hio, hci'⟩
     ·omega
     ·cases hio
      rw [hci' x hxd, hy]
    have HLY : Hid (((pl.take i).map fun x : Nat => Value.int .i64 (ids[x]?.getD 0)).length + 1 <= 4000000) := by unfold Hid; rw [List.length_map, List.length_take]; omega
    clear c0 c1 c2 c3 c4 c5 gl gi hcl hci hy hxe HJ HJD0 hi
    go_upto_region 8 with fail
    refine wp_region_noPanic ?_
    refine wp_region_held_drew (S := (fun V : World => V.cell? ⟨w.heap.size, 2, none⟩ = some (.slice (some ⟨ib, ioff, none⟩) dn dc) /\ V.cell? ⟨lb, i, none⟩ = some (.int .i64 (x : Int)) /\ V.cell? ⟨ib, ioff + x, none⟩ = some (.int .i64 y))) (by kernel_rfl) SX (fun _ => ?_)
    refine tzI 17 0 ?_ ?_ SX ?_
    rotate_left
    ·intro w' hSw; obtain ⟨s1, s2, s3⟩ := hSw; go_simp; try with_reducible rfl
    try simp only [pA,pE,pB,pC,pD]
    refine tzI 18 1 ?_ ?_ SX ?_
    rotate_left
    ·intro w' hSw; obtain ⟨s1, s2, s3⟩ := hSw; go_simp; try with_reducible rfl
    try simp only [pA,pE,pB,pC,pD]
    refine tzI 19 2 ?_ ?_ SX ?_
    rotate_left
    ·intro w' hSw; obtain ⟨s1, s2, s3⟩ := hSw; go_simp; try with_reducible rfl
    try simp only [pA,pE,pB,pC,pD]
    refine tzI 20 3 ?_ ?_ SX ?_
    rotate_left
    ·intro w' hSw; obtain ⟨s1, s2, s3⟩ := hSw; go_simp; try with_reducible rfl
    try simp only [pA,pE,pB,pC,pD]
    refine tzI 21 4 ?_ ?_ SX ?_
    rotate_left
    ·intro w' hSw; obtain ⟨s1, s2, s3⟩ := hSw; go_simp; try with_reducible rfl
    try simp only [pA,pE,pB,pC,pD]
    refine tzI 22 5 ?_ ?_ SX ?_
    rotate_left
    ·intro w' hSw; obtain ⟨s1, s2, s3⟩ := hSw; go_simp; try with_reducible rfl
    try simp only [pA,pE,pB,pC,pD]
    refine tzI 23 6 ?_ ?_ SX ?_
    rotate_left
    ·intro w' hSw; obtain ⟨s1, s2, s3⟩ := hSw; go_simp; try with_reducible rfl
    try simp only [pA,pE,pB,pC,pD]
    refine tzI 24 7 ?_ ?_ SX ?_
    rotate_left
    ·intro w' hSw; obtain ⟨s1, s2, s3⟩ := hSw; go_simp; try with_reducible rfl
    try simp only [pA,pE,pB,pC,pD]
    refine tzI 25 8 ?_ ?_ SX ?_
    rotate_left
    ·intro w' hSw; obtain ⟨s1, s2, s3⟩ := hSw; go_simp; try with_reducible rfl
    try simp only [pA,pE,pB,pC,pD]
    refine rzH [9] ?_
    refine consH _ rfl (hopBJ 26 (Value.int .i64 y) 3 rfl rfl rfl (by kernel_rfl) fun I V2 hI b2 => ?_) AllReadyH.nil
    have L2 := HJD.out.later b2
    refine ⟨HSS.out _ _ _ L2, ?_⟩
    try simp only [pA,pE,pB,pC,pD]
    refine rzH [10] ?_
    refine consH _ rfl (hopL rfl (append_gsJ Tryz.underlying23 Tryz.infoIJ rfl (by decide) (by decide) V2 (by rfl) _ _ (by rfl) w.heap.size _ _ _ (by kernel_rfl) L2.out ⟨I, 0, none⟩ 1 1 [Value.int .i64 y] (by kernel_rfl) rfl (news_oneJ hI) (oneI _ rfl) HLY.out L2.bel.size fun v6 w6 o6 g6 => ?_)) AllReadyH.nil
    have L6 := L2.app o6 g6
    have SY := HSS.out _ _ _ L6
    refine (And.intro SY ?_ : _ /\ _)
    try simp only [pA,pE,pB,pC,pD]
    have HL6 : Hid _ := L6
    clear o6 g6 L2 SX b2 hI L6
    refine tzI 4 11 ?_ ?_ SY ?_
    rotate_left
    ·intro w' hSw; obtain ⟨s1, s2, s3⟩ := hSw; go_simp; try with_reducible rfl
    try simp only [pA,pE,pB,pC,pD]
    refine wpAnyH_done (by kernel_rfl) ?_ _
    refine NoPanic.normal ?_
    try simp only [pA,pE,pB,pC,pD]
    clear SY
    go_wp2_with fail
    go_roundg q
    case measure => omega
    case rel =>
     refine ⟨i + 1, by go_num, by have := HIG.out; omega, ?_⟩
     unfold Hid
     rw [HTS.out]
     exact HL6.out
   ·have hd : decide ((i : Int) < (pl.length : Int)) = false := decide_eq_false (by omega)
    have hd' : decide (i < pl.length) = false := decide_eq_false (by omega)
    have HJ2 : Hid (OrD w wr #[.int .i64 N, .slice co cn cc, .slice io dn dc, .slice go gn gc, .slice ro rn rc, .bool bad] (.slice ao2 pl.length cap2) u4 pl (pl.map fun x : Nat => Value.int .i64 (ids[x]?.getD 0))) := by
     have h9 := HJ.out
     rw [List.take_of_length_le (by omega)] at h9
     exact h9
    clear HJ hi
    go_wp2_with fail
    go_ret
    exact ⟨_, rfl, by rw [hlv.out]; exact HJ2.out.out, HJ2.out.bel⟩
end Go.Proofs.YthmhgpadinecfaaGreat
