import Derived.Test.YthmhgpadinecfaaGreatTDg
set_option maxRecDepth 100000
set_option maxHeartbeats 4000000
set_option linter.unusedVariables false
set_option linter.unusedSimpArgs false
namespace Go.Proofs.YthmhgpadinecfaaGreat
open Go.RowKit Go.Shelf
theorem sgi_neg (z : Int) : sgi z < 0 ↔ z < 0 := by
 unfold sgi
 by_cases h : z < 0
 ·rw [if_pos h]; omega
 ·rw [if_neg h]
  split <;> omega
structure LpD (w W : World) (row : Array Value) (G n E : Nat) (L : Nat -> Int) (v3 v6 : Value) (f : Nat -> Bool) (p : List Nat) : Prop where
 bel : Below w.heap.size w W
 zb : W.heap[w.heap.size]? = some (.cells row 32)
 nu : NuL W w.heap.size v3 E 1300 n L
 gl : W.heap[G]? = some (.cells (blN n f) 4)
 out : W.ownsRow w.heap.size 3 1 v6 p.length (p.map fun x : Nat => Value.int .i64 (x : Int))
 ocl : ∀ g, v6.ownBlock = some g -> Cl noU W g
theorem LpD.later {w W W' : World} {row : Array Value} {G n E : Nat} {L : Nat -> Int} {v3 v6 : Value} {f : Nat -> Bool} {p : List Nat} (h : LpD w W row G n E L v3 v6 f p) (hb : Below W.heap.size W W') : LpD w W' row G n E L v3 v6 f p :=
 ⟨to_callD h.bel hb, kept hb h.zb, h.nu.later hb, kept hb h.gl, owns_keep h.out fun k hk => hb.block k (World.ownsRow.lt h.out k hk).2, fun g hg => (h.ocl g hg).later hb⟩
theorem LpD.setB {w W W' : World} {row : Array Value} {G n E : Nat} {L : Nat -> Int} {v3 v6 : Value} {f g : Nat -> Bool} {p : List Nat} (h : LpD w W row G n E L v3 v6 f p) (e2 : W'.heap[G]? = some (.cells (blN n g) 4)) (o2 : ∀ i, i ≠ G -> W'.heap[i]? = W.heap[i]?) (b2 : Below w.heap.size w W') : LpD w W' row G n E L v3 v6 g p := by
 have hne : ∀ (k : Nat) (cur : Array Value) (t : TypeId), t ≠ 4 -> W.heap[k]? = some (.cells cur t) -> k ≠ G := by
  intro k cur t ht hc e
  subst e
  rw [h.gl] at hc
  cases hc
  exact ht rfl
 refine ⟨b2, (o2 _ (hne _ _ _ (by decide) h.zb)).trans h.zb, h.nu.stored (blN_cl h.gl) o2 (fun k hk => ?_), e2, owns_keep h.out fun k hk => ?_, fun k hk => ?_⟩
 ·obtain ⟨cur, hc⟩ := h.nu.typ hk
  exact hne _ _ _ (by decide) hc
 ·obtain ⟨cur, hc⟩ := owns_type h.out hk
  exact o2 _ (hne _ _ _ (by decide) hc)
 ·obtain ⟨cur, hc⟩ := owns_type h.out hk
  obtain ⟨cur', t', h1, h2⟩ := h.ocl k hk
  exact ⟨cur', t', (o2 _ (hne _ _ _ (by decide) hc)).trans h1, h2⟩
theorem LpD.app {w W W' : World} {row : Array Value} {G n E b : Nat} {L : Nat -> Int} {v3 v6 v' : Value} {f : Nat -> Bool} {p : List Nat} (h : LpD w W row G n E L v3 v6 f p) (ho : W'.ownsRow w.heap.size 3 1 v' (p.length + 1) ((p.map fun x : Nat => Value.int .i64 (x : Int)) ++ [.int .i64 (b : Int)])) (hg : Grw W W' v6.ownBlock v'.ownBlock) (hcl : ∀ g, v'.ownBlock = some g -> Cl noU W' g) : LpD w W' row G n E L v3 v' f (p ++ [b]) := by
 have hne : ∀ (k : Nat) (cur : Array Value) (t : TypeId), t ≠ 3 -> W.heap[k]? = some (.cells cur t) -> W'.heap[k]? = W.heap[k]? := grw_types h.out hg
 refine ⟨h.bel.trans (hg.below (fun k hk => (World.ownsRow.lt h.out k hk).1) h.bel.size), (hne _ _ _ (by decide) h.zb).trans h.zb, h.nu.grw hg h.ocl (fun k hk e => ?_), (hne _ _ _ (by decide) h.gl).trans h.gl, by rw [List.length_append, List.map_append]; exact ho, hcl⟩
 obtain ⟨cur, hc⟩ := h.nu.typ hk
 obtain ⟨cur', hc'⟩ := owns_type h.out e
 rw [hc] at hc'
 cases hc'
theorem placesD_any
  (N : Int) (co : Option Addr) (cn cc : Nat) (io : Option Addr) (dn dc : Nat) (go : Option Addr) (gn gc : Nat) (ro : Option Addr) (rn rc : Nat) (bad : Bool) (gv : Nat -> Option Addr × Nat × Nat) (gs : List (List Nat)) (E : Nat) (w : World) (h : RdGu w go gn gc gv gs) (hl : gn <= 1050000) (L : Nat -> Int) (hE : E = 1074)
  (HLo : Hid (∀ W, Below w.heap.size w W -> ∀ k, k < gn -> Calls Tryz.prog 42 #[.slice (gv k).1 (gv k).2.1 (gv k).2.2] W fun e w' => ∃ v, e = .returned v /\ NumC w' v E 1300 (L k) /\ Below W.heap.size W w')) :
  Calls Tryz.prog 24 #[.agg #[.int .i64 N, .slice co cn cc, .slice io dn dc, .slice go gn gc, .slice ro rn rc, .bool bad]] w fun e w' => ∃ (v : Value) (p : List Nat), e = .returned v /\ w'.ownsRow w.heap.size 3 1 v p.length (p.map fun x : Nat => Value.int .i64 (x : Int)) /\ p.Perm (List.range gn) /\ p.Pairwise (ltD L) /\ Below w.heap.size w w' := by
 have HG : Hid (∀ W, Below w.heap.size w W -> RdGu W go gn gc gv gs) := fun W hb => h.later hb
 have HE : Hid (E = 1074) := hE
 have hmx : gn <= 9223372036854775807 := by omega
 have HMK : Hid _ := makeBT gn (by omega)
 clear h hE
 have X0 : Below w.heap.size w (w.alloc (.cells #[.int .i64 N, .slice co cn cc, .slice io dn dc, .slice go gn gc, .slice ro rn rc, .bool bad] 32)) := (Below.refl _ w).alloc (Nat.le_refl _) _
 have Y0 : (w.alloc (.cells #[.int .i64 N, .slice co cn cc, .slice io dn dc, .slice go gn gc, .slice ro rn rc, .bool bad] 32)).heap[w.heap.size]? = some (.cells #[.int .i64 N, .slice co cn cc, .slice io dn dc, .slice go gn gc, .slice ro rn rc, .bool bad] 32) := heap_alloc_new w _
 go_enter Tryz.func24, Tryz.ntmps24
 go_upto_region 2 with fail
 obtain ⟨X, hX⟩ : ∃ X, (w.alloc (.cells #[.int .i64 N, .slice co cn cc, .slice io dn dc, .slice go gn gc, .slice ro rn rc, .bool bad] 32)) = X := ⟨_, rfl⟩
 rw [hX] at X0 Y0 ⊢
 have T0 : Hid (Below w.heap.size w X /\ X.heap[w.heap.size]? = some (.cells #[.int .i64 N, .slice co cn cc, .slice io dn dc, .slice go gn gc, .slice ro rn rc, .bool bad] 32)) := ⟨X0, Y0⟩
 have N0 : Hid (NuL X w.heap.size (.slice none 0 0) E 1300 0 L) := NuL.nil _ _ _ _ _
 clear hX X0 Y0
 go_wp2_with fail
 go_loopg [3, 4] gn (fun g v3 iv wx => ∃ i : Nat, iv = .int .i64 i /\ i + g = gn /\ Hid (NuL wx w.heap.size v3 E 1300 i L) /\ Hid (Below w.heap.size w wx /\ wx.heap[w.heap.size]? = some (.cells #[.int .i64 N, .slice co cn cc, .slice io dn dc, .slice go gn gc, .slice ro rn rc, .bool bad] 32)))
 case atStart => exact ⟨0, rfl, by omega, N0, T0⟩
 case round =>
  clear T0 N0
  obtain ⟨i, rfl, hi, HN, HB⟩ := hrel
  obtain ⟨d0, d1, d2, d3, d4, d5⟩ := cells6 HB.out.2
  by_cases hlt : i < gn
  ·have hd : decide ((i : Int) < (gn : Int)) = true := decide_eq_true (by omega)
   obtain ⟨q, rfl⟩ : ∃ q, gk = q + 1 := ⟨gk - 1, by omega⟩
   have HIG : Hid (i + (q + 1) = gn) := hi
   have hlt' : (i : Int) < (gn : Int) := by omega
   rcases (HG.out _ HB.out.1).cells with h0 | ⟨ub, uo, hgo, hcu⟩
   ·omega
   subst hgo
   have gu := hcu i hlt
   have HLI : Hid _ := HLo.out wr HB.out.1 i hlt
   clear hcu hi d0 d1 d2 d4 d5
   have hws : w.heap.size <= wr.heap.size := HB.out.1.size
   go_upto_region 4 with (first
    | (go_at_call 42; refine Calls.mono HLI.out ?_; rintro e w1 ⟨v1, rfl, z1, b1⟩; obtain ⟨n1, o1, l1, c1, e1, hv1⟩ := z1.form; subst hv1; obtain ⟨xs, hxo, hxj⟩ := (HN.out.later b1).own; have HXO : Hid _ := hxo; have HXJ : Hid _ := hxj; have HC2 : Hid (∀ g, u3.ownBlock = some g -> Cl noU (w1.alloc (.cells #[.bool n1, .slice o1 l1 c1, .int .i64 e1] 65)) g) := (fun g hg => ((HN.out.cl g hg).later b1).later ((Below.refl _ w1).alloc (Nat.le_refl _) _)); have HZ1 : Hid _ := z1; have HB1 : Hid _ := b1; have hws1 := b1.size; clear z1 b1 hxo hxj)
    | (at_builtin; refine append_clJ noU Tryz.underlying83 Tryz.infoNumJ rfl (by decide) (by decide) zero_noU _ (by rfl) _ _ (by rfl) w.heap.size _ i xs (by rfl) (World.ownsRow.alloc HXO.out _) HC2.out ⟨w1.heap.size, 0, none⟩ 1 1 [.bool n1, .slice o1 l1 c1, .int .i64 e1] (by rfl) (by decide) rfl (news_threeJ (heap_alloc_new w1 _)) (three_one n1 o1 l1 c1 e1) (three_noU n1 o1 l1 c1 e1) (by omega) (by simp only [alloc_size]; omega) ?_; intro v5 w5 o5 g5 cl5))
   have A1 : Below w1.heap.size w1 (w1.alloc (.cells #[.bool n1, .slice o1 l1 c1, .int .i64 e1] 65)) := (Below.refl _ w1).alloc (Nat.le_refl _) _
   have R5 : Hid (NuL w5 w.heap.size v5 E 1300 (i + 1) L) := by
    refine NuL.push (xs := xs) (World.ownsRow.alloc HXO.out _) (fun j hj => ?_) HC2.out (NumC.later HZ1.out A1) o5 g5 cl5
    obtain ⟨n2, o2, l2, c2, e2, a1, a2, a3, a4⟩ := HXJ.out j hj
    exact ⟨n2, o2, l2, c2, e2, a1, a2, a3, a4.later A1⟩
   have hbel := g5.below (fun k hk => (World.ownsRow.lt HXO.out k hk).1) (show w.heap.size <= (w1.alloc (.cells #[.bool n1, .slice o1 l1 c1, .int .i64 e1] 65)).heap.size by simp only [alloc_size]; omega)
   have B5 : Hid (Below w.heap.size w w5 /\ w5.heap[w.heap.size]? = some (.cells #[.int .i64 N, .slice co cn cc, .slice io dn dc, .slice (some ⟨ub, uo, none⟩) gn gc, .slice ro rn rc, .bool bad] 32)) := ⟨(to_callD (to_callD HB.out.1 HB1.out) A1).trans hbel, (grw_types (World.ownsRow.alloc HXO.out _) g5 _ _ _ (by decide) (kept A1 (kept HB1.out HB.out.2))).trans (kept A1 (kept HB1.out HB.out.2))⟩
   clear o5 g5 cl5 A1 HC2 HXO HXJ hbel HZ1 HB1 HB HN gu d3 HLI hws hws1
   go_wp2_with fail
   go_roundg q
   case measure => omega
   case rel => exact ⟨i + 1, by go_num, by have := HIG.out; omega, R5, B5⟩
  ·have hd : decide ((i : Int) < (gn : Int)) = false := decide_eq_false (by omega)
   have hd' : decide (i < gn) = false := decide_eq_false (by omega)
   have ei : i = gn := by omega
   rw [ei] at HN
   have HN1 : Hid (NuL wr w.heap.size u3 E 1300 gn L) := HN
   have hmk := HMK.out
   clear hi ei HN d0 d1 d2 d4 d5
   obtain ⟨ao3, cap3, hv3⟩ := HN1.out.form
   subst hv3
   have A1 : Below wr.heap.size wr (wr.alloc (.cells (blN gn fun _ => false) 4)) := (Below.refl _ wr).alloc (Nat.le_refl _) _
   have S0 : LpD w (wr.alloc (.cells (blN gn fun _ => false) 4)) #[.int .i64 N, .slice co cn cc, .slice io dn dc, .slice go gn gc, .slice ro rn rc, .bool bad] wr.heap.size gn E L (.slice ao3 gn cap3) (.slice none 0 0) (fun _ => false) [] := ⟨to_callD HB.out.1 A1, kept A1 HB.out.2, HN1.out.later A1, heap_alloc_new wr _, World.ownsRow_nil _ _ _ _, fun g hg => by cases hg⟩
   have hG0 : w.heap.size < wr.heap.size := blk_lt HB.out.2
   go_upto_region 7 with fail
   obtain ⟨Y, hY⟩ : ∃ Y, (wr.alloc (.cells (blN gn fun _ => false) 4)) = Y := ⟨_, rfl⟩
   obtain ⟨G, hG⟩ : ∃ b, wr.heap.size = b := ⟨_, rfl⟩
   rw [hY, hG] at S0
   rw [hG] at hG0
   have T0 : Hid (LpD w Y #[.int .i64 N, .slice co cn cc, .slice io dn dc, .slice go gn gc, .slice ro rn rc, .bool bad] G gn E L (.slice ao3 gn cap3) (.slice none 0 0) (fun _ => false) []) := S0
   rw [hY, hG]
   clear hY hG S0 A1 HN1 HB hmk d3
   go_wp2_with fail
   go_loopg [6] gn (fun g v6 wx => ∃ (p : List Nat) (f : Nat -> Bool), p.length + g = gn /\ Hid (PlK L gn p f) /\ Hid (LpD w wx #[.int .i64 N, .slice co cn cc, .slice io dn dc, .slice go gn gc, .slice ro rn rc, .bool bad] G gn E L (.slice ao3 gn cap3) v6 f p))
   case atStart => exact ⟨[], _, by simp, PlK.start _ _, T0⟩
   case round =>
    clear T0 hd hd' hlt
    obtain ⟨p, f, hp, HPK, HI⟩ := hrel
    obtain ⟨ao6, cap6, hv6, hmx6, -⟩ := owns_slice HI.out.out
    subst hv6
    obtain ⟨d0, d1, d2, d3, d4, d5⟩ := cells6 HI.out.zb
    by_cases hlt : p.length < gn
    ·have hd : decide ((p.length : Int) < (gn : Int)) = true := decide_eq_true (by omega)
     obtain ⟨q, rfl⟩ : ∃ q, gk = q + 1 := ⟨gk - 1, by omega⟩
     have HIG : Hid (p.length + (q + 1) = gn) := hp
     have HLT : Hid (p.length < gn) := hlt
     have K0 : Hid (BsK L f 0 (-1)) := BsK.zero _ _
     clear hp d0 d1 d2 d4 d5
     go_wp2_with fail
     go_loopg [7, 8] gn (fun g v7 iv wx => ∃ (k : Nat) (best : Int), iv = .int .i64 k /\ v7 = .int .i64 best /\ k + g = gn /\ Hid (BsK L f k best) /\ Hid (LpD w wx #[.int .i64 N, .slice co cn cc, .slice io dn dc, .slice go gn gc, .slice ro rn rc, .bool bad] G gn E L (.slice ao3 gn cap3) (.slice ao6 p.length cap6) f p))
     case atStart => exact ⟨0, -1, rfl, rfl, by omega, K0, HI⟩
     case round =>
      clear K0 HI d3
      obtain ⟨k, best, rfl, rfl, hk, HBK, HJ⟩ := hrel
      obtain ⟨d0, d1, d2, d3, d4, d5⟩ := cells6 HJ.out.zb
      have hrg := HBK.out.range
      by_cases hkn : k < gn
      ·have hd2 : decide ((k : Int) < (gn : Int)) = true := decide_eq_true (by omega)
       obtain ⟨q2, rfl⟩ : ∃ q2, gk = q2 + 1 := ⟨gk - 1, by omega⟩
       have HIK : Hid (k + (q2 + 1) = gn) := hk
       have hkn' : (k : Int) < (gn : Int) := by omega
       have gc1 : wr.cell? ⟨G, k, none⟩ = some (.bool (f k)) := by rw [cell_of_row _ G _ _ _ _ HJ.out.gl]; exact blN_at gn f k hkn
       have BD : Hid (∀ n, Below wr.heap.size wr (wr.drewN n)) := fun n => below_drewN (Below.refl _ _) n
       clear hk hd d0 d1 d2 d4 d5
       cases hf : f k with
       | true =>
        rw [hf] at gc1
        have NB : Hid (BsK L f (k + 1) best) := HBK.out.gone hf
        clear hrg hf
        go_upto_region 13 with fail
        go_quiet (fail)
        go_wp2_with fail
        go_roundg q2
        case measure => omega
        case rel => exact ⟨k + 1, best, by go_num, rfl, by have := HIK.out; omega, NB, HJ.out.later (BD.out _)⟩
       | false =>
        rw [hf] at gc1
        by_cases hbn : best < 0
        ·have e1 : decide (best < 0) = true := decide_eq_true hbn
         have NB : Hid (BsK L f (k + 1) (k : Int)) := HBK.out.first hbn hf
         clear hrg hf
         go_upto_region 13 with fail
         go_quiet (fail)
         go_wp2_with fail
         go_roundg q2
         case measure => omega
         case rel => exact ⟨k + 1, k, by go_num, rfl, by have := HIK.out; omega, NB, HJ.out.later (BD.out _)⟩
        ·have e1 : decide (best < 0) = false := decide_eq_false hbn
         obtain ⟨b, rfl⟩ : ∃ b : Nat, best = b := ⟨best.toNat, by omega⟩
         have hbg : b < gn := by omega
         have hbg' : (b : Int) < (gn : Int) := by omega
         have hb0' : (0 : Int) <= (b : Int) := by omega
         have HJD : LpD w wr.drew #[.int .i64 N, .slice co cn cc, .slice io dn dc, .slice go gn gc, .slice ro rn rc, .bool bad] G gn E L (.slice ao3 gn cap3) (.slice ao6 p.length cap6) f p := HJ.out.later (Below.refl _ _).drew
         have gc2 : wr.drew.cell? ⟨G, k, none⟩ = some (.bool false) := by rw [cell_of_row _ G _ _ _ _ HJD.gl, blN_at gn f k hkn, hf]
         obtain ⟨nb, ncap, n1, o1, l1, c1, x1, hv, hr1, hz1⟩ := HJD.nu.range hkn
         obtain ⟨nb', ncap', n2, o2, l2, c2, x2, hv', hr2, hz2⟩ := HJD.nu.range hbg
         obtain ⟨ea, -, ec⟩ := Value.slice.inj hv
         subst ea ec
         cases hv'
         clear hv
         have HZ1 : Hid _ := hz1.toZ
         have HZ2 : Hid _ := hz2.toZ
         have HJD : Hid _ := HJD
         have HSG : Hid (∀ z : Int, sgi z < 0 ↔ z < 0) := sgi_neg
         have SX : (fun V : World => V.cell? ⟨G, k, none⟩ = some (.bool false) /\ V.rangeAt nb (k * 3) [.bool n1, .slice o1 l1 c1, .int .i64 x1] /\ V.rangeAt nb (b * 3) [.bool n2, .slice o2 l2 c2, .int .i64 x2]) wr.drew := ⟨gc2, hr1, hr2⟩
         clear gc2 hr1 hr2 hz1 hz2
         by_cases hll : L k < L b
         ·have e4 : decide (sgi (L k - L b) < 0) = true := decide_eq_true ((HSG.out _).2 (by omega))
          have NB : Hid (BsK L f (k + 1) (k : Int)) := HBK.out.less hf hll
          clear hll hrg hf hbn HSG
          go_upto_region 13 with fail
          refine wp_region_noPanic ?_
          refine wp_region_held_drew (S := (fun V : World => V.cell? ⟨G, k, none⟩ = some (.bool false) /\ V.rangeAt nb (k * 3) [.bool n1, .slice o1 l1 c1, .int .i64 x1] /\ V.rangeAt nb (b * 3) [.bool n2, .slice o2 l2 c2, .int .i64 x2])) (by kernel_rfl) SX (fun _ => ?_)
          refine tzI 42 0 ?_ ?_ SX ?_
          rotate_left
          ·intro w' hSw; obtain ⟨s1, s2, s3⟩ := hSw; go_simp; try with_reducible rfl
          try simp only [pA,pE,pB,pC,pD]
          refine tzI 43 1 ?_ ?_ SX ?_
          rotate_left
          ·intro w' hSw; obtain ⟨s1, s2, s3⟩ := hSw; go_simp; try with_reducible rfl
          try simp only [pA,pE,pB,pC,pD]
          refine tzI 44 2 ?_ ?_ SX ?_
          rotate_left
          ·intro w' hSw; obtain ⟨s1, s2, s3⟩ := hSw; go_simp; try with_reducible rfl
          try simp only [pA,pE,pB,pC,pD]
          refine tzI 45 3 ?_ ?_ SX ?_
          rotate_left
          ·intro w' hSw; obtain ⟨s1, s2, s3⟩ := hSw; go_simp; try with_reducible rfl
          try simp only [pA,pE,pB,pC,pD]
          refine tzI 46 4 ?_ ?_ SX ?_
          rotate_left
          ·intro w' hSw; obtain ⟨s1, s2, s3⟩ := hSw; go_simp; try with_reducible rfl
          try simp only [pA,pE,pB,pC,pD]
          refine tzI 47 5 ?_ ?_ SX ?_
          rotate_left
          ·intro w' hSw; obtain ⟨s1, s2, s3⟩ := hSw; go_simp; try with_reducible rfl
          try simp only [pA,pE,pB,pC,pD]
          refine tzI 48 6 ?_ ?_ SX ?_
          rotate_left
          ·intro w' hSw; obtain ⟨s1, s2, s3⟩ := hSw; go_simp; try with_reducible rfl
          try simp only [pA,pE,pB,pC,pD]
          refine tzI 49 7 ?_ ?_ SX ?_
          rotate_left
          ·intro w' hSw; obtain ⟨s1, s2, s3⟩ := hSw; go_simp; try with_reducible rfl
          try simp only [pA,pE,pB,pC,pD]
          refine tzI 50 8 ?_ ?_ SX ?_
          rotate_left
          ·intro w' hSw; obtain ⟨s1, s2, s3⟩ := hSw; go_simp; try with_reducible rfl
          try simp only [pA,pE,pB,pC,pD]
          refine tzI 51 9 ?_ ?_ SX ?_
          rotate_left
          ·intro w' hSw; obtain ⟨s1, s2, s3⟩ := hSw; go_simp; try with_reducible rfl
          try simp only [pA,pE,pB,pC,pD]
          refine tzI 52 10 ?_ ?_ SX ?_
          rotate_left
          ·intro w' hSw; obtain ⟨s1, s2, s3⟩ := hSw; go_simp; try with_reducible rfl
          try simp only [pA,pE,pB,pC,pD]
          refine tzI 53 11 ?_ ?_ SX ?_
          rotate_left
          ·intro w' hSw; obtain ⟨s1, s2, s3⟩ := hSw; go_simp; try with_reducible rfl
          try simp only [pA,pE,pB,pC,pD]
          refine tzH 54 12 (.agg #[.bool n1, .slice o1 l1 c1, .int .i64 x1]) (yieldsIf_load_mid (by kernel_rfl) 65 _ rfl nb (k * 3) (by kernel_rfl) #[.bool n1, .slice o1 l1 c1, .int .i64 x1].toList _ (fun _ hS => hS.2.1) Tryz.underlying65 rfl (by kernel_rfl)) SX ?_
          try simp only [pA,pE,pB,pC,pD]
          refine tzI 55 13 ?_ ?_ SX ?_
          rotate_left
          ·intro w' hSw; obtain ⟨s1, s2, s3⟩ := hSw; go_simp; try with_reducible rfl
          try simp only [pA,pE,pB,pC,pD]
          refine tzI 56 14 ?_ ?_ SX ?_
          rotate_left
          ·intro w' hSw; obtain ⟨s1, s2, s3⟩ := hSw; go_simp; try with_reducible rfl
          try simp only [pA,pE,pB,pC,pD]
          refine tzI 57 15 ?_ ?_ SX ?_
          rotate_left
          ·intro w' hSw; obtain ⟨s1, s2, s3⟩ := hSw; go_simp; try with_reducible rfl
          try simp only [pA,pE,pB,pC,pD]
          refine tzH 58 16 (.agg #[.bool n2, .slice o2 l2 c2, .int .i64 x2]) (yieldsIf_load_mid (by kernel_rfl) 65 _ rfl nb (b * 3) (by kernel_rfl) #[.bool n2, .slice o2 l2 c2, .int .i64 x2].toList _ (fun _ hS => hS.2.2) Tryz.underlying65 rfl (by kernel_rfl)) SX ?_
          try simp only [pA,pE,pB,pC,pD]
          refine rzH [17] ?_
          refine consH _ rfl (hzC 59 (Calls.mono (cmpZ_any _ _ E 1300 _ _ _ HZ1.out HZ2.out (by have := HE.out; omega) (by omega)) ?_)) AllReadyH.nil
          rintro e V1 ⟨rfl, b1⟩
          have SY : (fun V : World => V.cell? ⟨G, k, none⟩ = some (.bool false) /\ V.rangeAt nb (k * 3) [.bool n1, .slice o1 l1 c1, .int .i64 x1] /\ V.rangeAt nb (b * 3) [.bool n2, .slice o2 l2 c2, .int .i64 x2]) V1 := ⟨(b1.cell (World.block_lt_of_cell? _ _ SX.1)).trans SX.1, range_later SX.2.1 b1, range_later SX.2.2 b1⟩
          have HJ4 : Hid (LpD w V1 #[.int .i64 N, .slice co cn cc, .slice io dn dc, .slice go gn gc, .slice ro rn rc, .bool bad] G gn E L (.slice (some ⟨nb, 0, none⟩) gn cap3) (.slice ao6 p.length cap6) f p) := HJD.out.later b1
          clear b1 SX
          refine ⟨_, rfl, SY, ?_⟩
          try simp only [pA,pE,pB,pC,pD]
          refine tzI 60 18 ?_ ?_ SY ?_
          rotate_left
          ·intro w' hSw; obtain ⟨s1, s2, s3⟩ := hSw; go_simp; try with_reducible rfl
          try simp only [pA,pE,pB,pC,pD]
          refine tzI 61 19 ?_ ?_ SY ?_
          rotate_left
          ·intro w' hSw; obtain ⟨s1, s2, s3⟩ := hSw; go_simp; try with_reducible rfl
          try simp only [pA,pE,pB,pC,pD]
          refine tzI 62 20 ?_ ?_ SY ?_
          rotate_left
          ·intro w' hSw; obtain ⟨s1, s2, s3⟩ := hSw; go_simp; try with_reducible rfl
          try simp only [pA,pE,pB,pC,pD]
          refine wpAnyH_done (by kernel_rfl) ?_ _
          refine NoPanic.normal ?_
          try simp only [pA,pE,pB,pC,pD]
          clear SY
          go_wp2_with fail
          go_roundg q2
          case measure => omega
          case rel => exact ⟨k + 1, k, by go_num, rfl, by have := HIK.out; omega, NB, HJ4⟩
         ·have e4 : decide (sgi (L k - L b) < 0) = false := decide_eq_false (fun h => hll (by have := (HSG.out _).1 h; omega))
          have NB : Hid (BsK L f (k + 1) (b : Int)) := HBK.out.stays hll
          clear hll hrg hf hbn HSG
          go_upto_region 13 with fail
          refine wp_region_noPanic ?_
          refine wp_region_held_drew (S := (fun V : World => V.cell? ⟨G, k, none⟩ = some (.bool false) /\ V.rangeAt nb (k * 3) [.bool n1, .slice o1 l1 c1, .int .i64 x1] /\ V.rangeAt nb (b * 3) [.bool n2, .slice o2 l2 c2, .int .i64 x2])) (by kernel_rfl) SX (fun _ => ?_)
          refine tzI 42 0 ?_ ?_ SX ?_
          rotate_left
          ·intro w' hSw; obtain ⟨s1, s2, s3⟩ := hSw; go_simp; try with_reducible rfl
          try simp only [pA,pE,pB,pC,pD]
          refine tzI 43 1 ?_ ?_ SX ?_
          rotate_left
          ·intro w' hSw; obtain ⟨s1, s2, s3⟩ := hSw; go_simp; try with_reducible rfl
          try simp only [pA,pE,pB,pC,pD]
          refine tzI 44 2 ?_ ?_ SX ?_
          rotate_left
          ·intro w' hSw; obtain ⟨s1, s2, s3⟩ := hSw; go_simp; try with_reducible rfl
          try simp only [pA,pE,pB,pC,pD]
          refine tzI 45 3 ?_ ?_ SX ?_
          rotate_left
          ·intro w' hSw; obtain ⟨s1, s2, s3⟩ := hSw; go_simp; try with_reducible rfl
          try simp only [pA,pE,pB,pC,pD]
          refine tzI 46 4 ?_ ?_ SX ?_
          rotate_left
          ·intro w' hSw; obtain ⟨s1, s2, s3⟩ := hSw; go_simp; try with_reducible rfl
          try simp only [pA,pE,pB,pC,pD]
          refine tzI 47 5 ?_ ?_ SX ?_
          rotate_left
          ·intro w' hSw; obtain ⟨s1, s2, s3⟩ := hSw; go_simp; try with_reducible rfl
          try simp only [pA,pE,pB,pC,pD]
          refine tzI 48 6 ?_ ?_ SX ?_
          rotate_left
          ·intro w' hSw; obtain ⟨s1, s2, s3⟩ := hSw; go_simp; try with_reducible rfl
          try simp only [pA,pE,pB,pC,pD]
          refine tzI 49 7 ?_ ?_ SX ?_
          rotate_left
          ·intro w' hSw; obtain ⟨s1, s2, s3⟩ := hSw; go_simp; try with_reducible rfl
          try simp only [pA,pE,pB,pC,pD]
          refine tzI 50 8 ?_ ?_ SX ?_
          rotate_left
          ·intro w' hSw; obtain ⟨s1, s2, s3⟩ := hSw; go_simp; try with_reducible rfl
          try simp only [pA,pE,pB,pC,pD]
          refine tzI 51 9 ?_ ?_ SX ?_
          rotate_left
          ·intro w' hSw; obtain ⟨s1, s2, s3⟩ := hSw; go_simp; try with_reducible rfl
          try simp only [pA,pE,pB,pC,pD]
          refine tzI 52 10 ?_ ?_ SX ?_
          rotate_left
          ·intro w' hSw; obtain ⟨s1, s2, s3⟩ := hSw; go_simp; try with_reducible rfl
          try simp only [pA,pE,pB,pC,pD]
          refine tzI 53 11 ?_ ?_ SX ?_
          rotate_left
          ·intro w' hSw; obtain ⟨s1, s2, s3⟩ := hSw; go_simp; try with_reducible rfl
          try simp only [pA,pE,pB,pC,pD]
          refine tzH 54 12 (.agg #[.bool n1, .slice o1 l1 c1, .int .i64 x1]) (yieldsIf_load_mid (by kernel_rfl) 65 _ rfl nb (k * 3) (by kernel_rfl) #[.bool n1, .slice o1 l1 c1, .int .i64 x1].toList _ (fun _ hS => hS.2.1) Tryz.underlying65 rfl (by kernel_rfl)) SX ?_
          try simp only [pA,pE,pB,pC,pD]
          refine tzI 55 13 ?_ ?_ SX ?_
          rotate_left
          ·intro w' hSw; obtain ⟨s1, s2, s3⟩ := hSw; go_simp; try with_reducible rfl
          try simp only [pA,pE,pB,pC,pD]
          refine tzI 56 14 ?_ ?_ SX ?_
          rotate_left
          ·intro w' hSw; obtain ⟨s1, s2, s3⟩ := hSw; go_simp; try with_reducible rfl
          try simp only [pA,pE,pB,pC,pD]
          refine tzI 57 15 ?_ ?_ SX ?_
          rotate_left
          ·intro w' hSw; obtain ⟨s1, s2, s3⟩ := hSw; go_simp; try with_reducible rfl
          try simp only [pA,pE,pB,pC,pD]
          refine tzH 58 16 (.agg #[.bool n2, .slice o2 l2 c2, .int .i64 x2]) (yieldsIf_load_mid (by kernel_rfl) 65 _ rfl nb (b * 3) (by kernel_rfl) #[.bool n2, .slice o2 l2 c2, .int .i64 x2].toList _ (fun _ hS => hS.2.2) Tryz.underlying65 rfl (by kernel_rfl)) SX ?_
          try simp only [pA,pE,pB,pC,pD]
          refine rzH [17] ?_
          refine consH _ rfl (hzC 59 (Calls.mono (cmpZ_any _ _ E 1300 _ _ _ HZ1.out HZ2.out (by have := HE.out; omega) (by omega)) ?_)) AllReadyH.nil
          rintro e V1 ⟨rfl, b1⟩
          have SY : (fun V : World => V.cell? ⟨G, k, none⟩ = some (.bool false) /\ V.rangeAt nb (k * 3) [.bool n1, .slice o1 l1 c1, .int .i64 x1] /\ V.rangeAt nb (b * 3) [.bool n2, .slice o2 l2 c2, .int .i64 x2]) V1 := ⟨(b1.cell (World.block_lt_of_cell? _ _ SX.1)).trans SX.1, range_later SX.2.1 b1, range_later SX.2.2 b1⟩
          have HJ4 : Hid (LpD w V1 #[.int .i64 N, .slice co cn cc, .slice io dn dc, .slice go gn gc, .slice ro rn rc, .bool bad] G gn E L (.slice (some ⟨nb, 0, none⟩) gn cap3) (.slice ao6 p.length cap6) f p) := HJD.out.later b1
          clear b1 SX
          refine ⟨_, rfl, SY, ?_⟩
          try simp only [pA,pE,pB,pC,pD]
          refine tzI 60 18 ?_ ?_ SY ?_
          rotate_left
          ·intro w' hSw; obtain ⟨s1, s2, s3⟩ := hSw; go_simp; try with_reducible rfl
          try simp only [pA,pE,pB,pC,pD]
          refine tzI 61 19 ?_ ?_ SY ?_
          rotate_left
          ·intro w' hSw; obtain ⟨s1, s2, s3⟩ := hSw; go_simp; try with_reducible rfl
          try simp only [pA,pE,pB,pC,pD]
          refine tzI 62 20 ?_ ?_ SY ?_
          rotate_left
          ·intro w' hSw; obtain ⟨s1, s2, s3⟩ := hSw; go_simp; try with_reducible rfl
          try simp only [pA,pE,pB,pC,pD]
          refine wpAnyH_done (by kernel_rfl) ?_ _
          refine NoPanic.normal ?_
          try simp only [pA,pE,pB,pC,pD]
          clear SY
          go_wp2_with fail
          go_roundg q2
          case measure => omega
          case rel => exact ⟨k + 1, b, by go_num, rfl, by have := HIK.out; omega, NB, HJ4⟩
      ·have hd2 : decide ((k : Int) < (gn : Int)) = false := decide_eq_false (by omega)
       have hd2' : decide (k < gn) = false := decide_eq_false (by omega)
       obtain ⟨b, hb0, hb1, hb2, hb3⟩ : ∃ b : Nat, best = b /\ b < gn /\ f b = false /\ ∀ j, j < gn -> f j = false -> j ≠ b -> ltD L b j := by
        rcases HBK.out with ⟨e, hall⟩ | ⟨b, e, hb1, hb2, hb3⟩
        ·obtain ⟨j, hj, hf⟩ := HPK.out.len.2.1 HLT.out
         rw [hall j (by omega)] at hf
         cases hf
        ·exact ⟨b, e, by omega, hb2, fun j hj => hb3 j (by omega)⟩
       subst hb0
       have HPK2 : Hid (PlK L gn (p ++ [b]) (fun j => if j = b then true else f j)) := HPK.out.take hb1 hb2 hb3 (fun j _ => rfl)
       have hb1' : (b : Int) < (gn : Int) := by omega
       clear hk hd d0 d1 d2 d4 d5 hrg hb2 hb3
       go_upto_region 16 with (first | (refine wpList_store_at (by rfl) 4 _ _ (by rfl) w w.heap.size G b (.bool true) _ (blN gn (fun j => if j = b then true else f j)) 4 (by rfl) (by rfl) HJ.out.gl HJ.out.bel (by omega) 1 Tryz.szB1 rfl (by rw [blN_size]; omega) (one_bo _) (blN_set _ _ _ _ hb1 (fun j _ => rfl)) ?_; intro W2 e2 b2 s2 o2))
       have HJ3 : Hid (LpD w (W2.alloc (.cells #[.int .i64 (b : Int)] 3)) #[.int .i64 N, .slice co cn cc, .slice io dn dc, .slice go gn gc, .slice ro rn rc, .bool bad] G gn E L (.slice ao3 gn cap3) (.slice ao6 p.length cap6) (fun j => if j = b then true else f j) p) := (HJ.out.setB e2 o2 b2).later ((Below.refl _ W2).alloc (Nat.le_refl _) _)
       have hsz := b2.size
       clear e2 b2 s2 o2 HJ d3
       go_wp2_with (at_builtin; refine append_clJ noU Tryz.underlying23 Tryz.infoIJ rfl (by decide) (by decide) (by intro v hv; have hv' : v ∈ (#[.int .i64 0] : Array Value) := hv; simp only [List.mem_toArray, List.mem_cons, List.not_mem_nil, or_false] at hv'; subst hv'; rfl) _ (by rfl) _ _ (by rfl) w.heap.size _ p.length _ (by rfl) HJ3.out.out HJ3.out.ocl ⟨W2.heap.size, 0, none⟩ 1 1 [.int .i64 (b : Int)] (by rfl) (by decide) rfl (news_oneJ (heap_alloc_new W2 _)) (oneI _ rfl) (by intro u hu; simp only [List.mem_cons, List.not_mem_nil, or_false] at hu; subst hu; rfl) (by have := HLT.out; omega) (by simp only [alloc_size]; omega) ?_; intro v5 w5 o5 g5 cl5)
       have R5 : Hid (LpD w w5 #[.int .i64 N, .slice co cn cc, .slice io dn dc, .slice go gn gc, .slice ro rn rc, .bool bad] G gn E L (.slice ao3 gn cap3) v5 (fun j => if j = b then true else f j) (p ++ [b])) := HJ3.out.app o5 g5 cl5
       clear o5 g5 cl5 HJ3
       go_wp2_with fail
       go_roundg q
       case measure => omega
       case rel => exact ⟨p ++ [b], _, by rw [List.length_append]; have := HIG.out; simp only [List.length_cons, List.length_nil]; omega, HPK2, R5⟩
    ·have hd : decide ((p.length : Int) < (gn : Int)) = false := decide_eq_false (by omega)
     have hd' : decide (p.length < gn) = false := decide_eq_false (by omega)
     have HEN : Hid (¬ p.length < gn) := hlt
     clear hp d0 d1 d2 d4 d5
     go_wp2_with fail
     go_ret
     exact ⟨_, p, rfl, HI.out.out, HPK.out.len.2.2 HEN.out, HPK.out.sort, HI.out.bel⟩
end Go.Proofs.YthmhgpadinecfaaGreat
