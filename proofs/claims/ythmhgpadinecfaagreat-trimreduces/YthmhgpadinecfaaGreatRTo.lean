import Derived.Test.YthmhgpadinecfaaGreatRRf
set_option maxRecDepth 100000
set_option maxHeartbeats 4000000
set_option linter.unusedVariables false
set_option linter.unusedSimpArgs false
namespace Go.Proofs.YthmhgpadinecfaaGreat
open Go.RowKit Go.Shelf
theorem order_any (a : Nat) (ha : a = 1166) (z : ZD) (w : World) (hz : ZR w z) (hd : z.dn <= 1050000) :
  Calls Tryz.prog 10 #[.agg #[.int .i64 z.N, .slice z.co z.cn z.cc, .slice z.io z.dn z.dc, .slice z.go z.gn z.gc, .slice z.ro z.rn z.rc, .bool z.bad]] w fun e w' => ∃ ao len cap, e = .returned (.slice ao len cap) /\ RdIs w' ao len cap (ordL z) /\ Below w.heap.size w w' := by
 refine Calls.mono (orderO_any a ha z w hz hd) ?_
 rintro e w' ⟨v, rfl, ho, hb⟩
 obtain ⟨ao, cap, rfl, hm, hc⟩ := owns_slice ho
 refine ⟨ao, _, cap, rfl, ⟨rfl, hm, ?_⟩, hb⟩
 rcases hc with h0 | ⟨g, rfl, hc⟩
 ·exact .inl h0
 ·exact .inr ⟨g, 0, rfl, fun j hj => by rw [Nat.zero_add, hc j hj, List.getElem?_map, List.getElem?_eq_getElem hj]; rfl⟩
theorem reduce_any (a : Nat) (ha : a = 1166) (z : ZD) (w : World) (hz : ZR w z) (hd : z.dn <= 1050000) (most : Int) (hm1 : -9223372036854775808 <= most) (hm2 : most <= 9223372036854775807) :
  Calls Tryz.prog 11 #[.agg #[.int .i64 z.N, .slice z.co z.cn z.cc, .slice z.io z.dn z.dc, .slice z.go z.gn z.gc, .slice z.ro z.rn z.rc, .bool z.bad], .int .i64 most] w fun e w' => ∃ y : ZD, e = .returned (.agg (zRow y)) /\ ZR w' y /\ ZW y /\ TyG w' y /\ RdC z most y /\ Below w.heap.size w w' := by
 refine Calls.mono (reduceF_any a ha z w hz hd most hm1 hm2) ?_
 rintro e w' ⟨y, h1, h2, h3, h4, h5, _, h6⟩
 exact ⟨y, h1, h2, h3, h4, h5, h6⟩
theorem told11_any (w : World) : Calls Tryz.prog 5 #[] w fun e w' => e = .returned (.bool true) /\ Below w.heap.size w w' := by
 have HOr : Hid (∀ (W : World) co cc io dc go gc ro rc gv, ZR W (exZ co cc io dc go gc ro rc gv) -> Calls Tryz.prog 10 #[.agg #[.int .i64 2, .slice co 2 cc, .slice io 4 dc, .slice go 4 gc, .slice ro 2 rc, .bool false]] W fun e w' => ∃ ao len cap, e = .returned (.slice ao len cap) /\ RdIs w' ao len cap [5, 7, 3, 9] /\ Below W.heap.size W w') := fun W co cc io dc go gc ro rc gv h => by
  have h1 := order_any 1166 rfl (exZ co cc io dc go gc ro rc gv) W h (show 4 <= 1050000 by decide)
  rw [ex_ord] at h1
  exact h1
 have HRe : Hid (∀ (W : World) co cc io dc go gc ro rc gv, ZR W (exZ co cc io dc go gc ro rc gv) -> Calls Tryz.prog 11 #[.agg #[.int .i64 2, .slice co 2 cc, .slice io 4 dc, .slice go 4 gc, .slice ro 2 rc, .bool false], .int .i64 1] W fun e w' => ∃ N co cn cc io dc go gn gc ro rc gv cs gs, e = .returned (.agg #[.int .i64 N, .slice co cn cc, .slice io 1 dc, .slice go gn gc, .slice ro 2 rc, .bool false]) /\ ZR w' ⟨N, co, cn, cc, io, 1, dc, go, gn, gc, ro, 2, rc, false, cs, [9], gv, gs, [4613937818241073152, 4609434218613702656]⟩ /\ Below W.heap.size W w') := fun W co cc io dc go gc ro rc gv h => by
  refine Calls.mono (reduce_any 1166 rfl (exZ co cc io dc go gc ro rc gv) W h (show 4 <= 1050000 by decide) 1 (by decide) (by decide)) ?_
  rintro e w' ⟨y, rfl, hz, -, -, hr, hb⟩
  obtain ⟨h1, h2, h3⟩ := ex_red _ _ _ _ _ _ _ _ _ hr
  obtain ⟨N, co, cn, cc, io, dn, dc, go, gn, gc, ro, rn, rc, bad, cs, ids, gv, gs, rs⟩ := y
  dsimp only at h1 h2 h3
  subst h1 h2 h3
  have e1 : 1 = dn := hz.i.length
  have e2 : 2 = rn := hz.r.length
  subst e1 e2
  exact ⟨N, co, cn, cc, io, dc, go, gn, gc, ro, rc, gv, cs, gs, rfl, hz, hb⟩
 have hc35 : capV 3 5 = 10 := by decide
 go_enter Tryz.func5, Tryz.ntmps5
 go_wp2_with fail
 refine Calls.mono (exampleT_any _) ?_
 rintro e w1 ⟨co, cc, io, dc, go, gc, ro, rc, gv, rfl, hz1, b1⟩
 have HZ1 : Hid _ := hz1
 clear hz1
 simp only [zRow, exZ]
 go_wp2_with fail
 refine Calls.mono (HOr.out _ _ _ _ _ _ _ _ _ _ HZ1.out) ?_
 rintro e w2 ⟨lo, ln, lc, rfl, hl, b2⟩
 have HL : Hid (RdIs w2 lo ln lc [5, 7, 3, 9]) := hl
 have hln : 4 = ln := hl.length
 subst hln
 clear hl HZ1
 go_wp2_with fail
 refine Calls.mono (exampleT_any _) ?_
 rintro e w3 ⟨co', cc', io', dc', go', gc', ro', rc', gv', rfl, hz3, b3⟩
 have HZ3 : Hid _ := hz3
 clear hz3
 simp only [zRow, exZ]
 go_wp2_with fail
 refine Calls.mono (HRe.out _ _ _ _ _ _ _ _ _ _ HZ3.out) ?_
 rintro e w4 ⟨N, yo, yn, yc, yi, yd, yg, ygn, ygc, yr, yrc, ygv, ycs, ygs, rfl, hz4, b4⟩
 have HZ4 : Hid _ := hz4
 clear hz4 HZ3
 have B4 : Below w4.heap.size w4 (w4.alloc (.cells #[.int .i64 0, .slice none 0 0, .slice none 0 0, .slice none 0 0, .slice none 0 0, .bool false] 26)) := (Below.refl _ w4).alloc (Nat.le_refl _) _
 go_upto_region 3 with (first
  | (refine wpList_store_row (by rfl) 26 _ _ (by rfl) w4 w4.heap.size w4.heap.size #[.int .i64 N, .slice yo yn yc, .slice yi 1 yd, .slice yg ygn ygc, .slice yr 2 yrc, .bool false] _ (by rfl) (by rfl) (heap_alloc_new w4 _) B4 (Nat.le_refl _) 6 Tryz.infoZ rfl rfl (oneZ _ _ _ _ _ rfl rfl rfl rfl _) ?_; intro W5 e5 b5 s5 o5))
 have HB5 : Hid (Below w.heap.size w W5) := to_call (to_call (to_call (to_call b1 b2) b3) b4) b5
 have HL5 : Hid (RdIs W5 lo 4 lc [5, 7, 3, 9]) := ((HL.out.later b3).later b4).later b5
 have HZ5 : Hid _ := HZ4.out.later b5
 obtain ⟨c0, c1, c2, c3, c4, c5⟩ := cells6 e5
 clear b1 b2 b3 b4 b5 s5 o5 HL HZ4 B4
 have HX : Hid (RdIs (W5.alloc (.cells #[.int .i64 5, .int .i64 7, .int .i64 3, .int .i64 9] 3)) (some ⟨W5.heap.size, 0, none⟩) 4 4 [5, 7, 3, 9]) := rdI4T (heap_alloc_new W5 _)
 have hb6 : Below W5.heap.size W5 (W5.alloc (.cells #[.int .i64 5, .int .i64 7, .int .i64 3, .int .i64 9] 3)) := (Below.refl _ W5).alloc (Nat.le_refl _) _
 have HL6 : Hid _ := HL5.out.later hb6
 rcases HZ5.out.i.cells with h0 | ⟨ib, ioff, hio, hic⟩
 ·cases h0
 rcases HZ5.out.r.cells with h0 | ⟨rb, roff, hro, hrc⟩
 ·cases h0
 dsimp only at hio hro
 have gi : W5.cell? ⟨ib, ioff + 0, none⟩ = some (.int .i64 9) := hic 0 (show 0 < 1 by decide)
 have g0 : W5.cell? ⟨rb, roff + 0, none⟩ = some (.float .f64 4613937818241073152) := hrc 0 (show 0 < 2 by decide)
 have g1 : W5.cell? ⟨rb, roff + 1, none⟩ = some (.float .f64 4609434218613702656) := hrc 1 (show 1 < 2 by decide)
 rw [Nat.add_zero] at gi g0
 subst hio hro
 have HB6 : Hid (Below w.heap.size w (W5.alloc (.cells #[.int .i64 5, .int .i64 7, .int .i64 3, .int .i64 9] 3))) := to_call HB5.out hb6
 clear hic hrc HZ5 HL5 e5
 go_wp2_with fail
 refine Calls.mono (sameIntsT_any lo (some ⟨W5.heap.size, 0, none⟩) 4 4 lc 4 [5, 7, 3, 9] [5, 7, 3, 9] _ HL6.out HX.out) ?_
 rintro e w7 ⟨rfl, b7⟩
 have hdd : decide (([5, 7, 3, 9] : List Int) = [5, 7, 3, 9]) = true := decide_eq_true rfl
 rw [hdd]
 have HB7 : Hid (Below w.heap.size w w7) := to_call HB6.out b7
 have q0 := cellT (cellT c0 hb6) b7
 have q2 := cellT (cellT c2 hb6) b7
 have q4 := cellT (cellT c4 hb6) b7
 have q5 := cellT (cellT c5 hb6) b7
 have qi := cellT (cellT gi hb6) b7
 have r0 := cellT (cellT g0 hb6) b7
 have r1 := cellT (cellT g1 hb6) b7
 clear c0 c1 c2 c3 c4 c5 gi g0 g1 hb6 b7 hdd HL6 HX HB6
 go_wp2_with (first | (go_at_call 20; refine Calls.mono (capT_any 3 5 _) ?_; rintro e w8 ⟨rfl, hw8⟩; rw [hw8, hc35]; clear hw8))
 go_ret
 exact ⟨rfl, HB7.out⟩
end Go.Proofs.YthmhgpadinecfaaGreat
