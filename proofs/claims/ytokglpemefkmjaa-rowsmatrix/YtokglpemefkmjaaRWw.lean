import Derived.Test.YtokglpemefkmjaaRWg
import Derived.Test.YtokglpemefkmjaaRWl
namespace Go.Proofs.Ytokglpemefkmjaa
open Go.RowKit
set_option linter.unusedVariables false
set_option linter.unusedSimpArgs false
theorem Try.infoIm : (Try.prog.info? 3).map (fun i => (i.zero, i.size, i.bytes)) = some (some (.int .i64 0), 1, 8) := by kernel_rfl
theorem goesBy (kd : Int) (hk : kd = 2 ∨ kd = 4 ∨ kd = 12) (w : World) : Calls Try.prog 24 #[.int .i64 kd] w fun e w' => e = .returned (.bool true) ∧ w' = w := by
  rcases hk with rfl | rfl | rfl
  all_goals
    go_enter Try.func24, Try.ntmps24
    go_wp2_with fail
    go_ret
    exact ⟨rfl, rfl⟩
set_option maxRecDepth 100000 in
set_option maxHeartbeats 8000000 in
theorem window_all (kd c h k c' h' k' q r s i : Int) (hkd : kd = 2 ∨ kd = 4 ∨ kd = 12) (x1 x2 x3 x4 x5 x6 x7 x8 x9 x10 x11 x12 x13 : Value) (ps : List P3) (ix : P3 → Int) (hps : ps.length ≤ 1000)
    (hO : ∀ w, Calls Try.prog 20 #[.agg #[.int .i64 kd, x1, x2, x3, x4, x5, x6, x7, x8, x9, x10, x11, x12, x13], .agg #[.int .i64 c, .int .i64 h, .int .i64 k]] w fun e w' => e = .returned (.tuple #[.agg #[.int .i64 c', .int .i64 h', .int .i64 k'], .int .i64 0]) ∧ Below w.heap.size w w')
    (hT : ∀ w, Calls Try.prog 25 #[.agg #[.int .i64 kd, x1, x2, x3, x4, x5, x6, x7, x8, x9, x10, x11, x12, x13], .agg #[.int .i64 c, .int .i64 h, .int .i64 k], .int .i64 i] w fun e w' => e = .returned (.int .i64 0) ∧ Below w.heap.size w w')
    (hP : ∀ w, Calls Try.prog 27 #[.int .i64 i, .agg #[.int .i64 c', .int .i64 h', .int .i64 k']] w fun e w' => e = .returned (.agg #[.int .i64 q, .int .i64 r, .int .i64 s]) ∧ Below w.heap.size w w')
    (hW : ∀ w, Calls Try.prog 26 #[.agg #[.int .i64 kd, x1, x2, x3, x4, x5, x6, x7, x8, x9, x10, x11, x12, x13], .agg #[.int .i64 c, .int .i64 h, .int .i64 k], .agg #[.int .i64 q, .int .i64 r, .int .i64 s]] w fun e w' => ∃ v, e = .returned v ∧ OwnP w' w.heap.size v ps ∧ Below w.heap.size w w')
    (hI : ∀ p, p ∈ ps → ∀ w, Calls Try.prog 28 #[.agg #[.int .i64 p.1, .int .i64 p.2.1, .int .i64 p.2.2], .agg #[.int .i64 c, .int .i64 h, .int .i64 k]] w fun e w' => e = .returned (.int .i64 (ix p)) ∧ Below w.heap.size w w')
    (w : World) :
    Calls Try.prog 13 #[.agg #[.int .i64 kd, x1, x2, x3, x4, x5, x6, x7, x8, x9, x10, x11, x12, x13], .agg #[.int .i64 c, .int .i64 h, .int .i64 k], .int .i64 i] w fun e w' => ∃ v, e = .returned (.tuple #[v, .int .i64 0]) ∧ OwnM w' w.heap.size 3 v (inV (ps.map ix)) ∧ Below w.heap.size w w' := by
  have HO : Hid _ := hO
  have HT : Hid _ := hT
  have HP : Hid _ := hP
  have HW : Hid _ := hW
  have HI : Hid _ := hI
  have HG : Hid _ := goesBy kd hkd
  clear hO hP hW hI hT hkd
  have X0 : Below w.heap.size w ((w.alloc (.cells #[.int .i64 kd, x1, x2, x3, x4, x5, x6, x7, x8, x9, x10, x11, x12, x13] 30)).alloc (.cells #[.int .i64 c, .int .i64 h, .int .i64 k] 25)) := ((Below.refl _ w).alloc (Nat.le_refl _) _).alloc (by simp only [alloc_size]; omega) _
  have Y0 : ((w.alloc (.cells #[.int .i64 kd, x1, x2, x3, x4, x5, x6, x7, x8, x9, x10, x11, x12, x13] 30)).alloc (.cells #[.int .i64 c, .int .i64 h, .int .i64 k] 25)).heap[w.heap.size]? = _ := alloc_kept (heap_alloc_new w _) _
  have Y1 : ((w.alloc (.cells #[.int .i64 kd, x1, x2, x3, x4, x5, x6, x7, x8, x9, x10, x11, x12, x13] 30)).alloc (.cells #[.int .i64 c, .int .i64 h, .int .i64 k] 25)).heap[w.heap.size + 1]? = _ := heap_at _ _ (w.heap.size + 1) (by simp only [alloc_size])
  go_enter Try.func13, Try.ntmps13
  go_wp2_with fail
  refine Calls.mono (HO.out _) ?_
  rintro e w1 ⟨rfl, hb⟩
  have H1 : Hid (Below w.heap.size w w1 ∧ w1.heap[w.heap.size]? = _ ∧ w1.heap[w.heap.size + 1]? = _) := ⟨to_call X0 hb, kept hb Y0, kept hb Y1⟩
  have hs1 := blk_lt H1.out.2.2
  clear hb X0 Y0 Y1 HO
  go_upto_region 2 with (first | (refine wpList_store_row (by rfl) 25 _ _ (by rfl) w1 w1.heap.size w1.heap.size _ _ (by rfl) (by rfl) (heap_alloc_new w1 _) ((Below.refl _ w1).alloc (Nat.le_refl _) _) (Nat.le_refl _) 3 Try.infoShape (by rfl) (by rfl) (by exact one3 ..) ?_; intro W2 e2 hb2 hs2 ho2))
  obtain ⟨B, hB⟩ : ∃ B, w1.heap.size = B := ⟨_, rfl⟩
  have H2 : Hid (Below w.heap.size w W2 ∧ W2.heap[w.heap.size]? = _ ∧ W2.heap[w.heap.size + 1]? = _ ∧ W2.heap[B]? = _) := ⟨to_call H1.out.1 hb2, kept hb2 H1.out.2.1, kept hb2 H1.out.2.2, hB ▸ e2⟩
  rw [hB]
  clear hb2 hs2 ho2 e2 H1 hs1 hB
  have a0 := cellAt H2.out.2.1 0 (.int .i64 kd) rfl
  go_wp2_with fail
  refine Calls.mono (HG.out _) ?_
  rintro e m ⟨rfl, hm⟩
  subst hm
  go_wp2_with (first
    | (refine wpList_load_row (by rfl) 30 _ (by rfl) w.heap.size _ (by rfl) H2.out.2.1 _ Try.underlying30 rfl 14 Try.infoLy (by rfl) ?_)
    | (refine wpList_load_row (by rfl) 25 _ (by rfl) (w.heap.size + 1) _ (by rfl) H2.out.2.2.1 _ Try.underlying25 rfl 3 Try.infoShape (by rfl) ?_))
  refine Calls.mono (HT.out _) ?_
  rintro e X ⟨rfl, hb⟩
  have HX : Hid (Below w.heap.size w X ∧ X.heap[w.heap.size]? = _ ∧ X.heap[w.heap.size + 1]? = _ ∧ X.heap[B]? = _) := ⟨to_call H2.out.1 hb, kept hb H2.out.2.1, kept hb H2.out.2.2.1, kept hb H2.out.2.2.2⟩
  clear hb H2 a0 HG HT
  go_upto_region 10 with fail
  have bX : Below X.heap.size X X.drew := (Below.refl _ _).drew
  refine wp_region_noPanic ?_
  refine wp_region_held_drew (S := (fun V => Below X.heap.size X V)) (by kernel_rfl) bX (fun _ => ?_)
  refine takeH 34 (i := 0) (v := .agg #[.int .i64 kd, x1, x2, x3, x4, x5, x6, x7, x8, x9, x10, x11, x12, x13]) rfl rfl (by kernel_rfl) (by kernel_rfl) (by kernel_rfl) (fun _ _ _ h => h) (Or.inl ⟨by kernel_rfl, fun w' hS => ex_loadR _ 30 _ rfl (w.heap.size) (by kernel_rfl) w' _ (kept hS HX.out.2.1) _ Try.underlying30 rfl 14 Try.infoLy rfl⟩) bX ?_
  try simp only [Act.put, List.setIfInBounds_toArray, List.set_cons_zero, List.set_cons_succ]
  refine takeH 35 (i := 1) (v := .agg #[.int .i64 c, .int .i64 h, .int .i64 k]) rfl rfl (by kernel_rfl) (by kernel_rfl) (by kernel_rfl) (fun _ _ _ h => h) (Or.inl ⟨by kernel_rfl, fun w' hS => ex_loadR _ 25 _ rfl (w.heap.size + 1) (by kernel_rfl) w' _ (kept hS HX.out.2.2.1) _ Try.underlying25 rfl 3 Try.infoShape rfl⟩) bX ?_
  try simp only [Act.put, List.setIfInBounds_toArray, List.set_cons_zero, List.set_cons_succ]
  refine takeH 36 (i := 2) (v := ?_) rfl rfl (by kernel_rfl) (by kernel_rfl) (by kernel_rfl) (fun _ _ _ h => h) (Or.inl ⟨by kernel_rfl, ?_⟩) bX ?_
  rotate_left
  · intro w' hSw; (try dsimp only at hSw); go_simp; try with_reducible rfl
  try simp only [Act.put, List.setIfInBounds_toArray, List.set_cons_zero, List.set_cons_succ]
  refine takeH 37 (i := 3) (v := .agg #[.int .i64 c', .int .i64 h', .int .i64 k']) rfl rfl (by kernel_rfl) (by kernel_rfl) (by kernel_rfl) (fun _ _ _ h => h) (Or.inl ⟨by kernel_rfl, fun w' hS => ex_loadR _ 25 _ rfl (B) (by kernel_rfl) w' _ (kept hS HX.out.2.2.2) _ Try.underlying25 rfl 3 Try.infoShape rfl⟩) bX ?_
  try simp only [Act.put, List.setIfInBounds_toArray, List.set_cons_zero, List.set_cons_succ]
  refine takeH 41 (i := 7) (v := ?_) rfl rfl (by kernel_rfl) (by kernel_rfl) (by kernel_rfl) (fun _ _ _ h => h) (Or.inl ⟨by kernel_rfl, ?_⟩) bX ?_
  rotate_left
  · intro w' hSw; (try dsimp only at hSw); go_simp; try with_reducible rfl
  try simp only [Act.put, List.setIfInBounds_toArray, List.set_cons_zero, List.set_cons_succ]
  refine wpAnyH_ready (rs := [4]) (by kernel_rfl) (by simp) ?_
  refine consH _ rfl (hopCd 38 rfl (by kernel_rfl) rfl (by kernel_rfl) (Calls.mono (HP.out _) ?_)) AllReadyH.nil
  rintro e V1 ⟨rfl, c1⟩
  have S1 : (fun V => Below X.heap.size X V) V1 := to_call bX c1
  refine ⟨_, rfl, S1, ?_⟩
  try simp only [Act.put, List.setIfInBounds_toArray, List.set_cons_zero, List.set_cons_succ]
  refine wpAnyH_ready (rs := [5]) (by kernel_rfl) (by simp) ?_
  refine consH _ rfl (hopCd 39 rfl (by kernel_rfl) rfl (by kernel_rfl) (Calls.mono (HW.out _) ?_)) AllReadyH.nil
  rintro e V2 ⟨vp, rfl, op, c2⟩
  have S2 : (fun V => Below X.heap.size X V) V2 := to_call S1 c2
  obtain ⟨ap, cp, rfl⟩ := op.sl
  refine ⟨_, rfl, S2, ?_⟩
  try simp only [Act.put, List.setIfInBounds_toArray, List.set_cons_zero, List.set_cons_succ]
  refine takeH 40 (i := 6) (v := ?_) rfl rfl (by kernel_rfl) (by kernel_rfl) (by kernel_rfl) (fun _ _ _ h => h) (Or.inl ⟨by kernel_rfl, ?_⟩) S2 ?_
  rotate_left
  · intro w' hSw; (try dsimp only at hSw); go_simp; try with_reducible rfl
  try simp only [Act.put, List.setIfInBounds_toArray, List.set_cons_zero, List.set_cons_succ]
  refine wpAnyH_done (by kernel_rfl) ?_ _
  refine NoPanic.normal ?_
  try simp only [Act.put, List.setIfInBounds_toArray, List.set_cons_zero, List.set_cons_succ]
  have H6 : Hid (Below w.heap.size w V2 ∧ V2.heap[w.heap.size + 1]? = _) := ⟨to_call HX.out.1 S2, kept S2 HX.out.2.2.1⟩
  have HOP : Hid (OwnP V2 V1.heap.size (.slice (ap) ps.length cp) ps) := op
  clear S1 S2 bX c1 c2 op HX HP HW
  go_wp2_with fail
  go_loopg [11, 41] ps.length (fun g lv v wx => ∃ j : Nat, v = .int .i64 j ∧ j + g = ps.length ∧ Hid (OwnM wx V2.heap.size 3 lv (inV ((ps.take j).map ix))) ∧ Hid (Below V2.heap.size V2 wx))
  case atStart => exact ⟨0, rfl, by omega, World.ownsRow_nil _ _ _ 1, Below.refl _ _⟩
  case round =>
    obtain ⟨j, rfl, hj, HL, HB⟩ := hrel
    by_cases hlt : j < ps.length
    · obtain ⟨g, rfl⟩ : ∃ g, gk = g + 1 := ⟨gk - 1, by omega⟩
      have hd : decide ((j : Int) < (ps.length : Int)) = true := decide_eq_true (by omega)
      obtain ⟨gb, hgbe, hgb, hgl, t0, t1, t2⟩ := HOP.out.at hlt
      subst hgbe
      obtain ⟨p, hp⟩ : ∃ p, ps[j] = p := ⟨_, rfl⟩
      have hpm : p ∈ ps := by rw [← hp]; exact List.getElem_mem hlt
      have HTK : Hid (ps.take (j + 1) = ps.take j ++ [p]) := by unfold Hid; rw [List.take_succ_eq_append_getElem hlt, hp]
      rw [hp] at t0 t1 t2
      have hcg := fun x => World.cell?_of_block (w := V2) (w' := wr) (a := ⟨gb, x, none⟩) (HB.out.block _ hgl)
      rw [← hcg] at t0 t1 t2
      have i0 : (0 : Int) ≤ (j : Int) := by omega
      have i1 : (j : Int) < (ps.length : Int) := by omega
      have hw1 : IntKind.i64.wrap ((j : Int) + 1) = (j : Int) + 1 := by have := hps; rw [IntKind.wrap_i64]; omega
      have HIG : Hid (j + (g + 1) = ps.length) := hj
      have hw2 : wrap64 ((j : Int) + 1) = (j : Int) + 1 := by have := hps; unfold wrap64; omega
      clear hcg hp hj
      go_upto_region 13 with fail
      have XP : (wr.alloc (.cells #[.int .i64 p.1, .int .i64 p.2.1, .int .i64 p.2.2] 69)).heap[wr.heap.size]? = _ := heap_alloc_new wr _
      have X1 : (wr.alloc (.cells #[.int .i64 p.1, .int .i64 p.2.1, .int .i64 p.2.2] 69)).heap[w.heap.size + 1]? = _ := alloc_kept (kept HB.out H6.out.2) _
      have XB : Hid (Below wr.heap.size wr (wr.alloc (.cells #[.int .i64 p.1, .int .i64 p.2.1, .int .i64 p.2.2] 69))) := (Below.refl _ wr).alloc (Nat.le_refl _) _
      clear t0 t1 t2
      go_wp2_with (first
        | (refine wpList_load_row (by rfl) 69 _ (by rfl) wr.heap.size _ (by rfl) XP _ Try.underlying69 rfl 3 Try.infoPlace (by rfl) ?_)
        | (refine wpList_load_row (by rfl) 25 _ (by rfl) (w.heap.size + 1) _ (by rfl) X1 _ Try.underlying25 rfl 3 Try.infoShape (by rfl) ?_))
      refine Calls.mono (HI.out p hpm _) ?_
      rintro e7 w7 ⟨rfl, hb7⟩
      have G7 : Hid (Below wr.heap.size wr w7) := to_call XB.out hb7
      have HLE : Hid ((inV ((ps.take j).map ix)).length + 1 ≤ 1000000) := by unfold Hid inV; rw [List.length_map, List.length_map, List.length_take]; omega
      have HBS : Hid (V2.heap.size ≤ w7.heap.size) := Nat.le_trans HB.out.size G7.out.size
      clear hb7 XP X1 XB
      go_wp2_with (at_builtin; refine append_gr1 Try.underlying35 Try.infoIm rfl (by decide) w7 (by rfl) _ _ (by rfl) V2.heap.size u11 (inV ((ps.take j).map ix)) (by rfl) (OwnM.keep HL.out fun k hk => G7.out.block k (OwnM.lt HL.out k hk).2) (.int .i64 (ix p)) (by rfl) rfl HLE.out HBS.out ?_; intro v5 w5 o5 gw5)
      have HL5 : Hid (OwnM w5 V2.heap.size 3 v5 (inV ((ps.take (j + 1)).map ix))) := by
        unfold Hid
        rw [HTK.out, List.map_append, inV, List.map_append]
        exact o5
      have HB5 : Hid (Below V2.heap.size V2 w5) := (to_call HB.out G7.out).trans (gw5.below (fun k hk => (OwnM.lt HL.out k hk).1) HBS.out)
      clear HL HB HTK G7 HLE HBS o5 gw5
      go_roundg g
      case measure => omega
      case rel => exact ⟨j + 1, by go_num, by have := HIG.out; omega, HL5, HB5⟩
    · obtain rfl : j = ps.length := by omega
      have hd : decide ((ps.length : Int) < (ps.length : Int)) = false := decide_eq_false (by omega)
      have HL5 : Hid (OwnM wr V2.heap.size 3 u11 (inV (ps.map ix))) := by have := HL.out; rw [List.take_length] at this; exact this
      clear HL hlt hj
      go_wp2_with fail
      go_ret2
      exact ⟨_, rfl, own_mono HL5.out H6.out.1.size, to_call H6.out.1 HB.out⟩
end Go.Proofs.Ytokglpemefkmjaa
