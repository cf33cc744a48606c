import Derived.Test.YtjeghdmclmelfaaGreatJXn
import Derived.Test.YtjeghdmclmelfaaGreatGJj
namespace Go.Proofs.YtjeghdmclmelfaaGreat
open Go.RowKit Go.Shelf
set_option linter.unusedVariables false
set_option linter.unusedSimpArgs false
theorem hopBK {P : Program} {ops : Array Oper} {Q : Exit → Act → World → Prop} {i : Nat} {o : Oper} {K : Act → World → Prop} {a : Act} {w : World} (d : Nat) (y y' : Value) (E : TypeId) (ho : ops[i]? = some o) (hg : o.guard = none) (hd : o.dst = some d)
  (hr : (execOp a.eval o).run P w = .ok (.value (.slice (some ⟨w.heap.size, 0, none⟩) 2 2)) (w.alloc (.cells #[y, y'] E)))
  (h : ∀ I W', W'.heap[I]? = some (.cells #[y, y'] E) → Below w.heap.size w W' → K (a.put (some d) (.slice (some ⟨I, 0, none⟩) 2 2)) W') : wpOp P ops Q i K a w :=
 hopV d ho hg hd hr (h _ _ (heap_alloc_new w _) ((Below.refl _ w).alloc (Nat.le_refl _) _))
def gvL (x : ZD) : List Value := (List.range x.gn).map fun j => .slice (x.gv j).1 (x.gv j).2.1 (x.gv j).2.2
def lsV (x : ZD) : List Value := [(.slice x.co x.cn x.cc), (.slice x.ro x.rn x.rc)] ++ gvL x
theorem gvL_len (x : ZD) : (gvL x).length = x.gn := by unfold gvL; simp
theorem gvL_one (x : ZD) : ∀ u ∈ gvL x, u.oneCell' = true := by
 intro u hu
 obtain ⟨j, _, rfl⟩ := List.mem_map.1 hu
 rfl
theorem rdG_news {w : World} {x : ZD} (h : RdGs w x.go x.gn x.gc x.gv x.gs) : ∀ ad, x.go = some ad → ∀ j u, (gvL x)[j]? = some u → w.cell? (ad.add j) = some u := by
 intro ad ha j u hj
 have hl : j < x.gn := by have := (List.getElem?_eq_some_iff.1 hj).1; rw [gvL_len] at this; exact this
 unfold gvL at hj
 rw [List.getElem?_map, List.getElem?_range hl] at hj
 cases hj
 rcases h.cells with h0 | ⟨b, off, he, hc⟩
 ·omega
 ·rw [ha] at he
  cases he
  rw [Addr.add_mid]
  exact hc j hl
set_option maxRecDepth 100000 in
set_option maxHeartbeats 4000000 in
theorem lists1_any (x : ZD) (I0 : Nat) (w : World) (hI : w.heap[I0]? = some (.cells (zRow x) 26)) (hx : ZR w x) (hno : x.go = none → x.gn = 0 ∧ x.gc = 0) (hgn : x.gn ≤ 1050000) :
  Calls Tryz.prog 18 #[.slice (some ⟨I0, 0, none⟩) 1 1] w fun e w' => ∃ v, e = .returned v ∧ w'.ownsRow w.heap.size 22 1 v (2 + x.gn) (lsV x) ∧ Below w.heap.size w w' := by
 have HX : Hid (ZR w x) := hx
 have HI : Hid (w.heap[I0]? = some (.cells #[.int .i64 x.N, .slice x.co x.cn x.cc, .slice x.io x.dn x.dc, .slice x.go x.gn x.gc, .slice x.ro x.rn x.rc, .bool x.bad] 26)) := hI
 have HNO : Hid (x.go = none → x.gn = 0 ∧ x.gc = 0) := hno
 clear hx hI hno
 go_enter Tryz.func18, Tryz.ntmps18
 go_wp2_with fail
 go_loopg [3, 4] 1 (fun q v3 v4 wx => ∃ i : Nat, v4 = .int .i64 i ∧ i + q = 1 ∧ Hid ((i = 0 ∧ wx.ownsRow w.heap.size 22 1 v3 0 [] ∨ i = 1 ∧ wx.ownsRow w.heap.size 22 1 v3 (2 + x.gn) (lsV x)) ∧ Below w.heap.size w wx))
 case atStart => exact ⟨0, rfl, by omega, ⟨.inl ⟨rfl, World.ownsRow_nil _ _ _ _⟩, Below.refl _ _⟩⟩
 case round =>
  obtain ⟨i, rfl, hk, HP⟩ := hrel
  by_cases hlt : i < 1
  ·obtain rfl : i = 0 := by omega
   obtain ⟨q, rfl⟩ : ∃ q, gk = q + 1 := ⟨gk - 1, by omega⟩
   have HO : Hid _ := (HP.out.1.resolve_right (fun h => by omega)).2
   have HB : Hid (Below w.heap.size w wr) := HP.out.2
   have HK : Hid (q = 0) := by unfold Hid; omega
   clear HP hk
   go_upto_region 5 with fail
   have sV : Below w.heap.size w wr.drew := HB.out.drew
   refine wp_region_noPanic ?_
   refine wp_region_held_drew (S := (fun V => Below w.heap.size w V)) (by kernel_rfl) sV (fun _ => ?_)
   refine takeH 11 (i := 0) (v := ?_) rfl rfl (by kernel_rfl) (by kernel_rfl) (by kernel_rfl) (fun _ _ _ h => h) (Or.inl ⟨by kernel_rfl, ?_⟩) sV ?_
   rotate_left
   ·intro w' hSw; obtain ⟨c0, c1, c2, c3, c4, c5⟩ := cells6 (kept hSw HI.out); go_simp; try with_reducible rfl
   try simp only [Act.put, List.setIfInBounds_toArray, List.set_cons_zero, List.set_cons_succ]
   refine takeH 12 (i := 1) (v := ?_) rfl rfl (by kernel_rfl) (by kernel_rfl) (by kernel_rfl) (fun _ _ _ h => h) (Or.inl ⟨by kernel_rfl, ?_⟩) sV ?_
   rotate_left
   ·intro w' hSw; obtain ⟨c0, c1, c2, c3, c4, c5⟩ := cells6 (kept hSw HI.out); go_simp; try with_reducible rfl
   try simp only [Act.put, List.setIfInBounds_toArray, List.set_cons_zero, List.set_cons_succ]
   refine takeH 13 (i := 2) (v := ?_) rfl rfl (by kernel_rfl) (by kernel_rfl) (by kernel_rfl) (fun _ _ _ h => h) (Or.inl ⟨by kernel_rfl, ?_⟩) sV ?_
   rotate_left
   ·intro w' hSw; obtain ⟨c0, c1, c2, c3, c4, c5⟩ := cells6 (kept hSw HI.out); go_simp; try with_reducible rfl
   try simp only [Act.put, List.setIfInBounds_toArray, List.set_cons_zero, List.set_cons_succ]
   refine takeH 14 (i := 3) (v := ?_) rfl rfl (by kernel_rfl) (by kernel_rfl) (by kernel_rfl) (fun _ _ _ h => h) (Or.inl ⟨by kernel_rfl, ?_⟩) sV ?_
   rotate_left
   ·intro w' hSw; obtain ⟨c0, c1, c2, c3, c4, c5⟩ := cells6 (kept hSw HI.out); go_simp; try with_reducible rfl
   try simp only [Act.put, List.setIfInBounds_toArray, List.set_cons_zero, List.set_cons_succ]
   refine takeH 15 (i := 4) (v := ?_) rfl rfl (by kernel_rfl) (by kernel_rfl) (by kernel_rfl) (fun _ _ _ h => h) (Or.inl ⟨by kernel_rfl, ?_⟩) sV ?_
   rotate_left
   ·intro w' hSw; obtain ⟨c0, c1, c2, c3, c4, c5⟩ := cells6 (kept hSw HI.out); go_simp; try with_reducible rfl
   try simp only [Act.put, List.setIfInBounds_toArray, List.set_cons_zero, List.set_cons_succ]
   refine takeH 16 (i := 5) (v := ?_) rfl rfl (by kernel_rfl) (by kernel_rfl) (by kernel_rfl) (fun _ _ _ h => h) (Or.inl ⟨by kernel_rfl, ?_⟩) sV ?_
   rotate_left
   ·intro w' hSw; obtain ⟨c0, c1, c2, c3, c4, c5⟩ := cells6 (kept hSw HI.out); go_simp; try with_reducible rfl
   try simp only [Act.put, List.setIfInBounds_toArray, List.set_cons_zero, List.set_cons_succ]
   refine takeH 17 (i := 6) (v := ?_) rfl rfl (by kernel_rfl) (by kernel_rfl) (by kernel_rfl) (fun _ _ _ h => h) (Or.inl ⟨by kernel_rfl, ?_⟩) sV ?_
   rotate_left
   ·intro w' hSw; obtain ⟨c0, c1, c2, c3, c4, c5⟩ := cells6 (kept hSw HI.out); go_simp; try with_reducible rfl
   try simp only [Act.put, List.setIfInBounds_toArray, List.set_cons_zero, List.set_cons_succ]
   refine takeH 18 (i := 7) (v := ?_) rfl rfl (by kernel_rfl) (by kernel_rfl) (by kernel_rfl) (fun _ _ _ h => h) (Or.inl ⟨by kernel_rfl, ?_⟩) sV ?_
   rotate_left
   ·intro w' hSw; obtain ⟨c0, c1, c2, c3, c4, c5⟩ := cells6 (kept hSw HI.out); go_simp; try with_reducible rfl
   try simp only [Act.put, List.setIfInBounds_toArray, List.set_cons_zero, List.set_cons_succ]
   refine takeH 19 (i := 8) (v := ?_) rfl rfl (by kernel_rfl) (by kernel_rfl) (by kernel_rfl) (fun _ _ _ h => h) (Or.inl ⟨by kernel_rfl, ?_⟩) sV ?_
   rotate_left
   ·intro w' hSw; obtain ⟨c0, c1, c2, c3, c4, c5⟩ := cells6 (kept hSw HI.out); go_simp; try with_reducible rfl
   try simp only [Act.put, List.setIfInBounds_toArray, List.set_cons_zero, List.set_cons_succ]
   refine takeH 20 (i := 9) (v := ?_) rfl rfl (by kernel_rfl) (by kernel_rfl) (by kernel_rfl) (fun _ _ _ h => h) (Or.inl ⟨by kernel_rfl, ?_⟩) sV ?_
   rotate_left
   ·intro w' hSw; obtain ⟨c0, c1, c2, c3, c4, c5⟩ := cells6 (kept hSw HI.out); go_simp; try with_reducible rfl
   try simp only [Act.put, List.setIfInBounds_toArray, List.set_cons_zero, List.set_cons_succ]
   refine takeH 21 (i := 10) (v := ?_) rfl rfl (by kernel_rfl) (by kernel_rfl) (by kernel_rfl) (fun _ _ _ h => h) (Or.inl ⟨by kernel_rfl, ?_⟩) sV ?_
   rotate_left
   ·intro w' hSw; obtain ⟨c0, c1, c2, c3, c4, c5⟩ := cells6 (kept hSw HI.out); go_simp; try with_reducible rfl
   try simp only [Act.put, List.setIfInBounds_toArray, List.set_cons_zero, List.set_cons_succ]
   refine wpAnyH_ready (rs := [11]) (by kernel_rfl) (by simp) ?_
   refine consH _ rfl (hopBK 22 (.slice x.co x.cn x.cc) (.slice x.ro x.rn x.rc) 22 rfl rfl rfl (by kernel_rfl) fun I V1 hI1 b1 => ?_) AllReadyH.nil
   have s1 : Below w.heap.size w V1 := to_call sV b1
   have o1 := owns_keepT HO.out fun k cur hc => b1.block k (blk_lt hc)
   refine ⟨s1, ?_⟩
   try simp only [Act.put, List.setIfInBounds_toArray, List.set_cons_zero, List.set_cons_succ]
   refine wpAnyH_ready (rs := [12]) (by kernel_rfl) (by simp) ?_
   refine consH _ rfl (hopL rfl (append_gsJ Tryz.underlying24 Tryz.infoFsJ rfl (by decide) (by decide) V1 (by rfl) _ _ (by rfl) w.heap.size _ 0 [] (by kernel_rfl) o1 ⟨I, 0, none⟩ 2 2 [(.slice x.co x.cn x.cc), (.slice x.ro x.rn x.rc)] (by kernel_rfl) rfl (news_twoJ hI1) (oneII _ _ rfl rfl) (by omega) s1.size fun v5 w5 o5 g5 => ?_)) AllReadyH.nil
   have q5 : Below w.heap.size w w5 := s1.trans (g5.below (fun k hk => (World.ownsRow.lt o1 k hk).1) s1.size)
   refine (And.intro q5 ?_ : _ ∧ _)
   try simp only [Act.put, List.setIfInBounds_toArray, List.set_cons_zero, List.set_cons_succ]
   refine takeH 3 (i := 13) (v := ?_) rfl rfl (by kernel_rfl) (by kernel_rfl) (by kernel_rfl) (fun _ _ _ h => h) (Or.inl ⟨by kernel_rfl, ?_⟩) q5 ?_
   rotate_left
   ·intro w' hSw; go_simp; try with_reducible rfl
   try simp only [Act.put, List.setIfInBounds_toArray, List.set_cons_zero, List.set_cons_succ]
   refine wpAnyH_done (by kernel_rfl) ?_ _
   refine NoPanic.normal ?_
   try simp only [Act.put, List.setIfInBounds_toArray, List.set_cons_zero, List.set_cons_succ]
   have P5 : Hid (w5.ownsRow w.heap.size 22 1 v5 2 [(.slice x.co x.cn x.cc), (.slice x.ro x.rn x.rc)] ∧ Below w.heap.size w w5) := ⟨o5, q5⟩
   clear o5 g5 q5 s1 o1 b1 hI1 sV HO HB
   obtain ⟨c0, c1, c2, c3, c4, c5⟩ := cells6 (kept P5.out.2 HI.out)
   go_wp2_with (at_builtin; refine append_gnJ Tryz.underlying24 Tryz.infoFsJ rfl (by decide) (by decide) w5 (by rfl) _ _ (by rfl) w.heap.size v5 2 _ (by rfl) P5.out.1 x.go x.gn x.gc (gvL x) (by rfl) HNO.out (by rw [gvL_len]; omega) (rdG_news (HX.out.later P5.out.2).g) (gvL_one x) (by omega) P5.out.2.size ?_; intro v6 w6 o6 g6)
   have P6 : Hid (w6.ownsRow w.heap.size 22 1 v6 (2 + x.gn) (lsV x) ∧ Below w.heap.size w w6) := ⟨o6, P5.out.2.trans (g6.below (fun k hk => (World.ownsRow.lt P5.out.1 k hk).1) P5.out.2.size)⟩
   go_roundg q
   case measure => omega
   case rel => exact ⟨1, rfl, by have := HK.out; omega, ⟨.inr ⟨rfl, P6.out.1⟩, P6.out.2⟩⟩
  ·have hd : decide ((i : Int) < 1) = false := decide_eq_false (by omega)
   have HO : Hid _ := And.intro (HP.out.1.resolve_left (fun h => by omega)).2 HP.out.2
   clear HP hk
   go_wp2_with fail
   go_ret
   exact ⟨_, rfl, HO.out.1, HO.out.2⟩
end Go.Proofs.YtjeghdmclmelfaaGreat
