import Derived.Test.YtbgjimkgidafdaaJYd
import Derived.Test.YtbgjimkgidafdaaLZonoChecks
namespace Go.Proofs.Ytbgjimkgidafdaa
open Go.RowKit Go.Shelf
set_option linter.unusedVariables false
set_option linter.unusedSimpArgs false

theorem ex_neqJ {ρ : Operand → Value} (o : Oper) (p q : Operand) (t : TypeId) (ho : o.op = .binOp .neq 9 p q t) (s : ByteArray) (hp : ρ p = .string s) (hq : ρ q = .string s) (w : World) : (execOp ρ o).run Try.prog w = .ok (.value (.bool false)) w := by
  unfold execOp
  simp only [ho, hp, hq]
  go_simp
set_option maxRecDepth 100000 in
set_option maxHeartbeats 8000000 in
theorem zonoNews_walk (co go : Option Addr) (cn cc gn gc : Nat) (cs : List Nat) (gv : Nat → Option Addr × Nat × Nat) (gs : List (List Nat)) (w : World) (hc : RdF w co cn cc cs) (hg : RdGs w go gn gc gv gs) (hcn : co = none → cn = 0 ∧ cc = 0) (hcl : cn ≤ 1048576) (hgl : gn ≤ 1048576) (hgn : ∀ k, k < gn → ((gv k).1 = none → (gv k).2.1 = 0 ∧ (gv k).2.2 = 0) ∧ (gv k).2.1 ≤ 1048576) :
    Calls Try.prog 4 #[.slice co cn cc, .slice go gn gc] w fun e w' => e = .returned (.bool true) ∧ Below w.heap.size w w' := by
  have HLN : Hid (cs.length = cn ∧ gs.length = gn) := ⟨hc.length, hg.length⟩
  have HLL : Hid (∀ k, k < gn → (gs[k]?.getD []).length = (gv k).2.1 ∧ (gs[k]?.getD []).length ≤ 1048576) := fun k hk => ⟨(hg.each k hk).length, by rw [(hg.each k hk).length]; exact (hgn k hk).2⟩
  have H64 : Hid ((∀ x ∈ cs, x < 18446744073709551616) ∧ ∀ l ∈ gs, ∀ x ∈ l, x < 18446744073709551616) := by
    refine ⟨hc.lt, fun l hl => ?_⟩
    obtain ⟨j, hj, rfl⟩ := List.getElem_of_mem hl
    have h1 := hg.each j (by rw [← hg.length]; exact hj)
    rw [List.getElem?_eq_getElem hj] at h1
    exact h1.lt
  have HWC : Hid (∀ W', Below w.heap.size w W' → _) := fun W' hb => wide_any co cn cc cs W' (hc.later hb) hcn hcl
  have HWG : Hid (∀ k, k < gn → ∀ W', Below w.heap.size w W' → Calls Try.prog 12 #[.slice (gv k).1 (gv k).2.1 (gv k).2.2] W' fun e w' => ∃ g c, e = .returned (.slice (some ⟨g, 0, none⟩) (gs[k]?.getD []).length c) ∧ WdB w' W'.heap.size g c (gs[k]?.getD []) ∧ Below W'.heap.size W' w') := fun k hk W' hb => by
    have h1 := (hg.later hb).each k hk
    have h2 := h1.length
    have h3 := wide_any _ _ _ _ W' h1 (hgn k hk).1 (hgn k hk).2
    rw [h2]
    exact h3
  have HBG : Hid (∀ k, k < gn → ∀ W', Below w.heap.size w W' → _) := fun k hk W' hb => bits10_any _ _ _ _ W' ((hg.later hb).each k hk) (hgn k hk).2
  have HGR : Hid (∀ W', Below w.heap.size w W' → RdGs W' go gn gc gv gs) := fun W' hb => hg.later hb
  have HCR : Hid (∀ W', Below w.heap.size w W' → RdF W' co cn cc cs) := fun W' hb => hc.later hb
  clear hc hg hcn hgn
  go_enter Try.func4, Try.ntmps4
  go_upto_region 2 with (go_at_call 12; refine Calls.mono (HWC.out _ (Below.refl _ _)) ?_; rintro e w1 ⟨ga, ca, rfl, oa, ba⟩)
  have PA : Hid (WdB w1 w.heap.size ga ca cs ∧ Below w.heap.size w w1) := ⟨oa, ba⟩
  clear oa ba HWC
  go_wp2_with fail
  go_loopg [6, 7, 8] gn (fun q v6 v7 v8 wx => ∃ (k : Nat) (vs ts : List Value), v8 = .int .i64 k ∧ k + q = gn ∧ Hid (wx.ownsRow w.heap.size 22 1 v6 k vs) ∧ Hid (ColW wx w.heap.size (gs.take k) vs) ∧ Hid (OfL wx w.heap.size [] [] [] (gs.take k) (.slice none 0 0) (.slice none 0 0) (.slice none 0 0) v7 ts) ∧ Hid (WdB wx w.heap.size ga ca cs ∧ Below w.heap.size w wx))
  case atStart => exact ⟨0, [], [], rfl, by omega, World.ownsRow_nil _ _ _ _, ColW.nil _ _, OfL.nil _ _, PA⟩
  case round =>
    obtain ⟨k, vs, ts, rfl, hk, HO, HCW, HOF, HP⟩ := hrel
    clear PA
    have hsr := HP.out.2.size
    by_cases hlt : k < gn
    · have hd : decide ((k : Int) < (gn : Int)) = true := decide_eq_true (by omega)
      obtain ⟨q, rfl⟩ : ∃ q, gk = q + 1 := ⟨gk - 1, by omega⟩
      have HIG : Hid _ := hk
      have HTL : Hid (ts.length + 1 ≤ 4000000) := by unfold Hid; have := HOF.out.len; rw [List.length_take] at this; omega
      obtain ⟨gb, goff, rfl⟩ : ∃ gb goff, go = some ⟨gb, goff, none⟩ := by
        rcases (HGR.out wr HP.out.2).cells with h0 | ⟨b, off, e, _⟩
        · omega
        · exact ⟨b, off, e⟩
      have c0 := rdGs_at (HGR.out wr HP.out.2) hlt
      clear hk
      go_upto_region 8 with (first
        | (go_at_call 12; refine Calls.mono (HWG.out k hlt _ HP.out.2) ?_; rintro e w8 ⟨g8, c8, rfl, o8, b8⟩; have O8 : Hid (w8.ownsRow w.heap.size 22 1 _ k vs) := owns_keepT HO.out fun k cur hc => b8.block k (blk_lt hc); have s8 := b8.size)
        | (at_builtin; refine append_gsJ Try.underlying24 Try.infoFsJ rfl (by decide) (by decide) _ (by rfl) _ _ (by rfl) w.heap.size _ k vs (by rfl) (World.ownsRow.alloc O8.out _) ⟨w8.heap.size, 0, none⟩ 1 1 [.slice (some ⟨g8, 0, none⟩) (gs[k]?.getD []).length c8] (by rfl) rfl (news_oneJ (heap_alloc_new w8 _)) (oneI _ rfl) (by omega) (by simp only [alloc_size]; omega) ?_; intro v9 w9 o9 g9))
      have hk9 := fun (k : Nat) (cur : Array Value) (t : TypeId) (ht : t ≠ 22) (hc : w8.heap[k]? = some (.cells cur t)) => (grw_types (World.ownsRow.alloc O8.out _) g9 k cur t ht (alloc_kept hc _)).trans (alloc_kept hc _ |>.trans hc.symm)
      have q9 : Below w.heap.size w w9 := ((to_call HP.out.2 b8).alloc (to_call HP.out.2 b8).size _).trans (g9.below (fun k hk => (World.ownsRow.lt O8.out k hk).1) (by simp only [alloc_size]; omega))
      have E9 : Hid (w9.ownsRow w.heap.size 22 1 v9 (k + 1) (vs ++ [.slice (some ⟨g8, 0, none⟩) (gs[k]?.getD []).length c8]) ∧ ColW w9 w.heap.size (gs.take k ++ [gs[k]?.getD []]) (vs ++ [.slice (some ⟨g8, 0, none⟩) (gs[k]?.getD []).length c8]) ∧ OfL w9 w.heap.size [] [] [] (gs.take k) (.slice none 0 0) (.slice none 0 0) (.slice none 0 0) _ ts ∧ WdB w9 w.heap.size ga ca cs ∧ Below w.heap.size w w9) :=
        ⟨o9, ((HCW.out.keep fun k cur hc => b8.block k (blk_lt hc)).snoc (o8.mono hsr)).keep fun k cur hc => hk9 k cur _ (by decide) hc, (HOF.out.later b8).keepF hk9, (HP.out.1.later b8).keep fun k cur hc => hk9 k cur _ (by decide) hc, q9⟩
      clear o9 g9 hk9 q9 o8 b8 O8 s8 c0 HO HCW HOF HP hsr
      have hsr := E9.out.2.2.2.2.size
      have c0 := rdGs_at (HGR.out w9 E9.out.2.2.2.2) hlt
      go_wp2_with (first
        | (go_at_call 13; refine Calls.mono (HBG.out k hlt _ E9.out.2.2.2.2) ?_; rintro e wA ⟨vt, rfl, oA, bA⟩; obtain ⟨aT, pT, hvt, -⟩ := owns_slice oA; subst hvt; have LA := E9.out.2.2.1.later bA; have sA := bA.size)
        | (at_builtin; refine append_gsJ Try.underlying28 Try.infoUsJ rfl (by decide) (by decide) _ (by rfl) _ _ (by rfl) w.heap.size _ ts.length ts (by rfl) (World.ownsRow.alloc LA.g _) ⟨wA.heap.size, 0, none⟩ 1 1 [.slice aT (gs[k]?.getD []).length pT] (by rfl) rfl (news_oneJ (heap_alloc_new wA _)) (oneI _ rfl) HTL.out (by simp only [alloc_size]; omega) ?_; intro vB wB oB gB))
      have AA : Below wA.heap.size wA (wA.alloc (.cells #[.slice aT (gs[k]?.getD []).length pT] 27)) := (Below.refl _ wA).alloc (Nat.le_refl _) _
      have LB := (LA.later AA).pushG (us := gs[k]?.getD []) gB oB (owns_keepT (owns_monoJ oA hsr) fun k cur hc => AA.block k (blk_lt hc))
      have hkB := fun (k : Nat) (cur : Array Value) (t : TypeId) (ht : t ≠ 27) (hc : w9.heap[k]? = some (.cells cur t)) => (grw_types (World.ownsRow.alloc LA.g _) gB k cur t ht (alloc_kept (kept bA hc) _)).trans (alloc_kept (kept bA hc) _ |>.trans hc.symm)
      have qB : Below w.heap.size w wB := ((to_call E9.out.2.2.2.2 bA).alloc (to_call E9.out.2.2.2.2 bA).size _).trans (gB.below (fun k hk => (World.ownsRow.lt LA.g k hk).1) (by simp only [alloc_size]; omega))
      have EB : Hid (wB.ownsRow w.heap.size 22 1 v9 (k + 1) (vs ++ [.slice (some ⟨g8, 0, none⟩) (gs[k]?.getD []).length c8]) ∧ ColW wB w.heap.size (gs.take k ++ [gs[k]?.getD []]) (vs ++ [.slice (some ⟨g8, 0, none⟩) (gs[k]?.getD []).length c8]) ∧ OfL wB w.heap.size [] [] [] (gs.take k ++ [gs[k]?.getD []]) (.slice none 0 0) (.slice none 0 0) (.slice none 0 0) vB (ts ++ [.slice aT (gs[k]?.getD []).length pT]) ∧ WdB wB w.heap.size ga ca cs ∧ Below w.heap.size w wB) :=
        ⟨owns_keepT E9.out.1 fun k cur hc => hkB k cur _ (by decide) hc, E9.out.2.1.keep fun k cur hc => hkB k cur _ (by decide) hc, LB, E9.out.2.2.2.1.keep fun k cur hc => hkB k cur _ (by decide) hc, qB⟩
      clear E9 LA LB AA hkB qB oA oB gB bA sA c0 hsr
      go_roundg q
      case measure => omega
      case rel =>
        obtain ⟨h1, h2, h3, h4, h5⟩ := EB.out
        rw [← take_snocG (by rw [HLN.out.2]; exact hlt)] at h2 h3
        exact ⟨k + 1, _, _, by go_num, by have := HIG.out; omega, h1, h2, h3, h4, h5⟩
    · have hd : decide ((k : Int) < (gn : Int)) = false := decide_eq_false (by omega)
      obtain rfl : k = gn := by omega
      have CW := HCW.out
      have OF := HOF.out
      rw [List.take_of_length_le (by rw [HLN.out.2]; exact Nat.le_refl _)] at CW OF
      obtain ⟨bo, bc, bv, hbv, hbr, hbw⟩ := CW.rd HO.out HLN.out.2
      subst hbv
      obtain ⟨tq, tc, tv, htv, htr⟩ := OF.gu
      subst htv
      have HNZ : Hid (∀ W', Below wr.heap.size wr W' → _) := fun W' hb => newZ_any (some ⟨ga, 0, none⟩) bo cn ca k bc cs bv gs W' (by have h := (HP.out.1.later hb).rd; rw [HLN.out.1] at h; exact h) (hbr.later hb) hcl hgl
      have HRB : Hid (RdGs wr bo k bc bv gs ∧ (∀ j, j < k → ∃ b c, bv j = (some ⟨b, 0, none⟩, (gs[j]?.getD []).length, c) ∧ WdB wr w.heap.size b c (gs[j]?.getD [])) ∧ RdGu wr tq gs.length tc tv gs) := ⟨hbr, hbw, htr⟩
      have hln := HLN.out.2
      rw [hln]
      unfold zRow at HNZ
      clear hbr hbw htr CW OF HO HCW HOF HWG HBG hln
      go_upto_region 10 with (go_at_call 14; refine Calls.mono (HNZ.out _ (Below.refl _ _)) ?_; rintro e w3 ⟨y, rfl, hy, y1, y2, y3, y4, y5, y6, b3⟩; have HY : Hid (y.N = (nwA cs gs).N ∧ y.bad = (nwA cs gs).bad ∧ y.cs = (nwA cs gs).cs ∧ y.rs = (nwA cs gs).rs ∧ y.ids = (nwA cs gs).ids ∧ y.gs = (nwA cs gs).gs) := ⟨y1, y2, y3, y4, y5, y6⟩; clear y1 y2 y3 y4 y5 y6)
      have A3 : Below w3.heap.size w3 (w3.alloc (.cells #[.int .i64 y.N, .slice y.co y.cn y.cc, .slice y.io y.dn y.dc, .slice y.go y.gn y.gc, .slice y.ro y.rn y.rc, .bool y.bad] 26)).drew := ((Below.refl _ w3).alloc (Nat.le_refl _) _).drew
      have SX : (w3.alloc (.cells #[.int .i64 y.N, .slice y.co y.cn y.cc, .slice y.io y.dn y.dc, .slice y.go y.gn y.gc, .slice y.ro y.rn y.rc, .bool y.bad] 26)).drew.heap[w3.heap.size]? = some (.cells #[.int .i64 y.N, .slice y.co y.cn y.cc, .slice y.io y.dn y.dc, .slice y.go y.gn y.gc, .slice y.ro y.rn y.rc, .bool y.bad] 26) := heap_alloc_new w3 _
      have bw3 : Below w.heap.size w w3 := to_call HP.out.2 b3
      have HBC : Hid (∀ W', Below w3.heap.size w3 W' → _) := fun W' hb => bits10_any co cn cc cs W' (HCR.out W' (to_call bw3 hb)) hcl
      have HNW : Hid (∀ W', Below w3.heap.size w3 W' → ∀ a p, RdUs W' a cs.length p cs → Calls Try.prog 16 #[.slice a cs.length p, .slice tq k tc] W' fun e w' => ∃ u : ZD, e = .returned (.agg #[.int .i64 u.N, .slice u.co u.cn u.cc, .slice u.io u.dn u.dc, .slice u.go u.gn u.gc, .slice u.ro u.rn u.rc, .bool u.bad]) ∧ ZU w' u ∧ bitsB y u = true ∧ Below W'.heap.size W' w') := fun W' hb a p h => by
        have htr := (HRB.out.2.2.later (b3.trans (hb.mono b3.size)))
        rw [HLN.out.2] at htr
        refine Calls.mono (refNew_any a tq cs.length p k tc cs tv gs W' h htr (by rw [HLN.out.1]; exact hcl) hgl (fun j hj => by rw [← (htr.each j hj).length]; exact (HLL.out j hj).2) H64.out.1 H64.out.2) ?_
        rintro e w' ⟨u, he, hu, u1, u2, u3, u4, u5, u6, hb'⟩
        refine ⟨u, he, hu, ?_, hb'⟩
        obtain ⟨y1, y2, y3, y4, y5, y6⟩ := HY.out
        unfold bitsB
        rw [y1, y2, y3, y4, y5, y6, u1, u2, u3, u4, u5, u6]
        simp
      have HSM : Hid (∀ W', Below w3.heap.size w3 W' → ∀ u, ZU W' u → bitsB y u = true → Calls Try.prog 15 #[.agg #[.int .i64 y.N, .slice y.co y.cn y.cc, .slice y.io y.dn y.dc, .slice y.go y.gn y.gc, .slice y.ro y.rn y.rc, .bool y.bad], .agg #[.int .i64 u.N, .slice u.co u.cn u.cc, .slice u.io u.dn u.dc, .slice u.go u.gn u.gc, .slice u.ro u.rn u.rc, .bool u.bad]] W' fun e w' => e = .returned (.bool true) ∧ Below W'.heap.size W' w') := fun W' hb u hu hyu => by
        have h := refSameZ_any y u W' (hy.later hb) hu
        rw [hyu] at h
        exact h
      have HWA : Hid (∀ W', Below w3.heap.size w3 W' → WdB W' w.heap.size ga ca cs) := fun W' hb => (HP.out.1.later b3).later hb
      have HKA : Hid (∀ W', Below w3.heap.size w3 W' → Calls Try.prog 17 #[.slice (some ⟨ga, 0, none⟩) cn ca] W' fun e w' => e = .returned (.bool true) ∧ w' = W') := fun W' hb => by
        have h := kept_any ga ca cs _ W' (HWA.out W' hb) (by rw [HLN.out.1]; exact hcl)
        rw [HLN.out.1] at h
        exact h
      have HTA : Hid (∀ W', Below w3.heap.size w3 W' → _) := fun W' hb => text_any (some ⟨ga, 0, none⟩) cn ca cs W' (by have h := (HWA.out W' hb).rd; rw [HLN.out.1] at h; exact h) hcl
      have HTC : Hid (∀ W', Below w3.heap.size w3 W' → _) := fun W' hb => text_any co cn cc cs W' (HCR.out W' (to_call bw3 hb)) hcl
      have HRB3 : Hid (RdGs w3 bo k bc bv gs ∧ (∀ j, j < k → ∃ b c, bv j = (some ⟨b, 0, none⟩, (gs[j]?.getD []).length, c) ∧ WdB w3 w.heap.size b c (gs[j]?.getD [])) ∧ Below w.heap.size w w3) := ⟨HRB.out.1.later b3, fun j hj => by obtain ⟨b, c, h1, h2⟩ := HRB.out.2.1 j hj; exact ⟨b, c, h1, h2.later b3⟩, bw3⟩
      obtain ⟨V0, hV0⟩ : ∃ V0, w3.alloc (.cells #[.int .i64 y.N, .slice y.co y.cn y.cc, .slice y.io y.dn y.dc, .slice y.go y.gn y.gc, .slice y.ro y.rn y.rc, .bool y.bad] 26) = V0 := ⟨_, rfl⟩
      obtain ⟨B9, hB9⟩ : ∃ B9, w3.heap.size = B9 := ⟨_, rfl⟩
      rw [hV0] at A3 SX ⊢
      rw [hB9] at SX ⊢
      clear HRB HP HNZ HY b3 hV0 hB9 bw3 HWA hsr hy
      obtain ⟨V, hV⟩ : ∃ V, V0.drew = V := ⟨_, rfl⟩
      refine wp_region_noPanic ?_
      refine wp_region_held_drew (S := (fun V => V.heap[B9]? = some (.cells #[.int .i64 y.N, .slice y.co y.cn y.cc, .slice y.io y.dn y.dc, .slice y.go y.gn y.gc, .slice y.ro y.rn y.rc, .bool y.bad] 26))) (by kernel_rfl) SX (fun _ => ?_)
      rw [hV] at SX A3 ⊢
      have qV := A3
      clear hV A3
      refine takeH 38 (i := 0) (v := .agg #[.int .i64 y.N, .slice y.co y.cn y.cc, .slice y.io y.dn y.dc, .slice y.go y.gn y.gc, .slice y.ro y.rn y.rc, .bool y.bad]) rfl rfl (by kernel_rfl) (by kernel_rfl) (by kernel_rfl) (fun _ _ _ h => h) (Or.inl ⟨by kernel_rfl, fun w' hSw => ex_loadRJ _ 26 _ rfl B9 (by kernel_rfl) w' _ hSw _ Try.underlying26 rfl 6 Try.infoZ rfl⟩) SX ?_
      try simp only [Act.put, List.setIfInBounds_toArray, List.set_cons_zero, List.set_cons_succ]
      refine takeH 39 (i := 1) (v := ?_) rfl rfl (by kernel_rfl) (by kernel_rfl) (by kernel_rfl) (fun _ _ _ h => h) (Or.inl ⟨by kernel_rfl, ?_⟩) SX ?_
      rotate_left
      · intro w' hSw; skip; go_simp; try with_reducible rfl
      try simp only [Act.put, List.setIfInBounds_toArray, List.set_cons_zero, List.set_cons_succ]
      refine takeH 41 (i := 3) (v := ?_) rfl rfl (by kernel_rfl) (by kernel_rfl) (by kernel_rfl) (fun _ _ _ h => h) (Or.inl ⟨by kernel_rfl, ?_⟩) SX ?_
      rotate_left
      · intro w' hSw; skip; go_simp; try with_reducible rfl
      try simp only [Act.put, List.setIfInBounds_toArray, List.set_cons_zero, List.set_cons_succ]
      refine wpAnyH_ready (rs := [2]) (by kernel_rfl) (by simp) ?_
      refine consH _ rfl (hopCd 40 rfl (by kernel_rfl) rfl (by kernel_rfl) (Calls.mono (HBC.out _ qV) ?_)) AllReadyH.nil
      rintro e V1 ⟨v1, rfl, o1, hb⟩
      obtain ⟨a1, p1, rfl, d1⟩ := rdU_of o1
      have qV1 : Below w3.heap.size w3 V1 := to_call qV hb
      have SX := kept hb SX
      clear hb o1
      refine ⟨_, rfl, SX, ?_⟩
      try simp only [Act.put, List.setIfInBounds_toArray, List.set_cons_zero, List.set_cons_succ]
      refine wpAnyH_ready (rs := [4]) (by kernel_rfl) (by simp) ?_
      refine consH _ rfl (hopCd 42 rfl (by kernel_rfl) rfl (by kernel_rfl) (Calls.mono (HNW.out _ qV1 _ _ d1) ?_)) AllReadyH.nil
      rintro e V2 ⟨u, rfl, hu, hyu, hb⟩
      have qV2 : Below w3.heap.size w3 V2 := to_call qV1 hb
      have SX := kept hb SX
      clear hb d1
      refine ⟨_, rfl, SX, ?_⟩
      try simp only [Act.put, List.setIfInBounds_toArray, List.set_cons_zero, List.set_cons_succ]
      refine wpAnyH_ready (rs := [5]) (by kernel_rfl) (by simp) ?_
      refine consH _ rfl (hopCd 43 rfl (by kernel_rfl) rfl (by kernel_rfl) (Calls.mono (HSM.out _ qV2 u hu hyu) ?_)) AllReadyH.nil
      rintro e V3 ⟨rfl, hb⟩
      have qV3 : Below w3.heap.size w3 V3 := to_call qV2 hb
      have SX := kept hb SX
      clear hb hu hyu
      refine ⟨_, rfl, SX, ?_⟩
      try simp only [Act.put, List.setIfInBounds_toArray, List.set_cons_zero, List.set_cons_succ]
      refine takeH 44 (i := 6) (v := ?_) rfl rfl (by kernel_rfl) (by kernel_rfl) (by kernel_rfl) (fun _ _ _ h => h) (Or.inl ⟨by kernel_rfl, ?_⟩) SX ?_
      rotate_left
      · intro w' hSw; skip; go_simp; try with_reducible rfl
      try simp only [Act.put, List.setIfInBounds_toArray, List.set_cons_zero, List.set_cons_succ]
      refine takeH 45 (i := 7) (v := ?_) rfl rfl (by kernel_rfl) (by kernel_rfl) (by kernel_rfl) (fun _ _ _ h => h) (Or.inl ⟨by kernel_rfl, ?_⟩) SX ?_
      rotate_left
      · intro w' hSw; skip; go_simp; try with_reducible rfl
      try simp only [Act.put, List.setIfInBounds_toArray, List.set_cons_zero, List.set_cons_succ]
      refine takeH 46 (i := 8) (v := ?_) rfl rfl (by kernel_rfl) (by kernel_rfl) (by kernel_rfl) (fun _ _ _ h => h) (Or.inl ⟨by kernel_rfl, ?_⟩) SX ?_
      rotate_left
      · intro w' hSw; skip; go_simp; try with_reducible rfl
      try simp only [Act.put, List.setIfInBounds_toArray, List.set_cons_zero, List.set_cons_succ]
      refine wpAnyH_ready (rs := [9]) (by kernel_rfl) (by simp) ?_
      refine consH _ rfl (hopCd 47 rfl (by kernel_rfl) rfl (by kernel_rfl) (Calls.mono (HKA.out _ qV3) ?_)) AllReadyH.nil
      rintro e V4 ⟨rfl, hb⟩
      rw [hb]
      clear hb
      refine ⟨_, rfl, SX, ?_⟩
      try simp only [Act.put, List.setIfInBounds_toArray, List.set_cons_zero, List.set_cons_succ]
      refine takeH 48 (i := 10) (v := ?_) rfl rfl (by kernel_rfl) (by kernel_rfl) (by kernel_rfl) (fun _ _ _ h => h) (Or.inl ⟨by kernel_rfl, ?_⟩) SX ?_
      rotate_left
      · intro w' hSw; skip; go_simp; try with_reducible rfl
      try simp only [Act.put, List.setIfInBounds_toArray, List.set_cons_zero, List.set_cons_succ]
      refine takeH 49 (i := 11) (v := ?_) rfl rfl (by kernel_rfl) (by kernel_rfl) (by kernel_rfl) (fun _ _ _ h => h) (Or.inl ⟨by kernel_rfl, ?_⟩) SX ?_
      rotate_left
      · intro w' hSw; skip; go_simp; try with_reducible rfl
      try simp only [Act.put, List.setIfInBounds_toArray, List.set_cons_zero, List.set_cons_succ]
      refine takeH 50 (i := 12) (v := ?_) rfl rfl (by kernel_rfl) (by kernel_rfl) (by kernel_rfl) (fun _ _ _ h => h) (Or.inl ⟨by kernel_rfl, ?_⟩) SX ?_
      rotate_left
      · intro w' hSw; skip; go_simp; try with_reducible rfl
      try simp only [Act.put, List.setIfInBounds_toArray, List.set_cons_zero, List.set_cons_succ]
      refine takeH 51 (i := 13) (v := ?_) rfl rfl (by kernel_rfl) (by kernel_rfl) (by kernel_rfl) (fun _ _ _ h => h) (Or.inl ⟨by kernel_rfl, ?_⟩) SX ?_
      rotate_left
      · intro w' hSw; skip; go_simp; try with_reducible rfl
      try simp only [Act.put, List.setIfInBounds_toArray, List.set_cons_zero, List.set_cons_succ]
      refine takeH 54 (i := 16) (v := ?_) rfl rfl (by kernel_rfl) (by kernel_rfl) (by kernel_rfl) (fun _ _ _ h => h) (Or.inl ⟨by kernel_rfl, ?_⟩) SX ?_
      rotate_left
      · intro w' hSw; skip; go_simp; try with_reducible rfl
      try simp only [Act.put, List.setIfInBounds_toArray, List.set_cons_zero, List.set_cons_succ]
      refine wpAnyH_ready (rs := [14]) (by kernel_rfl) (by simp) ?_
      refine consH _ rfl (hopCd 52 rfl (by kernel_rfl) rfl (by kernel_rfl) (Calls.mono (HTA.out _ qV3) ?_)) AllReadyH.nil
      rintro e V5 ⟨v5, rfl, o5, hb⟩
      obtain ⟨a5, p5, hv5, -⟩ := owns_slice o5
      subst hv5
      have qV5 : Below w3.heap.size w3 V5 := to_call qV3 hb
      have SX := kept hb SX
      clear hb
      refine ⟨_, rfl, SX, ?_⟩
      try simp only [Act.put, List.setIfInBounds_toArray, List.set_cons_zero, List.set_cons_succ]
      refine wpAnyH_to (fun V => V.heap[B9]? = some (.cells #[.int .i64 y.N, .slice y.co y.cn y.cc, .slice y.io y.dn y.dc, .slice y.go y.gn y.gc, .slice y.ro y.rn y.rc, .bool y.bad] 26) ∧ V.ownsRow V3.heap.size 5 1 (.slice a5 (8 * cs.length) p5) (8 * cs.length) (bJ (byA cs))) (fun _ h => h.1) ?_
      have SX := And.intro SX o5
      clear o5
      refine takeH 53 (i := 15) (v := .string (strJ (inJ (byA cs)))) rfl rfl (by kernel_rfl) (by kernel_rfl) (by kernel_rfl) (fun _ _ _ h => h) (Or.inl ⟨by kernel_rfl, fun w' hSw => ex_convJ _ 45 9 _ rfl (.slice a5 (8 * cs.length) p5) _ (by kernel_rfl) w' (convJ hSw.2)⟩) SX ?_
      try simp only [Act.put, List.setIfInBounds_toArray, List.set_cons_zero, List.set_cons_succ]
      refine wpAnyH_ready (rs := [17]) (by kernel_rfl) (by simp) ?_
      refine consH _ rfl (hopCd 55 rfl (by kernel_rfl) rfl (by kernel_rfl) (Calls.mono (HTC.out _ qV5) ?_)) AllReadyH.nil
      rintro e V6 ⟨v6', rfl, o6, hb⟩
      obtain ⟨a6, p6, hv6, -⟩ := owns_slice o6
      subst hv6
      have qV6 : Below w3.heap.size w3 V6 := to_call qV5 hb
      have SX := And.intro (kept hb SX.1) (owns_keepT SX.2 fun k cur hc => hb.block k (blk_lt hc))
      clear hb
      refine ⟨_, rfl, SX, ?_⟩
      try simp only [Act.put, List.setIfInBounds_toArray, List.set_cons_zero, List.set_cons_succ]
      refine wpAnyH_to (fun V => (V.heap[B9]? = some (.cells #[.int .i64 y.N, .slice y.co y.cn y.cc, .slice y.io y.dn y.dc, .slice y.go y.gn y.gc, .slice y.ro y.rn y.rc, .bool y.bad] 26) ∧ V.ownsRow V3.heap.size 5 1 (.slice a5 (8 * cs.length) p5) (8 * cs.length) (bJ (byA cs))) ∧ V.ownsRow V5.heap.size 5 1 (.slice a6 (8 * cs.length) p6) (8 * cs.length) (bJ (byA cs))) (fun _ h => h.1) ?_
      have SX := And.intro SX o6
      clear o6
      refine takeH 56 (i := 18) (v := .string (strJ (inJ (byA cs)))) rfl rfl (by kernel_rfl) (by kernel_rfl) (by kernel_rfl) (fun _ _ _ h => h) (Or.inl ⟨by kernel_rfl, fun w' hSw => ex_convJ _ 45 9 _ rfl (.slice a6 (8 * cs.length) p6) _ (by kernel_rfl) w' (convJ hSw.2)⟩) SX ?_
      try simp only [Act.put, List.setIfInBounds_toArray, List.set_cons_zero, List.set_cons_succ]
      refine takeH 57 (i := 19) (v := .bool false) rfl rfl (by kernel_rfl) (by kernel_rfl) (by kernel_rfl) (fun _ _ _ h => h) (Or.inl ⟨by kernel_rfl, fun w' hSw => ex_neqJ _ _ _ _ rfl (strJ (inJ (byA cs))) (by kernel_rfl) (by kernel_rfl) w'⟩) SX ?_
      try simp only [Act.put, List.setIfInBounds_toArray, List.set_cons_zero, List.set_cons_succ]
      refine takeH 58 (i := 20) (v := ?_) rfl rfl (by kernel_rfl) (by kernel_rfl) (by kernel_rfl) (fun _ _ _ h => h) (Or.inl ⟨by kernel_rfl, ?_⟩) SX ?_
      rotate_left
      · intro w' hSw; skip; go_simp; try with_reducible rfl
      try simp only [Act.put, List.setIfInBounds_toArray, List.set_cons_zero, List.set_cons_succ]
      refine wpAnyH_done (by kernel_rfl) ?_ _
      refine NoPanic.normal ?_
      try simp only [Act.put, List.setIfInBounds_toArray, List.set_cons_zero, List.set_cons_succ]
      have Q6 : Hid _ := qV6
      clear SX HBC HNW HSM HKA HTA HTC qV qV1 qV2 qV3 qV5 qV6
      go_wp2_with fail
      go_loopg [10] k (fun q v10 wx => ∃ (j : Nat), v10 = .int .i64 j ∧ j + q = k ∧ Hid (Below w3.heap.size w3 wx))
      case atStart => exact ⟨0, rfl, by omega, Q6⟩
      case round =>
        obtain ⟨j, rfl, hj, HQ⟩ := hrel
        clear Q6
        by_cases hlt : j < k
        · have hd2 : decide ((j : Int) < (k : Int)) = true := decide_eq_true (by omega)
          obtain ⟨q, rfl⟩ : ∃ q, gk = q + 1 := ⟨gk - 1, by omega⟩
          have HIG : Hid _ := hj
          obtain ⟨gb, goff, rfl⟩ : ∃ gb goff, go = some ⟨gb, goff, none⟩ := by
            rcases (HGR.out _ HRB3.out.2.2).cells with h0 | ⟨b, off, e, _⟩
            · omega
            · exact ⟨b, off, e⟩
          obtain ⟨bb, boff, rfl⟩ : ∃ bb boff, bo = some ⟨bb, boff, none⟩ := by
            rcases HRB3.out.1.cells with h0 | ⟨b, off, e, _⟩
            · omega
            · exact ⟨b, off, e⟩
          obtain ⟨bk, ck, hbk, hbw⟩ := HRB3.out.2.1 j hlt
          have hcb := fun W' (hb : Below w3.heap.size w3 W') => rdGs_at (HRB3.out.1.later hb) hlt
          have hcg := fun W' (hb : Below w3.heap.size w3 W') => rdGs_at (HGR.out W' (to_call HRB3.out.2.2 hb)) hlt
          have hge := fun W' (hb : Below w3.heap.size w3 W') => (HGR.out W' (to_call HRB3.out.2.2 hb)).each j hlt
          have hle := (HLL.out j hlt).2
          have hll := (HLL.out j hlt).1
          simp only [hbk] at hcb
          obtain ⟨us, hus⟩ : ∃ us, gs[j]?.getD [] = us := ⟨_, rfl⟩
          simp only [hus] at hcb hbw hge hle hll
          have HKB : Hid (∀ W', Below w3.heap.size w3 W' → _) := fun W' hb => kept_any bk ck us _ W' (hbw.later hb) hle
          have HTB : Hid (∀ W', Below w3.heap.size w3 W' → _) := fun W' hb => text_any (some ⟨bk, 0, none⟩) us.length ck us W' (hbw.later hb).rd hle
          have HTG : Hid (∀ W', Below w3.heap.size w3 W' → _) := fun W' hb => text_any _ _ _ us W' (hge W' hb) (by rw [← hll]; exact hle)
          have SX : wr.drew.cell? ⟨bb, boff + j, none⟩ = some (.slice (some ⟨bk, 0, none⟩) us.length ck) ∧ wr.drew.cell? ⟨gb, goff + j, none⟩ = some (.slice (gv j).1 (gv j).2.1 (gv j).2.2) := ⟨hcb _ HQ.out.drew, hcg _ HQ.out.drew⟩
          have A3 := HQ.out.drew
          clear hbk hbw hcb hcg hge hle hll hj hus
          go_upto_region 15 with fail
          obtain ⟨VV, hV⟩ : ∃ VV, wr.drew = VV := ⟨_, rfl⟩
          refine wp_region_noPanic ?_
          refine wp_region_held_drew (S := (fun V => V.cell? ⟨bb, boff + j, none⟩ = some (.slice (some ⟨bk, 0, none⟩) us.length ck) ∧ V.cell? ⟨gb, goff + j, none⟩ = some (.slice (gv j).1 (gv j).2.1 (gv j).2.2))) (by kernel_rfl) SX (fun _ => ?_)
          rw [hV] at SX A3 ⊢
          have qV := A3
          clear hV A3 HQ
          refine takeH 65 (i := 0) (v := ?_) rfl rfl (by kernel_rfl) (by kernel_rfl) (by kernel_rfl) (fun _ _ _ h => h) (Or.inl ⟨by kernel_rfl, ?_⟩) SX ?_
          rotate_left
          · intro w' hSw; skip; go_simp; try with_reducible rfl
          try simp only [Act.put, List.setIfInBounds_toArray, List.set_cons_zero, List.set_cons_succ]
          refine takeH 66 (i := 1) (v := ?_) rfl rfl (by kernel_rfl) (by kernel_rfl) (by kernel_rfl) (fun _ _ _ h => h) (Or.inl ⟨by kernel_rfl, ?_⟩) SX ?_
          rotate_left
          · intro w' hSw; skip; go_simp; try with_reducible rfl
          try simp only [Act.put, List.setIfInBounds_toArray, List.set_cons_zero, List.set_cons_succ]
          refine takeH 67 (i := 2) (v := ?_) rfl rfl (by kernel_rfl) (by kernel_rfl) (by kernel_rfl) (fun _ _ _ h => h) (Or.inl ⟨by kernel_rfl, ?_⟩) SX ?_
          rotate_left
          · intro w' hSw; skip; go_simp; try with_reducible rfl
          try simp only [Act.put, List.setIfInBounds_toArray, List.set_cons_zero, List.set_cons_succ]
          refine takeH 68 (i := 3) (v := ?_) rfl rfl (by kernel_rfl) (by kernel_rfl) (by kernel_rfl) (fun _ _ _ h => h) (Or.inl ⟨by kernel_rfl, ?_⟩) SX ?_
          rotate_left
          · intro w' hSw; have q0 := hSw.1; go_simp; try with_reducible rfl
          try simp only [Act.put, List.setIfInBounds_toArray, List.set_cons_zero, List.set_cons_succ]
          refine wpAnyH_ready (rs := [4]) (by kernel_rfl) (by simp) ?_
          refine consH _ rfl (hopCd 69 rfl (by kernel_rfl) rfl (by kernel_rfl) (Calls.mono (HKB.out _ qV) ?_)) AllReadyH.nil
          rintro e V1 ⟨rfl, hb⟩
          rw [hb]
          clear hb
          refine ⟨_, rfl, SX, ?_⟩
          try simp only [Act.put, List.setIfInBounds_toArray, List.set_cons_zero, List.set_cons_succ]
          refine takeH 70 (i := 5) (v := ?_) rfl rfl (by kernel_rfl) (by kernel_rfl) (by kernel_rfl) (fun _ _ _ h => h) (Or.inl ⟨by kernel_rfl, ?_⟩) SX ?_
          rotate_left
          · intro w' hSw; skip; go_simp; try with_reducible rfl
          try simp only [Act.put, List.setIfInBounds_toArray, List.set_cons_zero, List.set_cons_succ]
          refine takeH 71 (i := 6) (v := ?_) rfl rfl (by kernel_rfl) (by kernel_rfl) (by kernel_rfl) (fun _ _ _ h => h) (Or.inl ⟨by kernel_rfl, ?_⟩) SX ?_
          rotate_left
          · intro w' hSw; skip; go_simp; try with_reducible rfl
          try simp only [Act.put, List.setIfInBounds_toArray, List.set_cons_zero, List.set_cons_succ]
          refine takeH 72 (i := 7) (v := ?_) rfl rfl (by kernel_rfl) (by kernel_rfl) (by kernel_rfl) (fun _ _ _ h => h) (Or.inl ⟨by kernel_rfl, ?_⟩) SX ?_
          rotate_left
          · intro w' hSw; skip; go_simp; try with_reducible rfl
          try simp only [Act.put, List.setIfInBounds_toArray, List.set_cons_zero, List.set_cons_succ]
          refine takeH 73 (i := 8) (v := ?_) rfl rfl (by kernel_rfl) (by kernel_rfl) (by kernel_rfl) (fun _ _ _ h => h) (Or.inl ⟨by kernel_rfl, ?_⟩) SX ?_
          rotate_left
          · intro w' hSw; skip; go_simp; try with_reducible rfl
          try simp only [Act.put, List.setIfInBounds_toArray, List.set_cons_zero, List.set_cons_succ]
          refine takeH 74 (i := 9) (v := ?_) rfl rfl (by kernel_rfl) (by kernel_rfl) (by kernel_rfl) (fun _ _ _ h => h) (Or.inl ⟨by kernel_rfl, ?_⟩) SX ?_
          rotate_left
          · intro w' hSw; skip; go_simp; try with_reducible rfl
          try simp only [Act.put, List.setIfInBounds_toArray, List.set_cons_zero, List.set_cons_succ]
          refine takeH 75 (i := 10) (v := ?_) rfl rfl (by kernel_rfl) (by kernel_rfl) (by kernel_rfl) (fun _ _ _ h => h) (Or.inl ⟨by kernel_rfl, ?_⟩) SX ?_
          rotate_left
          · intro w' hSw; have q0 := hSw.1; go_simp; try with_reducible rfl
          try simp only [Act.put, List.setIfInBounds_toArray, List.set_cons_zero, List.set_cons_succ]
          refine takeH 78 (i := 13) (v := ?_) rfl rfl (by kernel_rfl) (by kernel_rfl) (by kernel_rfl) (fun _ _ _ h => h) (Or.inl ⟨by kernel_rfl, ?_⟩) SX ?_
          rotate_left
          · intro w' hSw; skip; go_simp; try with_reducible rfl
          try simp only [Act.put, List.setIfInBounds_toArray, List.set_cons_zero, List.set_cons_succ]
          refine takeH 79 (i := 14) (v := ?_) rfl rfl (by kernel_rfl) (by kernel_rfl) (by kernel_rfl) (fun _ _ _ h => h) (Or.inl ⟨by kernel_rfl, ?_⟩) SX ?_
          rotate_left
          · intro w' hSw; skip; go_simp; try with_reducible rfl
          try simp only [Act.put, List.setIfInBounds_toArray, List.set_cons_zero, List.set_cons_succ]
          refine takeH 80 (i := 15) (v := ?_) rfl rfl (by kernel_rfl) (by kernel_rfl) (by kernel_rfl) (fun _ _ _ h => h) (Or.inl ⟨by kernel_rfl, ?_⟩) SX ?_
          rotate_left
          · intro w' hSw; skip; go_simp; try with_reducible rfl
          try simp only [Act.put, List.setIfInBounds_toArray, List.set_cons_zero, List.set_cons_succ]
          refine takeH 81 (i := 16) (v := ?_) rfl rfl (by kernel_rfl) (by kernel_rfl) (by kernel_rfl) (fun _ _ _ h => h) (Or.inl ⟨by kernel_rfl, ?_⟩) SX ?_
          rotate_left
          · intro w' hSw; have q0 := hSw.2; go_simp; try with_reducible rfl
          try simp only [Act.put, List.setIfInBounds_toArray, List.set_cons_zero, List.set_cons_succ]
          refine wpAnyH_ready (rs := [11]) (by kernel_rfl) (by simp) ?_
          refine consH _ rfl (hopCd 76 rfl (by kernel_rfl) rfl (by kernel_rfl) (Calls.mono (HTB.out _ qV) ?_)) AllReadyH.nil
          rintro e V5 ⟨v5, rfl, o5, hb⟩
          obtain ⟨a5, p5, hv5, -⟩ := owns_slice o5
          subst hv5
          have qV5 : Below w3.heap.size w3 V5 := to_call qV hb
          have SX := And.intro ((hb.cell (World.block_lt_of_cell? _ _ SX.1)).trans SX.1) ((hb.cell (World.block_lt_of_cell? _ _ SX.2)).trans SX.2)
          clear hb
          refine ⟨_, rfl, SX, ?_⟩
          try simp only [Act.put, List.setIfInBounds_toArray, List.set_cons_zero, List.set_cons_succ]
          refine wpAnyH_to (fun V => (fun V => V.cell? ⟨bb, boff + j, none⟩ = some (.slice (some ⟨bk, 0, none⟩) us.length ck) ∧ V.cell? ⟨gb, goff + j, none⟩ = some (.slice (gv j).1 (gv j).2.1 (gv j).2.2)) V ∧ V.ownsRow VV.heap.size 5 1 (.slice a5 (8 * us.length) p5) (8 * us.length) (bJ (byA us))) (fun _ h => h.1) ?_
          have SX := And.intro SX o5
          clear o5
          refine takeH 77 (i := 12) (v := .string (strJ (inJ (byA us)))) rfl rfl (by kernel_rfl) (by kernel_rfl) (by kernel_rfl) (fun _ _ _ h => h) (Or.inl ⟨by kernel_rfl, fun w' hSw => ex_convJ _ 45 9 _ rfl (.slice a5 (8 * us.length) p5) _ (by kernel_rfl) w' (convJ hSw.2)⟩) SX ?_
          try simp only [Act.put, List.setIfInBounds_toArray, List.set_cons_zero, List.set_cons_succ]
          refine wpAnyH_ready (rs := [17]) (by kernel_rfl) (by simp) ?_
          refine consH _ rfl (hopCd 82 rfl (by kernel_rfl) rfl (by kernel_rfl) (Calls.mono (HTG.out _ qV5) ?_)) AllReadyH.nil
          rintro e V6 ⟨v6', rfl, o6, hb⟩
          obtain ⟨a6, p6, hv6, -⟩ := owns_slice o6
          subst hv6
          have qV6 : Below w3.heap.size w3 V6 := to_call qV5 hb
          have SX := And.intro (And.intro ((hb.cell (World.block_lt_of_cell? _ _ SX.1.1)).trans SX.1.1) ((hb.cell (World.block_lt_of_cell? _ _ SX.1.2)).trans SX.1.2)) (owns_keepT SX.2 fun k cur hc => hb.block k (blk_lt hc))
          clear hb
          refine ⟨_, rfl, SX, ?_⟩
          try simp only [Act.put, List.setIfInBounds_toArray, List.set_cons_zero, List.set_cons_succ]
          refine wpAnyH_to (fun V => ((fun V => V.cell? ⟨bb, boff + j, none⟩ = some (.slice (some ⟨bk, 0, none⟩) us.length ck) ∧ V.cell? ⟨gb, goff + j, none⟩ = some (.slice (gv j).1 (gv j).2.1 (gv j).2.2)) V ∧ V.ownsRow VV.heap.size 5 1 (.slice a5 (8 * us.length) p5) (8 * us.length) (bJ (byA us))) ∧ V.ownsRow V5.heap.size 5 1 (.slice a6 (8 * us.length) p6) (8 * us.length) (bJ (byA us))) (fun _ h => h.1) ?_
          have SX := And.intro SX o6
          clear o6
          refine takeH 83 (i := 18) (v := .string (strJ (inJ (byA us)))) rfl rfl (by kernel_rfl) (by kernel_rfl) (by kernel_rfl) (fun _ _ _ h => h) (Or.inl ⟨by kernel_rfl, fun w' hSw => ex_convJ _ 45 9 _ rfl (.slice a6 (8 * us.length) p6) _ (by kernel_rfl) w' (convJ hSw.2)⟩) SX ?_
          try simp only [Act.put, List.setIfInBounds_toArray, List.set_cons_zero, List.set_cons_succ]
          refine takeH 84 (i := 19) (v := .bool false) rfl rfl (by kernel_rfl) (by kernel_rfl) (by kernel_rfl) (fun _ _ _ h => h) (Or.inl ⟨by kernel_rfl, fun w' hSw => ex_neqJ _ _ _ _ rfl (strJ (inJ (byA us))) (by kernel_rfl) (by kernel_rfl) w'⟩) SX ?_
          try simp only [Act.put, List.setIfInBounds_toArray, List.set_cons_zero, List.set_cons_succ]
          refine takeH 85 (i := 20) (v := ?_) rfl rfl (by kernel_rfl) (by kernel_rfl) (by kernel_rfl) (fun _ _ _ h => h) (Or.inl ⟨by kernel_rfl, ?_⟩) SX ?_
          rotate_left
          · intro w' hSw; skip; go_simp; try with_reducible rfl
          try simp only [Act.put, List.setIfInBounds_toArray, List.set_cons_zero, List.set_cons_succ]
          refine wpAnyH_done (by kernel_rfl) ?_ _
          refine NoPanic.normal ?_
          try simp only [Act.put, List.setIfInBounds_toArray, List.set_cons_zero, List.set_cons_succ]
          have Q6 : Hid _ := qV6
          clear SX HKB HTB HTG qV qV5 qV6
          go_wp2_with fail
          go_roundg q
          case measure => omega
          case rel => exact ⟨j + 1, by go_num, by have := HIG.out; omega, Q6⟩
        · have hd2 : decide ((j : Int) < (k : Int)) = false := decide_eq_false (by omega)
          go_wp2_with (go_at_call 11; refine Calls.mono (started_any _) ?_; rintro e w9 ⟨rfl, b9⟩)
          go_ret
          exact ⟨rfl, to_call HRB3.out.2.2 (to_call HQ.out b9)⟩
end Go.Proofs.Ytbgjimkgidafdaa
