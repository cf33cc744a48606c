import Derived.Test.YtfepcpkfbnpbjaaGreatJXu
namespace Go.Proofs.YtfepcpkfbnpbjaaGreat
open Go.RowKit Go.Shelf
set_option linter.unusedVariables false
set_option linter.unusedSimpArgs false

set_option maxRecDepth 100000 in
set_option maxHeartbeats 4000000 in
/-- The law's product. -/
theorem product_any (va vb : Value) (xs ys : List Int) (B1 B2 s s' : Nat) (T T' : Int) (w : World) (ha : RowZ w B1 va s T xs) (hb : RowZ w B2 vb s' T' ys) (hl : xs.length = ys.length) (hn : xs.length ≤ 256) (hs : s ≤ 3000 ∧ s' ≤ 3000 ∧ 0 ≤ T ∧ T ≤ 3000 ∧ 0 ≤ T' ∧ T' ≤ 3000) :
    Calls Tryz.prog 17 #[va, vb] w fun e w' => ∃ v, e = .returned v ∧ NumC w' v (s + s') (T + T' + xs.length) (prodV xs ys xs.length) ∧ Below w.heap.size w w' := by
  obtain ⟨aa, ac, hva⟩ := ha.form
  obtain ⟨ba, bc, hvb⟩ := hb.form
  rw [← hl] at hvb
  subst hva hvb
  have HR : Hid (∀ W', Below w.heap.size w W' → RowZ W' B1 (.slice aa xs.length ac) s T xs ∧ RowZ W' B2 (.slice ba xs.length bc) s' T' ys) := fun W' h => ⟨ha.later h, hb.later h⟩
  have HS : Hid (s ≤ 3000 ∧ s' ≤ 3000 ∧ 0 ≤ T ∧ T ≤ 3000 ∧ 0 ≤ T' ∧ T' ≤ 3000 ∧ xs.length ≤ 256) := ⟨hs.1, hs.2.1, hs.2.2.1, hs.2.2.2.1, hs.2.2.2.2.1, hs.2.2.2.2.2, hn⟩
  have HL : Hid (xs.length = ys.length) := hl
  clear ha hb hl hs
  have X0 : Below w.heap.size w ((w.alloc (.cells #[.bool false, .slice none 0 0, .int .i64 0] 50)).alloc (.cells #[.bool false, .slice none 0 0, .int .i64 0] 50)) := ((Below.refl _ w).alloc (Nat.le_refl _) _).alloc (by simp only [alloc_size]; omega) _
  have Y0 : ((w.alloc (.cells #[.bool false, .slice none 0 0, .int .i64 0] 50)).alloc (.cells #[.bool false, .slice none 0 0, .int .i64 0] 50)).heap[w.heap.size]? = some (.cells #[.bool false, .slice none 0 0, .int .i64 0] 50) := alloc_kept (heap_alloc_new w _) _
  have Y1 : ((w.alloc (.cells #[.bool false, .slice none 0 0, .int .i64 0] 50)).alloc (.cells #[.bool false, .slice none 0 0, .int .i64 0] 50)).heap[w.heap.size + 1]? = some (.cells #[.bool false, .slice none 0 0, .int .i64 0] 50) := heap_at _ _ (w.heap.size + 1) (by simp only [alloc_size])
  go_enter Tryz.func17, Tryz.ntmps17
  go_upto_region 2 with fail
  obtain ⟨X, hX⟩ : ∃ X, ((w.alloc (.cells #[.bool false, .slice none 0 0, .int .i64 0] 50)).alloc (.cells #[.bool false, .slice none 0 0, .int .i64 0] 50)) = X := ⟨_, rfl⟩
  rw [hX] at X0 Y0 Y1 ⊢
  have P0 : Hid (BxN X (w.heap.size + 1) (s + s') (T + T' + ((0 : Nat) : Int)) (prodV xs ys 0) false none 0 0 0 ∧ Below w.heap.size w X ∧ X.heap[w.heap.size]? = some (.cells #[.bool false, .slice none 0 0, .int .i64 0] 50)) := ⟨⟨Y1, NumC.zeroJ _ _ _ (by have := HS.out; omega)⟩, X0, Y0⟩
  clear hX X0 Y0 Y1
  go_wp2_with fail
  go_loopg [6] xs.length (fun q v6 wx => ∃ (k : Nat), v6 = .int .i64 k ∧ k + q = xs.length ∧ ∃ (n : Bool) (o : Option Addr) (l c : Nat) (e : Int), Hid (BxN wx (w.heap.size + 1) (s + s') (T + T' + k) (prodV xs ys k) n o l c e ∧ Below w.heap.size w wx ∧ wx.heap[w.heap.size]? = some (.cells #[.bool false, .slice none 0 0, .int .i64 0] 50)))
  case atStart => exact ⟨0, rfl, by omega, false, none, 0, 0, 0, P0⟩
  case round =>
    obtain ⟨k, rfl, hk, n, o, l, c, e, HI⟩ := hrel
    clear P0
    by_cases h1 : k < xs.length
    · have hd1 : decide ((k : Int) < (xs.length : Int)) = true := decide_eq_true (by omega)
      obtain ⟨q, rfl⟩ : ∃ q, gk = q + 1 := ⟨gk - 1, by omega⟩
      have HIG : Hid _ := hk
      clear hk
      go_upto_region 5 with fail
      obtain ⟨hRa, hRb⟩ := HR.out wr HI.out.2.1
      obtain ⟨ga, qa, an, ao, al, ac', ae, va', ra, za⟩ := RowZ.range hRa (k := k) h1
      obtain ⟨gb, qb, bn, bo, bl0, bc', be, vb', rb, zb⟩ := RowZ.range hRb (k := k) (by rw [← HL.out]; exact h1)
      rw [← HL.out] at vb'
      have R1 : Hid (wr.rangeAt ga (k * 3) [.bool an, .slice ao al ac', .int .i64 ae]) := ra
      have R2 : Hid (wr.rangeAt gb (k * 3) [.bool bn, .slice bo bl0 bc', .int .i64 be]) := rb
      have Z1 : Hid (NumC wr (.agg #[.bool an, .slice ao al ac', .int .i64 ae]) s T (xs[k]?.getD 0)) := za
      have Z2 : Hid (NumC wr (.agg #[.bool bn, .slice bo bl0 bc', .int .i64 be]) s' T' (ys[k]?.getD 0)) := zb
      have haa : aa = some ⟨ga, 0, none⟩ := by injection va'
      have hba : ba = some ⟨gb, 0, none⟩ := by injection vb'
      have hk0 : (k : Int) < (xs.length : Int) := by omega
      subst haa hba
      clear ra rb za zb va' vb' hRa hRb hd1
      have SX : Below wr.heap.size wr wr.drew := (Below.refl _ _).drew
      refine wp_region_noPanic ?_
      refine wp_region_P (S := (fun V => Below wr.heap.size wr V)) (s := 11) (by kernel_rfl) ?_
      refine takeP 14 (i := 0) (v := .agg #[.bool n, .slice o l c, .int .i64 e]) rfl rfl (by kernel_rfl) (by kernel_rfl) (by kernel_rfl) (by kernel_rfl) rfl (by kernel_rfl) (fun _ _ _ h => h) (Or.inl ⟨by kernel_rfl, fun w' hSw => ex_loadRN _ 50 _ rfl (w.heap.size + 1) (by kernel_rfl) w' _ (kept hSw HI.out.1.row) _ Tryz.underlying50 rfl 3 Tryz.infoN3 rfl⟩) SX ?_
      try simp only [Act.put, List.setIfInBounds_toArray, List.set_cons_zero, List.set_cons_succ]
      refine takeP 15 (i := 1) (v := ?_) rfl rfl (by kernel_rfl) (by kernel_rfl) (by kernel_rfl) (by kernel_rfl) rfl (by kernel_rfl) (fun _ _ _ h => h) (Or.inl ⟨by kernel_rfl, ?_⟩) SX ?_
      rotate_left
      · intro w' hSw; go_simp; try with_reducible rfl
      try simp only [Act.put, List.setIfInBounds_toArray, List.set_cons_zero, List.set_cons_succ]
      refine takeP 16 (i := 2) (v := ?_) rfl rfl (by kernel_rfl) (by kernel_rfl) (by kernel_rfl) (by kernel_rfl) rfl (by kernel_rfl) (fun _ _ _ h => h) (Or.inl ⟨by kernel_rfl, ?_⟩) SX ?_
      rotate_left
      · intro w' hSw; go_simp; try with_reducible rfl
      try simp only [Act.put, List.setIfInBounds_toArray, List.set_cons_zero, List.set_cons_succ]
      refine takeP 17 (i := 3) (v := ?_) rfl rfl (by kernel_rfl) (by kernel_rfl) (by kernel_rfl) (by kernel_rfl) rfl (by kernel_rfl) (fun _ _ _ h => h) (Or.inl ⟨by kernel_rfl, ?_⟩) SX ?_
      rotate_left
      · intro w' hSw; go_simp; try with_reducible rfl
      try simp only [Act.put, List.setIfInBounds_toArray, List.set_cons_zero, List.set_cons_succ]
      refine takeP 18 (i := 4) (v := .agg #[.bool an, .slice ao al ac', .int .i64 ae]) rfl rfl (by kernel_rfl) (by kernel_rfl) (by kernel_rfl) (by kernel_rfl) rfl (by kernel_rfl) (fun _ _ _ h => h) (yieldsIf_load_mid (by kernel_rfl) 50 _ rfl ga (k * 3) (by kernel_rfl) #[.bool an, .slice ao al ac', .int .i64 ae].toList _ (fun V' hS => (range_later R1.out hS : V'.rangeAt ga (k * 3) [.bool an, .slice ao al ac', .int .i64 ae])) Tryz.underlying50 rfl (by kernel_rfl)) SX ?_
      try simp only [Act.put, List.setIfInBounds_toArray, List.set_cons_zero, List.set_cons_succ]
      refine takeP 19 (i := 5) (v := ?_) rfl rfl (by kernel_rfl) (by kernel_rfl) (by kernel_rfl) (by kernel_rfl) rfl (by kernel_rfl) (fun _ _ _ h => h) (Or.inl ⟨by kernel_rfl, ?_⟩) SX ?_
      rotate_left
      · intro w' hSw; go_simp; try with_reducible rfl
      try simp only [Act.put, List.setIfInBounds_toArray, List.set_cons_zero, List.set_cons_succ]
      refine takeP 20 (i := 6) (v := ?_) rfl rfl (by kernel_rfl) (by kernel_rfl) (by kernel_rfl) (by kernel_rfl) rfl (by kernel_rfl) (fun _ _ _ h => h) (Or.inl ⟨by kernel_rfl, ?_⟩) SX ?_
      rotate_left
      · intro w' hSw; go_simp; try with_reducible rfl
      try simp only [Act.put, List.setIfInBounds_toArray, List.set_cons_zero, List.set_cons_succ]
      refine takeP 21 (i := 7) (v := ?_) rfl rfl (by kernel_rfl) (by kernel_rfl) (by kernel_rfl) (by kernel_rfl) rfl (by kernel_rfl) (fun _ _ _ h => h) (Or.inl ⟨by kernel_rfl, ?_⟩) SX ?_
      rotate_left
      · intro w' hSw; go_simp; try with_reducible rfl
      try simp only [Act.put, List.setIfInBounds_toArray, List.set_cons_zero, List.set_cons_succ]
      refine takeP 22 (i := 8) (v := .agg #[.bool bn, .slice bo bl0 bc', .int .i64 be]) rfl rfl (by kernel_rfl) (by kernel_rfl) (by kernel_rfl) (by kernel_rfl) rfl (by kernel_rfl) (fun _ _ _ h => h) (yieldsIf_load_mid (by kernel_rfl) 50 _ rfl gb (k * 3) (by kernel_rfl) #[.bool bn, .slice bo bl0 bc', .int .i64 be].toList _ (fun V' hS => (range_later R2.out hS : V'.rangeAt gb (k * 3) [.bool bn, .slice bo bl0 bc', .int .i64 be])) Tryz.underlying50 rfl (by kernel_rfl)) SX ?_
      try simp only [Act.put, List.setIfInBounds_toArray, List.set_cons_zero, List.set_cons_succ]
      refine wpAnyP_ready (rs := [9]) (by kernel_rfl) (by simp) ?_
      refine consP _ rfl (hopCd 23 rfl (by kernel_rfl) rfl (by kernel_rfl) (Calls.mono (timesM_any _ _ s s' T T' _ _ _ (NumC.later Z1.out SX).toZ (NumC.later Z2.out SX).toZ (by have := HS.out; omega) (by have := HS.out; omega) (by have := HS.out; omega) (by have := HS.out; omega)) ?_)) AllReadyP.nil
      rintro e V1 ⟨v1, rfl, hz1, b1⟩
      obtain ⟨n1, o1, t1, p1, x1, hv1⟩ := hz1.form
      subst hv1
      have SX : Below wr.heap.size wr V1 := to_call SX b1
      clear b1
      refine ⟨_, rfl, SX, ?_⟩
      try simp only [Act.put, List.setIfInBounds_toArray, List.set_cons_zero, List.set_cons_succ]
      refine wpAnyP_ready (rs := [10]) (by kernel_rfl) (by simp) ?_
      refine consP _ rfl (hopCd 24 rfl (by kernel_rfl) rfl (by kernel_rfl) (Calls.mono (plusC_any _ _ (s + s') (T + T' + k) _ _ _ (NumC.later HI.out.1.num SX) (hz1.mono (by omega)) (by have := HS.out; omega) (by have := HS.out; omega)) ?_)) AllReadyP.nil
      rintro e V2 ⟨v2, rfl, hz2, b2⟩
      obtain ⟨n2, o2, t2, p2, x2, hv2⟩ := hz2.form
      subst hv2
      have SX : Below wr.heap.size wr V2 := to_call SX b2
      clear b2 hz1
      refine ⟨_, rfl, SX, ?_⟩
      try simp only [Act.put, List.setIfInBounds_toArray, List.set_cons_zero, List.set_cons_succ]
      refine wpAnyP_ready (rs := [11]) (by kernel_rfl) (by simp) ?_
      refine consPs _ rfl (by kernel_rfl) (hopL rfl (wpList_store_row (by rfl) 50 _ _ (by rfl) w w.heap.size (w.heap.size + 1) #[.bool n2, .slice o2 t2 p2, .int .i64 x2] _ (by kernel_rfl) (by kernel_rfl) (kept SX HI.out.1.row) (to_call HI.out.2.1 SX) (by omega) 3 Tryz.infoN3 rfl rfl (oneN _ _ _ _ _) fun V3 e3 b3 s3 k3 => ?_)) AllReadyP.nil
      refine ⟨trivial, ?_⟩
      try simp only [Act.put, List.setIfInBounds_toArray, List.set_cons_zero, List.set_cons_succ]
      refine wpAnyP_done (by kernel_rfl) ?_ _
      refine NoPanic.normal ?_
      try simp only [Act.put, List.setIfInBounds_toArray, List.set_cons_zero, List.set_cons_succ]
      have HZ : Hid (BxN V3 (w.heap.size + 1) (s + s') (T + T' + ((k + 1 : Nat) : Int)) (prodV xs ys (k + 1)) n2 o2 t2 p2 x2 ∧ Below w.heap.size w V3 ∧ V3.heap[w.heap.size]? = some (.cells #[.bool false, .slice none 0 0, .int .i64 0] 50)) := by
        have hz3 := hz2.cl (num_cl (kept SX HI.out.1.row)) (fun b hb _ => k3 b hb)
        exact ⟨⟨e3, hz3.mono (by rw [Int.natCast_add]; omega)⟩, b3, by rw [k3 _ (by omega)]; exact kept SX HI.out.2.2⟩
      clear hz2 SX k3 b3 e3 s3 R1 R2 Z1 Z2 HI
      go_wp2_with fail
      go_roundg q
      case measure => omega
      case rel => exact ⟨k + 1, by go_num, by have := HIG.out; omega, n2, o2, t2, p2, x2, HZ⟩
    · have hd1 : decide ((k : Int) < (xs.length : Int)) = false := decide_eq_false (by omega)
      have hka : k = xs.length := by omega
      have HZ : Hid (NumC wr (.agg #[.bool n, .slice o l c, .int .i64 e]) (s + s') (T + T' + xs.length) (prodV xs ys xs.length)) := by
        have h := HI.out.1.num
        rw [hka] at h
        exact h
      have hd2 : decide (k < xs.length) = false := decide_eq_false h1
      clear hka hk
      go_wp2_with (first
        | (refine wpList_load_row (by rfl) 50 _ (by rfl) (w.heap.size + 1) _ (by rfl) HI.out.1.row _ Tryz.underlying50 rfl 3 Tryz.infoN3 (by rfl) ?_)
        | (refine wpList_store_row (by rfl) 50 _ _ (by rfl) w w.heap.size w.heap.size #[.bool n, .slice o l c, .int .i64 e] _ (by rfl) (by rfl) HI.out.2.2 HI.out.2.1 (Nat.le_refl _) 3 Tryz.infoN3 (by rfl) (by rfl) (oneN _ _ _ _ _) ?_; intro W9 e9 b9 s9 o9))
      refine bodyPost_ret (v := .agg #[.bool n, .slice o l c, .int .i64 e]) (res_num _ 4 (by kernel_rfl) _ _ w.heap.size _ _ _ (by rfl) e9) rfl ⟨_, rfl, ?_, b9⟩
      exact (show NumC _ _ _ _ _ from HZ.out).cl (num_cl HI.out.2.2) (fun b hb _ => o9 b hb)
set_option maxRecDepth 100000 in
set_option maxHeartbeats 3000000 in
/-- The law's directions. -/
theorem directions_any (ao : Option Addr) (len cap : Nat) (us : List Nat) (n : Int) (E : Nat) (hE : E = 1074) (w : World) (h : RdF w ao len cap us) (hl : len ≤ 1050000) :
    Calls Tryz.prog 8 #[.slice ao len cap, .int .i64 n] w fun e w' => (∃ v, e = .returned (.tuple #[v, .bool (numN us n)]) ∧ (numN us n = true → RowN w' w.heap.size v E us)) ∧ Below w.heap.size w w' := by
  have HR : Hid _ := h
  have hln := h.length
  have HLT : Hid _ := h.lt
  clear h
  by_cases hn : (len : Int) = n
  · subst hn
    have HE : Hid (numN us (len : Int) = numsB us) := by unfold Hid numN; rw [hln, decide_eq_true rfl, Bool.true_and]
    obtain ⟨nn, hnn⟩ : ∃ nn, numN us (len : Int) = nn := ⟨_, rfl⟩
    rw [hnn] at HE ⊢
    have HLN : Hid (us.length = len) := hln
    clear hln hnn
    go_enter Tryz.func8, Tryz.ntmps8
    go_wp2_with fail
    go_loopg [6, 7] len (fun g v iv wx => ∃ k : Nat, iv = .int .i64 k ∧ k + g = len ∧ Hid (RowN wx w.heap.size v E (us.take k)) ∧ Hid (Below w.heap.size w wx) ∧ Hid (nn = numsB (us.drop k)))
    case atStart => exact ⟨0, rfl, by omega, RowN.nil _ _ _, Below.refl _ _, HE.out⟩
    case round =>
      obtain ⟨k, rfl, hk, HO, HB, HD⟩ := hrel
      clear HE
      have hsr := HB.out.size
      by_cases hlt : k < len
      · have hd : decide ((k : Int) < (len : Int)) = true := decide_eq_true (by omega)
        obtain ⟨g, rfl⟩ : ∃ g, gk = g + 1 := ⟨gk - 1, by omega⟩
        have HIG : Hid _ := hk
        rcases (HR.out.later HB.out).cells with h0 | ⟨ab, aoff, rfl, hca⟩
        · omega
        have ga := hca k hlt
        have hkl : k < us.length := by rw [HLN.out]; exact hlt
        have hux := HLT.out _ (getD_mem (us := us) (j := k) hkl)
        have HTS : Hid _ := take_snocJ (us := us) (k := k) hkl
        have HDS : Hid _ := numsB_drop us hkl
        obtain ⟨x, hx⟩ : ∃ x, us[k]?.getD 0 = x := ⟨_, rfl⟩
        rw [hx] at ga hux HTS HDS
        have HOF : Hid _ := ofC_any x hux wr E hE
        clear hca hx hk hkl
        go_upto_region 8 with (first
          | (go_at_call 13; refine Calls.mono (apiBits_any x _) ?_; rintro e w0 ⟨rfl, hw0⟩; rw [hw0]; clear hw0 w0)
          | (go_at_call 12; refine Calls.mono HOF.out ?_; rintro e w1 ⟨v1, rfl, ⟨z1, hz1, hv1⟩, b1⟩; obtain ⟨n1, m1, e1, ⟨o1, l1, c1, xs1, rfl, hr1⟩, hr2⟩ := id hz1; clear hr1 hr2))
        have N1 : Hid (NumC w1 (.agg #[.bool n1, .slice o1 l1 c1, .int .i64 e1]) E 1024 z1 ∧ (Fin x → z1 = fval x)) := ⟨hz1, hv1⟩
        clear hz1 hv1 HOF
        have B1 : Hid (Below wr.heap.size wr w1) := b1
        have s1 := b1.size
        clear b1
        by_cases hf : Fin x
        · have hfd : decide (Fin x) = true := decide_eq_true hf
          rw [hfd] at HDS ⊢
          have HF : Hid _ := hf
          clear hf hfd
          obtain ⟨xs, hxo, hxj⟩ := (HO.out.later B1.out).own
          have HXO : Hid _ := hxo
          have HXJ : Hid _ := hxj
          have hxl : (us.take k).length = k := by rw [List.length_take, HLN.out]; omega
          rw [hxl] at hxo
          have HX2 : Hid _ := hxo
          clear hxo hxj
          have HC2 : Hid (∀ g, u6.ownBlock = some g → Cl noU ((w1.alloc (.cells #[.bool n1, .slice o1 l1 c1, .int .i64 e1] 50)).alloc (.cells #[.bool n1, .slice o1 l1 c1, .int .i64 e1] 50)) g) := fun g hg => ((HO.out.cl g hg).later B1.out).later (((Below.refl _ w1).alloc (Nat.le_refl _) _).alloc (by simp only [alloc_size]; omega) _)
          go_wp2_with (first
            | (at_builtin; refine append_clJ noU Tryz.underlying27 Tryz.infoNumJ rfl (by decide) (by decide) zero_noU _ (by rfl) _ _ (by rfl) w.heap.size _ k xs (by rfl) (World.ownsRow.alloc (World.ownsRow.alloc HX2.out _) _) HC2.out ⟨w1.heap.size + 1, 0, none⟩ 1 1 [.bool n1, .slice o1 l1 c1, .int .i64 e1] (by rfl) (by decide) rfl (news_threeJ (heap_at _ _ (w1.heap.size + 1) (by simp only [alloc_size]))) (three_one n1 o1 l1 c1 e1) (three_noU n1 o1 l1 c1 e1) (by omega) (by simp only [alloc_size]; omega) ?_; intro v5 w5 o5 g5 cl5))
          have A1 : Below w1.heap.size w1 ((w1.alloc (.cells #[.bool n1, .slice o1 l1 c1, .int .i64 e1] 50)).alloc (.cells #[.bool n1, .slice o1 l1 c1, .int .i64 e1] 50)) := ((Below.refl _ w1).alloc (Nat.le_refl _) _).alloc (by simp only [alloc_size]; omega) _
          have R5 : Hid (RowN w5 w.heap.size v5 E (us.take k ++ [x])) := by
            have hz := N1.out.2 HF.out
            have h3 := (HO.out.later B1.out).later A1
            obtain ⟨xs', hx', hj'⟩ := h3.own
            refine RowN.push (xs := xs) (by rw [hxl]; exact World.ownsRow.alloc (World.ownsRow.alloc HX2.out _) _) (fun j hj => ?_) HC2.out (hz ▸ N1.out.1.later A1) (by rw [hxl]; exact o5) g5 cl5
            obtain ⟨n2, o2, l2, c2, e2, a1, a2, a3, a4⟩ := HXJ.out j hj
            exact ⟨n2, o2, l2, c2, e2, a1, a2, a3, a4.later A1⟩
          have B5 : Hid (Below w.heap.size w w5) := (to_call (to_call HB.out B1.out) A1).trans (g5.below (fun k hk => (World.ownsRow.lt HX2.out k hk).1) (by simp only [alloc_size]; omega))
          clear o5 g5 cl5 A1 HC2 HX2 HXO HXJ
          go_roundg g
          case measure => omega
          case rel => exact ⟨k + 1, by go_num, by have := HIG.out; omega, by unfold Hid; rw [HTS.out]; exact R5.out, B5, by unfold Hid; rw [HD.out, HDS.out, Bool.true_and]⟩
        · have hfd : decide (Fin x) = false := decide_eq_false hf
          rw [hfd] at HDS ⊢
          have HN0 : Hid (nn = false) := by unfold Hid; rw [HD.out, HDS.out, Bool.false_and]
          have HB9 : Hid (Below w.heap.size w (w1.alloc (.cells #[.bool n1, .slice o1 l1 c1, .int .i64 e1] 50))) := (to_call HB.out B1.out).alloc (to_call HB.out B1.out).size _
          clear hf hfd
          go_wp2_with fail
          refine bodyPost_ret (results_tmp2 rfl _ _ _) rfl ?_
          exact ⟨⟨_, by rw [HN0.out]; rfl, fun h => by rw [HN0.out] at h; cases h⟩, HB9.out⟩
      · have hd : decide ((k : Int) < (len : Int)) = false := decide_eq_false (by omega)
        have HO2 : Hid (RowN wr w.heap.size u6 E us) := by
          have := HO.out
          rw [List.take_of_length_le (by rw [HLN.out]; omega)] at this
          exact this
        have HN1 : Hid (nn = true) := by unfold Hid; rw [HD.out, List.drop_eq_nil_of_le (by rw [HLN.out]; omega)]; rfl
        go_wp2_with fail
        refine bodyPost_ret (results_tmp2 rfl _ _ _) rfl ?_
        exact ⟨⟨_, by rw [HN1.out]; rfl, fun _ => HO2.out⟩, HB.out⟩
  · have HE : Hid (numN us n = false) := by unfold Hid numN; rw [hln, decide_eq_false hn, Bool.false_and]
    have hb : ((len : Int) != n) = true := by simpa using hn
    have hb2 : ((len : Int) == n) = false := by simpa using hn
    go_enter Tryz.func8, Tryz.ntmps8
    go_wp2_with fail
    refine bodyPost_ret (results_tmp2 rfl _ _ _) rfl ?_
    exact ⟨⟨_, by rw [HE.out]; rfl, fun h => by rw [HE.out] at h; cases h⟩, Below.refl _ _⟩
end Go.Proofs.YtfepcpkfbnpbjaaGreat
