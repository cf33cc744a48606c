import Derived.Test.YtlpfbgepdfjmjaaGreatJXd
namespace Go.Proofs.YtlpfbgepdfjmjaaGreat
open Go.RowKit Go.Shelf
set_option linter.unusedVariables false
set_option linter.unusedSimpArgs false

theorem reach_bound {ds cs rs : List Nat} {gs : List (List Nat)} {n k j m X : Nat} (hX : X = 4248) (hd : ∀ j : Nat, Fin (ds[j]?.getD 0)) (hc : ∀ j : Nat, Fin (cs[j]?.getD 0)) (hr : ∀ j : Nat, Fin (rs[j]?.getD 0)) (hg : ∀ k j : Nat, Fin ((gs[k]?.getD [])[j]?.getD 0)) (few : gs.length ≤ 1050000) (hn : n ≤ 256) (hk : k ≤ 256) (hj : j ≤ 256) :
    (dotV ds cs k + boxV ds rs j + (sumG (fun g => (dotV ds g n).natAbs) (gs.take m) : Nat)).natAbs < 2 ^ X := by
  obtain ⟨F, hF⟩ : ∃ F : Nat, F = 4196 := ⟨_, rfl⟩
  have h1 := dotV_bound hF hd hc k
  have h2 := boxV_bound hF hd hr j
  have h3 : k * 2 ^ F ≤ 256 * 2 ^ F := Nat.mul_le_mul_right _ hk
  have h4 : j * 2 ^ F ≤ 256 * 2 ^ F := Nat.mul_le_mul_right _ hj
  have h5 : n * 2 ^ F ≤ 256 * 2 ^ F := Nat.mul_le_mul_right _ hn
  have h6 := sumG_le (B := fun g => (dotV ds g n).natAbs) (M := 256 * 2 ^ F) (gs.take m) fun g hgg => by
    obtain ⟨i, hi, rfl⟩ := List.getElem_of_mem (List.mem_of_mem_take hgg)
    refine Nat.le_trans (dotV_bound hF hd (fun j => ?_) n) h5
    have := hg i j
    rw [List.getElem?_eq_getElem hi] at this
    exact this
  have h7 : (gs.take m).length * (256 * 2 ^ F) ≤ 268800000 * 2 ^ F := by
    rw [← Nat.mul_assoc]
    exact Nat.mul_le_mul_right _ (by rw [List.length_take]; omega)
  have h8 : 1073741824 * 2 ^ F ≤ 2 ^ X := by
    rw [show (1073741824 : Nat) = 2 ^ 30 by decide, ← Nat.pow_add]
    exact Nat.pow_le_pow_right (by omega) (by omega)
  have h9 := Nat.two_pow_pos F
  generalize 2 ^ F = A at *
  generalize 2 ^ X = Y at *
  generalize (gs.take m).length * (256 * A) = G at *
  generalize k * A = K1 at *
  generalize j * A = K2 at *
  omega
set_option maxRecDepth 100000 in
set_option maxHeartbeats 8000000 in
theorem reach_any (a1 : Option Addr) (l1 c1 : Nat) (a2 : Option Addr) (l2 c2 : Nat) (a3 : Option Addr) (l3 c3 : Nat) (a4 : Option Addr) (l4 c4 : Nat) (ad : Option Addr) (ld cd : Nat) (cs rs ds : List Nat) (ids : List Int) (gs : List (List Nat)) (gl : List Value) (base dbase E n0 : Nat) (hE : E = 1074) (w : World) (h : RlS w base E cs rs ids gs (.slice a1 l1 c1) (.slice a4 l4 c4) (.slice a2 l2 c2) (.slice a3 l3 c3) gl) (hds : RowN w dbase (.slice ad ld cd) E ds) (hc : cs.length = n0) (hr : rs.length = n0) (hdl : ds.length = n0) (hg : ∀ k, k < gs.length → (gs[k]?.getD []).length = n0) (hfd : ∀ j : Nat, Fin (ds[j]?.getD 0)) (hfc : ∀ j : Nat, Fin (cs[j]?.getD 0)) (hfr : ∀ j : Nat, Fin (rs[j]?.getD 0)) (hfg : ∀ k j : Nat, Fin ((gs[k]?.getD [])[j]?.getD 0)) (few : gs.length ≤ 1050000) (hn : n0 ≤ 256) :
    Calls Tryz.prog 32 #[.agg #[.int .i64 (n0 : Int), .slice a1 l1 c1, .slice a2 l2 c2, .slice a3 l3 c3, .slice a4 l4 c4], .slice ad ld cd] w fun e w' => ∃ v, e = .returned v ∧ NumC w' v (E + E) 2100 (supV ds cs rs gs n0) ∧ Below w.heap.size w w' := by
  have HE : Hid (E = 1074) := hE
  have hl3 := h.lenG
  have hl4 := (RowN.lenV h.r).trans hr
  have hl1 := (RowN.lenV h.c).trans hc
  have hld := (RowN.lenV hds).trans hdl
  rw [hl4, hl1] at h
  rw [hld] at hds
  rw [hl4, hl1, hld]
  subst hl3
  clear hl4 hl1 hld
  have HR : Hid (∀ W', Below w.heap.size w W' → RlS W' base E cs rs ids gs (.slice a1 n0 c1) (.slice a4 n0 c4) (.slice a2 l2 c2) (.slice a3 gs.length c3) gl) := fun W' hb => h.later hb
  have HD : Hid (∀ W', Below w.heap.size w W' → RowN W' dbase (.slice ad n0 cd) E ds) := fun W' hb => hds.later hb
  have HL : Hid (cs.length = n0 ∧ rs.length = n0 ∧ ds.length = n0 ∧ ∀ k, k < gs.length → (gs[k]?.getD []).length = n0) := ⟨hc, hr, hdl, hg⟩
  obtain ⟨X9, hX9⟩ : ∃ X9 : Nat, X9 = 4248 := ⟨_, rfl⟩
  have HBD : Hid (∀ k j m : Nat, k ≤ n0 → j ≤ n0 → (dotV ds cs k + boxV ds rs j + (sumG (fun g => (dotV ds g n0).natAbs) (gs.take m) : Nat)).natAbs < 2 ^ X9) := fun k j m hk hj => reach_bound hX9 hfd hfc hfr hfg few hn (by omega) (by omega)
  have HBT : Hid (∀ i k : Nat, k ≤ n0 → (dotV ds (gs[i]?.getD []) k).natAbs < 2 ^ X9) := fun i k hk => by
    have := reach_bound (cs := gs[i]?.getD []) (rs := []) (gs := []) (n := 0) (k := k) (j := 0) (m := 0) hX9 hfd (hfg i) (fun j => by simp; exact fin_zeroJ) (fun k j => by simp; exact fin_zeroJ) (by simp) (by omega) (by omega) (by omega)
    simpa [boxV, sumG] using this
  have HX : Hid ((X9 : Int) = ((E + E : Nat) : Int) + 2100) := by unfold Hid; rw [HE.out, hX9]; rfl
  have hgm : gs.length ≤ 1050000 := few
  clear h hds hc hr hdl hg hfd hfc hfr hfg few hE hX9
  have X0 : Below w.heap.size w ((w.alloc (.cells #[.int .i64 (n0 : Int), .slice a1 n0 c1, .slice a2 l2 c2, .slice a3 gs.length c3, .slice a4 n0 c4] 72)).alloc (.cells #[.bool false, .slice none 0 0, .int .i64 0] 80)) := ((Below.refl _ w).alloc (Nat.le_refl _) _).alloc (by simp only [alloc_size]; omega) _
  have Y0 : ((w.alloc (.cells #[.int .i64 (n0 : Int), .slice a1 n0 c1, .slice a2 l2 c2, .slice a3 gs.length c3, .slice a4 n0 c4] 72)).alloc (.cells #[.bool false, .slice none 0 0, .int .i64 0] 80)).heap[w.heap.size]? = some (.cells #[.int .i64 (n0 : Int), .slice a1 n0 c1, .slice a2 l2 c2, .slice a3 gs.length c3, .slice a4 n0 c4] 72) := alloc_kept (heap_alloc_new w _) _
  have Y1 : ((w.alloc (.cells #[.int .i64 (n0 : Int), .slice a1 n0 c1, .slice a2 l2 c2, .slice a3 gs.length c3, .slice a4 n0 c4] 72)).alloc (.cells #[.bool false, .slice none 0 0, .int .i64 0] 80)).heap[w.heap.size + 1]? = some (.cells #[.bool false, .slice none 0 0, .int .i64 0] 80) := heap_at _ _ (w.heap.size + 1) (by simp only [alloc_size])
  go_enter Tryz.func32, Tryz.ntmps32
  go_upto_region 2 with fail
  have A1 : Below ((w.alloc (.cells #[.int .i64 (n0 : Int), .slice a1 n0 c1, .slice a2 l2 c2, .slice a3 gs.length c3, .slice a4 n0 c4] 72)).alloc (.cells #[.bool false, .slice none 0 0, .int .i64 0] 80)).heap.size ((w.alloc (.cells #[.int .i64 (n0 : Int), .slice a1 n0 c1, .slice a2 l2 c2, .slice a3 gs.length c3, .slice a4 n0 c4] 72)).alloc (.cells #[.bool false, .slice none 0 0, .int .i64 0] 80)) (((w.alloc (.cells #[.int .i64 (n0 : Int), .slice a1 n0 c1, .slice a2 l2 c2, .slice a3 gs.length c3, .slice a4 n0 c4] 72)).alloc (.cells #[.bool false, .slice none 0 0, .int .i64 0] 80)).alloc (.cells #[.bool false, .slice none 0 0, .int .i64 0] 80)) := (Below.refl _ _).alloc (Nat.le_refl _) _
  have P1 : Hid (BxN (((w.alloc (.cells #[.int .i64 (n0 : Int), .slice a1 n0 c1, .slice a2 l2 c2, .slice a3 gs.length c3, .slice a4 n0 c4] 72)).alloc (.cells #[.bool false, .slice none 0 0, .int .i64 0] 80)).alloc (.cells #[.bool false, .slice none 0 0, .int .i64 0] 80)) (w.heap.size + 1 + 1) (E + E) 2100 0 false none 0 0 0 ∧ ((((w.alloc (.cells #[.int .i64 (n0 : Int), .slice a1 n0 c1, .slice a2 l2 c2, .slice a3 gs.length c3, .slice a4 n0 c4] 72)).alloc (.cells #[.bool false, .slice none 0 0, .int .i64 0] 80)).alloc (.cells #[.bool false, .slice none 0 0, .int .i64 0] 80)).heap[w.heap.size]? = some (.cells #[.int .i64 (n0 : Int), .slice a1 n0 c1, .slice a2 l2 c2, .slice a3 gs.length c3, .slice a4 n0 c4] 72) ∧ (((w.alloc (.cells #[.int .i64 (n0 : Int), .slice a1 n0 c1, .slice a2 l2 c2, .slice a3 gs.length c3, .slice a4 n0 c4] 72)).alloc (.cells #[.bool false, .slice none 0 0, .int .i64 0] 80)).alloc (.cells #[.bool false, .slice none 0 0, .int .i64 0] 80)).heap[w.heap.size + 1]? = some (.cells #[.bool false, .slice none 0 0, .int .i64 0] 80)) ∧ Below w.heap.size w (((w.alloc (.cells #[.int .i64 (n0 : Int), .slice a1 n0 c1, .slice a2 l2 c2, .slice a3 gs.length c3, .slice a4 n0 c4] 72)).alloc (.cells #[.bool false, .slice none 0 0, .int .i64 0] 80)).alloc (.cells #[.bool false, .slice none 0 0, .int .i64 0] 80))) := ⟨⟨heap_at _ _ (w.heap.size + 1 + 1) (by simp only [alloc_size]), NumC.zeroJ _ _ _ (by omega)⟩, ⟨kept A1 Y0, kept A1 Y1⟩, to_call X0 A1⟩
  obtain ⟨X1, hX1⟩ : ∃ X1, ((w.alloc (.cells #[.int .i64 (n0 : Int), .slice a1 n0 c1, .slice a2 l2 c2, .slice a3 gs.length c3, .slice a4 n0 c4] 72)).alloc (.cells #[.bool false, .slice none 0 0, .int .i64 0] 80)).alloc (.cells #[.bool false, .slice none 0 0, .int .i64 0] 80) = X1 := ⟨_, rfl⟩
  rw [hX1] at P1 ⊢
  clear hX1 A1 X0 Y0 Y1
  go_wp2_with fail
  go_loopg [6] n0 (fun q v6 wx => ∃ (k : Nat), v6 = .int .i64 k ∧ k + q = n0 ∧ ∃ (n : Bool) (o : Option Addr) (l c : Nat) (e : Int), Hid (BxN wx (w.heap.size + 1 + 1) (E + E) 2100 (dotV ds cs k + boxV ds rs k) n o l c e ∧ (wx.heap[w.heap.size]? = some (.cells #[.int .i64 (n0 : Int), .slice a1 n0 c1, .slice a2 l2 c2, .slice a3 gs.length c3, .slice a4 n0 c4] 72) ∧ wx.heap[w.heap.size + 1]? = some (.cells #[.bool false, .slice none 0 0, .int .i64 0] 80)) ∧ Below w.heap.size w wx))
  case atStart => exact ⟨0, rfl, by omega, false, none, 0, 0, 0, P1⟩
  case round =>
    obtain ⟨k, rfl, hk, n, o, l, c, e, HI⟩ := hrel
    have k0 : wr.cell? ⟨w.heap.size, 0, none⟩ = some (.int .i64 (n0 : Int)) := cellAtJ HI.out.2.1.1 0 _ rfl
    by_cases h1 : k < n0
    · have hd1 : decide ((k : Int) < (n0 : Int)) = true := decide_eq_true (by omega)
      obtain ⟨q, rfl⟩ : ∃ q, gk = q + 1 := ⟨gk - 1, by omega⟩
      have HIG : Hid _ := hk
      have hk0 : (k : Int) < (n0 : Int) := by omega
      clear hk
      go_upto_region 5 with fail
      have QD : Below w.heap.size w wr.drew := HI.out.2.2.drew
      obtain ⟨db, dq, dn, d_o, dl, dc, de, hdv, hdr, hdz⟩ := RowN.range (HD.out wr.drew QD) (k := k) (by rw [HL.out.2.2.1]; exact h1)
      obtain ⟨cb, cq, xn, xo, xl, xc, xe, hcv, hcr, hcz⟩ := RowN.range (HR.out wr.drew QD).c (k := k) (by rw [HL.out.1]; exact h1)
      rw [HL.out.1] at hcv
      rw [HL.out.2.2.1] at hdv
      have k1 : wr.drew.cell? ⟨w.heap.size, 1, none⟩ = some (.slice a1 n0 c1) := cellAtJ HI.out.2.1.1 1 _ rfl
      rw [hcv] at k1
      have hd2 := (Value.slice.inj hdv).1
      clear hdv
      subst hd2
      have SX : (fun V => V.heap[w.heap.size + 1 + 1]? = some (.cells #[.bool n, .slice o l c, .int .i64 e] 80) ∧ V.cell? ⟨w.heap.size, 1, none⟩ = some (.slice (some ⟨cb, 0, none⟩) n0 cq) ∧ V.rangeAt db (k * 3) [.bool dn, .slice d_o dl dc, .int .i64 de] ∧ V.rangeAt cb (k * 3) [.bool xn, .slice xo xl xc, .int .i64 xe]) wr.drew := ⟨HI.out.1.row, k1, hdr, hcr⟩
      have HDN : Hid (NumC wr.drew (.agg #[.bool dn, .slice d_o dl dc, .int .i64 de]) E 1024 (fval (ds[k]?.getD 0))) := hdz
      have HXN : Hid (NumC wr.drew (.agg #[.bool xn, .slice xo xl xc, .int .i64 xe]) E 1024 (fval (cs[k]?.getD 0))) := hcz
      have HBN : Hid (NumC wr.drew (.agg #[.bool n, .slice o l c, .int .i64 e]) (E + E) 2100 (dotV ds cs k + boxV ds rs k)) := HI.out.1.num.later (Below.refl _ wr).drew
      have HQD : Hid (Below w.heap.size w wr.drew) := QD
      have HP : Hid (wr.drew.heap[w.heap.size]? = some (.cells #[.int .i64 (n0 : Int), .slice a1 n0 c1, .slice a2 l2 c2, .slice a3 gs.length c3, .slice a4 n0 c4] 72) ∧ wr.drew.heap[w.heap.size + 1]? = some (.cells #[.bool false, .slice none 0 0, .int .i64 0] 80)) := HI.out.2.1
      clear hdr hcr hdz hcz hcv k1 QD k0 hd1 HI
      refine wp_region_noPanic ?_
      refine wp_region_P (S := (fun V => V.heap[w.heap.size + 1 + 1]? = some (.cells #[.bool n, .slice o l c, .int .i64 e] 80) ∧ V.cell? ⟨w.heap.size, 1, none⟩ = some (.slice (some ⟨cb, 0, none⟩) n0 cq) ∧ V.rangeAt db (k * 3) [.bool dn, .slice d_o dl dc, .int .i64 de] ∧ V.rangeAt cb (k * 3) [.bool xn, .slice xo xl xc, .int .i64 xe])) (s := 12) (by kernel_rfl) ?_
      refine takeP 17 (i := 0) (v := .agg #[.bool n, .slice o l c, .int .i64 e]) rfl rfl (by kernel_rfl) (by kernel_rfl) (by kernel_rfl) (by kernel_rfl) rfl (by kernel_rfl) (fun _ _ _ h => h) (Or.inl ⟨by kernel_rfl, fun w' hSw => ex_loadRN _ 80 _ rfl (w.heap.size + 1 + 1) (by kernel_rfl) w' _ hSw.1 _ Tryz.underlying80 rfl 3 Tryz.infoN3 rfl⟩) SX ?_
      try simp only [Act.put, List.setIfInBounds_toArray, List.set_cons_zero, List.set_cons_succ]
      refine takeP 18 (i := 1) (v := ?_) rfl rfl (by kernel_rfl) (by kernel_rfl) (by kernel_rfl) (by kernel_rfl) rfl (by kernel_rfl) (fun _ _ _ h => h) (Or.inl ⟨by kernel_rfl, ?_⟩) SX ?_
      rotate_left
      · intro w' hSw; obtain ⟨s1, s2, s3, s4⟩ := hSw; go_simp; try with_reducible rfl
      try simp only [Act.put, List.setIfInBounds_toArray, List.set_cons_zero, List.set_cons_succ]
      refine takeP 19 (i := 2) (v := ?_) rfl rfl (by kernel_rfl) (by kernel_rfl) (by kernel_rfl) (by kernel_rfl) rfl (by kernel_rfl) (fun _ _ _ h => h) (Or.inl ⟨by kernel_rfl, ?_⟩) SX ?_
      rotate_left
      · intro w' hSw; obtain ⟨s1, s2, s3, s4⟩ := hSw; go_simp; try with_reducible rfl
      try simp only [Act.put, List.setIfInBounds_toArray, List.set_cons_zero, List.set_cons_succ]
      refine takeP 20 (i := 3) (v := ?_) rfl rfl (by kernel_rfl) (by kernel_rfl) (by kernel_rfl) (by kernel_rfl) rfl (by kernel_rfl) (fun _ _ _ h => h) (Or.inl ⟨by kernel_rfl, ?_⟩) SX ?_
      rotate_left
      · intro w' hSw; obtain ⟨s1, s2, s3, s4⟩ := hSw; go_simp; try with_reducible rfl
      try simp only [Act.put, List.setIfInBounds_toArray, List.set_cons_zero, List.set_cons_succ]
      refine takeP 21 (i := 4) (v := .agg #[.bool dn, .slice d_o dl dc, .int .i64 de]) rfl rfl (by kernel_rfl) (by kernel_rfl) (by kernel_rfl) (by kernel_rfl) rfl (by kernel_rfl) (fun _ _ _ h => h) (yieldsIf_load_mid (by kernel_rfl) 80 _ rfl db (k * 3) (by kernel_rfl) #[.bool dn, .slice d_o dl dc, .int .i64 de].toList _ (fun _ hS => hS.2.2.1) Tryz.underlying80 rfl (by kernel_rfl)) SX ?_
      try simp only [Act.put, List.setIfInBounds_toArray, List.set_cons_zero, List.set_cons_succ]
      refine takeP 22 (i := 5) (v := ?_) rfl rfl (by kernel_rfl) (by kernel_rfl) (by kernel_rfl) (by kernel_rfl) rfl (by kernel_rfl) (fun _ _ _ h => h) (Or.inl ⟨by kernel_rfl, ?_⟩) SX ?_
      rotate_left
      · intro w' hSw; obtain ⟨s1, s2, s3, s4⟩ := hSw; go_simp; try with_reducible rfl
      try simp only [Act.put, List.setIfInBounds_toArray, List.set_cons_zero, List.set_cons_succ]
      refine takeP 23 (i := 6) (v := ?_) rfl rfl (by kernel_rfl) (by kernel_rfl) (by kernel_rfl) (by kernel_rfl) rfl (by kernel_rfl) (fun _ _ _ h => h) (Or.inl ⟨by kernel_rfl, ?_⟩) SX ?_
      rotate_left
      · intro w' hSw; obtain ⟨s1, s2, s3, s4⟩ := hSw; go_simp; try with_reducible rfl
      try simp only [Act.put, List.setIfInBounds_toArray, List.set_cons_zero, List.set_cons_succ]
      refine takeP 24 (i := 7) (v := ?_) rfl rfl (by kernel_rfl) (by kernel_rfl) (by kernel_rfl) (by kernel_rfl) rfl (by kernel_rfl) (fun _ _ _ h => h) (Or.inl ⟨by kernel_rfl, ?_⟩) SX ?_
      rotate_left
      · intro w' hSw; obtain ⟨s1, s2, s3, s4⟩ := hSw; go_simp; try with_reducible rfl
      try simp only [Act.put, List.setIfInBounds_toArray, List.set_cons_zero, List.set_cons_succ]
      refine takeP 25 (i := 8) (v := ?_) rfl rfl (by kernel_rfl) (by kernel_rfl) (by kernel_rfl) (by kernel_rfl) rfl (by kernel_rfl) (fun _ _ _ h => h) (Or.inl ⟨by kernel_rfl, ?_⟩) SX ?_
      rotate_left
      · intro w' hSw; obtain ⟨s1, s2, s3, s4⟩ := hSw; go_simp; try with_reducible rfl
      try simp only [Act.put, List.setIfInBounds_toArray, List.set_cons_zero, List.set_cons_succ]
      refine takeP 26 (i := 9) (v := .agg #[.bool xn, .slice xo xl xc, .int .i64 xe]) rfl rfl (by kernel_rfl) (by kernel_rfl) (by kernel_rfl) (by kernel_rfl) rfl (by kernel_rfl) (fun _ _ _ h => h) (yieldsIf_load_mid (by kernel_rfl) 80 _ rfl cb (k * 3) (by kernel_rfl) #[.bool xn, .slice xo xl xc, .int .i64 xe].toList _ (fun _ hS => hS.2.2.2) Tryz.underlying80 rfl (by kernel_rfl)) SX ?_
      try simp only [Act.put, List.setIfInBounds_toArray, List.set_cons_zero, List.set_cons_succ]
      refine wpAnyP_ready (rs := [10]) (by kernel_rfl) (by simp) ?_
      refine consP _ rfl (hopCd 27 rfl (by kernel_rfl) rfl (by kernel_rfl) (Calls.mono (timesC_any _ _ E 1024 1024 _ _ _ HDN.out.toZ HXN.out.toZ (by rw [HE.out]; omega) (by omega) (by omega)) ?_)) AllReadyP.nil
      rintro e V1 ⟨v1, rfl, hz1, b1⟩
      obtain ⟨n1, o1, l1', c1', e1, hv1⟩ := hz1.form
      subst hv1
      have SX : (fun V => V.heap[w.heap.size + 1 + 1]? = some (.cells #[.bool n, .slice o l c, .int .i64 e] 80) ∧ V.cell? ⟨w.heap.size, 1, none⟩ = some (.slice (some ⟨cb, 0, none⟩) n0 cq) ∧ V.rangeAt db (k * 3) [.bool dn, .slice d_o dl dc, .int .i64 de] ∧ V.rangeAt cb (k * 3) [.bool xn, .slice xo xl xc, .int .i64 xe]) V1 := ⟨kept b1 SX.1, (b1.cell (World.block_lt_of_cell? _ _ SX.2.1)).trans SX.2.1, range_later SX.2.2.1 b1, range_later SX.2.2.2 b1⟩
      have Q1 : Below w.heap.size w V1 := HQD.out.trans (b1.mono HQD.out.size)
      have HC1 := HBN.out.later b1
      have P1 := And.intro (kept b1 HP.out.1) (kept b1 HP.out.2)
      clear b1
      refine ⟨_, rfl, SX, ?_⟩
      try simp only [Act.put, List.setIfInBounds_toArray, List.set_cons_zero, List.set_cons_succ]
      refine wpAnyP_ready (rs := [11]) (by kernel_rfl) (by simp) ?_
      refine consP _ rfl (hopCd 28 rfl (by kernel_rfl) rfl (by kernel_rfl) (Calls.mono (plusC_any _ _ (E + E) 2100 _ _ _ HC1 (hz1.mono (by omega)) (by rw [HE.out]; omega) (by omega)) ?_)) AllReadyP.nil
      rintro e V2 ⟨v2, rfl, hz2, b2⟩
      obtain ⟨n2, o2, l2', c2', e2, hv2⟩ := hz2.form
      subst hv2
      have SX : (fun V => V.heap[w.heap.size + 1 + 1]? = some (.cells #[.bool n, .slice o l c, .int .i64 e] 80) ∧ V.cell? ⟨w.heap.size, 1, none⟩ = some (.slice (some ⟨cb, 0, none⟩) n0 cq) ∧ V.rangeAt db (k * 3) [.bool dn, .slice d_o dl dc, .int .i64 de] ∧ V.rangeAt cb (k * 3) [.bool xn, .slice xo xl xc, .int .i64 xe]) V2 := ⟨kept b2 SX.1, (b2.cell (World.block_lt_of_cell? _ _ SX.2.1)).trans SX.2.1, range_later SX.2.2.1 b2, range_later SX.2.2.2 b2⟩
      have Q2 : Below w.heap.size w V2 := Q1.trans (b2.mono Q1.size)
      have P2 := And.intro (kept b2 P1.1) (kept b2 P1.2)
      clear b2 HC1 hz1 Q1 P1
      refine ⟨_, rfl, SX, ?_⟩
      try simp only [Act.put, List.setIfInBounds_toArray, List.set_cons_zero, List.set_cons_succ]
      refine wpAnyP_ready (rs := [12]) (by kernel_rfl) (by simp) ?_
      refine consPs _ rfl (by kernel_rfl) (hopL rfl (wpList_store_row (by rfl) 80 _ _ (by rfl) w w.heap.size (w.heap.size + 1 + 1) #[.bool n2, .slice o2 l2' c2', .int .i64 e2] _ (by kernel_rfl) (by kernel_rfl) SX.1 Q2 (by omega) 3 Tryz.infoN3 rfl rfl (oneN _ _ _ _ _) fun V3 e3 b3 s3 k3 => ?_)) AllReadyP.nil
      refine ⟨trivial, ?_⟩
      try simp only [Act.put, List.setIfInBounds_toArray, List.set_cons_zero, List.set_cons_succ]
      refine wpAnyP_done (by kernel_rfl) ?_ _
      refine NoPanic.normal ?_
      try simp only [Act.put, List.setIfInBounds_toArray, List.set_cons_zero, List.set_cons_succ]
      have HZ : Hid (NumC V3 (.agg #[.bool n2, .slice o2 l2' c2', .int .i64 e2]) (E + E) 2100 (dotV ds cs (k + 1) + boxV ds rs k)) := by
        have hz3 := hz2.cl (num_cl SX.1) (fun b hb _ => k3 b hb)
        have hbd := HBD.out (k + 1) k 0 (by omega) (by omega)
        have e0 : (sumG (fun g => (dotV ds g n0).natAbs) (gs.take 0) : Nat) = 0 := by rw [List.take_zero]; rfl
        rw [e0, Int.natCast_zero, Int.add_zero] at hbd
        have e1 : (dotV ds cs k + boxV ds rs k) + fval (ds[k]?.getD 0) * fval (cs[k]?.getD 0) = (dotV ds cs (k + 1) + boxV ds rs k) := by rw [dotV]; omega
        rw [e1] at hz3
        exact NumC.tight hz3 (by omega) HX.out hbd
      have HB3 : Hid (Below w.heap.size w V3 ∧ V3.heap[w.heap.size + 1 + 1]? = some (.cells #[.bool n2, .slice o2 l2' c2', .int .i64 e2] 80) ∧ (V3.heap[w.heap.size]? = some (.cells #[.int .i64 (n0 : Int), .slice a1 n0 c1, .slice a2 l2 c2, .slice a3 gs.length c3, .slice a4 n0 c4] 72) ∧ V3.heap[w.heap.size + 1]? = some (.cells #[.bool false, .slice none 0 0, .int .i64 0] 80))) := ⟨b3, e3, by rw [k3 _ (by omega)]; exact P2.1, by rw [k3 _ (by omega)]; exact P2.2⟩
      clear hz2 SX k3 P2 b3 e3 s3 Q2 HDN HXN HBN HQD HP
      go_upto_region 6 with fail
      have QD : Below w.heap.size w V3.drew := HB3.out.1.drew
      obtain ⟨db', dq', dn, d_o, dl, dc, de, hdv, hdr, hdz⟩ := RowN.range (HD.out V3.drew QD) (k := k) (by rw [HL.out.2.2.1]; exact h1)
      obtain ⟨rb, rq, yn, yo, yl, yc, ye, hcv, hcr, hcz⟩ := RowN.range (HR.out V3.drew QD).r (k := k) (by rw [HL.out.2.1]; exact h1)
      rw [HL.out.2.1] at hcv
      have k1 : V3.drew.cell? ⟨w.heap.size, 4, none⟩ = some (.slice a4 n0 c4) := cellAtJ HB3.out.2.2.1 4 _ rfl
      rw [hcv] at k1
      have hd5 : db = db' := congrArg (fun o => (o.getD ⟨0, 0, none⟩).block) (Value.slice.inj hdv).1
      clear hdv
      subst hd5
      have SX : (fun V => V.heap[w.heap.size + 1 + 1]? = some (.cells #[.bool n2, .slice o2 l2' c2', .int .i64 e2] 80) ∧ V.cell? ⟨w.heap.size, 4, none⟩ = some (.slice (some ⟨rb, 0, none⟩) n0 rq) ∧ V.rangeAt db (k * 3) [.bool dn, .slice d_o dl dc, .int .i64 de] ∧ V.rangeAt rb (k * 3) [.bool yn, .slice yo yl yc, .int .i64 ye]) V3.drew := ⟨HB3.out.2.1, k1, hdr, hcr⟩
      have HDN : Hid (NumC V3.drew (.agg #[.bool dn, .slice d_o dl dc, .int .i64 de]) E 1024 (fval (ds[k]?.getD 0))) := hdz
      have HXN : Hid (NumC V3.drew (.agg #[.bool yn, .slice yo yl yc, .int .i64 ye]) E 1024 (fval (rs[k]?.getD 0))) := hcz
      have HBN : Hid (NumC V3.drew (.agg #[.bool n2, .slice o2 l2' c2', .int .i64 e2]) (E + E) 2100 (dotV ds cs (k + 1) + boxV ds rs k)) := HZ.out.later (Below.refl _ V3).drew
      have HQD : Hid (Below w.heap.size w V3.drew) := QD
      have HP : Hid (V3.drew.heap[w.heap.size]? = some (.cells #[.int .i64 (n0 : Int), .slice a1 n0 c1, .slice a2 l2 c2, .slice a3 gs.length c3, .slice a4 n0 c4] 72) ∧ V3.drew.heap[w.heap.size + 1]? = some (.cells #[.bool false, .slice none 0 0, .int .i64 0] 80)) := HB3.out.2.2
      clear hdr hcr hdz hcz hcv k1 QD HB3 HZ
      refine wp_region_noPanic ?_
      refine wp_region_P (S := (fun V => V.heap[w.heap.size + 1 + 1]? = some (.cells #[.bool n2, .slice o2 l2' c2', .int .i64 e2] 80) ∧ V.cell? ⟨w.heap.size, 4, none⟩ = some (.slice (some ⟨rb, 0, none⟩) n0 rq) ∧ V.rangeAt db (k * 3) [.bool dn, .slice d_o dl dc, .int .i64 de] ∧ V.rangeAt rb (k * 3) [.bool yn, .slice yo yl yc, .int .i64 ye])) (s := 13) (by kernel_rfl) ?_
      refine takeP 29 (i := 0) (v := .agg #[.bool n2, .slice o2 l2' c2', .int .i64 e2]) rfl rfl (by kernel_rfl) (by kernel_rfl) (by kernel_rfl) (by kernel_rfl) rfl (by kernel_rfl) (fun _ _ _ h => h) (Or.inl ⟨by kernel_rfl, fun w' hSw => ex_loadRN _ 80 _ rfl (w.heap.size + 1 + 1) (by kernel_rfl) w' _ hSw.1 _ Tryz.underlying80 rfl 3 Tryz.infoN3 rfl⟩) SX ?_
      try simp only [Act.put, List.setIfInBounds_toArray, List.set_cons_zero, List.set_cons_succ]
      refine takeP 30 (i := 1) (v := ?_) rfl rfl (by kernel_rfl) (by kernel_rfl) (by kernel_rfl) (by kernel_rfl) rfl (by kernel_rfl) (fun _ _ _ h => h) (Or.inl ⟨by kernel_rfl, ?_⟩) SX ?_
      rotate_left
      · intro w' hSw; obtain ⟨s1, s2, s3, s4⟩ := hSw; go_simp; try with_reducible rfl
      try simp only [Act.put, List.setIfInBounds_toArray, List.set_cons_zero, List.set_cons_succ]
      refine takeP 31 (i := 2) (v := ?_) rfl rfl (by kernel_rfl) (by kernel_rfl) (by kernel_rfl) (by kernel_rfl) rfl (by kernel_rfl) (fun _ _ _ h => h) (Or.inl ⟨by kernel_rfl, ?_⟩) SX ?_
      rotate_left
      · intro w' hSw; obtain ⟨s1, s2, s3, s4⟩ := hSw; go_simp; try with_reducible rfl
      try simp only [Act.put, List.setIfInBounds_toArray, List.set_cons_zero, List.set_cons_succ]
      refine takeP 32 (i := 3) (v := ?_) rfl rfl (by kernel_rfl) (by kernel_rfl) (by kernel_rfl) (by kernel_rfl) rfl (by kernel_rfl) (fun _ _ _ h => h) (Or.inl ⟨by kernel_rfl, ?_⟩) SX ?_
      rotate_left
      · intro w' hSw; obtain ⟨s1, s2, s3, s4⟩ := hSw; go_simp; try with_reducible rfl
      try simp only [Act.put, List.setIfInBounds_toArray, List.set_cons_zero, List.set_cons_succ]
      refine takeP 33 (i := 4) (v := .agg #[.bool dn, .slice d_o dl dc, .int .i64 de]) rfl rfl (by kernel_rfl) (by kernel_rfl) (by kernel_rfl) (by kernel_rfl) rfl (by kernel_rfl) (fun _ _ _ h => h) (yieldsIf_load_mid (by kernel_rfl) 80 _ rfl db (k * 3) (by kernel_rfl) #[.bool dn, .slice d_o dl dc, .int .i64 de].toList _ (fun _ hS => hS.2.2.1) Tryz.underlying80 rfl (by kernel_rfl)) SX ?_
      try simp only [Act.put, List.setIfInBounds_toArray, List.set_cons_zero, List.set_cons_succ]
      refine takeP 35 (i := 6) (v := ?_) rfl rfl (by kernel_rfl) (by kernel_rfl) (by kernel_rfl) (by kernel_rfl) rfl (by kernel_rfl) (fun _ _ _ h => h) (Or.inl ⟨by kernel_rfl, ?_⟩) SX ?_
      rotate_left
      · intro w' hSw; obtain ⟨s1, s2, s3, s4⟩ := hSw; go_simp; try with_reducible rfl
      try simp only [Act.put, List.setIfInBounds_toArray, List.set_cons_zero, List.set_cons_succ]
      refine takeP 36 (i := 7) (v := ?_) rfl rfl (by kernel_rfl) (by kernel_rfl) (by kernel_rfl) (by kernel_rfl) rfl (by kernel_rfl) (fun _ _ _ h => h) (Or.inl ⟨by kernel_rfl, ?_⟩) SX ?_
      rotate_left
      · intro w' hSw; obtain ⟨s1, s2, s3, s4⟩ := hSw; go_simp; try with_reducible rfl
      try simp only [Act.put, List.setIfInBounds_toArray, List.set_cons_zero, List.set_cons_succ]
      refine takeP 37 (i := 8) (v := ?_) rfl rfl (by kernel_rfl) (by kernel_rfl) (by kernel_rfl) (by kernel_rfl) rfl (by kernel_rfl) (fun _ _ _ h => h) (Or.inl ⟨by kernel_rfl, ?_⟩) SX ?_
      rotate_left
      · intro w' hSw; obtain ⟨s1, s2, s3, s4⟩ := hSw; go_simp; try with_reducible rfl
      try simp only [Act.put, List.setIfInBounds_toArray, List.set_cons_zero, List.set_cons_succ]
      refine takeP 38 (i := 9) (v := ?_) rfl rfl (by kernel_rfl) (by kernel_rfl) (by kernel_rfl) (by kernel_rfl) rfl (by kernel_rfl) (fun _ _ _ h => h) (Or.inl ⟨by kernel_rfl, ?_⟩) SX ?_
      rotate_left
      · intro w' hSw; obtain ⟨s1, s2, s3, s4⟩ := hSw; go_simp; try with_reducible rfl
      try simp only [Act.put, List.setIfInBounds_toArray, List.set_cons_zero, List.set_cons_succ]
      refine takeP 39 (i := 10) (v := .agg #[.bool yn, .slice yo yl yc, .int .i64 ye]) rfl rfl (by kernel_rfl) (by kernel_rfl) (by kernel_rfl) (by kernel_rfl) rfl (by kernel_rfl) (fun _ _ _ h => h) (yieldsIf_load_mid (by kernel_rfl) 80 _ rfl rb (k * 3) (by kernel_rfl) #[.bool yn, .slice yo yl yc, .int .i64 ye].toList _ (fun _ hS => hS.2.2.2) Tryz.underlying80 rfl (by kernel_rfl)) SX ?_
      try simp only [Act.put, List.setIfInBounds_toArray, List.set_cons_zero, List.set_cons_succ]
      refine wpAnyP_ready (rs := [5]) (by kernel_rfl) (by simp) ?_
      refine consP _ rfl (hopCd 34 rfl (by kernel_rfl) rfl (by kernel_rfl) (Calls.mono (sizeC_any _ E 1024 _ _ HDN.out) ?_)) AllReadyP.nil
      rintro e V4 ⟨v4, rfl, hz4, b4⟩
      obtain ⟨n4, o4, l4', c4', e4, hv4⟩ := hz4.form
      subst hv4
      have SX : (fun V => V.heap[w.heap.size + 1 + 1]? = some (.cells #[.bool n2, .slice o2 l2' c2', .int .i64 e2] 80) ∧ V.cell? ⟨w.heap.size, 4, none⟩ = some (.slice (some ⟨rb, 0, none⟩) n0 rq) ∧ V.rangeAt db (k * 3) [.bool dn, .slice d_o dl dc, .int .i64 de] ∧ V.rangeAt rb (k * 3) [.bool yn, .slice yo yl yc, .int .i64 ye]) V4 := ⟨kept b4 SX.1, (b4.cell (World.block_lt_of_cell? _ _ SX.2.1)).trans SX.2.1, range_later SX.2.2.1 b4, range_later SX.2.2.2 b4⟩
      have Q4 : Below w.heap.size w V4 := HQD.out.trans (b4.mono HQD.out.size)
      have HC4 := HBN.out.later b4
      have HY4 := HXN.out.later b4
      have P4 := And.intro (kept b4 HP.out.1) (kept b4 HP.out.2)
      clear b4
      refine ⟨_, rfl, SX, ?_⟩
      try simp only [Act.put, List.setIfInBounds_toArray, List.set_cons_zero, List.set_cons_succ]
      refine wpAnyP_ready (rs := [11]) (by kernel_rfl) (by simp) ?_
      refine consP _ rfl (hopCd 40 rfl (by kernel_rfl) rfl (by kernel_rfl) (Calls.mono (timesC_any _ _ E 1024 1024 _ _ _ hz4.toZ HY4.toZ (by rw [HE.out]; omega) (by omega) (by omega)) ?_)) AllReadyP.nil
      rintro e V5 ⟨v5, rfl, hz5, b5⟩
      obtain ⟨n5, o5, l5', c5', e5, hv5⟩ := hz5.form
      subst hv5
      have SX : (fun V => V.heap[w.heap.size + 1 + 1]? = some (.cells #[.bool n2, .slice o2 l2' c2', .int .i64 e2] 80) ∧ V.cell? ⟨w.heap.size, 4, none⟩ = some (.slice (some ⟨rb, 0, none⟩) n0 rq) ∧ V.rangeAt db (k * 3) [.bool dn, .slice d_o dl dc, .int .i64 de] ∧ V.rangeAt rb (k * 3) [.bool yn, .slice yo yl yc, .int .i64 ye]) V5 := ⟨kept b5 SX.1, (b5.cell (World.block_lt_of_cell? _ _ SX.2.1)).trans SX.2.1, range_later SX.2.2.1 b5, range_later SX.2.2.2 b5⟩
      have Q5 : Below w.heap.size w V5 := Q4.trans (b5.mono Q4.size)
      have HC5 := HC4.later b5
      have P5 := And.intro (kept b5 P4.1) (kept b5 P4.2)
      clear b5 HC4 HY4 hz4 Q4 P4
      refine ⟨_, rfl, SX, ?_⟩
      try simp only [Act.put, List.setIfInBounds_toArray, List.set_cons_zero, List.set_cons_succ]
      refine wpAnyP_ready (rs := [12]) (by kernel_rfl) (by simp) ?_
      refine consP _ rfl (hopCd 41 rfl (by kernel_rfl) rfl (by kernel_rfl) (Calls.mono (plusC_any _ _ (E + E) 2100 _ _ _ HC5 (hz5.mono (by omega)) (by rw [HE.out]; omega) (by omega)) ?_)) AllReadyP.nil
      rintro e V6 ⟨v6, rfl, hz6, b6⟩
      obtain ⟨n6, o6, l6', c6', e6, hv6⟩ := hz6.form
      subst hv6
      have SX : (fun V => V.heap[w.heap.size + 1 + 1]? = some (.cells #[.bool n2, .slice o2 l2' c2', .int .i64 e2] 80) ∧ V.cell? ⟨w.heap.size, 4, none⟩ = some (.slice (some ⟨rb, 0, none⟩) n0 rq) ∧ V.rangeAt db (k * 3) [.bool dn, .slice d_o dl dc, .int .i64 de] ∧ V.rangeAt rb (k * 3) [.bool yn, .slice yo yl yc, .int .i64 ye]) V6 := ⟨kept b6 SX.1, (b6.cell (World.block_lt_of_cell? _ _ SX.2.1)).trans SX.2.1, range_later SX.2.2.1 b6, range_later SX.2.2.2 b6⟩
      have Q6 : Below w.heap.size w V6 := Q5.trans (b6.mono Q5.size)
      have P6 := And.intro (kept b6 P5.1) (kept b6 P5.2)
      clear b6 HC5 hz5 Q5 P5
      refine ⟨_, rfl, SX, ?_⟩
      try simp only [Act.put, List.setIfInBounds_toArray, List.set_cons_zero, List.set_cons_succ]
      refine wpAnyP_ready (rs := [13]) (by kernel_rfl) (by simp) ?_
      refine consPs _ rfl (by kernel_rfl) (hopL rfl (wpList_store_row (by rfl) 80 _ _ (by rfl) w w.heap.size (w.heap.size + 1 + 1) #[.bool n6, .slice o6 l6' c6', .int .i64 e6] _ (by kernel_rfl) (by kernel_rfl) SX.1 Q6 (by omega) 3 Tryz.infoN3 rfl rfl (oneN _ _ _ _ _) fun V7 e7 b7 s7 k7 => ?_)) AllReadyP.nil
      refine ⟨trivial, ?_⟩
      try simp only [Act.put, List.setIfInBounds_toArray, List.set_cons_zero, List.set_cons_succ]
      refine wpAnyP_done (by kernel_rfl) ?_ _
      refine NoPanic.normal ?_
      try simp only [Act.put, List.setIfInBounds_toArray, List.set_cons_zero, List.set_cons_succ]
      have HZ : Hid (NumC V7 (.agg #[.bool n6, .slice o6 l6' c6', .int .i64 e6]) (E + E) 2100 (dotV ds cs (k + 1) + boxV ds rs (k + 1))) := by
        have hz7 := hz6.cl (num_cl SX.1) (fun b hb _ => k7 b hb)
        have hbd := HBD.out (k + 1) (k + 1) 0 (by omega) (by omega)
        have e0 : (sumG (fun g => (dotV ds g n0).natAbs) (gs.take 0) : Nat) = 0 := by rw [List.take_zero]; rfl
        rw [e0, Int.natCast_zero, Int.add_zero] at hbd
        have e1 : (dotV ds cs (k + 1) + boxV ds rs k) + ((fval (ds[k]?.getD 0)).natAbs : Int) * fval (rs[k]?.getD 0) = (dotV ds cs (k + 1) + boxV ds rs (k + 1)) := by
          rw [boxV, fval_frung, ← fval_absJ, Int.add_assoc]
        rw [e1] at hz7
        exact NumC.tight hz7 (by omega) HX.out hbd
      have HB7 : Hid (Below w.heap.size w V7 ∧ V7.heap[w.heap.size + 1 + 1]? = some (.cells #[.bool n6, .slice o6 l6' c6', .int .i64 e6] 80) ∧ (V7.heap[w.heap.size]? = some (.cells #[.int .i64 (n0 : Int), .slice a1 n0 c1, .slice a2 l2 c2, .slice a3 gs.length c3, .slice a4 n0 c4] 72) ∧ V7.heap[w.heap.size + 1]? = some (.cells #[.bool false, .slice none 0 0, .int .i64 0] 80))) := ⟨b7, e7, by rw [k7 _ (by omega)]; exact P6.1, by rw [k7 _ (by omega)]; exact P6.2⟩
      clear hz6 SX k7 P6 b7 e7 s7 Q6 HDN HXN HBN HQD HP
      go_wp2_with fail
      go_roundg q
      case measure => omega
      case rel => exact ⟨k + 1, by go_num, by have := HIG.out; omega, n6, o6, l6', c6', e6, ⟨⟨HB7.out.2.1, HZ.out⟩, HB7.out.2.2, HB7.out.1⟩⟩
    · have hd1 : decide ((k : Int) < (n0 : Int)) = false := decide_eq_false (by omega)
      have ek : k = n0 := by omega
      have HI0 : Hid (BxN wr (w.heap.size + 1 + 1) (E + E) 2100 ((dotV ds cs n0 + boxV ds rs n0) + (sumG (fun g => (dotV ds g n0).natAbs) (gs.take 0) : Nat)) n o l c e ∧ (wr.heap[w.heap.size]? = some (.cells #[.int .i64 (n0 : Int), .slice a1 n0 c1, .slice a2 l2 c2, .slice a3 gs.length c3, .slice a4 n0 c4] 72) ∧ wr.heap[w.heap.size + 1]? = some (.cells #[.bool false, .slice none 0 0, .int .i64 0] 80)) ∧ Below w.heap.size w wr) := ⟨⟨HI.out.1.row, by have := HI.out.1.num; rw [ek] at this; rw [List.take_zero]; show NumC _ _ _ _ (_ + ((0 : Nat) : Int)); rw [Int.natCast_zero, Int.add_zero]; exact this⟩, HI.out.2⟩
      clear ek HI
      go_wp2_with fail
      clear hd1 k0
      go_loopg [7] gs.length (fun q v7 wx => ∃ (k : Nat), v7 = .int .i64 k ∧ k + q = gs.length ∧ ∃ (n : Bool) (o : Option Addr) (l c : Nat) (e : Int), Hid (BxN wx (w.heap.size + 1 + 1) (E + E) 2100 ((dotV ds cs n0 + boxV ds rs n0) + (sumG (fun g => (dotV ds g n0).natAbs) (gs.take k) : Nat)) n o l c e ∧ (wx.heap[w.heap.size]? = some (.cells #[.int .i64 (n0 : Int), .slice a1 n0 c1, .slice a2 l2 c2, .slice a3 gs.length c3, .slice a4 n0 c4] 72) ∧ wx.heap[w.heap.size + 1]? = some (.cells #[.bool false, .slice none 0 0, .int .i64 0] 80)) ∧ Below w.heap.size w wx))
      case atStart => exact ⟨0, rfl, by omega, n, o, l, c, e, HI0⟩
      case round =>
        clear HI0
        obtain ⟨k, rfl, hk, n, o, l, c, e, HI⟩ := hrel
        have k3 : wr.cell? ⟨w.heap.size, 3, none⟩ = some (.slice a3 gs.length c3) := cellAtJ HI.out.2.1.1 3 _ rfl
        by_cases h1 : k < gs.length
        · have hd1 : decide ((k : Int) < (gs.length : Int)) = true := decide_eq_true (by omega)
          obtain ⟨q, rfl⟩ : ∃ q, gk = q + 1 := ⟨gk - 1, by omega⟩
          have HIG : Hid _ := hk
          have hk0 : (k : Int) < (gs.length : Int) := by omega
          clear hk
          go_wp2_with fail
          obtain ⟨W0, rfl⟩ : ∃ W0, W0 = wr := ⟨_, rfl⟩
          have A2 : Below W0.heap.size W0 (W0.alloc (.cells #[.bool false, .slice none 0 0, .int .i64 0] 80)) := (Below.refl _ W0).alloc (Nat.le_refl _) _
          have P2 : Hid (BxN (W0.alloc (.cells #[.bool false, .slice none 0 0, .int .i64 0] 80)) W0.heap.size (E + E) 2100 (dotV ds (gs[k]?.getD []) 0) false none 0 0 0 ∧ Below W0.heap.size W0 (W0.alloc (.cells #[.bool false, .slice none 0 0, .int .i64 0] 80))) := ⟨⟨heap_alloc_new W0 _, NumC.zeroJ _ _ _ (by omega)⟩, A2⟩
          have hS5 : w.heap.size + 1 + 1 < W0.heap.size := blk_lt HI.out.1.row
          obtain ⟨X2, hX2⟩ : ∃ X2, W0.alloc (.cells #[.bool false, .slice none 0 0, .int .i64 0] 80) = X2 := ⟨_, rfl⟩
          rw [hX2] at P2 ⊢
          clear hX2 A2 k3 hd1
          go_loopg [9] n0 (fun q9 v9 wx => ∃ (j : Nat), v9 = .int .i64 j ∧ j + q9 = n0 ∧ ∃ (tn : Bool) (t_o : Option Addr) (tl tc : Nat) (te : Int), Hid (BxN wx W0.heap.size (E + E) 2100 (dotV ds (gs[k]?.getD []) j) tn t_o tl tc te ∧ Below W0.heap.size W0 wx))
          case atStart => exact ⟨0, rfl, by omega, false, none, 0, 0, 0, P2⟩
          case round =>
            clear P2
            obtain ⟨j, rfl, hj, tn, t_o, tl, tc, te, HT⟩ := hrel
            have k0 : wr.cell? ⟨w.heap.size, 0, none⟩ = some (.int .i64 (n0 : Int)) := cellAtJ (kept HT.out.2 HI.out.2.1.1) 0 _ rfl
            by_cases h2 : j < n0
            · have hd2 : decide ((j : Int) < (n0 : Int)) = true := decide_eq_true (by omega)
              obtain ⟨p, rfl⟩ : ∃ p, gk = p + 1 := ⟨gk - 1, by omega⟩
              have HJG : Hid _ := hj
              have hj0 : (j : Int) < (n0 : Int) := by omega
              clear hj
              go_upto_region 14 with fail
              have QD0 : Below W0.heap.size W0 wr.drew := HT.out.2.drew
              have QD : Below w.heap.size w wr.drew := to_call HI.out.2.2 QD0
              obtain ⟨db, dq, dn, d_o, dl, dc, de, hdv, hdr, hdz⟩ := RowN.range (HD.out wr.drew QD) (k := j) (by rw [HL.out.2.2.1]; exact h2)
              obtain ⟨g, gb, gq, xn, xo, xl, xc, xe, hg3, hc1, hc2, hc3⟩ := RlS.elem (HR.out wr.drew QD) h1 (HL.out.2.2.2 k h1) h2
              rw [HL.out.2.2.1] at hdv
              have k1 : wr.drew.cell? ⟨w.heap.size, 3, none⟩ = some (.slice a3 gs.length c3) := cellAtJ (kept QD0 HI.out.2.1.1) 3 _ rfl
              rw [hg3] at k1
              clear hg3
              have hd3 := (Value.slice.inj hdv).1
              clear hdv
              subst hd3
              have SX : (fun V => V.heap[W0.heap.size]? = some (.cells #[.bool tn, .slice t_o tl tc, .int .i64 te] 80) ∧ V.cell? ⟨w.heap.size, 3, none⟩ = some (.slice (some ⟨g, 0, none⟩) gs.length c3) ∧ V.cell? ⟨g, k, none⟩ = some (.slice (some ⟨gb, 0, none⟩) n0 gq) ∧ V.rangeAt db (j * 3) [.bool dn, .slice d_o dl dc, .int .i64 de] ∧ V.rangeAt gb (j * 3) [.bool xn, .slice xo xl xc, .int .i64 xe]) wr.drew := ⟨HT.out.1.row, k1, hc1, hdr, hc2⟩
              have HDN : Hid (NumC wr.drew (.agg #[.bool dn, .slice d_o dl dc, .int .i64 de]) E 1024 (fval (ds[j]?.getD 0))) := hdz
              have HXN : Hid (NumC wr.drew (.agg #[.bool xn, .slice xo xl xc, .int .i64 xe]) E 1024 (fval ((gs[k]?.getD [])[j]?.getD 0))) := hc3
              have HBN : Hid (NumC wr.drew (.agg #[.bool tn, .slice t_o tl tc, .int .i64 te]) (E + E) 2100 (dotV ds (gs[k]?.getD []) j)) := HT.out.1.num.later (Below.refl _ wr).drew
              have HQD : Hid (Below W0.heap.size W0 wr.drew) := QD0
              clear hdr hdz hc1 hc2 hc3 k1 QD QD0 k0 hd2 HT
              refine wp_region_noPanic ?_
              refine wp_region_P (S := (fun V => V.heap[W0.heap.size]? = some (.cells #[.bool tn, .slice t_o tl tc, .int .i64 te] 80) ∧ V.cell? ⟨w.heap.size, 3, none⟩ = some (.slice (some ⟨g, 0, none⟩) gs.length c3) ∧ V.cell? ⟨g, k, none⟩ = some (.slice (some ⟨gb, 0, none⟩) n0 gq) ∧ V.rangeAt db (j * 3) [.bool dn, .slice d_o dl dc, .int .i64 de] ∧ V.rangeAt gb (j * 3) [.bool xn, .slice xo xl xc, .int .i64 xe])) (s := 15) (by kernel_rfl) ?_
              refine takeP 56 (i := 0) (v := .agg #[.bool tn, .slice t_o tl tc, .int .i64 te]) rfl rfl (by kernel_rfl) (by kernel_rfl) (by kernel_rfl) (by kernel_rfl) rfl (by kernel_rfl) (fun _ _ _ h => h) (Or.inl ⟨by kernel_rfl, fun w' hSw => ex_loadRN _ 80 _ rfl W0.heap.size (by kernel_rfl) w' _ hSw.1 _ Tryz.underlying80 rfl 3 Tryz.infoN3 rfl⟩) SX ?_
              try simp only [Act.put, List.setIfInBounds_toArray, List.set_cons_zero, List.set_cons_succ]
              refine takeP 57 (i := 1) (v := ?_) rfl rfl (by kernel_rfl) (by kernel_rfl) (by kernel_rfl) (by kernel_rfl) rfl (by kernel_rfl) (fun _ _ _ h => h) (Or.inl ⟨by kernel_rfl, ?_⟩) SX ?_
              rotate_left
              · intro w' hSw; obtain ⟨s1, s2, s3, s4, s5⟩ := hSw; go_simp; try with_reducible rfl
              try simp only [Act.put, List.setIfInBounds_toArray, List.set_cons_zero, List.set_cons_succ]
              refine takeP 58 (i := 2) (v := ?_) rfl rfl (by kernel_rfl) (by kernel_rfl) (by kernel_rfl) (by kernel_rfl) rfl (by kernel_rfl) (fun _ _ _ h => h) (Or.inl ⟨by kernel_rfl, ?_⟩) SX ?_
              rotate_left
              · intro w' hSw; obtain ⟨s1, s2, s3, s4, s5⟩ := hSw; go_simp; try with_reducible rfl
              try simp only [Act.put, List.setIfInBounds_toArray, List.set_cons_zero, List.set_cons_succ]
              refine takeP 59 (i := 3) (v := ?_) rfl rfl (by kernel_rfl) (by kernel_rfl) (by kernel_rfl) (by kernel_rfl) rfl (by kernel_rfl) (fun _ _ _ h => h) (Or.inl ⟨by kernel_rfl, ?_⟩) SX ?_
              rotate_left
              · intro w' hSw; obtain ⟨s1, s2, s3, s4, s5⟩ := hSw; go_simp; try with_reducible rfl
              try simp only [Act.put, List.setIfInBounds_toArray, List.set_cons_zero, List.set_cons_succ]
              refine takeP 60 (i := 4) (v := .agg #[.bool dn, .slice d_o dl dc, .int .i64 de]) rfl rfl (by kernel_rfl) (by kernel_rfl) (by kernel_rfl) (by kernel_rfl) rfl (by kernel_rfl) (fun _ _ _ h => h) (yieldsIf_load_mid (by kernel_rfl) 80 _ rfl db (j * 3) (by kernel_rfl) #[.bool dn, .slice d_o dl dc, .int .i64 de].toList _ (fun _ hS => hS.2.2.2.1) Tryz.underlying80 rfl (by kernel_rfl)) SX ?_
              try simp only [Act.put, List.setIfInBounds_toArray, List.set_cons_zero, List.set_cons_succ]
              refine takeP 61 (i := 5) (v := ?_) rfl rfl (by kernel_rfl) (by kernel_rfl) (by kernel_rfl) (by kernel_rfl) rfl (by kernel_rfl) (fun _ _ _ h => h) (Or.inl ⟨by kernel_rfl, ?_⟩) SX ?_
              rotate_left
              · intro w' hSw; obtain ⟨s1, s2, s3, s4, s5⟩ := hSw; go_simp; try with_reducible rfl
              try simp only [Act.put, List.setIfInBounds_toArray, List.set_cons_zero, List.set_cons_succ]
              refine takeP 62 (i := 6) (v := ?_) rfl rfl (by kernel_rfl) (by kernel_rfl) (by kernel_rfl) (by kernel_rfl) rfl (by kernel_rfl) (fun _ _ _ h => h) (Or.inl ⟨by kernel_rfl, ?_⟩) SX ?_
              rotate_left
              · intro w' hSw; obtain ⟨s1, s2, s3, s4, s5⟩ := hSw; go_simp; try with_reducible rfl
              try simp only [Act.put, List.setIfInBounds_toArray, List.set_cons_zero, List.set_cons_succ]
              refine takeP 63 (i := 7) (v := ?_) rfl rfl (by kernel_rfl) (by kernel_rfl) (by kernel_rfl) (by kernel_rfl) rfl (by kernel_rfl) (fun _ _ _ h => h) (Or.inl ⟨by kernel_rfl, ?_⟩) SX ?_
              rotate_left
              · intro w' hSw; obtain ⟨s1, s2, s3, s4, s5⟩ := hSw; go_simp; try with_reducible rfl
              try simp only [Act.put, List.setIfInBounds_toArray, List.set_cons_zero, List.set_cons_succ]
              refine takeP 64 (i := 8) (v := ?_) rfl rfl (by kernel_rfl) (by kernel_rfl) (by kernel_rfl) (by kernel_rfl) rfl (by kernel_rfl) (fun _ _ _ h => h) (Or.inl ⟨by kernel_rfl, ?_⟩) SX ?_
              rotate_left
              · intro w' hSw; obtain ⟨s1, s2, s3, s4, s5⟩ := hSw; go_simp; try with_reducible rfl
              try simp only [Act.put, List.setIfInBounds_toArray, List.set_cons_zero, List.set_cons_succ]
              refine takeP 65 (i := 9) (v := ?_) rfl rfl (by kernel_rfl) (by kernel_rfl) (by kernel_rfl) (by kernel_rfl) rfl (by kernel_rfl) (fun _ _ _ h => h) (Or.inl ⟨by kernel_rfl, ?_⟩) SX ?_
              rotate_left
              · intro w' hSw; obtain ⟨s1, s2, s3, s4, s5⟩ := hSw; go_simp; try with_reducible rfl
              try simp only [Act.put, List.setIfInBounds_toArray, List.set_cons_zero, List.set_cons_succ]
              refine takeP 66 (i := 10) (v := ?_) rfl rfl (by kernel_rfl) (by kernel_rfl) (by kernel_rfl) (by kernel_rfl) rfl (by kernel_rfl) (fun _ _ _ h => h) (Or.inl ⟨by kernel_rfl, ?_⟩) SX ?_
              rotate_left
              · intro w' hSw; obtain ⟨s1, s2, s3, s4, s5⟩ := hSw; go_simp; try with_reducible rfl
              try simp only [Act.put, List.setIfInBounds_toArray, List.set_cons_zero, List.set_cons_succ]
              refine takeP 67 (i := 11) (v := ?_) rfl rfl (by kernel_rfl) (by kernel_rfl) (by kernel_rfl) (by kernel_rfl) rfl (by kernel_rfl) (fun _ _ _ h => h) (Or.inl ⟨by kernel_rfl, ?_⟩) SX ?_
              rotate_left
              · intro w' hSw; obtain ⟨s1, s2, s3, s4, s5⟩ := hSw; go_simp; try with_reducible rfl
              try simp only [Act.put, List.setIfInBounds_toArray, List.set_cons_zero, List.set_cons_succ]
              refine takeP 68 (i := 12) (v := .agg #[.bool xn, .slice xo xl xc, .int .i64 xe]) rfl rfl (by kernel_rfl) (by kernel_rfl) (by kernel_rfl) (by kernel_rfl) rfl (by kernel_rfl) (fun _ _ _ h => h) (yieldsIf_load_mid (by kernel_rfl) 80 _ rfl gb (j * 3) (by kernel_rfl) #[.bool xn, .slice xo xl xc, .int .i64 xe].toList _ (fun _ hS => hS.2.2.2.2) Tryz.underlying80 rfl (by kernel_rfl)) SX ?_
              try simp only [Act.put, List.setIfInBounds_toArray, List.set_cons_zero, List.set_cons_succ]
              refine wpAnyP_ready (rs := [13]) (by kernel_rfl) (by simp) ?_
              refine consP _ rfl (hopCd 69 rfl (by kernel_rfl) rfl (by kernel_rfl) (Calls.mono (timesC_any _ _ E 1024 1024 _ _ _ HDN.out.toZ HXN.out.toZ (by rw [HE.out]; omega) (by omega) (by omega)) ?_)) AllReadyP.nil
              rintro e V1 ⟨v1, rfl, hz1, b1⟩
              obtain ⟨n1, o1, l1', c1', e1, hv1⟩ := hz1.form
              subst hv1
              have SX : (fun V => V.heap[W0.heap.size]? = some (.cells #[.bool tn, .slice t_o tl tc, .int .i64 te] 80) ∧ V.cell? ⟨w.heap.size, 3, none⟩ = some (.slice (some ⟨g, 0, none⟩) gs.length c3) ∧ V.cell? ⟨g, k, none⟩ = some (.slice (some ⟨gb, 0, none⟩) n0 gq) ∧ V.rangeAt db (j * 3) [.bool dn, .slice d_o dl dc, .int .i64 de] ∧ V.rangeAt gb (j * 3) [.bool xn, .slice xo xl xc, .int .i64 xe]) V1 := ⟨kept b1 SX.1, (b1.cell (World.block_lt_of_cell? _ _ SX.2.1)).trans SX.2.1, (b1.cell (World.block_lt_of_cell? _ _ SX.2.2.1)).trans SX.2.2.1, range_later SX.2.2.2.1 b1, range_later SX.2.2.2.2 b1⟩
              have Q1 : Below W0.heap.size W0 V1 := HQD.out.trans (b1.mono HQD.out.size)
              have HC1 := HBN.out.later b1
              clear b1
              refine ⟨_, rfl, SX, ?_⟩
              try simp only [Act.put, List.setIfInBounds_toArray, List.set_cons_zero, List.set_cons_succ]
              refine wpAnyP_ready (rs := [14]) (by kernel_rfl) (by simp) ?_
              refine consP _ rfl (hopCd 70 rfl (by kernel_rfl) rfl (by kernel_rfl) (Calls.mono (plusC_any _ _ (E + E) 2100 _ _ _ HC1 (hz1.mono (by omega)) (by rw [HE.out]; omega) (by omega)) ?_)) AllReadyP.nil
              rintro e V2 ⟨v2, rfl, hz2, b2⟩
              obtain ⟨n2, o2, l2', c2', e2, hv2⟩ := hz2.form
              subst hv2
              have SX : (fun V => V.heap[W0.heap.size]? = some (.cells #[.bool tn, .slice t_o tl tc, .int .i64 te] 80) ∧ V.cell? ⟨w.heap.size, 3, none⟩ = some (.slice (some ⟨g, 0, none⟩) gs.length c3) ∧ V.cell? ⟨g, k, none⟩ = some (.slice (some ⟨gb, 0, none⟩) n0 gq) ∧ V.rangeAt db (j * 3) [.bool dn, .slice d_o dl dc, .int .i64 de] ∧ V.rangeAt gb (j * 3) [.bool xn, .slice xo xl xc, .int .i64 xe]) V2 := ⟨kept b2 SX.1, (b2.cell (World.block_lt_of_cell? _ _ SX.2.1)).trans SX.2.1, (b2.cell (World.block_lt_of_cell? _ _ SX.2.2.1)).trans SX.2.2.1, range_later SX.2.2.2.1 b2, range_later SX.2.2.2.2 b2⟩
              have Q2 : Below W0.heap.size W0 V2 := Q1.trans (b2.mono Q1.size)
              clear b2 HC1 hz1 Q1
              refine ⟨_, rfl, SX, ?_⟩
              try simp only [Act.put, List.setIfInBounds_toArray, List.set_cons_zero, List.set_cons_succ]
              refine wpAnyP_ready (rs := [15]) (by kernel_rfl) (by simp) ?_
              refine consPs _ rfl (by kernel_rfl) (hopL rfl (wpList_store_row (by rfl) 80 _ _ (by rfl) W0 W0.heap.size W0.heap.size #[.bool n2, .slice o2 l2' c2', .int .i64 e2] _ (by kernel_rfl) (by kernel_rfl) SX.1 Q2 (Nat.le_refl _) 3 Tryz.infoN3 rfl rfl (oneN _ _ _ _ _) fun V3 e3 b3 s3 k3 => ?_)) AllReadyP.nil
              refine ⟨trivial, ?_⟩
              try simp only [Act.put, List.setIfInBounds_toArray, List.set_cons_zero, List.set_cons_succ]
              refine wpAnyP_done (by kernel_rfl) ?_ _
              refine NoPanic.normal ?_
              try simp only [Act.put, List.setIfInBounds_toArray, List.set_cons_zero, List.set_cons_succ]
              have HZ : Hid (NumC V3 (.agg #[.bool n2, .slice o2 l2' c2', .int .i64 e2]) (E + E) 2100 (dotV ds (gs[k]?.getD []) (j + 1))) := by
                have hz3 := hz2.cl (num_cl SX.1) (fun b hb _ => k3 b hb)
                exact NumC.tight hz3 (by omega) HX.out (HBT.out k (j + 1) (by omega))
              have HB3 : Hid (V3.heap[W0.heap.size]? = some (.cells #[.bool n2, .slice o2 l2' c2', .int .i64 e2] 80) ∧ Below W0.heap.size W0 V3) := ⟨e3, b3⟩
              clear hz2 SX k3 b3 e3 s3 Q2 HDN HXN HBN HQD
              go_wp2_with fail
              go_roundg p
              case measure => omega
              case rel => exact ⟨j + 1, by go_num, by have := HJG.out; omega, n2, o2, l2', c2', e2, ⟨⟨HB3.out.1, HZ.out⟩, HB3.out.2⟩⟩
            · have hd2 : decide ((j : Int) < (n0 : Int)) = false := decide_eq_false (by omega)
              have ej : j = n0 := by omega
              go_upto_region 15 with fail
              have QD0 : Below W0.heap.size W0 wr.drew := HT.out.2.drew
              have SX : (fun V => V.heap[w.heap.size + 1 + 1]? = some (.cells #[.bool n, .slice o l c, .int .i64 e] 80) ∧ V.heap[W0.heap.size]? = some (.cells #[.bool tn, .slice t_o tl tc, .int .i64 te] 80)) wr.drew := ⟨kept QD0 HI.out.1.row, HT.out.1.row⟩
              have HTN : Hid (NumC wr.drew (.agg #[.bool tn, .slice t_o tl tc, .int .i64 te]) (E + E) 2100 (dotV ds (gs[k]?.getD []) n0)) := by have := HT.out.1.num.later (Below.refl _ wr).drew; rw [ej] at this; exact this
              have HBN : Hid (NumC wr.drew (.agg #[.bool n, .slice o l c, .int .i64 e]) (E + E) 2100 ((dotV ds cs n0 + boxV ds rs n0) + (sumG (fun g => (dotV ds g n0).natAbs) (gs.take k) : Nat))) := HI.out.1.num.later QD0
              have HQD : Hid (Below w.heap.size w wr.drew) := to_call HI.out.2.2 QD0
              have HP : Hid (wr.drew.heap[w.heap.size]? = some (.cells #[.int .i64 (n0 : Int), .slice a1 n0 c1, .slice a2 l2 c2, .slice a3 gs.length c3, .slice a4 n0 c4] 72) ∧ wr.drew.heap[w.heap.size + 1]? = some (.cells #[.bool false, .slice none 0 0, .int .i64 0] 80)) := ⟨kept QD0 HI.out.2.1.1, kept QD0 HI.out.2.1.2⟩
              clear QD0 ej hd2 k0 hj
              refine wp_region_noPanic ?_
              refine wp_region_P (S := (fun V => V.heap[w.heap.size + 1 + 1]? = some (.cells #[.bool n, .slice o l c, .int .i64 e] 80) ∧ V.heap[W0.heap.size]? = some (.cells #[.bool tn, .slice t_o tl tc, .int .i64 te] 80))) (s := 4) (by kernel_rfl) ?_
              refine takeP 71 (i := 0) (v := .agg #[.bool n, .slice o l c, .int .i64 e]) rfl rfl (by kernel_rfl) (by kernel_rfl) (by kernel_rfl) (by kernel_rfl) rfl (by kernel_rfl) (fun _ _ _ h => h) (Or.inl ⟨by kernel_rfl, fun w' hSw => ex_loadRN _ 80 _ rfl (w.heap.size + 1 + 1) (by kernel_rfl) w' _ hSw.1 _ Tryz.underlying80 rfl 3 Tryz.infoN3 rfl⟩) SX ?_
              try simp only [Act.put, List.setIfInBounds_toArray, List.set_cons_zero, List.set_cons_succ]
              refine takeP 72 (i := 1) (v := .agg #[.bool tn, .slice t_o tl tc, .int .i64 te]) rfl rfl (by kernel_rfl) (by kernel_rfl) (by kernel_rfl) (by kernel_rfl) rfl (by kernel_rfl) (fun _ _ _ h => h) (Or.inl ⟨by kernel_rfl, fun w' hSw => ex_loadRN _ 80 _ rfl W0.heap.size (by kernel_rfl) w' _ hSw.2 _ Tryz.underlying80 rfl 3 Tryz.infoN3 rfl⟩) SX ?_
              try simp only [Act.put, List.setIfInBounds_toArray, List.set_cons_zero, List.set_cons_succ]
              refine wpAnyP_ready (rs := [2]) (by kernel_rfl) (by simp) ?_
              refine consP _ rfl (hopCd 73 rfl (by kernel_rfl) rfl (by kernel_rfl) (Calls.mono (sizeC_any _ (E + E) 2100 _ _ HTN.out) ?_)) AllReadyP.nil
              rintro e V1 ⟨v1, rfl, hz1, b1⟩
              obtain ⟨n1, o1, l1', c1', e1, hv1⟩ := hz1.form
              subst hv1
              have SX : (fun V => V.heap[w.heap.size + 1 + 1]? = some (.cells #[.bool n, .slice o l c, .int .i64 e] 80) ∧ V.heap[W0.heap.size]? = some (.cells #[.bool tn, .slice t_o tl tc, .int .i64 te] 80)) V1 := ⟨kept b1 SX.1, kept b1 SX.2⟩
              have Q1 : Below w.heap.size w V1 := HQD.out.trans (b1.mono HQD.out.size)
              have HC1 := HBN.out.later b1
              have P1 := And.intro (kept b1 HP.out.1) (kept b1 HP.out.2)
              clear b1
              refine ⟨_, rfl, SX, ?_⟩
              try simp only [Act.put, List.setIfInBounds_toArray, List.set_cons_zero, List.set_cons_succ]
              refine wpAnyP_ready (rs := [3]) (by kernel_rfl) (by simp) ?_
              refine consP _ rfl (hopCd 74 rfl (by kernel_rfl) rfl (by kernel_rfl) (Calls.mono (plusC_any _ _ (E + E) 2100 _ _ _ HC1 hz1 (by rw [HE.out]; omega) (by omega)) ?_)) AllReadyP.nil
              rintro e V2 ⟨v2, rfl, hz2, b2⟩
              obtain ⟨n2, o2, l2', c2', e2, hv2⟩ := hz2.form
              subst hv2
              have SX : (fun V => V.heap[w.heap.size + 1 + 1]? = some (.cells #[.bool n, .slice o l c, .int .i64 e] 80) ∧ V.heap[W0.heap.size]? = some (.cells #[.bool tn, .slice t_o tl tc, .int .i64 te] 80)) V2 := ⟨kept b2 SX.1, kept b2 SX.2⟩
              have Q2 : Below w.heap.size w V2 := Q1.trans (b2.mono Q1.size)
              have P2 := And.intro (kept b2 P1.1) (kept b2 P1.2)
              clear b2 HC1 hz1 Q1 P1
              refine ⟨_, rfl, SX, ?_⟩
              try simp only [Act.put, List.setIfInBounds_toArray, List.set_cons_zero, List.set_cons_succ]
              refine wpAnyP_ready (rs := [4]) (by kernel_rfl) (by simp) ?_
              refine consPs _ rfl (by kernel_rfl) (hopL rfl (wpList_store_row (by rfl) 80 _ _ (by rfl) w w.heap.size (w.heap.size + 1 + 1) #[.bool n2, .slice o2 l2' c2', .int .i64 e2] _ (by kernel_rfl) (by kernel_rfl) SX.1 Q2 (by omega) 3 Tryz.infoN3 rfl rfl (oneN _ _ _ _ _) fun V3 e3 b3 s3 k3 => ?_)) AllReadyP.nil
              refine ⟨trivial, ?_⟩
              try simp only [Act.put, List.setIfInBounds_toArray, List.set_cons_zero, List.set_cons_succ]
              refine wpAnyP_done (by kernel_rfl) ?_ _
              refine NoPanic.normal ?_
              try simp only [Act.put, List.setIfInBounds_toArray, List.set_cons_zero, List.set_cons_succ]
              have HZ : Hid (NumC V3 (.agg #[.bool n2, .slice o2 l2' c2', .int .i64 e2]) (E + E) 2100 ((dotV ds cs n0 + boxV ds rs n0) + (sumG (fun g => (dotV ds g n0).natAbs) (gs.take (k + 1)) : Nat))) := by
                have hz3 := hz2.cl (num_cl SX.1) (fun b hb _ => k3 b hb)
                have hbd := HBD.out n0 n0 (k + 1) (Nat.le_refl _) (Nat.le_refl _)
                rw [sumG_take h1] at hbd ⊢
                rw [Int.add_assoc, ← Int.natCast_add] at hz3
                exact NumC.tight hz3 (by omega) HX.out hbd
              have HB3 : Hid (Below w.heap.size w V3 ∧ V3.heap[w.heap.size + 1 + 1]? = some (.cells #[.bool n2, .slice o2 l2' c2', .int .i64 e2] 80) ∧ (V3.heap[w.heap.size]? = some (.cells #[.int .i64 (n0 : Int), .slice a1 n0 c1, .slice a2 l2 c2, .slice a3 gs.length c3, .slice a4 n0 c4] 72) ∧ V3.heap[w.heap.size + 1]? = some (.cells #[.bool false, .slice none 0 0, .int .i64 0] 80))) := ⟨b3, e3, by rw [k3 _ (by omega)]; exact P2.1, by rw [k3 _ (by omega)]; exact P2.2⟩
              clear hz2 SX k3 P2 b3 e3 s3 Q2 HTN HBN HQD HP
              go_wp2_with fail
              go_roundg q
              case measure => omega
              case rel => exact ⟨k + 1, by go_num, by have := HIG.out; omega, n2, o2, l2', c2', e2, ⟨⟨HB3.out.2.1, HZ.out⟩, HB3.out.2.2, HB3.out.1⟩⟩
        · have hd1 : decide ((k : Int) < (gs.length : Int)) = false := decide_eq_false (by omega)
          have hd2 : decide (k < gs.length) = false := decide_eq_false h1
          have HZ : Hid (NumC wr (.agg #[.bool n, .slice o l c, .int .i64 e]) (E + E) 2100 (supV ds cs rs gs n0)) := by
            have := HI.out.1.num
            rw [List.take_of_length_le (by omega)] at this
            unfold Hid supV
            rw [show dotV ds cs n0 + (sumG (fun g => (dotV ds g n0).natAbs) gs : Nat) + boxV ds rs n0 = dotV ds cs n0 + boxV ds rs n0 + (sumG (fun g => (dotV ds g n0).natAbs) gs : Nat) by omega]
            exact this
          go_wp2_with (first
            | (refine wpList_load_row (by rfl) 80 _ (by rfl) (w.heap.size + 1 + 1) _ (by rfl) HI.out.1.row _ Tryz.underlying80 rfl 3 Tryz.infoN3 (by rfl) ?_)
            | (refine wpList_store_row (by rfl) 80 _ _ (by rfl) w w.heap.size (w.heap.size + 1) #[.bool n, .slice o l c, .int .i64 e] _ (by rfl) (by rfl) HI.out.2.1.2 HI.out.2.2 (by omega) 3 Tryz.infoN3 (by rfl) (by rfl) (oneN _ _ _ _ _) ?_; intro W9 e9 b9 s9 o9))
          refine bodyPost_ret (v := .agg #[.bool n, .slice o l c, .int .i64 e]) (res_num _ 4 (by kernel_rfl) _ _ (w.heap.size + 1) _ _ _ (by rfl) e9) rfl ⟨_, rfl, ?_, b9⟩
          exact HZ.out.cl (num_cl HI.out.2.1.2) (fun b hb _ => o9 b hb)
end Go.Proofs.YtlpfbgepdfjmjaaGreat
