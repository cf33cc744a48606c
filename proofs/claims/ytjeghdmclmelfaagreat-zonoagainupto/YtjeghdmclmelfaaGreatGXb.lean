import Derived.Test.YtjeghdmclmelfaaGreatJXd
import Derived.Test.YtjeghdmclmelfaaGreatMV
namespace Go.Proofs.YtjeghdmclmelfaaGreat
open Go.RowKit Go.Shelf
set_option linter.unusedVariables false
set_option linter.unusedSimpArgs false
theorem reach_bound {ds cs rs : List Nat} {gs : List (List Nat)} {n k j m X : Nat} (hX : X = 4248) (hd : ∀ j : Nat, Fin (ds[j]?.getD 0)) (hc : ∀ j : Nat, Fin (cs[j]?.getD 0)) (hr : ∀ j : Nat, Fin (rs[j]?.getD 0)) (hg : ∀ k j : Nat, Fin ((gs[k]?.getD [])[j]?.getD 0)) (few : gs.length ≤ 1050000) (hn : n ≤ 256) (hk : k ≤ 256) (hj : j ≤ 256) :
  (dotV ds cs k + boxV ds rs j + (sumG (fun g => (dotV ds g n).natAbs) (gs.take m) : Nat)).natAbs < 2 ^ X := by
 obtain ⟨F, hF⟩ : ∃ F : Nat, F = 4196 := ⟨_, rfl⟩
 have h1 := dotV_bound hF hd hc k
 have h2 := boxV_bound hF hd hr j
 have h3 : k * 2 ^ F ≤ 256 * 2 ^ F := Nat.mul_le_mul_right _ hk
 have h4 : j * 2 ^ F ≤ 256 * 2 ^ F := Nat.mul_le_mul_right _ hj
 have h5 : n * 2 ^ F ≤ 256 * 2 ^ F := Nat.mul_le_mul_right _ hn
 have h6 := sumG_le (B := fun g => (dotV ds g n).natAbs) (M := 256 * 2 ^ F) (gs.take m) fun g hgg => by
  obtain ⟨i, hi, rfl⟩ := List.getElem_of_mem (List.mem_of_mem_take hgg)
  refine Nat.le_trans (dotV_bound hF hd (fun j => ?_) n) h5
  have := hg i j
  rw [List.getElem?_eq_getElem hi] at this
  exact this
 have h7 : (gs.take m).length * (256 * 2 ^ F) ≤ 268800000 * 2 ^ F := by
  rw [← Nat.mul_assoc]
  exact Nat.mul_le_mul_right _ (by rw [List.length_take]; omega)
 have h8 : 1073741824 * 2 ^ F ≤ 2 ^ X := by
  rw [show (1073741824 : Nat) = 2 ^ 30 by decide, ← Nat.pow_add]
  exact Nat.pow_le_pow_right (by omega) (by omega)
 have h9 := Nat.two_pow_pos F
 generalize 2 ^ F = A at *
 generalize 2 ^ X = Y at *
 generalize (gs.take m).length * (256 * A) = G at *
 generalize k * A = K1 at *
 generalize j * A = K2 at *
 omega
set_option maxRecDepth 100000 in
set_option maxHeartbeats 8000000 in
theorem reach_any (a1 : Option Addr) (l1 c1 : Nat) (a2 : Option Addr) (l2 c2 : Nat) (a3 : Option Addr) (l3 c3 : Nat) (a4 : Option Addr) (l4 c4 : Nat) (ad : Option Addr) (ld cd : Nat) (cs rs ds : List Nat) (ids : List Int) (gs : List (List Nat)) (gl : List Value) (base dbase E n0 : Nat) (hE : E = 1074) (w : World) (h : RlS w base E cs rs ids gs (.slice a1 l1 c1) (.slice a4 l4 c4) (.slice a2 l2 c2) (.slice a3 l3 c3) gl) (hds : RowN w dbase (.slice ad ld cd) E ds) (hc : cs.length = n0) (hr : rs.length = n0) (hdl : ds.length = n0) (hg : ∀ k, k < gs.length → (gs[k]?.getD []).length = n0) (hfd : ∀ j : Nat, Fin (ds[j]?.getD 0)) (hfc : ∀ j : Nat, Fin (cs[j]?.getD 0)) (hfr : ∀ j : Nat, Fin (rs[j]?.getD 0)) (hfg : ∀ k j : Nat, Fin ((gs[k]?.getD [])[j]?.getD 0)) (few : gs.length ≤ 1050000) (hn : n0 ≤ 256) :
  Calls Tryz.prog 41 #[.agg #[.int .i64 (n0 : Int), .slice a1 l1 c1, .slice a2 l2 c2, .slice a3 l3 c3, .slice a4 l4 c4], .slice ad ld cd] w fun e w' => ∃ v, e = .returned v ∧ NumC w' v (E + E) 2100 (supV ds cs rs gs n0) ∧ Below w.heap.size w w' := by
 have HE : Hid (E = 1074) := hE
 have hl3 := h.lenG
 have hl4 := (RowN.lenV h.r).trans hr
 have hl1 := (RowN.lenV h.c).trans hc
 have hld := (RowN.lenV hds).trans hdl
 rw [hl4, hl1] at h
 rw [hld] at hds
 rw [hl4, hl1, hld]
 subst hl3
 clear hl4 hl1 hld
 have HR : Hid (∀ W', Below w.heap.size w W' → RlS W' base E cs rs ids gs (.slice a1 n0 c1) (.slice a4 n0 c4) (.slice a2 l2 c2) (.slice a3 gs.length c3) gl) := fun W' hb => h.later hb
 have HD : Hid (∀ W', Below w.heap.size w W' → RowN W' dbase (.slice ad n0 cd) E ds) := fun W' hb => hds.later hb
 have HL : Hid (cs.length = n0 ∧ rs.length = n0 ∧ ds.length = n0 ∧ ∀ k, k < gs.length → (gs[k]?.getD []).length = n0) := ⟨hc, hr, hdl, hg⟩
 obtain ⟨X9, hX9⟩ : ∃ X9 : Nat, X9 = 4248 := ⟨_, rfl⟩
 have HBD : Hid (∀ k j m : Nat, k ≤ n0 → j ≤ n0 → (dotV ds cs k + boxV ds rs j + (sumG (fun g => (dotV ds g n0).natAbs) (gs.take m) : Nat)).natAbs < 2 ^ X9) := fun k j m hk hj => reach_bound hX9 hfd hfc hfr hfg few hn (by omega) (by omega)
 have HBT : Hid (∀ i k : Nat, k ≤ n0 → (dotV ds (gs[i]?.getD []) k).natAbs < 2 ^ X9) := fun i k hk => by
  have := reach_bound (cs := gs[i]?.getD []) (rs := []) (gs := []) (n := 0) (k := k) (j := 0) (m := 0) hX9 hfd (hfg i) (fun j => by simp; exact fin_zeroJ) (fun k j => by simp; exact fin_zeroJ) (by simp) (by omega) (by omega) (by omega)
  simpa [boxV, sumG] using this
 have HX : Hid ((X9 : Int) = ((E + E : Nat) : Int) + 2100) := by unfold Hid; rw [HE.out, hX9]; rfl
 have hgm : gs.length ≤ 1050000 := few
 clear h hds hc hr hdl hg hfd hfc hfr hfg few hE hX9
 have X0 : Below w.heap.size w ((w.alloc (.cells #[.int .i64 (n0 : Int), .slice a1 n0 c1, .slice a2 l2 c2, .slice a3 gs.length c3, .slice a4 n0 c4] 62)).alloc (.cells #[.bool false, .slice none 0 0, .int .i64 0] 72)) := ((Below.refl _ w).alloc (Nat.le_refl _) _).alloc (by simp only [alloc_size]; omega) _
 have Y0 : ((w.alloc (.cells #[.int .i64 (n0 : Int), .slice a1 n0 c1, .slice a2 l2 c2, .slice a3 gs.length c3, .slice a4 n0 c4] 62)).alloc (.cells #[.bool false, .slice none 0 0, .int .i64 0] 72)).heap[w.heap.size]? = some (.cells #[.int .i64 (n0 : Int), .slice a1 n0 c1, .slice a2 l2 c2, .slice a3 gs.length c3, .slice a4 n0 c4] 62) := alloc_kept (heap_alloc_new w _) _
 have Y1 : ((w.alloc (.cells #[.int .i64 (n0 : Int), .slice a1 n0 c1, .slice a2 l2 c2, .slice a3 gs.length c3, .slice a4 n0 c4] 62)).alloc (.cells #[.bool false, .slice none 0 0, .int .i64 0] 72)).heap[w.heap.size + 1]? = some (.cells #[.bool false, .slice none 0 0, .int .i64 0] 72) := heap_at _ _ (w.heap.size + 1) (by simp only [alloc_size])
 go_enter Tryz.func41, Tryz.ntmps41
 go_upto_region 2 with fail
 have A1 : Below ((w.alloc (.cells #[.int .i64 (n0 : Int), .slice a1 n0 c1, .slice a2 l2 c2, .slice a3 gs.length c3, .slice a4 n0 c4] 62)).alloc (.cells #[.bool false, .slice none 0 0, .int .i64 0] 72)).heap.size ((w.alloc (.cells #[.int .i64 (n0 : Int), .slice a1 n0 c1, .slice a2 l2 c2, .slice a3 gs.length c3, .slice a4 n0 c4] 62)).alloc (.cells #[.bool false, .slice none 0 0, .int .i64 0] 72)) (((w.alloc (.cells #[.int .i64 (n0 : Int), .slice a1 n0 c1, .slice a2 l2 c2, .slice a3 gs.length c3, .slice a4 n0 c4] 62)).alloc (.cells #[.bool false, .slice none 0 0, .int .i64 0] 72)).alloc (.cells #[.bool false, .slice none 0 0, .int .i64 0] 72)) := (Below.refl _ _).alloc (Nat.le_refl _) _
 have P1 : Hid (BxN (((w.alloc (.cells #[.int .i64 (n0 : Int), .slice a1 n0 c1, .slice a2 l2 c2, .slice a3 gs.length c3, .slice a4 n0 c4] 62)).alloc (.cells #[.bool false, .slice none 0 0, .int .i64 0] 72)).alloc (.cells #[.bool false, .slice none 0 0, .int .i64 0] 72)) (w.heap.size + 1 + 1) (E + E) 2100 0 false none 0 0 0 ∧ ((((w.alloc (.cells #[.int .i64 (n0 : Int), .slice a1 n0 c1, .slice a2 l2 c2, .slice a3 gs.length c3, .slice a4 n0 c4] 62)).alloc (.cells #[.bool false, .slice none 0 0, .int .i64 0] 72)).alloc (.cells #[.bool false, .slice none 0 0, .int .i64 0] 72)).heap[w.heap.size]? = some (.cells #[.int .i64 (n0 : Int), .slice a1 n0 c1, .slice a2 l2 c2, .slice a3 gs.length c3, .slice a4 n0 c4] 62) ∧ (((w.alloc (.cells #[.int .i64 (n0 : Int), .slice a1 n0 c1, .slice a2 l2 c2, .slice a3 gs.length c3, .slice a4 n0 c4] 62)).alloc (.cells #[.bool false, .slice none 0 0, .int .i64 0] 72)).alloc (.cells #[.bool false, .slice none 0 0, .int .i64 0] 72)).heap[w.heap.size + 1]? = some (.cells #[.bool false, .slice none 0 0, .int .i64 0] 72)) ∧ Below w.heap.size w (((w.alloc (.cells #[.int .i64 (n0 : Int), .slice a1 n0 c1, .slice a2 l2 c2, .slice a3 gs.length c3, .slice a4 n0 c4] 62)).alloc (.cells #[.bool false, .slice none 0 0, .int .i64 0] 72)).alloc (.cells #[.bool false, .slice none 0 0, .int .i64 0] 72))) := ⟨⟨heap_at _ _ (w.heap.size + 1 + 1) (by simp only [alloc_size]), NumC.zeroJ _ _ _ (by omega)⟩, ⟨kept A1 Y0, kept A1 Y1⟩, to_call X0 A1⟩
 obtain ⟨X1, hX1⟩ : ∃ X1, ((w.alloc (.cells #[.int .i64 (n0 : Int), .slice a1 n0 c1, .slice a2 l2 c2, .slice a3 gs.length c3, .slice a4 n0 c4] 62)).alloc (.cells #[.bool false, .slice none 0 0, .int .i64 0] 72)).alloc (.cells #[.bool false, .slice none 0 0, .int .i64 0] 72) = X1 := ⟨_, rfl⟩
 rw [hX1] at P1 ⊢
 clear hX1 A1 X0 Y0 Y1
 go_wp2_with fail
 go_loopg [6] n0 (fun q v6 wx => ∃ (k : Nat), v6 = .int .i64 k ∧ k + q = n0 ∧ ∃ (n : Bool) (o : Option Addr) (l c : Nat) (e : Int), Hid (BxN wx (w.heap.size + 1 + 1) (E + E) 2100 (dotV ds cs k + boxV ds rs k) n o l c e ∧ (wx.heap[w.heap.size]? = some (.cells #[.int .i64 (n0 : Int), .slice a1 n0 c1, .slice a2 l2 c2, .slice a3 gs.length c3, .slice a4 n0 c4] 62) ∧ wx.heap[w.heap.size + 1]? = some (.cells #[.bool false, .slice none 0 0, .int .i64 0] 72)) ∧ Below w.heap.size w wx))
 case atStart => exact ⟨0, rfl, by omega, false, none, 0, 0, 0, P1⟩
 case round =>
  obtain ⟨k, rfl, hk, n, o, l, c, e, HI⟩ := hrel
  have k0 : wr.cell? ⟨w.heap.size, 0, none⟩ = some (.int .i64 (n0 : Int)) := cellAtJ HI.out.2.1.1 0 _ rfl
  by_cases h1 : k < n0
  ·have hd1 : decide ((k : Int) < (n0 : Int)) = true := decide_eq_true (by omega)
   obtain ⟨q, rfl⟩ : ∃ q, gk = q + 1 := ⟨gk - 1, by omega⟩
   have HIG : Hid _ := hk
   have hk0 : (k : Int) < (n0 : Int) := by omega
   clear hk
   go_upto_region 5 with fail
   have QD : Below w.heap.size w wr.drew := HI.out.2.2.drew
   obtain ⟨db, dq, dn, d_o, dl, dc, de, hdv, hdr, hdz⟩ := RowN.range (HD.out wr.drew QD) (k := k) (by rw [HL.out.2.2.1]; exact h1)
   obtain ⟨cb, cq, xn, xo, xl, xc, xe, hcv, hcr, hcz⟩ := RowN.range (HR.out wr.drew QD).c (k := k) (by rw [HL.out.1]; exact h1)
   rw [HL.out.1] at hcv
   rw [HL.out.2.2.1] at hdv
   have k1 : wr.drew.cell? ⟨w.heap.size, 1, none⟩ = some (.slice a1 n0 c1) := cellAtJ HI.out.2.1.1 1 _ rfl
   rw [hcv] at k1
   have hd2 := (Value.slice.inj hdv).1
   clear hdv
   subst hd2
   have SX : (fun V => V.heap[w.heap.size + 1 + 1]? = some (.cells #[.bool n, .slice o l c, .int .i64 e] 72) ∧ V.cell? ⟨w.heap.size, 1, none⟩ = some (.slice (some ⟨cb, 0, none⟩) n0 cq) ∧ V.rangeAt db (k * 3) [.bool dn, .slice d_o dl dc, .int .i64 de] ∧ V.rangeAt cb (k * 3) [.bool xn, .slice xo xl xc, .int .i64 xe]) wr.drew := ⟨HI.out.1.row, k1, hdr, hcr⟩
   have HDN : Hid (NumC wr.drew (.agg #[.bool dn, .slice d_o dl dc, .int .i64 de]) E 1024 (fval (ds[k]?.getD 0))) := hdz
   have HXN : Hid (NumC wr.drew (.agg #[.bool xn, .slice xo xl xc, .int .i64 xe]) E 1024 (fval (cs[k]?.getD 0))) := hcz
   have HBN : Hid (NumC wr.drew (.agg #[.bool n, .slice o l c, .int .i64 e]) (E + E) 2100 (dotV ds cs k + boxV ds rs k)) := HI.out.1.num.later (Below.refl _ wr).drew
   have HQD : Hid (Below w.heap.size w wr.drew) := QD
   have HP : Hid (wr.drew.heap[w.heap.size]? = some (.cells #[.int .i64 (n0 : Int), .slice a1 n0 c1, .slice a2 l2 c2, .slice a3 gs.length c3, .slice a4 n0 c4] 62) ∧ wr.drew.heap[w.heap.size + 1]? = some (.cells #[.bool false, .slice none 0 0, .int .i64 0] 72)) := HI.out.2.1
   clear hdr hcr hdz hcz hcv k1 QD k0 hd1 HI
   refine wp_region_noPanic ?_
   refine wp_region_P (S := (fun V => V.heap[w.heap.size + 1 + 1]? = some (.cells #[.bool n, .slice o l c, .int .i64 e] 72) ∧ V.cell? ⟨w.heap.size, 1, none⟩ = some (.slice (some ⟨cb, 0, none⟩) n0 cq) ∧ V.rangeAt db (k * 3) [.bool dn, .slice d_o dl dc, .int .i64 de] ∧ V.rangeAt cb (k * 3) [.bool xn, .slice xo xl xc, .int .i64 xe])) (s := 12) (by kernel_rfl) ?_
   refine takeP 17 (i := 0) (v := .agg #[.bool n, .slice o l c, .int .i64 e]) rfl rfl (by kernel_rfl) (by kernel_rfl) (by kernel_rfl) (by kernel_rfl) rfl (by kernel_rfl) (fun _ _ _ h => h) (Or.inl ⟨by kernel_rfl, fun w' hSw => ex_loadRN _ 72 _ rfl (w.heap.size + 1 + 1) (by kernel_rfl) w' _ hSw.1 _ Tryz.underlying72 rfl 3 Tryz.infoN3 rfl⟩) SX ?_
   try simp only [Act.put, List.setIfInBounds_toArray, List.set_cons_zero, List.set_cons_succ]
   refine takeP 18 (i := 1) (v := ?_) rfl rfl (by kernel_rfl) (by kernel_rfl) (by kernel_rfl) (by kernel_rfl) rfl (by kernel_rfl) (fun _ _ _ h => h) (Or.inl ⟨by kernel_rfl, ?_⟩) SX ?_
   rotate_left
   ·intro w' hSw; obtain ⟨s1, s2, s3, s4⟩ := hSw; go_simp; try with_reducible rfl
   try simp only [Act.put, List.setIfInBounds_toArray, List.set_cons_zero, List.set_cons_succ]
   refine takeP 19 (i := 2) (v := ?_) rfl rfl (by kernel_rfl) (by kernel_rfl) (by kernel_rfl) (by kernel_rfl) rfl (by kernel_rfl) (fun _ _ _ h => h) (Or.inl ⟨by kernel_rfl, ?_⟩) SX ?_
   rotate_left
   ·intro w' hSw; obtain ⟨s1, s2, s3, s4⟩ := hSw; go_simp; try with_reducible rfl
   try simp only [Act.put, List.setIfInBounds_toArray, List.set_cons_zero, List.set_cons_succ]
   refine takeP 20 (i := 3) (v := ?_) rfl rfl (by kernel_rfl) (by kernel_rfl) (by kernel_rfl) (by kernel_rfl) rfl (by kernel_rfl) (fun _ _ _ h => h) (Or.inl ⟨by kernel_rfl, ?_⟩) SX ?_
   rotate_left
   ·intro w' hSw; obtain ⟨s1, s2, s3, s4⟩ := hSw; go_simp; try with_reducible rfl
   try simp only [Act.put, List.setIfInBounds_toArray, List.set_cons_zero, List.set_cons_succ]
   refine takeP 21 (i := 4) (v := .agg #[.bool dn, .slice d_o dl dc, .int .i64 de]) rfl rfl (by kernel_rfl) (by kernel_rfl) (by kernel_rfl) (by kernel_rfl) rfl (by kernel_rfl) (fun _ _ _ h => h) (yieldsIf_load_mid (by kernel_rfl) 72 _ rfl db (k * 3) (by kernel_rfl) #[.bool dn, .slice d_o dl dc, .int .i64 de].toList _ (fun _ hS => hS.2.2.1) Tryz.underlying72 rfl (by kernel_rfl)) SX ?_
   try simp only [Act.put, List.setIfInBounds_toArray, List.set_cons_zero, List.set_cons_succ]
   refine takeP 22 (i := 5) (v := ?_) rfl rfl (by kernel_rfl) (by kernel_rfl) (by kernel_rfl) (by kernel_rfl) rfl (by kernel_rfl) (fun _ _ _ h => h) (Or.inl ⟨by kernel_rfl, ?_⟩) SX ?_
   rotate_left
   ·intro w' hSw; obtain ⟨s1, s2, s3, s4⟩ := hSw; go_simp; try with_reducible rfl
   try simp only [Act.put, List.setIfInBounds_toArray, List.set_cons_zero, List.set_cons_succ]
   refine takeP 23 (i := 6) (v := ?_) rfl rfl (by kernel_rfl) (by kernel_rfl) (by kernel_rfl) (by kernel_rfl) rfl (by kernel_rfl) (fun _ _ _ h => h) (Or.inl ⟨by kernel_rfl, ?_⟩) SX ?_
   rotate_left
   ·intro w' hSw; obtain ⟨s1, s2, s3, s4⟩ := hSw; go_simp; try with_reducible rfl
   try simp only [Act.put, List.setIfInBounds_toArray, List.set_cons_zero, List.set_cons_succ]
   refine takeP 24 (i := 7) (v := ?_) rfl rfl (by kernel_rfl) (by kernel_rfl) (by kernel_rfl) (by kernel_rfl) rfl (by kernel_rfl) (fun _ _ _ h => h) (Or.inl ⟨by kernel_rfl, ?_⟩) SX ?_
   rotate_left
   ·intro w' hSw; obtain ⟨s1, s2, s3, s4⟩ := hSw; go_simp; try with_reducible rfl
   try simp only [Act.put, List.setIfInBounds_toArray, List.set_cons_zero, List.set_cons_succ]
   refine takeP 25 (i := 8) (v := ?_) rfl rfl (by kernel_rfl) (by kernel_rfl) (by kernel_rfl) (by kernel_rfl) rfl (by kernel_rfl) (fun _ _ _ h => h) (Or.inl ⟨by kernel_rfl, ?_⟩) SX ?_
   rotate_left
   ·intro w' hSw; obtain ⟨s1, s2, s3, s4⟩ := hSw; go_simp; try with_reducible rfl
   try simp only [Act.put, List.setIfInBounds_toArray, List.set_cons_zero, List.set_cons_succ]
   refine takeP 26 (i := 9) (v := .agg #[.bool xn, .slice xo xl xc, .int .i64 xe]) rfl rfl (by kernel_rfl) (by kernel_rfl) (by kernel_rfl) (by kernel_rfl) rfl (by kernel_rfl) (fun _ _ _ h => h) (yieldsIf_load_mid (by kernel_rfl) 72 _ rfl cb (k * 3) (by kernel_rfl) #[.bool xn, .slice xo xl xc, .int .i64 xe].toList _ (fun _ hS => hS.2.2.2) Tryz.underlying72 rfl (by kernel_rfl)) SX ?_
   try simp only [Act.put, List.setIfInBounds_toArray, List.set_cons_zero, List.set_cons_succ]
   refine wpAnyP_ready (rs := [10]) (by kernel_rfl) (by simp) ?_
   refine consP _ rfl (hopCd 27 rfl (by kernel_rfl) rfl (by kernel_rfl) (Calls.mono (timesC_any _ _ E 1024 1024 _ _ _ HDN.out.toZ HXN.out.toZ (by rw [HE.out]; omega) (by omega) (by omega)) ?_)) AllReadyP.nil
   rintro e V1 ⟨v1, rfl, hz1, b1⟩
   obtain ⟨n1, o1, l1', c1', e1, hv1⟩ := hz1.form
   subst hv1
   have SX : (fun V => V.heap[w.heap.size + 1 + 1]? = some (.cells #[.bool n, .slice o l c, .int .i64 e] 72) ∧ V.cell? ⟨w.heap.size, 1, none⟩ = some (.slice (some ⟨cb, 0, none⟩) n0 cq) ∧ V.rangeAt db (k * 3) [.bool dn, .slice d_o dl dc, .int .i64 de] ∧ V.rangeAt cb (k * 3) [.bool xn, .slice xo xl xc, .int .i64 xe]) V1 := ⟨kept b1 SX.1, (b1.cell (World.block_lt_of_cell? _ _ SX.2.1)).trans SX.2.1, range_later SX.2.2.1 b1, range_later SX.2.2.2 b1⟩
   have Q1 : Below w.heap.size w V1 := HQD.out.trans (b1.mono HQD.out.size)
   have HC1 := HBN.out.later b1
   have P1 := And.intro (kept b1 HP.out.1) (kept b1 HP.out.2)
   clear b1
   refine ⟨_, rfl, SX, ?_⟩
   try simp only [Act.put, List.setIfInBounds_toArray, List.set_cons_zero, List.set_cons_succ]
   refine wpAnyP_ready (rs := [11]) (by kernel_rfl) (by simp) ?_
   refine consP _ rfl (hopCd 28 rfl (by kernel_rfl) rfl (by kernel_rfl) (Calls.mono (plusC_any _ _ (E + E) 2100 _ _ _ HC1 (hz1.mono (by omega)) (by rw [HE.out]; omega) (by omega)) ?_)) AllReadyP.nil
   rintro e V2 ⟨v2, rfl, hz2, b2⟩
   obtain ⟨n2, o2, l2', c2', e2, hv2⟩ := hz2.form
   subst hv2
   have SX : (fun V => V.heap[w.heap.size + 1 + 1]? = some (.cells #[.bool n, .slice o l c, .int .i64 e] 72) ∧ V.cell? ⟨w.heap.size, 1, none⟩ = some (.slice (some ⟨cb, 0, none⟩) n0 cq) ∧ V.rangeAt db (k * 3) [.bool dn, .slice d_o dl dc, .int .i64 de] ∧ V.rangeAt cb (k * 3) [.bool xn, .slice xo xl xc, .int .i64 xe]) V2 := ⟨kept b2 SX.1, (b2.cell (World.block_lt_of_cell? _ _ SX.2.1)).trans SX.2.1, range_later SX.2.2.1 b2, range_later SX.2.2.2 b2⟩
   have Q2 : Below w.heap.size w V2 := Q1.trans (b2.mono Q1.size)
   have P2 := And.intro (kept b2 P1.1) (kept b2 P1.2)
   clear b2 HC1 hz1 Q1 P1
   refine ⟨_, rfl, SX, ?_⟩
   try simp only [Act.put, List.setIfInBounds_toArray, List.set_cons_zero, List.set_cons_succ]
   refine wpAnyP_ready (rs := [12]) (by kernel_rfl) (by simp) ?_
   refine consPs _ rfl (by kernel_rfl) (hopL rfl (wpList_store_row (by rfl) 72 _ _ (by rfl) w w.heap.size (w.heap.size + 1 + 1) #[.bool n2, .slice o2 l2' c2', .int .i64 e2] _ (by kernel_rfl) (by kernel_rfl) SX.1 Q2 (by omega) 3 Tryz.infoN3 rfl rfl (oneN _ _ _ _ _) fun V3 e3 b3 s3 k3 => ?_)) AllReadyP.nil
   refine ⟨trivial, ?_⟩
   try simp only [Act.put, List.setIfInBounds_toArray, List.set_cons_zero, List.set_cons_succ]
   refine wpAnyP_done (by kernel_rfl) ?_ _
   refine NoPanic.normal ?_
   try simp only [Act.put, List.setIfInBounds_toArray, List.set_cons_zero, List.set_cons_succ]
   have HZ : Hid (NumC V3 (.agg #[.bool n2, .slice o2 l2' c2', .int .i64 e2]) (E + E) 2100 (dotV ds cs (k + 1) + boxV ds rs k)) := by
    have hz3 := hz2.cl (num_cl SX.1) (fun b hb _ => k3 b hb)
    have hbd := HBD.out (k + 1) k 0 (by omega) (by omega)
    have e0 : (sumG (fun g => (dotV ds g n0).natAbs) (gs.take 0) : Nat) = 0 := by rw [List.take_zero]; rfl
    rw [e0, Int.natCast_zero, Int.add_zero] at hbd
    have e1 : (dotV ds cs k + boxV ds rs k) + fval (ds[k]?.getD 0) * fval (cs[k]?.getD 0) = (dotV ds cs (k + 1) + boxV ds rs k) := by rw [dotV]; omega
    rw [e1] at hz3
    exact NumC.tight hz3 (by omega) HX.out hbd
   have HB3 : Hid (Below w.heap.size w V3 ∧ V3.heap[w.heap.size + 1 + 1]? = some (.cells #[.bool n2, .slice o2 l2' c2', .int .i64 e2] 72) ∧ (V3.heap[w.heap.size]? = some (.cells #[.int .i64 (n0 : Int), .slice a1 n0 c1, .slice a2 l2 c2, .slice a3 gs.length c3, .slice a4 n0 c4] 62) ∧ V3.heap[w.heap.size + 1]? = some (.cells #[.bool false, .slice none 0 0, .int .i64 0] 72))) := ⟨b3, e3, by rw [k3 _ (by omega)]; exact P2.1, by rw [k3 _ (by omega)]; exact P2.2⟩
   clear hz2 SX k3 P2 b3 e3 s3 Q2 HDN HXN HBN HQD HP
   go_upto_region 6 with fail
   have QD : Below w.heap.size w V3.drew := HB3.out.1.drew
   obtain ⟨db', dq', dn, d_o, dl, dc, de, hdv, hdr, hdz⟩ := RowN.range (HD.out V3.drew QD) (k := k) (by rw [HL.out.2.2.1]; exact h1)
   obtain ⟨rb, rq, yn, yo, yl, yc, ye, hcv, hcr, hcz⟩ := RowN.range (HR.out V3.drew QD).r (k := k) (by rw [HL.out.2.1]; exact h1)
   rw [HL.out.2.1] at hcv
   have k1 : V3.drew.cell? ⟨w.heap.size, 4, none⟩ = some (.slice a4 n0 c4) := cellAtJ HB3.out.2.2.1 4 _ rfl
   rw [hcv] at k1
   have hd5 : db = db' := congrArg (fun o => (o.getD ⟨0, 0, none⟩).block) (Value.slice.inj hdv).1
   clear hdv
   subst hd5
   have SX : (fun V => V.heap[w.heap.size + 1 + 1]? = some (.cells #[.bool n2, .slice o2 l2' c2', .int .i64 e2] 72) ∧ V.cell? ⟨w.heap.size, 4, none⟩ = some (.slice (some ⟨rb, 0, none⟩) n0 rq) ∧ V.rangeAt db (k * 3) [.bool dn, .slice d_o dl dc, .int .i64 de] ∧ V.rangeAt rb (k * 3) [.bool yn, .slice yo yl yc, .int .i64 ye]) V3.drew := ⟨HB3.out.2.1, k1, hdr, hcr⟩
   have HDN : Hid (NumC V3.drew (.agg #[.bool dn, .slice d_o dl dc, .int .i64 de]) E 1024 (fval (ds[k]?.getD 0))) := hdz
   have HXN : Hid (NumC V3.drew (.agg #[.bool yn, .slice yo yl yc, .int .i64 ye]) E 1024 (fval (rs[k]?.getD 0))) := hcz
   have HBN : Hid (NumC V3.drew (.agg #[.bool n2, .slice o2 l2' c2', .int .i64 e2]) (E + E) 2100 (dotV ds cs (k + 1) + boxV ds rs k)) := HZ.out.later (Below.refl _ V3).drew
   have HQD : Hid (Below w.heap.size w V3.drew) := QD
   have HP : Hid (V3.drew.heap[w.heap.size]? = some (.cells #[.int .i64 (n0 : Int), .slice a1 n0 c1, .slice a2 l2 c2, .slice a3 gs.length c3, .slice a4 n0 c4] 62) ∧ V3.drew.heap[w.heap.size + 1]? = some (.cells #[.bool false, .slice none 0 0, .int .i64 0] 72)) := HB3.out.2.2
   clear hdr hcr hdz hcz hcv k1 QD HB3 HZ
   refine wp_region_noPanic ?_
   refine wp_region_P (S := (fun V => V.heap[w.heap.size + 1 + 1]? = some (.cells #[.bool n2, .slice o2 l2' c2', .int .i64 e2] 72) ∧ V.cell? ⟨w.heap.size, 4, none⟩ = some (.slice (some ⟨rb, 0, none⟩) n0 rq) ∧ V.rangeAt db (k * 3) [.bool dn, .slice d_o dl dc, .int .i64 de] ∧ V.rangeAt rb (k * 3) [.bool yn, .slice yo yl yc, .int .i64 ye])) (s := 13) (by kernel_rfl) ?_
   refine takeP 29 (i := 0) (v := .agg #[.bool n2, .slice o2 l2' c2', .int .i64 e2]) rfl rfl (by kernel_rfl) (by kernel_rfl) (by kernel_rfl) (by kernel_rfl) rfl (by kernel_rfl) (fun _ _ _ h => h) (Or.inl ⟨by kernel_rfl, fun w' hSw => ex_loadRN _ 72 _ rfl (w.heap.size + 1 + 1) (by kernel_rfl) w' _ hSw.1 _ Tryz.underlying72 rfl 3 Tryz.infoN3 rfl⟩) SX ?_
   try simp only [Act.put, List.setIfInBounds_toArray, List.set_cons_zero, List.set_cons_succ]
   refine takeP 30 (i := 1) (v := ?_) rfl rfl (by kernel_rfl) (by kernel_rfl) (by kernel_rfl) (by kernel_rfl) rfl (by kernel_rfl) (fun _ _ _ h => h) (Or.inl ⟨by kernel_rfl, ?_⟩) SX ?_
   rotate_left
   ·intro w' hSw; obtain ⟨s1, s2, s3, s4⟩ := hSw; go_simp; try with_reducible rfl
   try simp only [Act.put, List.setIfInBounds_toArray, List.set_cons_zero, List.set_cons_succ]
   refine takeP 31 (i := 2) (v := ?_) rfl rfl (by kernel_rfl) (by kernel_rfl) (by kernel_rfl) (by kernel_rfl) rfl (by kernel_rfl) (fun _ _ _ h => h) (Or.inl ⟨by kernel_rfl, ?_⟩) SX ?_
   rotate_left
   ·intro w' hSw; obtain ⟨s1, s2, s3, s4⟩ := hSw; go_simp; try with_reducible rfl
   try simp only [Act.put, List.setIfInBounds_toArray, List.set_cons_zero, List.set_cons_succ]
   refine takeP 32 (i := 3) (v := ?_) rfl rfl (by kernel_rfl) (by kernel_rfl) (by kernel_rfl) (by kernel_rfl) rfl (by kernel_rfl) (fun _ _ _ h => h) (Or.inl ⟨by kernel_rfl, ?_⟩) SX ?_
   rotate_left
   ·intro w' hSw; obtain ⟨s1, s2, s3, s4⟩ := hSw; go_simp; try with_reducible rfl
   try simp only [Act.put, List.setIfInBounds_toArray, List.set_cons_zero, List.set_cons_succ]
   refine takeP 33 (i := 4) (v := .agg #[.bool dn, .slice d_o dl dc, .int .i64 de]) rfl rfl (by kernel_rfl) (by kernel_rfl) (by kernel_rfl) (by kernel_rfl) rfl (by kernel_rfl) (fun _ _ _ h => h) (yieldsIf_load_mid (by kernel_rfl) 72 _ rfl db (k * 3) (by kernel_rfl) #[.bool dn, .slice d_o dl dc, .int .i64 de].toList _ (fun _ hS => hS.2.2.1) Tryz.underlying72 rfl (by kernel_rfl)) SX ?_
   try simp only [Act.put, List.setIfInBounds_toArray, List.set_cons_zero, List.set_cons_succ]
   refine takeP 35 (i := 6) (v := ?_) rfl rfl (by kernel_rfl) (by kernel_rfl) (by kernel_rfl) (by kernel_rfl) rfl (by kernel_rfl) (fun _ _ _ h => h) (Or.inl ⟨by kernel_rfl, ?_⟩) SX ?_
   rotate_left
   ·intro w' hSw; obtain ⟨s1, s2, s3, s4⟩ := hSw; go_simp; try with_reducible rfl
   try simp only [Act.put, List.setIfInBounds_toArray, List.set_cons_zero, List.set_cons_succ]
   refine takeP 36 (i := 7) (v := ?_) rfl rfl (by kernel_rfl) (by kernel_rfl) (by kernel_rfl) (by kernel_rfl) rfl (by kernel_rfl) (fun _ _ _ h => h) (Or.inl ⟨by kernel_rfl, ?_⟩) SX ?_
   rotate_left
   ·intro w' hSw; obtain ⟨s1, s2, s3, s4⟩ := hSw; go_simp; try with_reducible rfl
   try simp only [Act.put, List.setIfInBounds_toArray, List.set_cons_zero, List.set_cons_succ]
   refine takeP 37 (i := 8) (v := ?_) rfl rfl (by kernel_rfl) (by kernel_rfl) (by kernel_rfl) (by kernel_rfl) rfl (by kernel_rfl) (fun _ _ _ h => h) (Or.inl ⟨by kernel_rfl, ?_⟩) SX ?_
   rotate_left
   ·intro w' hSw; obtain ⟨s1, s2, s3, s4⟩ := hSw; go_simp; try with_reducible rfl
   try simp only [Act.put, List.setIfInBounds_toArray, List.set_cons_zero, List.set_cons_succ]
   refine takeP 38 (i := 9) (v := ?_) rfl rfl (by kernel_rfl) (by kernel_rfl) (by kernel_rfl) (by kernel_rfl) rfl (by kernel_rfl) (fun _ _ _ h => h) (Or.inl ⟨by kernel_rfl, ?_⟩) SX ?_
   rotate_left
   ·intro w' hSw; obtain ⟨s1, s2, s3, s4⟩ := hSw; go_simp; try with_reducible rfl
   try simp only [Act.put, List.setIfInBounds_toArray, List.set_cons_zero, List.set_cons_succ]
   refine takeP 39 (i := 10) (v := .agg #[.bool yn, .slice yo yl yc, .int .i64 ye]) rfl rfl (by kernel_rfl) (by kernel_rfl) (by kernel_rfl) (by kernel_rfl) rfl (by kernel_rfl) (fun _ _ _ h => h) (yieldsIf_load_mid (by kernel_rfl) 72 _ rfl rb (k * 3) (by kernel_rfl) #[.bool yn, .slice yo yl yc, .int .i64 ye].toList _ (fun _ hS => hS.2.2.2) Tryz.underlying72 rfl (by kernel_rfl)) SX ?_
   try simp only [Act.put, List.setIfInBounds_toArray, List.set_cons_zero, List.set_cons_succ]
   refine wpAnyP_ready (rs := [5]) (by kernel_rfl) (by simp) ?_
   refine consP _ rfl (hopCd 34 rfl (by kernel_rfl) rfl (by kernel_rfl) (Calls.mono (sizeC_any _ E 1024 _ _ HDN.out) ?_)) AllReadyP.nil
   rintro e V4 ⟨v4, rfl, hz4, b4⟩
   obtain ⟨n4, o4, l4', c4', e4, hv4⟩ := hz4.form
   subst hv4
   have SX : (fun V => V.heap[w.heap.size + 1 + 1]? = some (.cells #[.bool n2, .slice o2 l2' c2', .int .i64 e2] 72) ∧ V.cell? ⟨w.heap.size, 4, none⟩ = some (.slice (some ⟨rb, 0, none⟩) n0 rq) ∧ V.rangeAt db (k * 3) [.bool dn, .slice d_o dl dc, .int .i64 de] ∧ V.rangeAt rb (k * 3) [.bool yn, .slice yo yl yc, .int .i64 ye]) V4 := ⟨kept b4 SX.1, (b4.cell (World.block_lt_of_cell? _ _ SX.2.1)).trans SX.2.1, range_later SX.2.2.1 b4, range_later SX.2.2.2 b4⟩
   have Q4 : Below w.heap.size w V4 := HQD.out.trans (b4.mono HQD.out.size)
   have HC4 := HBN.out.later b4
   have HY4 := HXN.out.later b4
   have P4 := And.intro (kept b4 HP.out.1) (kept b4 HP.out.2)
   clear b4
   refine ⟨_, rfl, SX, ?_⟩
   try simp only [Act.put, List.setIfInBounds_toArray, List.set_cons_zero, List.set_cons_succ]
   refine wpAnyP_ready (rs := [11]) (by kernel_rfl) (by simp) ?_
   refine consP _ rfl (hopCd 40 rfl (by kernel_rfl) rfl (by kernel_rfl) (Calls.mono (timesC_any _ _ E 1024 1024 _ _ _ hz4.toZ HY4.toZ (by rw [HE.out]; omega) (by omega) (by omega)) ?_)) AllReadyP.nil
   rintro e V5 ⟨v5, rfl, hz5, b5⟩
   obtain ⟨n5, o5, l5', c5', e5, hv5⟩ := hz5.form
   subst hv5
   have SX : (fun V => V.heap[w.heap.size + 1 + 1]? = some (.cells #[.bool n2, .slice o2 l2' c2', .int .i64 e2] 72) ∧ V.cell? ⟨w.heap.size, 4, none⟩ = some (.slice (some ⟨rb, 0, none⟩) n0 rq) ∧ V.rangeAt db (k * 3) [.bool dn, .slice d_o dl dc, .int .i64 de] ∧ V.rangeAt rb (k * 3) [.bool yn, .slice yo yl yc, .int .i64 ye]) V5 := ⟨kept b5 SX.1, (b5.cell (World.block_lt_of_cell? _ _ SX.2.1)).trans SX.2.1, range_later SX.2.2.1 b5, range_later SX.2.2.2 b5⟩
   have Q5 : Below w.heap.size w V5 := Q4.trans (b5.mono Q4.size)
   have HC5 := HC4.later b5
   have P5 := And.intro (kept b5 P4.1) (kept b5 P4.2)
   clear b5 HC4 HY4 hz4 Q4 P4
   refine ⟨_, rfl, SX, ?_⟩
   try simp only [Act.put, List.setIfInBounds_toArray, List.set_cons_zero, List.set_cons_succ]
   refine wpAnyP_ready (rs := [12]) (by kernel_rfl) (by simp) ?_
   refine consP _ rfl (hopCd 41 rfl (by kernel_rfl) rfl (by kernel_rfl) (Calls.mono (plusC_any _ _ (E + E) 2100 _ _ _ HC5 (hz5.mono (by omega)) (by rw [HE.out]; omega) (by omega)) ?_)) AllReadyP.nil
   rintro e V6 ⟨v6, rfl, hz6, b6⟩
   obtain ⟨n6, o6, l6', c6', e6, hv6⟩ := hz6.form
   subst hv6
   have SX : (fun V => V.heap[w.heap.size + 1 + 1]? = some (.cells #[.bool n2, .slice o2 l2' c2', .int .i64 e2] 72) ∧ V.cell? ⟨w.heap.size, 4, none⟩ = some (.slice (some ⟨rb, 0, none⟩) n0 rq) ∧ V.rangeAt db (k * 3) [.bool dn, .slice d_o dl dc, .int .i64 de] ∧ V.rangeAt rb (k * 3) [.bool yn, .slice yo yl yc, .int .i64 ye]) V6 := ⟨kept b6 SX.1, (b6.cell (World.block_lt_of_cell? _ _ SX.2.1)).trans SX.2.1, range_later SX.2.2.1 b6, range_later SX.2.2.2 b6⟩
   have Q6 : Below w.heap.size w V6 := Q5.trans (b6.mono Q5.size)
   have P6 := And.intro (kept b6 P5.1) (kept b6 P5.2)
   clear b6 HC5 hz5 Q5 P5
   refine ⟨_, rfl, SX, ?_⟩
   try simp only [Act.put, List.setIfInBounds_toArray, List.set_cons_zero, List.set_cons_succ]
   refine wpAnyP_ready (rs := [13]) (by kernel_rfl) (by simp) ?_
   refine consPs _ rfl (by kernel_rfl) (hopL rfl (wpList_store_row (by rfl) 72 _ _ (by rfl) w w.heap.size (w.heap.size + 1 + 1) #[.bool n6, .slice o6 l6' c6', .int .i64 e6] _ (by kernel_rfl) (by kernel_rfl) SX.1 Q6 (by omega) 3 Tryz.infoN3 rfl rfl (oneN _ _ _ _ _) fun V7 e7 b7 s7 k7 => ?_)) AllReadyP.nil
   refine ⟨trivial, ?_⟩
   try simp only [Act.put, List.setIfInBounds_toArray, List.set_cons_zero, List.set_cons_succ]
   refine wpAnyP_done (by kernel_rfl) ?_ _
   refine NoPanic.normal ?_
   try simp only [Act.put, List.setIfInBounds_toArray, List.set_cons_zero, List.set_cons_succ]
   have HZ : Hid (NumC V7 (.agg #[.bool n6, .slice o6 l6' c6', .int .i64 e6]) (E + E) 2100 (dotV ds cs (k + 1) + boxV ds rs (k + 1))) := by
    have hz7 := hz6.cl (num_cl SX.1) (fun b hb _ => k7 b hb)
    have hbd := HBD.out (k + 1) (k + 1) 0 (by omega) (by omega)
    have e0 : (sumG (fun g => (dotV ds g n0).natAbs) (gs.take 0) : Nat) = 0 := by rw [List.take_zero]; rfl
    rw [e0, Int.natCast_zero, Int.add_zero] at hbd
    have e1 : (dotV ds cs (k + 1) + boxV ds rs k) + ((fval (ds[k]?.getD 0)).natAbs : Int) * fval (rs[k]?.getD 0) = (dotV ds cs (k + 1) + boxV ds rs (k + 1)) := by
     rw [boxV, fval_frung, ← fval_absJ, Int.add_assoc]
    rw [e1] at hz7
    exact NumC.tight hz7 (by omega) HX.out hbd
   have HB7 : Hid (Below w.heap.size w V7 ∧ V7.heap[w.heap.size + 1 + 1]? = some (.cells #[.bool n6, .slice o6 l6' c6', .int .i64 e6] 72) ∧ (V7.heap[w.heap.size]? = some (.cells #[.int .i64 (n0 : Int), .slice a1 n0 c1, .slice a2 l2 c2, .slice a3 gs.length c3, .slice a4 n0 c4] 62) ∧ V7.heap[w.heap.size + 1]? = some (.cells #[.bool false, .slice none 0 0, .int .i64 0] 72))) := ⟨b7, e7, by rw [k7 _ (by omega)]; exact P6.1, by rw [k7 _ (by omega)]; exact P6.2⟩
   clear hz6 SX k7 P6 b7 e7 s7 Q6 HDN HXN HBN HQD HP
   go_wp2_with fail
   go_roundg q
   case measure => omega
   case rel => exact ⟨k + 1, by go_num, by have := HIG.out; omega, n6, o6, l6', c6', e6, ⟨⟨HB7.out.2.1, HZ.out⟩, HB7.out.2.2, HB7.out.1⟩⟩
  ·have hd1 : decide ((k : Int) < (n0 : Int)) = false := decide_eq_false (by omega)
   have ek : k = n0 := by omega
   have HI0 : Hid (BxN wr (w.heap.size + 1 + 1) (E + E) 2100 ((dotV ds cs n0 + boxV ds rs n0) + (sumG (fun g => (dotV ds g n0).natAbs) (gs.take 0) : Nat)) n o l c e ∧ (wr.heap[w.heap.size]? = some (.cells #[.int .i64 (n0 : Int), .slice a1 n0 c1, .slice a2 l2 c2, .slice a3 gs.length c3, .slice a4 n0 c4] 62) ∧ wr.heap[w.heap.size + 1]? = some (.cells #[.bool false, .slice none 0 0, .int .i64 0] 72)) ∧ Below w.heap.size w wr) := ⟨⟨HI.out.1.row, by have := HI.out.1.num; rw [ek] at this; rw [List.take_zero]; show NumC _ _ _ _ (_ + ((0 : Nat) : Int)); rw [Int.natCast_zero, Int.add_zero]; exact this⟩, HI.out.2⟩
   clear ek HI
   go_wp2_with fail
   clear hd1 k0
   go_loopg [7] gs.length (fun q v7 wx => ∃ (k : Nat), v7 = .int .i64 k ∧ k + q = gs.length ∧ ∃ (n : Bool) (o : Option Addr) (l c : Nat) (e : Int), Hid (BxN wx (w.heap.size + 1 + 1) (E + E) 2100 ((dotV ds cs n0 + boxV ds rs n0) + (sumG (fun g => (dotV ds g n0).natAbs) (gs.take k) : Nat)) n o l c e ∧ (wx.heap[w.heap.size]? = some (.cells #[.int .i64 (n0 : Int), .slice a1 n0 c1, .slice a2 l2 c2, .slice a3 gs.length c3, .slice a4 n0 c4] 62) ∧ wx.heap[w.heap.size + 1]? = some (.cells #[.bool false, .slice none 0 0, .int .i64 0] 72)) ∧ Below w.heap.size w wx))
   case atStart => exact ⟨0, rfl, by omega, n, o, l, c, e, HI0⟩
   case round =>
    clear HI0
    obtain ⟨k, rfl, hk, n, o, l, c, e, HI⟩ := hrel
    have k3 : wr.cell? ⟨w.heap.size, 3, none⟩ = some (.slice a3 gs.length c3) := cellAtJ HI.out.2.1.1 3 _ rfl
    by_cases h1 : k < gs.length
    ·have hd1 : decide ((k : Int) < (gs.length : Int)) = true := decide_eq_true (by omega)
     obtain ⟨q, rfl⟩ : ∃ q, gk = q + 1 := ⟨gk - 1, by omega⟩
     have HIG : Hid _ := hk
     have hk0 : (k : Int) < (gs.length : Int) := by omega
     clear hk
     go_wp2_with fail
     obtain ⟨W0, rfl⟩ : ∃ W0, W0 = wr := ⟨_, rfl⟩
     have A2 : Below W0.heap.size W0 (W0.alloc (.cells #[.bool false, .slice none 0 0, .int .i64 0] 72)) := (Below.refl _ W0).alloc (Nat.le_refl _) _
     have P2 : Hid (BxN (W0.alloc (.cells #[.bool false, .slice none 0 0, .int .i64 0] 72)) W0.heap.size (E + E) 2100 (dotV ds (gs[k]?.getD []) 0) false none 0 0 0 ∧ Below W0.heap.size W0 (W0.alloc (.cells #[.bool false, .slice none 0 0, .int .i64 0] 72))) := ⟨⟨heap_alloc_new W0 _, NumC.zeroJ _ _ _ (by omega)⟩, A2⟩
     have hS5 : w.heap.size + 1 + 1 < W0.heap.size := blk_lt HI.out.1.row
     obtain ⟨X2, hX2⟩ : ∃ X2, W0.alloc (.cells #[.bool false, .slice none 0 0, .int .i64 0] 72) = X2 := ⟨_, rfl⟩
     rw [hX2] at P2 ⊢
     clear hX2 A2 k3 hd1
     go_loopg [9] n0 (fun q9 v9 wx => ∃ (j : Nat), v9 = .int .i64 j ∧ j + q9 = n0 ∧ ∃ (tn : Bool) (t_o : Option Addr) (tl tc : Nat) (te : Int), Hid (BxN wx W0.heap.size (E + E) 2100 (dotV ds (gs[k]?.getD []) j) tn t_o tl tc te ∧ Below W0.heap.size W0 wx))
     case atStart => exact ⟨0, rfl, by omega, false, none, 0, 0, 0, P2⟩
     case round =>
      clear P2
      obtain ⟨j, rfl, hj, tn, t_o, tl, tc, te, HT⟩ := hrel
      have k0 : wr.cell? ⟨w.heap.size, 0, none⟩ = some (.int .i64 (n0 : Int)) := cellAtJ (kept HT.out.2 HI.out.2.1.1) 0 _ rfl
      by_cases h2 : j < n0
      ·have hd2 : decide ((j : Int) < (n0 : Int)) = true := decide_eq_true (by omega)
       obtain ⟨p, rfl⟩ : ∃ p, gk = p + 1 := ⟨gk - 1, by omega⟩
       have HJG : Hid _ := hj
       have hj0 : (j : Int) < (n0 : Int) := by omega
       clear hj
       go_upto_region 14 with fail
       have QD0 : Below W0.heap.size W0 wr.drew := HT.out.2.drew
       have QD : Below w.heap.size w wr.drew := to_call HI.out.2.2 QD0
       obtain ⟨db, dq, dn, d_o, dl, dc, de, hdv, hdr, hdz⟩ := RowN.range (HD.out wr.drew QD) (k := j) (by rw [HL.out.2.2.1]; exact h2)
       obtain ⟨g, gb, gq, xn, xo, xl, xc, xe, hg3, hc1, hc2, hc3⟩ := RlS.elem (HR.out wr.drew QD) h1 (HL.out.2.2.2 k h1) h2
       rw [HL.out.2.2.1] at hdv
       have k1 : wr.drew.cell? ⟨w.heap.size, 3, none⟩ = some (.slice a3 gs.length c3) := cellAtJ (kept QD0 HI.out.2.1.1) 3 _ rfl
       rw [hg3] at k1
       clear hg3
       have hd3 := (Value.slice.inj hdv).1
       clear hdv
       subst hd3
       have SX : (fun V => V.heap[W0.heap.size]? = some (.cells #[.bool tn, .slice t_o tl tc, .int .i64 te] 72) ∧ V.cell? ⟨w.heap.size, 3, none⟩ = some (.slice (some ⟨g, 0, none⟩) gs.length c3) ∧ V.cell? ⟨g, k, none⟩ = some (.slice (some ⟨gb, 0, none⟩) n0 gq) ∧ V.rangeAt db (j * 3) [.bool dn, .slice d_o dl dc, .int .i64 de] ∧ V.rangeAt gb (j * 3) [.bool xn, .slice xo xl xc, .int .i64 xe]) wr.drew := ⟨HT.out.1.row, k1, hc1, hdr, hc2⟩
       have HDN : Hid (NumC wr.drew (.agg #[.bool dn, .slice d_o dl dc, .int .i64 de]) E 1024 (fval (ds[j]?.getD 0))) := hdz
       have HXN : Hid (NumC wr.drew (.agg #[.bool xn, .slice xo xl xc, .int .i64 xe]) E 1024 (fval ((gs[k]?.getD [])[j]?.getD 0))) := hc3
       have HBN : Hid (NumC wr.drew (.agg #[.bool tn, .slice t_o tl tc, .int .i64 te]) (E + E) 2100 (dotV ds (gs[k]?.getD []) j)) := HT.out.1.num.later (Below.refl _ wr).drew
       have HQD : Hid (Below W0.heap.size W0 wr.drew) := QD0
       clear hdr hdz hc1 hc2 hc3 k1 QD QD0 k0 hd2 HT
       refine wp_region_noPanic ?_
       refine wp_region_P (S := (fun V => V.heap[W0.heap.size]? = some (.cells #[.bool tn, .slice t_o tl tc, .int .i64 te] 72) ∧ V.cell? ⟨w.heap.size, 3, none⟩ = some (.slice (some ⟨g, 0, none⟩) gs.length c3) ∧ V.cell? ⟨g, k, none⟩ = some (.slice (some ⟨gb, 0, none⟩) n0 gq) ∧ V.rangeAt db (j * 3) [.bool dn, .slice d_o dl dc, .int .i64 de] ∧ V.rangeAt gb (j * 3) [.bool xn, .slice xo xl xc, .int .i64 xe])) (s := 15) (by kernel_rfl) ?_
       refine takeP 56 (i := 0) (v := .agg #[.bool tn, .slice t_o tl tc, .int .i64 te]) rfl rfl (by kernel_rfl) (by kernel_rfl) (by kernel_rfl) (by kernel_rfl) rfl (by kernel_rfl) (fun _ _ _ h => h) (Or.inl ⟨by kernel_rfl, fun w' hSw => ex_loadRN _ 72 _ rfl W0.heap.size (by kernel_rfl) w' _ hSw.1 _ Tryz.underlying72 rfl 3 Tryz.infoN3 rfl⟩) SX ?_
       try simp only [Act.put, List.setIfInBounds_toArray, List.set_cons_zero, List.set_cons_succ]
       refine takeP 57 (i := 1) (v := ?_) rfl rfl (by kernel_rfl) (by kernel_rfl) (by kernel_rfl) (by kernel_rfl) rfl (by kernel_rfl) (fun _ _ _ h => h) (Or.inl ⟨by kernel_rfl, ?_⟩) SX ?_
       rotate_left
       ·intro w' hSw; obtain ⟨s1, s2, s3, s4, s5⟩ := hSw; go_simp; try with_reducible rfl
       try simp only [Act.put, List.setIfInBounds_toArray, List.set_cons_zero, List.set_cons_succ]
       refine takeP 58 (i := 2) (v := ?_) rfl rfl (by kernel_rfl) (by kernel_rfl) (by kernel_rfl) (by kernel_rfl) rfl (by kernel_rfl) (fun _ _ _ h => h) (Or.inl ⟨by kernel_rfl, ?_⟩) SX ?_
       rotate_left
       ·intro w' hSw; obtain ⟨s1, s2, s3, s4, s5⟩ := hSw; go_simp; try with_reducible rfl
       try simp only [Act.put, List.setIfInBounds_toArray, List.set_cons_zero, List.set_cons_succ]
       refine takeP 59 (i := 3) (v := ?_) rfl rfl (by kernel_rfl) (by kernel_rfl) (by kernel_rfl) (by kernel_rfl) rfl (by kernel_rfl) (fun _ _ _ h => h) (Or.inl ⟨by kernel_rfl, ?_⟩) SX ?_
       rotate_left
       ·intro w' hSw; obtain ⟨s1, s2, s3, s4, s5⟩ := hSw; go_simp; try with_reducible rfl
       try simp only [Act.put, List.setIfInBounds_toArray, List.set_cons_zero, List.set_cons_succ]
       refine takeP 60 (i := 4) (v := .agg #[.bool dn, .slice d_o dl dc, .int .i64 de]) rfl rfl (by kernel_rfl) (by kernel_rfl) (by kernel_rfl) (by kernel_rfl) rfl (by kernel_rfl) (fun _ _ _ h => h) (yieldsIf_load_mid (by kernel_rfl) 72 _ rfl db (j * 3) (by kernel_rfl) #[.bool dn, .slice d_o dl dc, .int .i64 de].toList _ (fun _ hS => hS.2.2.2.1) Tryz.underlying72 rfl (by kernel_rfl)) SX ?_
       try simp only [Act.put, List.setIfInBounds_toArray, List.set_cons_zero, List.set_cons_succ]
       refine takeP 61 (i := 5) (v := ?_) rfl rfl (by kernel_rfl) (by kernel_rfl) (by kernel_rfl) (by kernel_rfl) rfl (by kernel_rfl) (fun _ _ _ h => h) (Or.inl ⟨by kernel_rfl, ?_⟩) SX ?_
       rotate_left
       ·intro w' hSw; obtain ⟨s1, s2, s3, s4, s5⟩ := hSw; go_simp; try with_reducible rfl
       try simp only [Act.put, List.setIfInBounds_toArray, List.set_cons_zero, List.set_cons_succ]
       refine takeP 62 (i := 6) (v := ?_) rfl rfl (by kernel_rfl) (by kernel_rfl) (by kernel_rfl) (by kernel_rfl) rfl (by kernel_rfl) (fun _ _ _ h => h) (Or.inl ⟨by kernel_rfl, ?_⟩) SX ?_
       rotate_left
       ·intro w' hSw; obtain ⟨s1, s2, s3, s4, s5⟩ := hSw; go_simp; try with_reducible rfl
       try simp only [Act.put, List.setIfInBounds_toArray, List.set_cons_zero, List.set_cons_succ]
       refine takeP 63 (i := 7) (v := ?_) rfl rfl (by kernel_rfl) (by kernel_rfl) (by kernel_rfl) (by kernel_rfl) rfl (by kernel_rfl) (fun _ _ _ h => h) (Or.inl ⟨by kernel_rfl, ?_⟩) SX ?_
       rotate_left
       ·intro w' hSw; obtain ⟨s1, s2, s3, s4, s5⟩ := hSw; go_simp; try with_reducible rfl
       try simp only [Act.put, List.setIfInBounds_toArray, List.set_cons_zero, List.set_cons_succ]
       refine takeP 64 (i := 8) (v := ?_) rfl rfl (by kernel_rfl) (by kernel_rfl) (by kernel_rfl) (by kernel_rfl) rfl (by kernel_rfl) (fun _ _ _ h => h) (Or.inl ⟨by kernel_rfl, ?_⟩) SX ?_
       rotate_left
       ·intro w' hSw; obtain ⟨s1, s2, s3, s4, s5⟩ := hSw; go_simp; try with_reducible rfl
       try simp only [Act.put, List.setIfInBounds_toArray, List.set_cons_zero, List.set_cons_succ]
       refine takeP 65 (i := 9) (v := ?_) rfl rfl (by kernel_rfl) (by kernel_rfl) (by kernel_rfl) (by kernel_rfl) rfl (by kernel_rfl) (fun _ _ _ h => h) (Or.inl ⟨by kernel_rfl, ?_⟩) SX ?_
       rotate_left
       ·intro w' hSw; obtain ⟨s1, s2, s3, s4, s5⟩ := hSw; go_simp; try with_reducible rfl
       try simp only [Act.put, List.setIfInBounds_toArray, List.set_cons_zero, List.set_cons_succ]
       refine takeP 66 (i := 10) (v := ?_) rfl rfl (by kernel_rfl) (by kernel_rfl) (by kernel_rfl) (by kernel_rfl) rfl (by kernel_rfl) (fun _ _ _ h => h) (Or.inl ⟨by kernel_rfl, ?_⟩) SX ?_
       rotate_left
       ·intro w' hSw; obtain ⟨s1, s2, s3, s4, s5⟩ := hSw; go_simp; try with_reducible rfl
       try simp only [Act.put, List.setIfInBounds_toArray, List.set_cons_zero, List.set_cons_succ]
       refine takeP 67 (i := 11) (v := ?_) rfl rfl (by kernel_rfl) (by kernel_rfl) (by kernel_rfl) (by kernel_rfl) rfl (by kernel_rfl) (fun _ _ _ h => h) (Or.inl ⟨by kernel_rfl, ?_⟩) SX ?_
       rotate_left
       ·intro w' hSw; obtain ⟨s1, s2, s3, s4, s5⟩ := hSw; go_simp; try with_reducible rfl
       try simp only [Act.put, List.setIfInBounds_toArray, List.set_cons_zero, List.set_cons_succ]
       refine takeP 68 (i := 12) (v := .agg #[.bool xn, .slice xo xl xc, .int .i64 xe]) rfl rfl (by kernel_rfl) (by kernel_rfl) (by kernel_rfl) (by kernel_rfl) rfl (by kernel_rfl) (fun _ _ _ h => h) (yieldsIf_load_mid (by kernel_rfl) 72 _ rfl gb (j * 3) (by kernel_rfl) #[.bool xn, .slice xo xl xc, .int .i64 xe].toList _ (fun _ hS => hS.2.2.2.2) Tryz.underlying72 rfl (by kernel_rfl)) SX ?_
       try simp only [Act.put, List.setIfInBounds_toArray, List.set_cons_zero, List.set_cons_succ]
       refine wpAnyP_ready (rs := [13]) (by kernel_rfl) (by simp) ?_
       refine consP _ rfl (hopCd 69 rfl (by kernel_rfl) rfl (by kernel_rfl) (Calls.mono (timesC_any _ _ E 1024 1024 _ _ _ HDN.out.toZ HXN.out.toZ (by rw [HE.out]; omega) (by omega) (by omega)) ?_)) AllReadyP.nil
       rintro e V1 ⟨v1, rfl, hz1, b1⟩
       obtain ⟨n1, o1, l1', c1', e1, hv1⟩ := hz1.form
       subst hv1
       have SX : (fun V => V.heap[W0.heap.size]? = some (.cells #[.bool tn, .slice t_o tl tc, .int .i64 te] 72) ∧ V.cell? ⟨w.heap.size, 3, none⟩ = some (.slice (some ⟨g, 0, none⟩) gs.length c3) ∧ V.cell? ⟨g, k, none⟩ = some (.slice (some ⟨gb, 0, none⟩) n0 gq) ∧ V.rangeAt db (j * 3) [.bool dn, .slice d_o dl dc, .int .i64 de] ∧ V.rangeAt gb (j * 3) [.bool xn, .slice xo xl xc, .int .i64 xe]) V1 := ⟨kept b1 SX.1, (b1.cell (World.block_lt_of_cell? _ _ SX.2.1)).trans SX.2.1, (b1.cell (World.block_lt_of_cell? _ _ SX.2.2.1)).trans SX.2.2.1, range_later SX.2.2.2.1 b1, range_later SX.2.2.2.2 b1⟩
       have Q1 : Below W0.heap.size W0 V1 := HQD.out.trans (b1.mono HQD.out.size)
       have HC1 := HBN.out.later b1
       clear b1
       refine ⟨_, rfl, SX, ?_⟩
       try simp only [Act.put, List.setIfInBounds_toArray, List.set_cons_zero, List.set_cons_succ]
       refine wpAnyP_ready (rs := [14]) (by kernel_rfl) (by simp) ?_
       refine consP _ rfl (hopCd 70 rfl (by kernel_rfl) rfl (by kernel_rfl) (Calls.mono (plusC_any _ _ (E + E) 2100 _ _ _ HC1 (hz1.mono (by omega)) (by rw [HE.out]; omega) (by omega)) ?_)) AllReadyP.nil
       rintro e V2 ⟨v2, rfl, hz2, b2⟩
       obtain ⟨n2, o2, l2', c2', e2, hv2⟩ := hz2.form
       subst hv2
       have SX : (fun V => V.heap[W0.heap.size]? = some (.cells #[.bool tn, .slice t_o tl tc, .int .i64 te] 72) ∧ V.cell? ⟨w.heap.size, 3, none⟩ = some (.slice (some ⟨g, 0, none⟩) gs.length c3) ∧ V.cell? ⟨g, k, none⟩ = some (.slice (some ⟨gb, 0, none⟩) n0 gq) ∧ V.rangeAt db (j * 3) [.bool dn, .slice d_o dl dc, .int .i64 de] ∧ V.rangeAt gb (j * 3) [.bool xn, .slice xo xl xc, .int .i64 xe]) V2 := ⟨kept b2 SX.1, (b2.cell (World.block_lt_of_cell? _ _ SX.2.1)).trans SX.2.1, (b2.cell (World.block_lt_of_cell? _ _ SX.2.2.1)).trans SX.2.2.1, range_later SX.2.2.2.1 b2, range_later SX.2.2.2.2 b2⟩
       have Q2 : Below W0.heap.size W0 V2 := Q1.trans (b2.mono Q1.size)
       clear b2 HC1 hz1 Q1
       refine ⟨_, rfl, SX, ?_⟩
       try simp only [Act.put, List.setIfInBounds_toArray, List.set_cons_zero, List.set_cons_succ]
       refine wpAnyP_ready (rs := [15]) (by kernel_rfl) (by simp) ?_
       refine consPs _ rfl (by kernel_rfl) (hopL rfl (wpList_store_row (by rfl) 72 _ _ (by rfl) W0 W0.heap.size W0.heap.size #[.bool n2, .slice o2 l2' c2', .int .i64 e2] _ (by kernel_rfl) (by kernel_rfl) SX.1 Q2 (Nat.le_refl _) 3 Tryz.infoN3 rfl rfl (oneN _ _ _ _ _) fun V3 e3 b3 s3 k3 => ?_)) AllReadyP.nil
       refine ⟨trivial, ?_⟩
       try simp only [Act.put, List.setIfInBounds_toArray, List.set_cons_zero, List.set_cons_succ]
       refine wpAnyP_done (by kernel_rfl) ?_ _
       refine NoPanic.normal ?_
       try simp only [Act.put, List.setIfInBounds_toArray, List.set_cons_zero, List.set_cons_succ]
       have HZ : Hid (NumC V3 (.agg #[.bool n2, .slice o2 l2' c2', .int .i64 e2]) (E + E) 2100 (dotV ds (gs[k]?.getD []) (j + 1))) := by
        have hz3 := hz2.cl (num_cl SX.1) (fun b hb _ => k3 b hb)
        exact NumC.tight hz3 (by omega) HX.out (HBT.out k (j + 1) (by omega))
       have HB3 : Hid (V3.heap[W0.heap.size]? = some (.cells #[.bool n2, .slice o2 l2' c2', .int .i64 e2] 72) ∧ Below W0.heap.size W0 V3) := ⟨e3, b3⟩
       clear hz2 SX k3 b3 e3 s3 Q2 HDN HXN HBN HQD
       go_wp2_with fail
       go_roundg p
       case measure => omega
       case rel => exact ⟨j + 1, by go_num, by have := HJG.out; omega, n2, o2, l2', c2', e2, ⟨⟨HB3.out.1, HZ.out⟩, HB3.out.2⟩⟩
      ·have hd2 : decide ((j : Int) < (n0 : Int)) = false := decide_eq_false (by omega)
       have ej : j = n0 := by omega
       go_upto_region 15 with fail
       have QD0 : Below W0.heap.size W0 wr.drew := HT.out.2.drew
       have SX : (fun V => V.heap[w.heap.size + 1 + 1]? = some (.cells #[.bool n, .slice o l c, .int .i64 e] 72) ∧ V.heap[W0.heap.size]? = some (.cells #[.bool tn, .slice t_o tl tc, .int .i64 te] 72)) wr.drew := ⟨kept QD0 HI.out.1.row, HT.out.1.row⟩
       have HTN : Hid (NumC wr.drew (.agg #[.bool tn, .slice t_o tl tc, .int .i64 te]) (E + E) 2100 (dotV ds (gs[k]?.getD []) n0)) := by have := HT.out.1.num.later (Below.refl _ wr).drew; rw [ej] at this; exact this
       have HBN : Hid (NumC wr.drew (.agg #[.bool n, .slice o l c, .int .i64 e]) (E + E) 2100 ((dotV ds cs n0 + boxV ds rs n0) + (sumG (fun g => (dotV ds g n0).natAbs) (gs.take k) : Nat))) := HI.out.1.num.later QD0
       have HQD : Hid (Below w.heap.size w wr.drew) := to_call HI.out.2.2 QD0
       have HP : Hid (wr.drew.heap[w.heap.size]? = some (.cells #[.int .i64 (n0 : Int), .slice a1 n0 c1, .slice a2 l2 c2, .slice a3 gs.length c3, .slice a4 n0 c4] 62) ∧ wr.drew.heap[w.heap.size + 1]? = some (.cells #[.bool false, .slice none 0 0, .int .i64 0] 72)) := ⟨kept QD0 HI.out.2.1.1, kept QD0 HI.out.2.1.2⟩
       clear QD0 ej hd2 k0 hj
       refine wp_region_noPanic ?_
       refine wp_region_P (S := (fun V => V.heap[w.heap.size + 1 + 1]? = some (.cells #[.bool n, .slice o l c, .int .i64 e] 72) ∧ V.heap[W0.heap.size]? = some (.cells #[.bool tn, .slice t_o tl tc, .int .i64 te] 72))) (s := 4) (by kernel_rfl) ?_
       refine takeP 71 (i := 0) (v := .agg #[.bool n, .slice o l c, .int .i64 e]) rfl rfl (by kernel_rfl) (by kernel_rfl) (by kernel_rfl) (by kernel_rfl) rfl (by kernel_rfl) (fun _ _ _ h => h) (Or.inl ⟨by kernel_rfl, fun w' hSw => ex_loadRN _ 72 _ rfl (w.heap.size + 1 + 1) (by kernel_rfl) w' _ hSw.1 _ Tryz.underlying72 rfl 3 Tryz.infoN3 rfl⟩) SX ?_
       try simp only [Act.put, List.setIfInBounds_toArray, List.set_cons_zero, List.set_cons_succ]
       refine takeP 72 (i := 1) (v := .agg #[.bool tn, .slice t_o tl tc, .int .i64 te]) rfl rfl (by kernel_rfl) (by kernel_rfl) (by kernel_rfl) (by kernel_rfl) rfl (by kernel_rfl) (fun _ _ _ h => h) (Or.inl ⟨by kernel_rfl, fun w' hSw => ex_loadRN _ 72 _ rfl W0.heap.size (by kernel_rfl) w' _ hSw.2 _ Tryz.underlying72 rfl 3 Tryz.infoN3 rfl⟩) SX ?_
       try simp only [Act.put, List.setIfInBounds_toArray, List.set_cons_zero, List.set_cons_succ]
       refine wpAnyP_ready (rs := [2]) (by kernel_rfl) (by simp) ?_
       refine consP _ rfl (hopCd 73 rfl (by kernel_rfl) rfl (by kernel_rfl) (Calls.mono (sizeC_any _ (E + E) 2100 _ _ HTN.out) ?_)) AllReadyP.nil
       rintro e V1 ⟨v1, rfl, hz1, b1⟩
       obtain ⟨n1, o1, l1', c1', e1, hv1⟩ := hz1.form
       subst hv1
       have SX : (fun V => V.heap[w.heap.size + 1 + 1]? = some (.cells #[.bool n, .slice o l c, .int .i64 e] 72) ∧ V.heap[W0.heap.size]? = some (.cells #[.bool tn, .slice t_o tl tc, .int .i64 te] 72)) V1 := ⟨kept b1 SX.1, kept b1 SX.2⟩
       have Q1 : Below w.heap.size w V1 := HQD.out.trans (b1.mono HQD.out.size)
       have HC1 := HBN.out.later b1
       have P1 := And.intro (kept b1 HP.out.1) (kept b1 HP.out.2)
       clear b1
       refine ⟨_, rfl, SX, ?_⟩
       try simp only [Act.put, List.setIfInBounds_toArray, List.set_cons_zero, List.set_cons_succ]
       refine wpAnyP_ready (rs := [3]) (by kernel_rfl) (by simp) ?_
       refine consP _ rfl (hopCd 74 rfl (by kernel_rfl) rfl (by kernel_rfl) (Calls.mono (plusC_any _ _ (E + E) 2100 _ _ _ HC1 hz1 (by rw [HE.out]; omega) (by omega)) ?_)) AllReadyP.nil
       rintro e V2 ⟨v2, rfl, hz2, b2⟩
       obtain ⟨n2, o2, l2', c2', e2, hv2⟩ := hz2.form
       subst hv2
       have SX : (fun V => V.heap[w.heap.size + 1 + 1]? = some (.cells #[.bool n, .slice o l c, .int .i64 e] 72) ∧ V.heap[W0.heap.size]? = some (.cells #[.bool tn, .slice t_o tl tc, .int .i64 te] 72)) V2 := ⟨kept b2 SX.1, kept b2 SX.2⟩
       have Q2 : Below w.heap.size w V2 := Q1.trans (b2.mono Q1.size)
       have P2 := And.intro (kept b2 P1.1) (kept b2 P1.2)
       clear b2 HC1 hz1 Q1 P1
       refine ⟨_, rfl, SX, ?_⟩
       try simp only [Act.put, List.setIfInBounds_toArray, List.set_cons_zero, List.set_cons_succ]
       refine wpAnyP_ready (rs := [4]) (by kernel_rfl) (by simp) ?_
       refine consPs _ rfl (by kernel_rfl) (hopL rfl (wpList_store_row (by rfl) 72 _ _ (by rfl) w w.heap.size (w.heap.size + 1 + 1) #[.bool n2, .slice o2 l2' c2', .int .i64 e2] _ (by kernel_rfl) (by kernel_rfl) SX.1 Q2 (by omega) 3 Tryz.infoN3 rfl rfl (oneN _ _ _ _ _) fun V3 e3 b3 s3 k3 => ?_)) AllReadyP.nil
       refine ⟨trivial, ?_⟩
       try simp only [Act.put, List.setIfInBounds_toArray, List.set_cons_zero, List.set_cons_succ]
       refine wpAnyP_done (by kernel_rfl) ?_ _
       refine NoPanic.normal ?_
       try simp only [Act.put, List.setIfInBounds_toArray, List.set_cons_zero, List.set_cons_succ]
       have HZ : Hid (NumC V3 (.agg #[.bool n2, .slice o2 l2' c2', .int .i64 e2]) (E + E) 2100 ((dotV ds cs n0 + boxV ds rs n0) + (sumG (fun g => (dotV ds g n0).natAbs) (gs.take (k + 1)) : Nat))) := by
        have hz3 := hz2.cl (num_cl SX.1) (fun b hb _ => k3 b hb)
        have hbd := HBD.out n0 n0 (k + 1) (Nat.le_refl _) (Nat.le_refl _)
        rw [sumG_take h1] at hbd ⊢
        rw [Int.add_assoc, ← Int.natCast_add] at hz3
        exact NumC.tight hz3 (by omega) HX.out hbd
       have HB3 : Hid (Below w.heap.size w V3 ∧ V3.heap[w.heap.size + 1 + 1]? = some (.cells #[.bool n2, .slice o2 l2' c2', .int .i64 e2] 72) ∧ (V3.heap[w.heap.size]? = some (.cells #[.int .i64 (n0 : Int), .slice a1 n0 c1, .slice a2 l2 c2, .slice a3 gs.length c3, .slice a4 n0 c4] 62) ∧ V3.heap[w.heap.size + 1]? = some (.cells #[.bool false, .slice none 0 0, .int .i64 0] 72))) := ⟨b3, e3, by rw [k3 _ (by omega)]; exact P2.1, by rw [k3 _ (by omega)]; exact P2.2⟩
       clear hz2 SX k3 P2 b3 e3 s3 Q2 HTN HBN HQD HP
       go_wp2_with fail
       go_roundg q
       case measure => omega
       case rel => exact ⟨k + 1, by go_num, by have := HIG.out; omega, n2, o2, l2', c2', e2, ⟨⟨HB3.out.2.1, HZ.out⟩, HB3.out.2.2, HB3.out.1⟩⟩
    ·have hd1 : decide ((k : Int) < (gs.length : Int)) = false := decide_eq_false (by omega)
     have hd2 : decide (k < gs.length) = false := decide_eq_false h1
     have HZ : Hid (NumC wr (.agg #[.bool n, .slice o l c, .int .i64 e]) (E + E) 2100 (supV ds cs rs gs n0)) := by
      have := HI.out.1.num
      rw [List.take_of_length_le (by omega)] at this
      unfold Hid supV
      rw [show dotV ds cs n0 + (sumG (fun g => (dotV ds g n0).natAbs) gs : Nat) + boxV ds rs n0 = dotV ds cs n0 + boxV ds rs n0 + (sumG (fun g => (dotV ds g n0).natAbs) gs : Nat) by omega]
      exact this
     go_wp2_with (first
      | (refine wpList_load_row (by rfl) 72 _ (by rfl) (w.heap.size + 1 + 1) _ (by rfl) HI.out.1.row _ Tryz.underlying72 rfl 3 Tryz.infoN3 (by rfl) ?_)
      | (refine wpList_store_row (by rfl) 72 _ _ (by rfl) w w.heap.size (w.heap.size + 1) #[.bool n, .slice o l c, .int .i64 e] _ (by rfl) (by rfl) HI.out.2.1.2 HI.out.2.2 (by omega) 3 Tryz.infoN3 (by rfl) (by rfl) (oneN _ _ _ _ _) ?_; intro W9 e9 b9 s9 o9))
     refine bodyPost_ret (v := .agg #[.bool n, .slice o l c, .int .i64 e]) (res_num _ 4 (by kernel_rfl) _ _ (w.heap.size + 1) _ _ _ (by rfl) e9) rfl ⟨_, rfl, ?_, b9⟩
     exact HZ.out.cl (num_cl HI.out.2.1.2) (fun b hb _ => o9 b hb)
end Go.Proofs.YtjeghdmclmelfaaGreat
namespace Go.Proofs.YtjeghdmclmelfaaGreat
open Go.RowKit Go.Shelf
set_option linter.unusedVariables false
set_option linter.unusedSimpArgs false
theorem WhF.ofU {w : World} {z : ZD} (hz : ZU w z) (hd : z.dn ≤ 1050000) (h : wholeB z = true) : WhF z := by
 unfold wholeB at h
 simp only [Bool.and_eq_true, decide_eq_true_eq] at h
 obtain ⟨⟨⟨⟨⟨⟨h1, h2⟩, h3⟩, h4⟩, h5⟩, h6⟩, h7⟩ := h
 obtain ⟨c1, c2⟩ := numN_fin h3
 obtain ⟨r1, r2⟩ := numN_fin h4
 have hl := hz.r.length
 have hlc := hz.c.length
 have hg := fun (k : Nat) (hk : k < z.dn) => numN_fin (colsB_num h7 ⟨k, hk⟩ (List.mem_finRange _))
 refine ⟨by omega, by omega, by omega, by omega, h5, by omega, hl, fun k hk => by have := (hg k hk).1; dsimp only at this; omega, fun i => ?_, ⟨fin_getD c2, fin_getD r2, fun k j => ?_, hd⟩⟩
 ·by_cases hi : i < z.rs.length
  ·rw [List.getElem?_eq_getElem hi]
   have h8 := List.all_eq_true.1 h6 _ (List.getElem_mem hi)
   have h9 : ¬ srung z.rs[i] < 0 := of_decide_eq_true h8
   have h10 := srung_le 0 z.rs[i]
   rw [fval_zeroJ, show srung 0 = 0 by decide] at h10
   exact h10.1 (by omega)
  ·rw [List.getElem?_eq_none (by omega)]; exact Int.le_of_eq fval_zeroJ.symm
 ·by_cases hk : k < z.dn
  ·exact fin_getD (hg k hk).2 j
  ·have e : z.gs[k]? = none := List.getElem?_eq_none (by have := hz.g.length; omega)
   rw [e]
   exact fin_zeroJ
structure SupD (u : ZD) (ds : List Nat) (r : Nat) (ok : Bool) : Prop where
 is : ((!u.bad && wholeB u) = true ∧ numN ds u.N = true ∧ ∀ a, a = 1074 → RndZ 1 (supV ds u.cs u.rs u.gs u.rn) (2 ^ a) (r, ok)) ∨ (((!u.bad && wholeB u) = false ∨ numN ds u.N = false) ∧ r = 0 ∧ ok = false)
set_option maxRecDepth 100000 in
set_option maxHeartbeats 4000000 in
theorem refSupport_any (u : ZD) (dO : Option Addr) (dl dc : Nat) (ds : List Nat) (w : World) (hu : ZU w u) (huw : UW u) (hds : RdUs w dO dl dc ds) (h64 : ∀ x ∈ ds, x < 18446744073709551616) (hdl : dl ≤ 1050000) :
  Calls Tryz.prog 9 #[.agg (zRow u), .slice dO dl dc] w fun e w' => ∃ (r : Nat) (ok : Bool), e = .returned (.tuple #[.int .u64 (r : Int), .bool ok]) ∧ SupD u ds r ok ∧ Below w.heap.size w w' := by
 obtain ⟨E, hE⟩ : ∃ E : Nat, E = 1074 := ⟨_, rfl⟩
 have HE : Hid (E = 1074) := hE
 have HRE : Hid (∀ W', Below w.heap.size w W' → _) := fun W' hb => reals_any u E hE W' (hu.later hb) huw
 have HNU : Hid (∀ (n : Int) W', Below w.heap.size w W' → _) := fun n W' hb => numbers10_any dO dl dc ds n E hE W' (hds.later hb) h64 hdl
 have HU : Hid (ZU w u ∧ UW u) := ⟨hu, huw⟩
 unfold zRow at HRE ⊢
 clear hu huw hds h64 hdl hE
 have X0 : Below w.heap.size w (w.alloc (.cells #[.int .i64 u.N, .slice u.co u.cn u.cc, .slice u.io u.dn u.dc, .slice u.go u.gn u.gc, .slice u.ro u.rn u.rc, .bool u.bad] 31)) := (Below.refl _ w).alloc (Nat.le_refl _) _
 have Y0 : (w.alloc (.cells #[.int .i64 u.N, .slice u.co u.cn u.cc, .slice u.io u.dn u.dc, .slice u.go u.gn u.gc, .slice u.ro u.rn u.rc, .bool u.bad] 31)).heap[w.heap.size]? = some (.cells #[.int .i64 u.N, .slice u.co u.cn u.cc, .slice u.io u.dn u.dc, .slice u.go u.gn u.gc, .slice u.ro u.rn u.rc, .bool u.bad] 31) := heap_alloc_new w _
 have HX : Hid _ := And.intro X0 Y0
 clear X0 Y0
 go_enter Tryz.func9, Tryz.ntmps9
 go_upto_region 2 with (first
  | (refine wpList_load_row (by rfl) 31 _ (by rfl) w.heap.size _ (by rfl) HX.out.2 _ Tryz.underlying31 rfl 6 Tryz.infoZu (by rfl) ?_)
  | (go_at_call 25; refine Calls.mono (HRE.out _ HX.out.1) ?_; rintro e w1 ⟨⟨N', a1, l1, c1, a2, l2, c2, a3, l3, c3, a4, l4, c4, rfl, hN⟩, b1⟩; have HN : Hid _ := hN; clear hN))
 have A1 : Below w1.heap.size w1 (w1.alloc (.cells #[.int .i64 N', .slice a1 l1 c1, .slice a2 l2 c2, .slice a3 l3 c3, .slice a4 l4 c4] 62)) := (Below.refl _ w1).alloc (Nat.le_refl _) _
 have P1 : Hid (Below w.heap.size w (w1.alloc (.cells #[.int .i64 N', .slice a1 l1 c1, .slice a2 l2 c2, .slice a3 l3 c3, .slice a4 l4 c4] 62)) ∧ (w1.alloc (.cells #[.int .i64 N', .slice a1 l1 c1, .slice a2 l2 c2, .slice a3 l3 c3, .slice a4 l4 c4] 62)).heap[w1.heap.size]? = some (.cells #[.int .i64 N', .slice a1 l1 c1, .slice a2 l2 c2, .slice a3 l3 c3, .slice a4 l4 c4] 62) ∧ ((!u.bad && wholeB u) = true → N' = u.N ∧ ∃ gl, RlS (w1.alloc (.cells #[.int .i64 N', .slice a1 l1 c1, .slice a2 l2 c2, .slice a3 l3 c3, .slice a4 l4 c4] 62)) (w.alloc (.cells #[.int .i64 u.N, .slice u.co u.cn u.cc, .slice u.io u.dn u.dc, .slice u.go u.gn u.gc, .slice u.ro u.rn u.rc, .bool u.bad] 31)).heap.size E u.cs u.rs u.ids u.gs (.slice a1 l1 c1) (.slice a4 l4 c4) (.slice a2 l2 c2) (.slice a3 l3 c3) gl)) := ⟨to_call (to_call HX.out.1 b1) A1, heap_alloc_new w1 _, fun g => ⟨(HN.out g).1, by obtain ⟨gl, hr⟩ := (HN.out g).2; exact ⟨gl, hr.later A1⟩⟩⟩
 obtain ⟨X, hX⟩ : ∃ X, w1.alloc (.cells #[.int .i64 N', .slice a1 l1 c1, .slice a2 l2 c2, .slice a3 l3 c3, .slice a4 l4 c4] 62) = X := ⟨_, rfl⟩
 obtain ⟨B6, hB6⟩ : ∃ B6, w1.heap.size = B6 := ⟨_, rfl⟩
 obtain ⟨base, hbase⟩ : ∃ base, (w.alloc (.cells #[.int .i64 u.N, .slice u.co u.cn u.cc, .slice u.io u.dn u.dc, .slice u.go u.gn u.gc, .slice u.ro u.rn u.rc, .bool u.bad] 31)).heap.size = base := ⟨_, rfl⟩
 rw [hX, hB6, hbase] at P1
 rw [hX, hB6]
 clear hX hB6 hbase A1 b1 HN HX HRE
 cases hgd : (!u.bad && wholeB u) with
 | false =>
  have HG : Hid _ := hgd
  clear hgd
  go_wp2_with fail
  refine bodyPost_ret (res_tmp2J _ 4 5 (by kernel_rfl) _ _ _ _ (by rfl) (by rfl)) rfl ?_
  exact ⟨0, false, rfl, ⟨.inr ⟨.inl HG.out, rfl, rfl⟩⟩, P1.out.1⟩
 | true =>
  obtain ⟨hb0, hwh, hck⟩ := tk_good hgd
  have HF : Hid (WhF u) := WhF.ofU HU.out.1 HU.out.2.il hwh
  obtain ⟨hN1, gl, hR⟩ := P1.out.2.2 hgd
  have HG : Hid _ := hgd
  replace hN1 := hN1.trans HF.out.N
  subst hN1
  have P2 : Hid (Below w.heap.size w X ∧ X.heap[B6]? = some (.cells #[.int .i64 (u.rn : Int), .slice a1 l1 c1, .slice a2 l2 c2, .slice a3 l3 c3, .slice a4 l4 c4] 62) ∧ RlS X base E u.cs u.rs u.ids u.gs (.slice a1 l1 c1) (.slice a4 l4 c4) (.slice a2 l2 c2) (.slice a3 l3 c3) gl) := ⟨P1.out.1, P1.out.2.1, hR⟩
  have k0 : X.cell? ⟨B6, 0, none⟩ = some (.int .i64 (u.rn : Int)) := cellAtJ P2.out.2.1 0 _ rfl
  have HNN : Hid (numN ds u.N = numN ds (u.rn : Int)) := by unfold Hid; rw [HF.out.N]
  clear hR hgd hb0 hwh hck P1
  go_upto_region 5 with (go_at_call 39; refine Calls.mono (HNU.out (u.rn : Int) _ P2.out.1) ?_; rintro e w2 ⟨⟨vd, rfl, hD⟩, b2⟩; have HD : Hid _ := hD; clear hD)
  have Q2 : Hid (Below w.heap.size w w2 ∧ w2.heap[B6]? = some (.cells #[.int .i64 (u.rn : Int), .slice a1 l1 c1, .slice a2 l2 c2, .slice a3 l3 c3, .slice a4 l4 c4] 62) ∧ RlS w2 base E u.cs u.rs u.ids u.gs (.slice a1 l1 c1) (.slice a4 l4 c4) (.slice a2 l2 c2) (.slice a3 l3 c3) gl) := ⟨to_call P2.out.1 b2, kept b2 P2.out.2.1, P2.out.2.2.later b2⟩
  clear k0 b2
  cases hnb : numN ds (u.rn : Int) with
  | false =>
   have HB : Hid _ := hnb
   rw [hnb] at HD
   clear hnb
   go_wp2_with fail
   refine bodyPost_ret (res_tmp2J _ 4 5 (by kernel_rfl) _ _ _ _ (by rfl) (by rfl)) rfl ?_
   exact ⟨0, false, rfl, ⟨.inr ⟨.inr (HNN.out.trans HB.out), rfl, rfl⟩⟩, Q2.out.1⟩
  | true =>
   have hdr := HD.out hnb
   obtain ⟨f1, f2⟩ := numN_fin hnb
   obtain ⟨da, dcap, hdv⟩ := hdr.form
   subst hdv
   have hgl2 : u.gs.length = u.dn := by rw [HU.out.1.g.length, HF.out.dg]
   have HRC : Hid (∀ W', Below w2.heap.size w2 W' → _) := fun W' hb => reach_any a1 l1 c1 a2 l2 c2 a3 l3 c3 a4 l4 c4 da ds.length dcap u.cs u.rs ds u.ids u.gs gl base X.heap.size E u.rn HE.out W' (Q2.out.2.2.later hb) (hdr.later hb) HF.out.cl HF.out.rl (by omega) (fun k hk => HF.out.gl k (by omega)) (fin_getD f2) HF.out.fin.c HF.out.fin.r HF.out.fin.g (by rw [hgl2]; exact HF.out.fin.few) HF.out.n2
   have HB : Hid _ := hnb
   clear hnb hdr f1 f2 HD hgl2
   go_wp2_with (first
    | (refine wpList_load_row (by rfl) 62 _ (by rfl) B6 _ (by rfl) Q2.out.2.1 _ Tryz.underlying62 rfl 5 Tryz.infoRl (by rfl) ?_)
    | (go_at_call 41; refine Calls.mono (HRC.out _ (Below.refl _ _)) ?_; rintro e w3 ⟨v3, rfl, hz3, b3⟩; have HZ3 : Hid (NumC w3 v3 (E + E) 2100 (supV ds u.cs u.rs u.gs u.rn)) := hz3; clear hz3)
    | (go_at_call 40; refine Calls.mono (roundZ_any 1 _ (E + E) E 2100 _ _ HZ3.out.toZ E HE.out rfl (by rw [HE.out]; omega) (by omega) (by omega) (by omega)) ?_; rintro e w4 ⟨r4, k4, rfl, hr4, b4⟩; have HR4 : Hid (RndZ 1 (supV ds u.cs u.rs u.gs u.rn) (2 ^ E) (r4, k4)) := hr4; clear hr4))
   refine bodyPost_ret (res_tmp2J _ 4 5 (by kernel_rfl) _ _ _ _ (by rfl) (by rfl)) rfl ?_
   exact ⟨r4, k4, rfl, ⟨.inl ⟨HG.out, HNN.out.trans HB.out, fun a ha => by rw [ha, ← HE.out]; exact HR4.out⟩⟩, to_call (to_call Q2.out.1 b3) b4⟩
end Go.Proofs.YtjeghdmclmelfaaGreat
namespace Go.Proofs.YtjeghdmclmelfaaGreat
open Go.RowKit Go.Shelf
set_option linter.unusedVariables false
set_option linter.unusedSimpArgs false
theorem Tryz.infoSp4 : (Tryz.prog.info? 93).map (fun i => (i.zero, i.size, i.bytes)) = some (some (.agg #[.int .u64 0, .int .u64 0, .bool false]), 3, 24) := by kernel_rfl
theorem three_oneU (a b : Int) (c : Bool) : ∀ u ∈ [Value.int .u64 a, .int .u64 b, .bool c], u.oneCell' = true := by
 intro u hu
 simp only [List.mem_cons, List.not_mem_nil, or_false] at hu
 rcases hu with rfl | rfl | rfl <;> rfl
structure OwnSp (w : World) (base : Nat) (v : Value) (n : Nat) (R : Nat → Nat × Nat × Bool → Prop) : Prop where
 ex : ∃ xs, w.ownsRow base 93 3 v n xs ∧ ∀ j, j < n → ∃ r : Nat × Nat × Bool, R j r ∧ xs[j * 3]? = some (.int .u64 (r.1 : Int)) ∧ xs[j * 3 + 1]? = some (.int .u64 (r.2.1 : Int)) ∧ xs[j * 3 + 2]? = some (.bool r.2.2)
theorem OwnSp.nil (w : World) (base : Nat) (R : Nat → Nat × Nat × Bool → Prop) : OwnSp w base (.slice none 0 0) 0 R := ⟨[], World.ownsRow_nil _ _ _ _, fun j hj => absurd hj (Nat.not_lt_zero _)⟩
theorem OwnSp.later {w w' : World} {base n : Nat} {v : Value} {R : Nat → Nat × Nat × Bool → Prop} (h : OwnSp w base v n R) (hb : Below w.heap.size w w') : OwnSp w' base v n R := by
 obtain ⟨xs, h1, h2⟩ := h.ex
 exact ⟨xs, owns_keep h1 fun k hk => hb.block k (World.ownsRow.lt h1 k hk).2, h2⟩
theorem OwnSp.push {w : World} {base n : Nat} {v : Value} {R : Nat → Nat × Nat × Bool → Prop} {xs : List Value} {lo hi : Nat} {bd : Bool} (hl : xs.length = n * 3) (h2 : ∀ j, j < n → ∃ r : Nat × Nat × Bool, R j r ∧ xs[j * 3]? = some (.int .u64 (r.1 : Int)) ∧ xs[j * 3 + 1]? = some (.int .u64 (r.2.1 : Int)) ∧ xs[j * 3 + 2]? = some (.bool r.2.2)) (ho : w.ownsRow base 93 3 v (n + 1) (xs ++ [.int .u64 (lo : Int), .int .u64 (hi : Int), .bool bd])) (hr : R n (lo, hi, bd)) : OwnSp w base v (n + 1) R := by
 refine ⟨_, ho, fun j hj => ?_⟩
 by_cases e : j < n
 ·obtain ⟨r, a1, a2, a3, a4⟩ := h2 j e
  exact ⟨r, a1, by rw [List.getElem?_append_left (by omega)]; exact a2, by rw [List.getElem?_append_left (by omega)]; exact a3, by rw [List.getElem?_append_left (by omega)]; exact a4⟩
 ·have ej : j = n := by omega
  subst ej
  refine ⟨_, hr, ?_, ?_, ?_⟩
  ·rw [List.getElem?_append_right (by omega), hl, Nat.sub_self]; rfl
  ·rw [List.getElem?_append_right (by omega), hl, show j * 3 + 1 - j * 3 = 1 by omega]; rfl
  ·rw [List.getElem?_append_right (by omega), hl, show j * 3 + 2 - j * 3 = 2 by omega]; rfl
set_option maxRecDepth 100000 in
set_option maxHeartbeats 4000000 in
theorem refBounds_any (u : ZD) (w : World) (hu : ZU w u) (huw : UW u) :
  Calls Tryz.prog 15 #[.agg (zRow u)] w fun e w' => ∃ v, e = .returned v ∧ (((!u.bad && wholeB u) = true ∧ ∃ base, OwnSp w' base v u.rn (fun j r => SpR (fval (u.cs[j]?.getD 0) - farV u.rs u.gs j) (fval (u.cs[j]?.getD 0) + farV u.rs u.gs j) 1 r)) ∨ ((!u.bad && wholeB u) = false ∧ v = .slice none 0 0)) ∧ Below w.heap.size w w' := by
 obtain ⟨E, hE⟩ : ∃ E : Nat, E = 1074 := ⟨_, rfl⟩
 have HE : Hid (E = 1074) := hE
 have HRE : Hid (∀ W', Below w.heap.size w W' → _) := fun W' hb => reals_any u E hE W' (hu.later hb) huw
 have HU : Hid (ZU w u ∧ UW u) := ⟨hu, huw⟩
 unfold zRow at HRE ⊢
 clear hu huw hE
 have X0 : Below w.heap.size w (w.alloc (.cells #[.int .i64 u.N, .slice u.co u.cn u.cc, .slice u.io u.dn u.dc, .slice u.go u.gn u.gc, .slice u.ro u.rn u.rc, .bool u.bad] 31)) := (Below.refl _ w).alloc (Nat.le_refl _) _
 have Y0 : (w.alloc (.cells #[.int .i64 u.N, .slice u.co u.cn u.cc, .slice u.io u.dn u.dc, .slice u.go u.gn u.gc, .slice u.ro u.rn u.rc, .bool u.bad] 31)).heap[w.heap.size]? = some (.cells #[.int .i64 u.N, .slice u.co u.cn u.cc, .slice u.io u.dn u.dc, .slice u.go u.gn u.gc, .slice u.ro u.rn u.rc, .bool u.bad] 31) := heap_alloc_new w _
 have HX : Hid _ := And.intro X0 Y0
 clear X0 Y0
 go_enter Tryz.func15, Tryz.ntmps15
 go_upto_region 2 with (first
  | (refine wpList_load_row (by rfl) 31 _ (by rfl) w.heap.size _ (by rfl) HX.out.2 _ Tryz.underlying31 rfl 6 Tryz.infoZu (by rfl) ?_)
  | (go_at_call 25; refine Calls.mono (HRE.out _ HX.out.1) ?_; rintro e w1 ⟨⟨N', a1, l1, c1, a2, l2, c2, a3, l3, c3, a4, l4, c4, rfl, hN⟩, b1⟩; have HN : Hid _ := hN; clear hN))
 have A1 : Below w1.heap.size w1 (w1.alloc (.cells #[.int .i64 N', .slice a1 l1 c1, .slice a2 l2 c2, .slice a3 l3 c3, .slice a4 l4 c4] 62)) := (Below.refl _ w1).alloc (Nat.le_refl _) _
 have P1 : Hid (Below w.heap.size w (w1.alloc (.cells #[.int .i64 N', .slice a1 l1 c1, .slice a2 l2 c2, .slice a3 l3 c3, .slice a4 l4 c4] 62)) ∧ (w1.alloc (.cells #[.int .i64 N', .slice a1 l1 c1, .slice a2 l2 c2, .slice a3 l3 c3, .slice a4 l4 c4] 62)).heap[w1.heap.size]? = some (.cells #[.int .i64 N', .slice a1 l1 c1, .slice a2 l2 c2, .slice a3 l3 c3, .slice a4 l4 c4] 62) ∧ ((!u.bad && wholeB u) = true → N' = u.N ∧ ∃ gl, RlS (w1.alloc (.cells #[.int .i64 N', .slice a1 l1 c1, .slice a2 l2 c2, .slice a3 l3 c3, .slice a4 l4 c4] 62)) (w.alloc (.cells #[.int .i64 u.N, .slice u.co u.cn u.cc, .slice u.io u.dn u.dc, .slice u.go u.gn u.gc, .slice u.ro u.rn u.rc, .bool u.bad] 31)).heap.size E u.cs u.rs u.ids u.gs (.slice a1 l1 c1) (.slice a4 l4 c4) (.slice a2 l2 c2) (.slice a3 l3 c3) gl)) := ⟨to_call (to_call HX.out.1 b1) A1, heap_alloc_new w1 _, fun g => ⟨(HN.out g).1, by obtain ⟨gl, hr⟩ := (HN.out g).2; exact ⟨gl, hr.later A1⟩⟩⟩
 obtain ⟨X, hX⟩ : ∃ X, w1.alloc (.cells #[.int .i64 N', .slice a1 l1 c1, .slice a2 l2 c2, .slice a3 l3 c3, .slice a4 l4 c4] 62) = X := ⟨_, rfl⟩
 obtain ⟨B3, hB3⟩ : ∃ B3, w1.heap.size = B3 := ⟨_, rfl⟩
 obtain ⟨base, hbase⟩ : ∃ base, (w.alloc (.cells #[.int .i64 u.N, .slice u.co u.cn u.cc, .slice u.io u.dn u.dc, .slice u.go u.gn u.gc, .slice u.ro u.rn u.rc, .bool u.bad] 31)).heap.size = base := ⟨_, rfl⟩
 rw [hX, hB3, hbase] at P1
 rw [hX, hB3]
 clear hX hB3 hbase A1 b1 HN HX HRE
 cases hgd : (!u.bad && wholeB u) with
 | false =>
  have HG : Hid _ := hgd
  clear hgd
  go_wp2_with fail
  go_ret
  exact ⟨_, rfl, .inr ⟨HG.out, rfl⟩, P1.out.1⟩
 | true =>
  obtain ⟨hb0, hwh, hck⟩ := tk_good hgd
  have HF : Hid (WhF u) := WhF.ofU HU.out.1 HU.out.2.il hwh
  obtain ⟨hN1, gl, hR⟩ := P1.out.2.2 hgd
  have HG : Hid _ := hgd
  replace hN1 := hN1.trans HF.out.N
  subst hN1
  have P2 : Hid (Below w.heap.size w X ∧ X.heap[B3]? = some (.cells #[.int .i64 (u.rn : Int), .slice a1 l1 c1, .slice a2 l2 c2, .slice a3 l3 c3, .slice a4 l4 c4] 62) ∧ RlS X base E u.cs u.rs u.ids u.gs (.slice a1 l1 c1) (.slice a4 l4 c4) (.slice a2 l2 c2) (.slice a3 l3 c3) gl) := ⟨P1.out.1, P1.out.2.1, hR⟩
  have hgl2 : u.gs.length = u.dn := by rw [HU.out.1.g.length, HF.out.dg]
  have HFA : Hid (∀ (i : Nat), i < u.rn → ∀ W', Below X.heap.size X W' → _) := fun i hi W' hb => far_any (u.rn : Int) a1 l1 c1 a2 l2 c2 a3 l3 c3 a4 l4 c4 u.cs u.rs u.ids u.gs gl base E u.rn i HE.out W' (P2.out.2.2.later hb) hi HF.out.rl (fun k hk => HF.out.gl k (by omega)) (HF.out.fin.r i) (fun k => HF.out.fin.g k i) (by rw [hgl2]; exact HF.out.fin.few) HF.out.n2
  have hn2 : u.rn ≤ 256 := HF.out.n2
  clear hR hgd hb0 hwh hck P1 hgl2
  go_wp2_with fail
  go_loopg [5, 6] u.rn (fun q v5 v6 wx => ∃ (k : Nat), v6 = .int .i64 k ∧ k + q = u.rn ∧ Hid (OwnSp wx X.heap.size v5 k (fun j r => SpR (fval (u.cs[j]?.getD 0) - farV u.rs u.gs j) (fval (u.cs[j]?.getD 0) + farV u.rs u.gs j) 1 r) ∧ Below X.heap.size X wx))
  case atStart => exact ⟨0, rfl, by omega, ⟨OwnSp.nil _ _ _, Below.refl _ _⟩⟩
  case round =>
   obtain ⟨k, rfl, hk, HI⟩ := hrel
   have k0 : wr.cell? ⟨B3, 0, none⟩ = some (.int .i64 (u.rn : Int)) := cellAtJ (kept HI.out.2 P2.out.2.1) 0 _ rfl
   by_cases h1 : k < u.rn
   ·have hd1 : decide ((k : Int) < (u.rn : Int)) = true := decide_eq_true (by omega)
    obtain ⟨q, rfl⟩ : ∃ q, gk = q + 1 := ⟨gk - 1, by omega⟩
    have HIG : Hid _ := hk
    clear hk
    go_upto_region 9 with (first
     | (refine wpList_load_row (by rfl) 62 _ (by rfl) B3 _ (by rfl) (kept HI.out.2 P2.out.2.1) _ Tryz.underlying62 rfl 5 Tryz.infoRl (by rfl) ?_)
     | (go_at_call 47; refine Calls.mono (HFA.out k h1 _ HI.out.2) ?_; rintro e w3 ⟨v3, rfl, hz3, b3⟩; obtain ⟨sn, so, sl, sc, se, hv3⟩ := hz3.form; subst hv3; have HZ3 : Hid (NumC w3 (.agg #[.bool sn, .slice so sl sc, .int .i64 se]) E 1060 (farV u.rs u.gs k)) := hz3; clear hz3))
    have A3 : Below w3.heap.size w3 (w3.alloc (.cells #[.bool sn, .slice so sl sc, .int .i64 se] 72)) := (Below.refl _ w3).alloc (Nat.le_refl _) _
    have P3 : Hid (Below X.heap.size X (w3.alloc (.cells #[.bool sn, .slice so sl sc, .int .i64 se] 72)) ∧ (w3.alloc (.cells #[.bool sn, .slice so sl sc, .int .i64 se] 72)).heap[w3.heap.size]? = some (.cells #[.bool sn, .slice so sl sc, .int .i64 se] 72) ∧ NumC (w3.alloc (.cells #[.bool sn, .slice so sl sc, .int .i64 se] 72)) (.agg #[.bool sn, .slice so sl sc, .int .i64 se]) E 1060 (farV u.rs u.gs k) ∧ OwnSp (w3.alloc (.cells #[.bool sn, .slice so sl sc, .int .i64 se] 72)) X.heap.size u5 k (fun j r => SpR (fval (u.cs[j]?.getD 0) - farV u.rs u.gs j) (fval (u.cs[j]?.getD 0) + farV u.rs u.gs j) 1 r)) := ⟨to_call (to_call HI.out.2 b3) A3, heap_alloc_new w3 _, HZ3.out.later A3, (HI.out.1.later b3).later A3⟩
    obtain ⟨W, hW⟩ : ∃ W, w3.alloc (.cells #[.bool sn, .slice so sl sc, .int .i64 se] 72) = W := ⟨_, rfl⟩
    obtain ⟨B7, hB7⟩ : ∃ B7, w3.heap.size = B7 := ⟨_, rfl⟩
    rw [hW, hB7] at P3
    rw [hW, hB7]
    clear hW hB7 A3 b3 HZ3 HI k0 hd1
    obtain ⟨cb, cq, cn, co, cl, cc, ce, hcv, hcr, hcz⟩ := RowN.range P2.out.2.2.c (k := k) (by rw [HF.out.cl]; exact h1)
    rw [HF.out.cl] at hcv
    have kc : X.cell? ⟨B3, 1, none⟩ = some (.slice a1 l1 c1) := cellAtJ P2.out.2.1 1 _ rfl
    rw [hcv] at kc
    have KC : Hid (X.cell? ⟨B3, 1, none⟩ = some (.slice (some ⟨cb, 0, none⟩) u.rn cq)) := kc
    have HCR : Hid (X.rangeAt cb (k * 3) #[.bool cn, .slice co cl cc, .int .i64 ce].toList) := hcr
    have HCN : Hid (∀ W', Below X.heap.size X W' → NumC W' (.agg #[.bool cn, .slice co cl cc, .int .i64 ce]) E 1060 (fval (u.cs[k]?.getD 0))) := fun W' hb => (hcz.later hb).mono (by omega)
    have hk0 : (k : Int) < (u.rn : Int) := by omega
    have SX : (fun V => Below X.heap.size X V ∧ V.heap[B7]? = some (.cells #[.bool sn, .slice so sl sc, .int .i64 se] 72)) W.drew := ⟨P3.out.1.drew, P3.out.2.1⟩
    have HSN : Hid (NumC W.drew (.agg #[.bool sn, .slice so sl sc, .int .i64 se]) E 1060 (farV u.rs u.gs k)) := P3.out.2.2.1.later (Below.refl _ W).drew
    obtain ⟨xs, ho, hxs⟩ := (P3.out.2.2.2.later (Below.refl _ W).drew).ex
    have HO : Hid _ := ho
    have HXS : Hid _ := hxs
    clear hcv hcr hcz kc ho hxs P3
    refine wp_region_noPanic ?_
    refine wp_region_held_drew (S := (fun V => Below X.heap.size X V ∧ V.heap[B7]? = some (.cells #[.bool sn, .slice so sl sc, .int .i64 se] 72))) (by kernel_rfl) SX (fun _ => ?_)
    refine takeH 24 (i := 0) (v := ?_) rfl rfl (by kernel_rfl) (by kernel_rfl) (by kernel_rfl) (fun _ _ _ h => h) (Or.inl ⟨by kernel_rfl, ?_⟩) SX ?_
    rotate_left
    ·intro w' hSw; have s1 := (hSw.1.cell (World.block_lt_of_cell? _ _ KC.out)).trans KC.out; go_simp; try with_reducible rfl
    try simp only [Act.put, List.setIfInBounds_toArray, List.set_cons_zero, List.set_cons_succ]
    refine takeH 25 (i := 1) (v := ?_) rfl rfl (by kernel_rfl) (by kernel_rfl) (by kernel_rfl) (fun _ _ _ h => h) (Or.inl ⟨by kernel_rfl, ?_⟩) SX ?_
    rotate_left
    ·intro w' hSw; have s1 := (hSw.1.cell (World.block_lt_of_cell? _ _ KC.out)).trans KC.out; go_simp; try with_reducible rfl
    try simp only [Act.put, List.setIfInBounds_toArray, List.set_cons_zero, List.set_cons_succ]
    refine takeH 26 (i := 2) (v := ?_) rfl rfl (by kernel_rfl) (by kernel_rfl) (by kernel_rfl) (fun _ _ _ h => h) (Or.inl ⟨by kernel_rfl, ?_⟩) SX ?_
    rotate_left
    ·intro w' hSw; have s1 := (hSw.1.cell (World.block_lt_of_cell? _ _ KC.out)).trans KC.out; go_simp; try with_reducible rfl
    try simp only [Act.put, List.setIfInBounds_toArray, List.set_cons_zero, List.set_cons_succ]
    refine takeH 27 (i := 3) (v := ?_) rfl rfl (by kernel_rfl) (by kernel_rfl) (by kernel_rfl) (fun _ _ _ h => h) (Or.inl ⟨by kernel_rfl, ?_⟩) SX ?_
    rotate_left
    ·intro w' hSw; have s1 := (hSw.1.cell (World.block_lt_of_cell? _ _ KC.out)).trans KC.out; go_simp; try with_reducible rfl
    try simp only [Act.put, List.setIfInBounds_toArray, List.set_cons_zero, List.set_cons_succ]
    refine takeH 28 (i := 4) (v := ?_) rfl rfl (by kernel_rfl) (by kernel_rfl) (by kernel_rfl) (fun _ _ _ h => h) (Or.inl ⟨by kernel_rfl, ?_⟩) SX ?_
    rotate_left
    ·intro w' hSw; have s1 := (hSw.1.cell (World.block_lt_of_cell? _ _ KC.out)).trans KC.out; go_simp; try with_reducible rfl
    try simp only [Act.put, List.setIfInBounds_toArray, List.set_cons_zero, List.set_cons_succ]
    refine takeH 29 (i := 5) (v := .agg #[.bool cn, .slice co cl cc, .int .i64 ce]) rfl rfl (by kernel_rfl) (by kernel_rfl) (by kernel_rfl) (fun _ _ _ h => h) (yieldsIf_load_mid (by kernel_rfl) 72 _ rfl cb (k * 3) (by kernel_rfl) #[.bool cn, .slice co cl cc, .int .i64 ce].toList _ (fun _ hS => range_later HCR.out hS.1) Tryz.underlying72 rfl (by kernel_rfl)) SX ?_
    try simp only [Act.put, List.setIfInBounds_toArray, List.set_cons_zero, List.set_cons_succ]
    refine takeH 30 (i := 6) (v := .agg #[.bool sn, .slice so sl sc, .int .i64 se]) rfl rfl (by kernel_rfl) (by kernel_rfl) (by kernel_rfl) (fun _ _ _ h => h) (Or.inl ⟨by kernel_rfl, fun w' hSw => ex_loadRN _ 72 _ rfl B7 (by kernel_rfl) w' _ hSw.2 _ Tryz.underlying72 rfl 3 Tryz.infoN3 rfl⟩) SX ?_
    try simp only [Act.put, List.setIfInBounds_toArray, List.set_cons_zero, List.set_cons_succ]
    refine takeH 32 (i := 8) (v := ?_) rfl rfl (by kernel_rfl) (by kernel_rfl) (by kernel_rfl) (fun _ _ _ h => h) (Or.inl ⟨by kernel_rfl, ?_⟩) SX ?_
    rotate_left
    ·intro w' hSw; have s1 := (hSw.1.cell (World.block_lt_of_cell? _ _ KC.out)).trans KC.out; go_simp; try with_reducible rfl
    try simp only [Act.put, List.setIfInBounds_toArray, List.set_cons_zero, List.set_cons_succ]
    refine takeH 33 (i := 9) (v := ?_) rfl rfl (by kernel_rfl) (by kernel_rfl) (by kernel_rfl) (fun _ _ _ h => h) (Or.inl ⟨by kernel_rfl, ?_⟩) SX ?_
    rotate_left
    ·intro w' hSw; have s1 := (hSw.1.cell (World.block_lt_of_cell? _ _ KC.out)).trans KC.out; go_simp; try with_reducible rfl
    try simp only [Act.put, List.setIfInBounds_toArray, List.set_cons_zero, List.set_cons_succ]
    refine takeH 34 (i := 10) (v := ?_) rfl rfl (by kernel_rfl) (by kernel_rfl) (by kernel_rfl) (fun _ _ _ h => h) (Or.inl ⟨by kernel_rfl, ?_⟩) SX ?_
    rotate_left
    ·intro w' hSw; have s1 := (hSw.1.cell (World.block_lt_of_cell? _ _ KC.out)).trans KC.out; go_simp; try with_reducible rfl
    try simp only [Act.put, List.setIfInBounds_toArray, List.set_cons_zero, List.set_cons_succ]
    refine takeH 35 (i := 11) (v := ?_) rfl rfl (by kernel_rfl) (by kernel_rfl) (by kernel_rfl) (fun _ _ _ h => h) (Or.inl ⟨by kernel_rfl, ?_⟩) SX ?_
    rotate_left
    ·intro w' hSw; have s1 := (hSw.1.cell (World.block_lt_of_cell? _ _ KC.out)).trans KC.out; go_simp; try with_reducible rfl
    try simp only [Act.put, List.setIfInBounds_toArray, List.set_cons_zero, List.set_cons_succ]
    refine takeH 36 (i := 12) (v := .agg #[.bool cn, .slice co cl cc, .int .i64 ce]) rfl rfl (by kernel_rfl) (by kernel_rfl) (by kernel_rfl) (fun _ _ _ h => h) (yieldsIf_load_mid (by kernel_rfl) 72 _ rfl cb (k * 3) (by kernel_rfl) #[.bool cn, .slice co cl cc, .int .i64 ce].toList _ (fun _ hS => range_later HCR.out hS.1) Tryz.underlying72 rfl (by kernel_rfl)) SX ?_
    try simp only [Act.put, List.setIfInBounds_toArray, List.set_cons_zero, List.set_cons_succ]
    refine takeH 37 (i := 13) (v := .agg #[.bool sn, .slice so sl sc, .int .i64 se]) rfl rfl (by kernel_rfl) (by kernel_rfl) (by kernel_rfl) (fun _ _ _ h => h) (Or.inl ⟨by kernel_rfl, fun w' hSw => ex_loadRN _ 72 _ rfl B7 (by kernel_rfl) w' _ hSw.2 _ Tryz.underlying72 rfl 3 Tryz.infoN3 rfl⟩) SX ?_
    try simp only [Act.put, List.setIfInBounds_toArray, List.set_cons_zero, List.set_cons_succ]
    refine wpAnyH_ready (rs := [7]) (by kernel_rfl) (by simp) ?_
    refine consH _ rfl (hopCd 31 rfl (by kernel_rfl) rfl (by kernel_rfl) (Calls.mono (minusC_any _ _ E 1060 _ _ _ (HCN.out _ SX.1) HSN.out (by rw [HE.out]; omega) (by omega)) ?_)) AllReadyH.nil
    rintro e V1 ⟨v1, rfl, hz1, b1⟩
    have SX : (fun V => Below X.heap.size X V ∧ V.heap[B7]? = some (.cells #[.bool sn, .slice so sl sc, .int .i64 se] 72)) V1 := ⟨to_call SX.1 b1, kept b1 SX.2⟩
    have HS1 := HSN.out.later b1
    have O1 := owns_keep HO.out fun k hk => b1.block k (World.ownsRow.lt HO.out k hk).2
    refine ⟨_, rfl, SX, ?_⟩
    try simp only [Act.put, List.setIfInBounds_toArray, List.set_cons_zero, List.set_cons_succ]
    refine wpAnyH_ready (rs := [14]) (by kernel_rfl) (by simp) ?_
    refine consH _ rfl (hopCd 38 rfl (by kernel_rfl) rfl (by kernel_rfl) (Calls.mono (plusC_any _ _ E 1060 _ _ _ (HCN.out _ SX.1) HS1 (by rw [HE.out]; omega) (by omega)) ?_)) AllReadyH.nil
    rintro e V2 ⟨v2, rfl, hz2, b2⟩
    have SX : (fun V => Below X.heap.size X V ∧ V.heap[B7]? = some (.cells #[.bool sn, .slice so sl sc, .int .i64 se] 72)) V2 := ⟨to_call SX.1 b2, kept b2 SX.2⟩
    have hz1' := hz1.later b2
    have O2 := owns_keep O1 fun k hk => b2.block k (World.ownsRow.lt O1 k hk).2
    refine ⟨_, rfl, SX, ?_⟩
    try simp only [Act.put, List.setIfInBounds_toArray, List.set_cons_zero, List.set_cons_succ]
    refine wpAnyH_ready (rs := [15]) (by kernel_rfl) (by simp) ?_
    refine consH _ rfl (hopCd 39 rfl (by kernel_rfl) rfl (by kernel_rfl) (Calls.mono (refOf_any _ _ E 0 1061 1061 _ _ _ hz1'.toZ hz2.toZ E HE.out rfl (by rw [HE.out]; omega) (by omega) (by omega)) ?_)) AllReadyH.nil
    rintro e V3 ⟨r3, rfl, hr3, b3⟩
    have SX : (fun V => Below X.heap.size X V ∧ V.heap[B7]? = some (.cells #[.bool sn, .slice so sl sc, .int .i64 se] 72)) V3 := ⟨to_call SX.1 b3, kept b3 SX.2⟩
    obtain ⟨rlo, rhi, rbd⟩ := r3
    try dsimp only at hr3
    have O3 := owns_keep O2 fun k hk => b3.block k (World.ownsRow.lt O2 k hk).2
    refine ⟨_, rfl, SX, ?_⟩
    try simp only [Act.put, List.setIfInBounds_toArray, List.set_cons_zero, List.set_cons_succ]
    refine wpAnyH_ready (rs := [16]) (by kernel_rfl) (by simp) ?_
    refine consH _ rfl (hopV 40 (v := .slice (some ⟨V3.heap.size, 0, none⟩) 1 1) (w' := (V3.alloc (.cells #[.int .u64 (rlo : Int), .int .u64 (rhi : Int), .bool rbd] 93))) rfl rfl rfl (by kernel_rfl) ?_) AllReadyH.nil
    have A4 : Below V3.heap.size V3 (V3.alloc (.cells #[.int .u64 (rlo : Int), .int .u64 (rhi : Int), .bool rbd] 93)) := (Below.refl _ V3).alloc (Nat.le_refl _) _
    have SX : (fun V => Below X.heap.size X V ∧ V.heap[B7]? = some (.cells #[.bool sn, .slice so sl sc, .int .i64 se] 72)) (V3.alloc (.cells #[.int .u64 (rlo : Int), .int .u64 (rhi : Int), .bool rbd] 93)) := ⟨to_call SX.1 A4, kept A4 SX.2⟩
    refine ⟨SX, ?_⟩
    try simp only [Act.put, List.setIfInBounds_toArray, List.set_cons_zero, List.set_cons_succ]
    refine wpAnyH_ready (rs := [17]) (by kernel_rfl) (by simp) ?_
    refine consH _ rfl (hopL rfl (append_gsJ Tryz.underlying49 Tryz.infoSp4 rfl (by decide) (by decide) (V3.alloc (.cells #[.int .u64 (rlo : Int), .int .u64 (rhi : Int), .bool rbd] 93)) (by rfl) _ _ (by rfl) X.heap.size u5 k _ (by kernel_rfl) (World.ownsRow.alloc O3 _) ⟨V3.heap.size, 0, none⟩ 1 1 [.int .u64 (rlo : Int), .int .u64 (rhi : Int), .bool rbd] (by kernel_rfl) rfl (news_threeJ (heap_alloc_new V3 _)) (three_oneU _ _ _) (by omega) SX.1.size fun v6 w6 o6 g6 => ?_)) AllReadyH.nil
    change QK _ _ Exit.normal (Act.put _ (some 41) v6) w6
    have G6 : Below X.heap.size X w6 := SX.1.trans (g6.below (fun k hk => (World.ownsRow.lt O3 k hk).1) SX.1.size)
    have SX : (fun V => Below X.heap.size X V ∧ V.heap[B7]? = some (.cells #[.bool sn, .slice so sl sc, .int .i64 se] 72)) w6 := ⟨G6, (grw_types (World.ownsRow.alloc O3 _) g6 B7 _ _ (by decide) SX.2).trans SX.2⟩
    refine (And.intro SX ?_ : _ ∧ _)
    try simp only [Act.put, List.setIfInBounds_toArray, List.set_cons_zero, List.set_cons_succ]
    refine takeH 5 (i := 18) (v := ?_) rfl rfl (by kernel_rfl) (by kernel_rfl) (by kernel_rfl) (fun _ _ _ h => h) (Or.inl ⟨by kernel_rfl, ?_⟩) SX ?_
    rotate_left
    ·intro w' hSw; have s1 := (hSw.1.cell (World.block_lt_of_cell? _ _ KC.out)).trans KC.out; go_simp; try with_reducible rfl
    try simp only [Act.put, List.setIfInBounds_toArray, List.set_cons_zero, List.set_cons_succ]
    refine wpAnyH_done (by kernel_rfl) ?_ _
    refine NoPanic.normal ?_
    try simp only [Act.put, List.setIfInBounds_toArray, List.set_cons_zero, List.set_cons_succ]
    have HN : Hid (OwnSp w6 X.heap.size v6 (k + 1) (fun j r => SpR (fval (u.cs[j]?.getD 0) - farV u.rs u.gs j) (fval (u.cs[j]?.getD 0) + farV u.rs u.gs j) 1 r) ∧ Below X.heap.size X w6) := ⟨OwnSp.push HO.out.1 HXS.out o6 hr3, G6⟩
    clear SX o6 g6 G6 O1 O2 O3 A4 hz1 hz2 hz1' hr3 HS1 b1 b2 b3 HSN HO HXS KC HCR HCN
    go_wp2_with fail
    go_roundg q
    case measure => omega
    case rel => exact ⟨k + 1, by go_num, by have := HIG.out; omega, HN⟩
   ·have hd1 : decide ((k : Int) < (u.rn : Int)) = false := decide_eq_false (by omega)
    have ek : k = u.rn := by omega
    have HN : Hid (OwnSp wr X.heap.size u5 u.rn (fun j r => SpR (fval (u.cs[j]?.getD 0) - farV u.rs u.gs j) (fval (u.cs[j]?.getD 0) + farV u.rs u.gs j) 1 r) ∧ Below w.heap.size w wr) := ⟨by have := HI.out.1; rw [ek] at this; exact this, to_call P2.out.1 HI.out.2⟩
    clear ek
    go_wp2_with fail
    go_ret
    exact ⟨_, rfl, .inl ⟨HG.out, _, HN.out.1⟩, HN.out.2⟩
end Go.Proofs.YtjeghdmclmelfaaGreat
