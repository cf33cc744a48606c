import Derived.Test.YtlpfbgepdfjmjaaGreatJXe
namespace Go.Proofs.YtlpfbgepdfjmjaaGreat
open Go.RowKit Go.Shelf
set_option linter.unusedVariables false
set_option linter.unusedSimpArgs false

theorem WhF.ofU {w : World} {z : ZD} (hz : ZU w z) (hd : z.dn ≤ 1050000) (h : wholeB z = true) : WhF z := by
  unfold wholeB at h
  simp only [Bool.and_eq_true, decide_eq_true_eq] at h
  obtain ⟨⟨⟨⟨⟨⟨h1, h2⟩, h3⟩, h4⟩, h5⟩, h6⟩, h7⟩ := h
  obtain ⟨c1, c2⟩ := numN_fin h3
  obtain ⟨r1, r2⟩ := numN_fin h4
  have hl := hz.r.length
  have hlc := hz.c.length
  have hg := fun (k : Nat) (hk : k < z.dn) => numN_fin (colsB_num h7 ⟨k, hk⟩ (List.mem_finRange _))
  refine ⟨by omega, by omega, by omega, by omega, h5, by omega, hl, fun k hk => by have := (hg k hk).1; dsimp only at this; omega, fun i => ?_, ⟨fin_getD c2, fin_getD r2, fun k j => ?_, hd⟩⟩
  · by_cases hi : i < z.rs.length
    · rw [List.getElem?_eq_getElem hi]
      have h8 := List.all_eq_true.1 h6 _ (List.getElem_mem hi)
      have h9 : ¬ srung z.rs[i] < 0 := of_decide_eq_true h8
      have h10 := srung_le 0 z.rs[i]
      rw [fval_zeroJ, show srung 0 = 0 by decide] at h10
      exact h10.1 (by omega)
    · rw [List.getElem?_eq_none (by omega)]; exact Int.le_of_eq fval_zeroJ.symm
  · by_cases hk : k < z.dn
    · exact fin_getD (hg k hk).2 j
    · have e : z.gs[k]? = none := List.getElem?_eq_none (by have := hz.g.length; omega)
      rw [e]
      exact fin_zeroJ
/-- What the document's Support tells. -/
structure SupD (u : ZD) (ds : List Nat) (r : Nat) (ok : Bool) : Prop where
  is : ((!u.bad && wholeB u) = true ∧ numN ds u.N = true ∧ ∀ a, a = 1074 → RndZ 1 (supV ds u.cs u.rs u.gs u.rn) (2 ^ a) (r, ok)) ∨ (((!u.bad && wholeB u) = false ∨ numN ds u.N = false) ∧ r = 0 ∧ ok = false)
set_option maxRecDepth 100000 in
set_option maxHeartbeats 4000000 in
theorem refSupport_any (u : ZD) (dO : Option Addr) (dl dc : Nat) (ds : List Nat) (w : World) (hu : ZU w u) (huw : UW u) (hds : RdUs w dO dl dc ds) (h64 : ∀ x ∈ ds, x < 18446744073709551616) (hdl : dl ≤ 1050000) :
    Calls Tryz.prog 9 #[.agg (zRow u), .slice dO dl dc] w fun e w' => ∃ (r : Nat) (ok : Bool), e = .returned (.tuple #[.int .u64 (r : Int), .bool ok]) ∧ SupD u ds r ok ∧ Below w.heap.size w w' := by
  obtain ⟨E, hE⟩ : ∃ E : Nat, E = 1074 := ⟨_, rfl⟩
  have HE : Hid (E = 1074) := hE
  have HRE : Hid (∀ W', Below w.heap.size w W' → _) := fun W' hb => reals_any u E hE W' (hu.later hb) huw
  have HNU : Hid (∀ (n : Int) W', Below w.heap.size w W' → _) := fun n W' hb => numbers10_any dO dl dc ds n E hE W' (hds.later hb) h64 hdl
  have HU : Hid (ZU w u ∧ UW u) := ⟨hu, huw⟩
  unfold zRow at HRE ⊢
  clear hu huw hds h64 hdl hE
  have X0 : Below w.heap.size w (w.alloc (.cells #[.int .i64 u.N, .slice u.co u.cn u.cc, .slice u.io u.dn u.dc, .slice u.go u.gn u.gc, .slice u.ro u.rn u.rc, .bool u.bad] 30)) := (Below.refl _ w).alloc (Nat.le_refl _) _
  have Y0 : (w.alloc (.cells #[.int .i64 u.N, .slice u.co u.cn u.cc, .slice u.io u.dn u.dc, .slice u.go u.gn u.gc, .slice u.ro u.rn u.rc, .bool u.bad] 30)).heap[w.heap.size]? = some (.cells #[.int .i64 u.N, .slice u.co u.cn u.cc, .slice u.io u.dn u.dc, .slice u.go u.gn u.gc, .slice u.ro u.rn u.rc, .bool u.bad] 30) := heap_alloc_new w _
  have HX : Hid _ := And.intro X0 Y0
  clear X0 Y0
  go_enter Tryz.func9, Tryz.ntmps9
  go_upto_region 2 with (first
    | (refine wpList_load_row (by rfl) 30 _ (by rfl) w.heap.size _ (by rfl) HX.out.2 _ Tryz.underlying30 rfl 6 Tryz.infoZu (by rfl) ?_)
    | (go_at_call 29; refine Calls.mono (HRE.out _ HX.out.1) ?_; rintro e w1 ⟨⟨N', a1, l1, c1, a2, l2, c2, a3, l3, c3, a4, l4, c4, rfl, hN⟩, b1⟩; have HN : Hid _ := hN; clear hN))
  have A1 : Below w1.heap.size w1 (w1.alloc (.cells #[.int .i64 N', .slice a1 l1 c1, .slice a2 l2 c2, .slice a3 l3 c3, .slice a4 l4 c4] 72)) := (Below.refl _ w1).alloc (Nat.le_refl _) _
  have P1 : Hid (Below w.heap.size w (w1.alloc (.cells #[.int .i64 N', .slice a1 l1 c1, .slice a2 l2 c2, .slice a3 l3 c3, .slice a4 l4 c4] 72)) ∧ (w1.alloc (.cells #[.int .i64 N', .slice a1 l1 c1, .slice a2 l2 c2, .slice a3 l3 c3, .slice a4 l4 c4] 72)).heap[w1.heap.size]? = some (.cells #[.int .i64 N', .slice a1 l1 c1, .slice a2 l2 c2, .slice a3 l3 c3, .slice a4 l4 c4] 72) ∧ ((!u.bad && wholeB u) = true → N' = u.N ∧ ∃ gl, RlS (w1.alloc (.cells #[.int .i64 N', .slice a1 l1 c1, .slice a2 l2 c2, .slice a3 l3 c3, .slice a4 l4 c4] 72)) (w.alloc (.cells #[.int .i64 u.N, .slice u.co u.cn u.cc, .slice u.io u.dn u.dc, .slice u.go u.gn u.gc, .slice u.ro u.rn u.rc, .bool u.bad] 30)).heap.size E u.cs u.rs u.ids u.gs (.slice a1 l1 c1) (.slice a4 l4 c4) (.slice a2 l2 c2) (.slice a3 l3 c3) gl)) := ⟨to_call (to_call HX.out.1 b1) A1, heap_alloc_new w1 _, fun g => ⟨(HN.out g).1, by obtain ⟨gl, hr⟩ := (HN.out g).2; exact ⟨gl, hr.later A1⟩⟩⟩
  obtain ⟨X, hX⟩ : ∃ X, w1.alloc (.cells #[.int .i64 N', .slice a1 l1 c1, .slice a2 l2 c2, .slice a3 l3 c3, .slice a4 l4 c4] 72) = X := ⟨_, rfl⟩
  obtain ⟨B6, hB6⟩ : ∃ B6, w1.heap.size = B6 := ⟨_, rfl⟩
  obtain ⟨base, hbase⟩ : ∃ base, (w.alloc (.cells #[.int .i64 u.N, .slice u.co u.cn u.cc, .slice u.io u.dn u.dc, .slice u.go u.gn u.gc, .slice u.ro u.rn u.rc, .bool u.bad] 30)).heap.size = base := ⟨_, rfl⟩
  rw [hX, hB6, hbase] at P1
  rw [hX, hB6]
  clear hX hB6 hbase A1 b1 HN HX HRE
  cases hgd : (!u.bad && wholeB u) with
  | false =>
    have HG : Hid _ := hgd
    clear hgd
    go_wp2_with fail
    refine bodyPost_ret (res_tmp2J _ 4 5 (by kernel_rfl) _ _ _ _ (by rfl) (by rfl)) rfl ?_
    exact ⟨0, false, rfl, ⟨.inr ⟨.inl HG.out, rfl, rfl⟩⟩, P1.out.1⟩
  | true =>
    obtain ⟨hb0, hwh, hck⟩ := tk_good hgd
    have HF : Hid (WhF u) := WhF.ofU HU.out.1 HU.out.2.il hwh
    obtain ⟨hN1, gl, hR⟩ := P1.out.2.2 hgd
    have HG : Hid _ := hgd
    replace hN1 := hN1.trans HF.out.N
    subst hN1
    have P2 : Hid (Below w.heap.size w X ∧ X.heap[B6]? = some (.cells #[.int .i64 (u.rn : Int), .slice a1 l1 c1, .slice a2 l2 c2, .slice a3 l3 c3, .slice a4 l4 c4] 72) ∧ RlS X base E u.cs u.rs u.ids u.gs (.slice a1 l1 c1) (.slice a4 l4 c4) (.slice a2 l2 c2) (.slice a3 l3 c3) gl) := ⟨P1.out.1, P1.out.2.1, hR⟩
    have k0 : X.cell? ⟨B6, 0, none⟩ = some (.int .i64 (u.rn : Int)) := cellAtJ P2.out.2.1 0 _ rfl
    have HNN : Hid (numN ds u.N = numN ds (u.rn : Int)) := by unfold Hid; rw [HF.out.N]
    clear hR hgd hb0 hwh hck P1
    go_upto_region 5 with (go_at_call 30; refine Calls.mono (HNU.out (u.rn : Int) _ P2.out.1) ?_; rintro e w2 ⟨⟨vd, rfl, hD⟩, b2⟩; have HD : Hid _ := hD; clear hD)
    have Q2 : Hid (Below w.heap.size w w2 ∧ w2.heap[B6]? = some (.cells #[.int .i64 (u.rn : Int), .slice a1 l1 c1, .slice a2 l2 c2, .slice a3 l3 c3, .slice a4 l4 c4] 72) ∧ RlS w2 base E u.cs u.rs u.ids u.gs (.slice a1 l1 c1) (.slice a4 l4 c4) (.slice a2 l2 c2) (.slice a3 l3 c3) gl) := ⟨to_call P2.out.1 b2, kept b2 P2.out.2.1, P2.out.2.2.later b2⟩
    clear k0 b2
    cases hnb : numN ds (u.rn : Int) with
    | false =>
      have HB : Hid _ := hnb
      rw [hnb] at HD
      clear hnb
      go_wp2_with fail
      refine bodyPost_ret (res_tmp2J _ 4 5 (by kernel_rfl) _ _ _ _ (by rfl) (by rfl)) rfl ?_
      exact ⟨0, false, rfl, ⟨.inr ⟨.inr (HNN.out.trans HB.out), rfl, rfl⟩⟩, Q2.out.1⟩
    | true =>
      have hdr := HD.out hnb
      obtain ⟨f1, f2⟩ := numN_fin hnb
      obtain ⟨da, dcap, hdv⟩ := hdr.form
      subst hdv
      have hgl2 : u.gs.length = u.dn := by rw [HU.out.1.g.length, HF.out.dg]
      have HRC : Hid (∀ W', Below w2.heap.size w2 W' → _) := fun W' hb => reach_any a1 l1 c1 a2 l2 c2 a3 l3 c3 a4 l4 c4 da ds.length dcap u.cs u.rs ds u.ids u.gs gl base X.heap.size E u.rn HE.out W' (Q2.out.2.2.later hb) (hdr.later hb) HF.out.cl HF.out.rl (by omega) (fun k hk => HF.out.gl k (by omega)) (fin_getD f2) HF.out.fin.c HF.out.fin.r HF.out.fin.g (by rw [hgl2]; exact HF.out.fin.few) HF.out.n2
      have HB : Hid _ := hnb
      clear hnb hdr f1 f2 HD hgl2
      go_wp2_with (first
        | (refine wpList_load_row (by rfl) 72 _ (by rfl) B6 _ (by rfl) Q2.out.2.1 _ Tryz.underlying72 rfl 5 Tryz.infoRl (by rfl) ?_)
        | (go_at_call 32; refine Calls.mono (HRC.out _ (Below.refl _ _)) ?_; rintro e w3 ⟨v3, rfl, hz3, b3⟩; have HZ3 : Hid (NumC w3 v3 (E + E) 2100 (supV ds u.cs u.rs u.gs u.rn)) := hz3; clear hz3)
        | (go_at_call 31; refine Calls.mono (roundZ_any 1 _ (E + E) E 2100 _ _ HZ3.out.toZ E HE.out rfl (by rw [HE.out]; omega) (by omega) (by omega) (by omega)) ?_; rintro e w4 ⟨r4, k4, rfl, hr4, b4⟩; have HR4 : Hid (RndZ 1 (supV ds u.cs u.rs u.gs u.rn) (2 ^ E) (r4, k4)) := hr4; clear hr4))
      refine bodyPost_ret (res_tmp2J _ 4 5 (by kernel_rfl) _ _ _ _ (by rfl) (by rfl)) rfl ?_
      exact ⟨r4, k4, rfl, ⟨.inl ⟨HG.out, HNN.out.trans HB.out, fun a ha => by rw [ha, ← HE.out]; exact HR4.out⟩⟩, to_call (to_call Q2.out.1 b3) b4⟩
end Go.Proofs.YtlpfbgepdfjmjaaGreat
