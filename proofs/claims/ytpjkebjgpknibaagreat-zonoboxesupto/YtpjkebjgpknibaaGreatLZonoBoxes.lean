import Derived.Test.YtpjkebjgpknibaaGreatJXt
import Derived.Test.YtpjkebjgpknibaaGreatGJh
namespace Go.Proofs.YtpjkebjgpknibaaGreat
open Go.RowKit Go.Shelf
set_option linter.unusedVariables false
set_option linter.unusedSimpArgs false

theorem Tryz.infoR5 : (Tryz.prog.info? 30).map (·.size) = some 5 := by kernel_rfl
theorem sgi_le {x : Int} (h : x ≤ 0) : sgi x ≤ 0 := by unfold sgi; split <;> (try split) <;> omega
set_option maxRecDepth 100000 in
set_option maxHeartbeats 8000000 in
theorem zonoBoxes_walk (z : ZD) (dO : Option Addr) (dl dcap : Nat) (ds : List Nat) (eO : Option Addr) (el ec : Nat) (eis : List Int) (bits : Int) (w : World) (hz : ZR w z) (hw : ZW z) (hdn : z.dn ≤ 1048576) (hds : RdF w dO dl dcap ds) (hes : RdIs w eO el ec eis) (hel : el ≤ 1050000) (hbt : -9223372036854775808 ≤ bits ∧ bits < 9223372036854775808) :
    Calls Tryz.prog 3 #[.agg (zRow z), .slice dO dl dcap, .slice eO el ec, .int .i64 bits] w fun e w' => e = .returned (.bool true) ∧ Below w.heap.size w w' := by
  obtain ⟨E, hE⟩ : ∃ E : Nat, E = 1074 := ⟨_, rfl⟩
  have HE : Hid (E = 1074) := hE
  have HOF : Hid (∀ W', Below w.heap.size w W' → _) := fun W' hb => ofU z W' (hz.later hb) hw
  have HZ : Hid (∀ W', Below w.heap.size w W' → ZR W' z) := fun W' hb => hz.later hb
  have HDS : Hid (∀ W', Below w.heap.size w W' → RdF W' dO dl dcap ds) := fun W' hb => hds.later hb
  have HRE : Hid (∀ W' (u : ZD), ZU W' u → SmZ u z → _) := fun W' u hu k => realsU z u E hE W' hz hw hu k
  have HBX : Hid (∀ W', Below w.heap.size w W' → _) := fun W' hb => boxZ_any z W' (hz.later hb) (by omega)
  have HGZ : Hid (z.gs.length = z.gn ∧ z.ids.length = z.dn ∧ z.dn ≤ 1048576) := ⟨hz.g.length, hz.i.length, hdn⟩
  have HPA : Hid (∀ (f n : Nat) W', f ≤ 1050000 → n ≤ 1050000 → Below w.heap.size w W' → _) := fun f n W' hf hn hb => partsJ_any eO el ec eis f n bits E hE W' (hes.later hb) hel hf hn hbt
  unfold zRow at HOF HRE HBX ⊢
  clear hz hw hds hdn hbt hE hes hel
  have X0 : Below w.heap.size w (w.alloc (.cells #[.int .i64 z.N, .slice z.co z.cn z.cc, .slice z.io z.dn z.dc, .slice z.go z.gn z.gc, .slice z.ro z.rn z.rc, .bool z.bad] 26)) := (Below.refl _ w).alloc (Nat.le_refl _) _
  have Y0 : (w.alloc (.cells #[.int .i64 z.N, .slice z.co z.cn z.cc, .slice z.io z.dn z.dc, .slice z.go z.gn z.gc, .slice z.ro z.rn z.rc, .bool z.bad] 26)).heap[w.heap.size]? = some (.cells #[.int .i64 z.N, .slice z.co z.cn z.cc, .slice z.io z.dn z.dc, .slice z.go z.gn z.gc, .slice z.ro z.rn z.rc, .bool z.bad] 26) := heap_alloc_new w _
  have HX : Hid _ := And.intro X0 Y0
  clear X0 Y0
  go_enter Tryz.func3, Tryz.ntmps3
  go_upto_region 2 with (first
    | (refine wpList_load_row (by rfl) 26 _ (by rfl) w.heap.size _ (by rfl) HX.out.2 _ Tryz.underlying26 rfl 6 Tryz.infoZ (by rfl) ?_)
    | (go_at_call 5; refine Calls.mono (HOF.out _ HX.out.1) ?_; rintro e w1 ⟨u, rfl, hu, hsm, b1⟩)
    | (go_at_call 4; refine Calls.mono (HRE.out _ _ hu hsm) ?_; rintro e w2 ⟨N', a1, l1, c1, a2, l2, c2, a3, l3, c3, a4, l4, c4, rfl, hN, b2⟩; have HN : Hid _ := hN; clear hN))
  have A2 : Below w2.heap.size w2 (w2.alloc (.cells #[.int .i64 N', .slice a1 l1 c1, .slice a2 l2 c2, .slice a3 l3 c3, .slice a4 l4 c4] 30)) := (Below.refl _ w2).alloc (Nat.le_refl _) _
  have P2 : Hid (Below w.heap.size w (w2.alloc (.cells #[.int .i64 N', .slice a1 l1 c1, .slice a2 l2 c2, .slice a3 l3 c3, .slice a4 l4 c4] 30)) ∧ (w2.alloc (.cells #[.int .i64 N', .slice a1 l1 c1, .slice a2 l2 c2, .slice a3 l3 c3, .slice a4 l4 c4] 30)).heap[w.heap.size]? = some (.cells #[.int .i64 z.N, .slice z.co z.cn z.cc, .slice z.io z.dn z.dc, .slice z.go z.gn z.gc, .slice z.ro z.rn z.rc, .bool z.bad] 26) ∧ (w2.alloc (.cells #[.int .i64 N', .slice a1 l1 c1, .slice a2 l2 c2, .slice a3 l3 c3, .slice a4 l4 c4] 30)).heap[w2.heap.size]? = some (.cells #[.int .i64 N', .slice a1 l1 c1, .slice a2 l2 c2, .slice a3 l3 c3, .slice a4 l4 c4] 30) ∧ ((!z.bad && wholeB z) = true → N' = z.N ∧ ∃ gl, RlS (w2.alloc (.cells #[.int .i64 N', .slice a1 l1 c1, .slice a2 l2 c2, .slice a3 l3 c3, .slice a4 l4 c4] 30)) w1.heap.size E z.cs z.rs z.ids z.gs (.slice a1 l1 c1) (.slice a4 l4 c4) (.slice a2 l2 c2) (.slice a3 l3 c3) gl)) := ⟨to_call (to_call (to_call HX.out.1 b1) b2) A2, kept A2 (kept b2 (kept b1 HX.out.2)), heap_alloc_new w2 _, fun g => ⟨(HN.out g).1, by obtain ⟨gl, hr⟩ := (HN.out g).2; exact ⟨gl, hr.later A2⟩⟩⟩
  obtain ⟨X, hX⟩ : ∃ X, w2.alloc (.cells #[.int .i64 N', .slice a1 l1 c1, .slice a2 l2 c2, .slice a3 l3 c3, .slice a4 l4 c4] 30) = X := ⟨_, rfl⟩
  obtain ⟨B3, hB3⟩ : ∃ B3, w2.heap.size = B3 := ⟨_, rfl⟩
  rw [hX, hB3] at P2
  rw [hX, hB3]
  clear hX hB3 A2 b1 b2 hu hsm HX HOF HRE HN
  obtain ⟨gd, hgd⟩ : ∃ gd, (!z.bad && wholeB z) = gd := ⟨_, rfl⟩
  rw [hgd]
  have HGD : Hid ((!z.bad && wholeB z) = gd) := hgd
  clear hgd
  go_upto_region 3 with (first
    | (refine wpList_load_row (by rfl) 26 _ (by rfl) w.heap.size _ (by rfl) P2.out.2.1 _ Tryz.underlying26 rfl 6 Tryz.infoZ (by rfl) ?_)
    | (go_at_call 6; refine Calls.mono (HBX.out _ P2.out.1) ?_; rintro e w3 ⟨y, rfl, yr, yw, hbx, b3⟩))
  have A3 : Below w3.heap.size w3 (w3.alloc (.cells #[.int .i64 y.N, .slice y.co y.cn y.cc, .slice y.io y.dn y.dc, .slice y.go y.gn y.gc, .slice y.ro y.rn y.rc, .bool y.bad] 26)) := (Below.refl _ w3).alloc (Nat.le_refl _) _
  have P4 : Hid (Below w.heap.size w (w3.alloc (.cells #[.int .i64 y.N, .slice y.co y.cn y.cc, .slice y.io y.dn y.dc, .slice y.go y.gn y.gc, .slice y.ro y.rn y.rc, .bool y.bad] 26)) ∧ Below X.heap.size X (w3.alloc (.cells #[.int .i64 y.N, .slice y.co y.cn y.cc, .slice y.io y.dn y.dc, .slice y.go y.gn y.gc, .slice y.ro y.rn y.rc, .bool y.bad] 26)) ∧ (w3.alloc (.cells #[.int .i64 y.N, .slice y.co y.cn y.cc, .slice y.io y.dn y.dc, .slice y.go y.gn y.gc, .slice y.ro y.rn y.rc, .bool y.bad] 26)).heap[w3.heap.size]? = some (.cells #[.int .i64 y.N, .slice y.co y.cn y.cc, .slice y.io y.dn y.dc, .slice y.go y.gn y.gc, .slice y.ro y.rn y.rc, .bool y.bad] 26) ∧ ZR (w3.alloc (.cells #[.int .i64 y.N, .slice y.co y.cn y.cc, .slice y.io y.dn y.dc, .slice y.go y.gn y.gc, .slice y.ro y.rn y.rc, .bool y.bad] 26)) y) := ⟨to_call (to_call P2.out.1 b3) A3, to_call b3 A3, heap_alloc_new w3 _, yr.later A3⟩
  obtain ⟨X4, hX4⟩ : ∃ X4, w3.alloc (.cells #[.int .i64 y.N, .slice y.co y.cn y.cc, .slice y.io y.dn y.dc, .slice y.go y.gn y.gc, .slice y.ro y.rn y.rc, .bool y.bad] 26) = X4 := ⟨_, rfl⟩
  obtain ⟨B9, hB9⟩ : ∃ B9, w3.heap.size = B9 := ⟨_, rfl⟩
  rw [hX4] at P4 ⊢
  rw [hB9] at P4 ⊢
  have HBR : Hid (BxR z y) := hbx
  have HOY : Hid (∀ W', Below X4.heap.size X4 W' → _) := fun W' hb => ofU y W' (P4.out.2.2.2.later hb) yw
  have HRY : Hid (∀ W' (u : ZD), ZU W' u → SmZ u y → _) := fun W' u hu k => realsU y u E HE.out W' P4.out.2.2.2 yw hu k
  obtain ⟨fy, hfy⟩ : ∃ fy, (!y.bad && wholeB y) = fy := ⟨_, rfl⟩
  rw [hfy] at HRY
  have HFY : Hid ((!y.bad && wholeB y) = fy) := hfy
  unfold zRow at HOY HRY
  clear hX4 hB9 A3 b3 yr yw hbx HBX hfy
  go_upto_region 4 with (first
    | (refine wpList_load_row (by rfl) 26 _ (by rfl) B9 _ (by rfl) P4.out.2.2.1 _ Tryz.underlying26 rfl 6 Tryz.infoZ (by rfl) ?_)
    | (go_at_call 5; refine Calls.mono (HOY.out _ (Below.refl _ _)) ?_; rintro e w5 ⟨u, rfl, hu, hsm, b5⟩)
    | (go_at_call 4; refine Calls.mono (HRY.out _ _ hu hsm) ?_; rintro e w6 ⟨M', e1, m1, f1, e2, m2, f2, e3, m3, f3, e4, m4, f4, rfl, hM, b6⟩; have HM : Hid _ := hM; clear hM))
  have A6 : Below w6.heap.size w6 (w6.alloc (.cells #[.int .i64 M', .slice e1 m1 f1, .slice e2 m2 f2, .slice e3 m3 f3, .slice e4 m4 f4] 30)) := (Below.refl _ w6).alloc (Nat.le_refl _) _
  have b56 := to_call (to_call b5 b6) A6
  have P6 : Hid (Below X4.heap.size X4 (w6.alloc (.cells #[.int .i64 M', .slice e1 m1 f1, .slice e2 m2 f2, .slice e3 m3 f3, .slice e4 m4 f4] 30)) ∧ (w6.alloc (.cells #[.int .i64 M', .slice e1 m1 f1, .slice e2 m2 f2, .slice e3 m3 f3, .slice e4 m4 f4] 30)).heap[w6.heap.size]? = some (.cells #[.int .i64 M', .slice e1 m1 f1, .slice e2 m2 f2, .slice e3 m3 f3, .slice e4 m4 f4] 30) ∧ (fy = true → M' = y.N ∧ ∃ gl, RlS (w6.alloc (.cells #[.int .i64 M', .slice e1 m1 f1, .slice e2 m2 f2, .slice e3 m3 f3, .slice e4 m4 f4] 30)) w5.heap.size E y.cs y.rs y.ids y.gs (.slice e1 m1 f1) (.slice e4 m4 f4) (.slice e2 m2 f2) (.slice e3 m3 f3) gl)) := ⟨b56, heap_alloc_new w6 _, fun g => ⟨(HM.out g).1, by obtain ⟨gl, hr⟩ := (HM.out g).2; exact ⟨gl, hr.later A6⟩⟩⟩
  obtain ⟨X6, hX6⟩ : ∃ X6, w6.alloc (.cells #[.int .i64 M', .slice e1 m1 f1, .slice e2 m2 f2, .slice e3 m3 f3, .slice e4 m4 f4] 30) = X6 := ⟨_, rfl⟩
  obtain ⟨B11, hB11⟩ : ∃ B11, w6.heap.size = B11 := ⟨_, rfl⟩
  rw [hX6, hB11] at P6
  rw [hX6, hB11]
  clear hX6 hB11 A6 b56 b5 b6 hu hsm HOY HRY HM
  have c5 : X6.cell? ⟨B9, 5, none⟩ = some (.bool y.bad) := cellAtJ (kept P6.out.1 P4.out.2.2.1) 5 _ rfl
  have QB : Hid (Below w.heap.size w X6) := to_call P4.out.1 P6.out.1
  cases hyb : y.bad with
  | true =>
    rw [hyb] at c5
    clear hyb
    cases gd with
    | false =>
      go_wp2_with (go_at_call 7; refine Calls.mono (started_any _) ?_; rintro e w9 ⟨rfl, b9⟩)
      go_ret
      exact ⟨rfl, to_call QB.out b9⟩
    | true =>
      go_wp2_with (go_at_call 7; refine Calls.mono (started_any _) ?_; rintro e w9 ⟨rfl, b9⟩)
      go_ret
      exact ⟨rfl, to_call QB.out b9⟩
  | false =>
    rw [hyb] at c5
    have hgt : gd = true := by
      rcases HBR.out.is with h | ⟨_, h⟩
      · rw [← HGD.out]; exact h.1
      · rw [h] at hyb; cases hyb
    subst hgt
    obtain ⟨hb0, hwh, hck⟩ := tk_good HGD.out
    have HF : Hid (WhF z) := WhF.of (HZ.out w (Below.refl _ _)) (by have := HGZ.out.2.2; omega) hwh
    have HW0 : Hid (z.bad = false ∧ wholeB z = true) := ⟨hb0, hwh⟩
    have HG : Hid (BxG z y) := HBR.out.good (HZ.out w (Below.refl _ _)) HF.out hyb
    have hyw : wholeB y = true := HG.out.whole hwh HF.out
    have HY : Hid (WhF y ∧ y.bad = false ∧ wholeB y = true) := ⟨WhF.of P4.out.2.2.2 (by rw [HG.out.dn]; omega) hyw, hyb, hyw⟩
    have hft : fy = true := by rw [← HFY.out, hyb, hyw]; rfl
    subst hft
    obtain ⟨hM1, gl', hR'⟩ := P6.out.2.2 rfl
    replace hM1 := (hM1.trans HG.out.N).trans HF.out.N
    subst hM1
    obtain ⟨hN', gl, hR⟩ := P2.out.2.2.2 HGD.out
    replace hN' := hN'.trans HF.out.N
    subst hN'
    have hl3 := hR.lenG
    subst hl3
    have Q6 : Hid (Below w.heap.size w X6 ∧ X6.heap[w.heap.size]? = some (.cells #[.int .i64 z.N, .slice z.co z.cn z.cc, .slice z.io z.dn z.dc, .slice z.go z.gn z.gc, .slice z.ro z.rn z.rc, .bool z.bad] 26) ∧ X6.heap[B3]? = some (.cells #[.int .i64 (z.rn : Int), .slice a1 l1 c1, .slice a2 l2 c2, .slice a3 z.gs.length c3, .slice a4 l4 c4] 30) ∧ X6.heap[B9]? = some (.cells #[.int .i64 y.N, .slice y.co y.cn y.cc, .slice y.io y.dn y.dc, .slice y.go y.gn y.gc, .slice y.ro y.rn y.rc, .bool y.bad] 26) ∧ X6.heap[B11]? = some (.cells #[.int .i64 (z.rn : Int), .slice e1 m1 f1, .slice e2 m2 f2, .slice e3 m3 f3, .slice e4 m4 f4] 30) ∧ ZR X6 y ∧ RlS X6 w1.heap.size E z.cs z.rs z.ids z.gs (.slice a1 l1 c1) (.slice a4 l4 c4) (.slice a2 l2 c2) (.slice a3 z.gs.length c3) gl ∧ RlS X6 w5.heap.size E y.cs y.rs y.ids y.gs (.slice e1 m1 f1) (.slice e4 m4 f4) (.slice e2 m2 f2) (.slice e3 m3 f3) gl') := ⟨QB.out, kept P6.out.1 (kept P4.out.2.1 P2.out.2.1), kept P6.out.1 (kept P4.out.2.1 P2.out.2.2.1), kept P6.out.1 P4.out.2.2.1, P6.out.2.1, P4.out.2.2.2.later P6.out.1, (hR.later P4.out.2.1).later P6.out.1, hR'⟩
    clear P2 P4 P6 QB HBR HGD HFY hb0 hwh hck hyb hyw hR hR'
    have k1 : X6.cell? ⟨B11, 0, none⟩ = some (.int .i64 (z.rn : Int)) := cellAtJ Q6.out.2.2.2.2.1 0 _ rfl
    have k2 : X6.cell? ⟨B3, 0, none⟩ = some (.int .i64 (z.rn : Int)) := cellAtJ Q6.out.2.2.1 0 _ rfl
    have k3 : X6.cell? ⟨B9, 2, none⟩ = some (.slice y.io 0 y.dc) := by have h := cellAtJ Q6.out.2.2.2.1 2 _ rfl; rw [HG.out.dn] at h; exact h
    have k4 : X6.cell? ⟨B9, 3, none⟩ = some (.slice y.go 0 y.gc) := by have h := cellAtJ Q6.out.2.2.2.1 3 _ rfl; rw [HG.out.gn] at h; exact h
    have hne : ((z.rn : Int) != (z.rn : Int)) = false := by simp
    go_upto_region 8 with fail
    clear k1 k2 k3 k4 hne c5
    have hgl : z.gs.length ≤ 1048576 := by have h1 := HGZ.out; have h2 := HF.out.dg; omega
    have hn2 : z.rn ≤ 256 := HF.out.n2
    have D0 : Hid (X6.cell? ⟨B3, 0, none⟩ = some (.int .i64 (z.rn : Int))) := cellAtJ Q6.out.2.2.1 0 _ rfl
    have D3 : Hid (X6.cell? ⟨B3, 3, none⟩ = some (.slice a3 z.gs.length c3)) := cellAtJ Q6.out.2.2.1 3 _ rfl
    have HP1 : Hid (∀ W', Below w.heap.size w W' → _) := fun W' hb => HPA.out 0 z.gs.length W' (by omega) (by omega) hb
    have HP2 : Hid (∀ W', Below w.heap.size w W' → _) := fun W' hb => HPA.out z.gs.length z.rn W' (by omega) (by omega) hb
    rw [show ((0 : Nat) : Int) = 0 from rfl] at HP1
    have HPO : Hid (∀ W' (ve vr : Value) (es bs : List Int) (B1 B2 : Nat), Below X6.heap.size X6 W' → RowZ W' B1 ve E 1024 es → RowZ W' B2 vr E 1024 bs → es.length = z.gs.length → bs.length = z.rn → (∀ x ∈ es, x.natAbs ≤ 2 ^ E) → (∀ x ∈ bs, x.natAbs ≤ 2 ^ E) → _) := fun W' ve vr es bs B1 B2 hb he hr hle hlb hae hab => point_any z.rn a1 l1 c1 a2 l2 c2 a3 z.gs.length c3 a4 l4 c4 z.cs z.rs z.ids z.gs gl ve vr es bs w1.heap.size B1 B2 E HE.out W' (Q6.out.2.2.2.2.2.2.1.later hb) he hr hle hlb hae hab HF.out.cl HF.out.rl (fun k hk => HF.out.gl k (by have h1 := HGZ.out; have h2 := HF.out.dg; omega)) HF.out.fin.c HF.out.fin.r HF.out.fin.g (by omega) hn2
    go_cut [14] (fun v14 wx => ∃ (es bs : List Int) (B : Nat), Hid (RowZ wx B v14 (E + E) 1060 (ptV (2 ^ E) z.cs z.rs z.gs es bs z.rn)) ∧ Hid ((∀ k : Nat, (es[k]?.getD 0).natAbs ≤ 2 ^ E) ∧ ∀ k : Nat, (bs[k]?.getD 0).natAbs ≤ 2 ^ E) ∧ Hid (Below X6.heap.size X6 wx))
    case first =>
      have bX : Below X6.heap.size X6 X6.drew := (Below.refl _ _).drew
      refine wp_region_noPanic ?_
      refine wp_region_held_drew (S := (fun V => Below X6.heap.size X6 V)) (by kernel_rfl) bX (fun _ => ?_)
      refine takeH 66 (i := 0) (v := .agg #[.int .i64 (z.rn : Int), .slice a1 l1 c1, .slice a2 l2 c2, .slice a3 z.gs.length c3, .slice a4 l4 c4]) rfl rfl (by kernel_rfl) (by kernel_rfl) (by kernel_rfl) (fun _ _ _ h => h) (Or.inl ⟨by kernel_rfl, fun w' hSw => ex_loadRN _ 30 _ rfl B3 (by kernel_rfl) w' _ (kept hSw Q6.out.2.2.1) _ Tryz.underlying30 rfl 5 Tryz.infoR5 rfl⟩) bX ?_
      try simp only [Act.put, List.setIfInBounds_toArray, List.set_cons_zero, List.set_cons_succ]
      refine takeH 67 (i := 1) (v := ?_) rfl rfl (by kernel_rfl) (by kernel_rfl) (by kernel_rfl) (fun _ _ _ h => h) (Or.inl ⟨by kernel_rfl, ?_⟩) bX ?_
      rotate_left
      · intro w' hSw; have s0 := cell_later D0.out hSw; have s3 := cell_later D3.out hSw; go_simp; try with_reducible rfl
      try simp only [Act.put, List.setIfInBounds_toArray, List.set_cons_zero, List.set_cons_succ]
      refine takeH 68 (i := 2) (v := ?_) rfl rfl (by kernel_rfl) (by kernel_rfl) (by kernel_rfl) (fun _ _ _ h => h) (Or.inl ⟨by kernel_rfl, ?_⟩) bX ?_
      rotate_left
      · intro w' hSw; have s0 := cell_later D0.out hSw; have s3 := cell_later D3.out hSw; go_simp; try with_reducible rfl
      try simp only [Act.put, List.setIfInBounds_toArray, List.set_cons_zero, List.set_cons_succ]
      refine takeH 69 (i := 3) (v := ?_) rfl rfl (by kernel_rfl) (by kernel_rfl) (by kernel_rfl) (fun _ _ _ h => h) (Or.inl ⟨by kernel_rfl, ?_⟩) bX ?_
      rotate_left
      · intro w' hSw; have s0 := cell_later D0.out hSw; have s3 := cell_later D3.out hSw; go_simp; try with_reducible rfl
      try simp only [Act.put, List.setIfInBounds_toArray, List.set_cons_zero, List.set_cons_succ]
      refine takeH 70 (i := 4) (v := ?_) rfl rfl (by kernel_rfl) (by kernel_rfl) (by kernel_rfl) (fun _ _ _ h => h) (Or.inl ⟨by kernel_rfl, ?_⟩) bX ?_
      rotate_left
      · intro w' hSw; have s0 := cell_later D0.out hSw; have s3 := cell_later D3.out hSw; go_simp; try with_reducible rfl
      try simp only [Act.put, List.setIfInBounds_toArray, List.set_cons_zero, List.set_cons_succ]
      refine takeH 71 (i := 5) (v := ?_) rfl rfl (by kernel_rfl) (by kernel_rfl) (by kernel_rfl) (fun _ _ _ h => h) (Or.inl ⟨by kernel_rfl, ?_⟩) bX ?_
      rotate_left
      · intro w' hSw; have s0 := cell_later D0.out hSw; have s3 := cell_later D3.out hSw; go_simp; try with_reducible rfl
      try simp only [Act.put, List.setIfInBounds_toArray, List.set_cons_zero, List.set_cons_succ]
      refine takeH 73 (i := 7) (v := ?_) rfl rfl (by kernel_rfl) (by kernel_rfl) (by kernel_rfl) (fun _ _ _ h => h) (Or.inl ⟨by kernel_rfl, ?_⟩) bX ?_
      rotate_left
      · intro w' hSw; have s0 := cell_later D0.out hSw; have s3 := cell_later D3.out hSw; go_simp; try with_reducible rfl
      try simp only [Act.put, List.setIfInBounds_toArray, List.set_cons_zero, List.set_cons_succ]
      refine takeH 74 (i := 8) (v := ?_) rfl rfl (by kernel_rfl) (by kernel_rfl) (by kernel_rfl) (fun _ _ _ h => h) (Or.inl ⟨by kernel_rfl, ?_⟩) bX ?_
      rotate_left
      · intro w' hSw; have s0 := cell_later D0.out hSw; have s3 := cell_later D3.out hSw; go_simp; try with_reducible rfl
      try simp only [Act.put, List.setIfInBounds_toArray, List.set_cons_zero, List.set_cons_succ]
      refine takeH 75 (i := 9) (v := ?_) rfl rfl (by kernel_rfl) (by kernel_rfl) (by kernel_rfl) (fun _ _ _ h => h) (Or.inl ⟨by kernel_rfl, ?_⟩) bX ?_
      rotate_left
      · intro w' hSw; have s0 := cell_later D0.out hSw; have s3 := cell_later D3.out hSw; go_simp; try with_reducible rfl
      try simp only [Act.put, List.setIfInBounds_toArray, List.set_cons_zero, List.set_cons_succ]
      refine takeH 76 (i := 10) (v := ?_) rfl rfl (by kernel_rfl) (by kernel_rfl) (by kernel_rfl) (fun _ _ _ h => h) (Or.inl ⟨by kernel_rfl, ?_⟩) bX ?_
      rotate_left
      · intro w' hSw; have s0 := cell_later D0.out hSw; have s3 := cell_later D3.out hSw; go_simp; try with_reducible rfl
      try simp only [Act.put, List.setIfInBounds_toArray, List.set_cons_zero, List.set_cons_succ]
      refine takeH 77 (i := 11) (v := ?_) rfl rfl (by kernel_rfl) (by kernel_rfl) (by kernel_rfl) (fun _ _ _ h => h) (Or.inl ⟨by kernel_rfl, ?_⟩) bX ?_
      rotate_left
      · intro w' hSw; have s0 := cell_later D0.out hSw; have s3 := cell_later D3.out hSw; go_simp; try with_reducible rfl
      try simp only [Act.put, List.setIfInBounds_toArray, List.set_cons_zero, List.set_cons_succ]
      refine takeH 78 (i := 12) (v := ?_) rfl rfl (by kernel_rfl) (by kernel_rfl) (by kernel_rfl) (fun _ _ _ h => h) (Or.inl ⟨by kernel_rfl, ?_⟩) bX ?_
      rotate_left
      · intro w' hSw; have s0 := cell_later D0.out hSw; have s3 := cell_later D3.out hSw; go_simp; try with_reducible rfl
      try simp only [Act.put, List.setIfInBounds_toArray, List.set_cons_zero, List.set_cons_succ]
      refine takeH 79 (i := 13) (v := ?_) rfl rfl (by kernel_rfl) (by kernel_rfl) (by kernel_rfl) (fun _ _ _ h => h) (Or.inl ⟨by kernel_rfl, ?_⟩) bX ?_
      rotate_left
      · intro w' hSw; have s0 := cell_later D0.out hSw; have s3 := cell_later D3.out hSw; go_simp; try with_reducible rfl
      try simp only [Act.put, List.setIfInBounds_toArray, List.set_cons_zero, List.set_cons_succ]
      obtain ⟨V, hV⟩ : ∃ V, X6.drew = V := ⟨_, rfl⟩
      have bV : Below X6.heap.size X6 V := hV ▸ bX
      rw [hV]
      clear hV bX
      refine wpAnyH_ready (rs := [6]) (by kernel_rfl) (by simp) ?_
      refine consH _ rfl ?_ AllReadyH.nil
      refine hopCd 72 rfl (by kernel_rfl) rfl (by kernel_rfl) (Calls.mono (HP1.out _ (to_call Q6.out.1 bV)) ?_)
      rintro e Va ⟨ve, es, rfl, hre, hle, hae, hb⟩
      have bVa : Below X6.heap.size X6 Va := to_call bV hb
      clear hb
      refine ⟨_, rfl, bVa, ?_⟩
      try simp only [Act.put, List.setIfInBounds_toArray, List.set_cons_zero, List.set_cons_succ]
      refine wpAnyH_ready (rs := [14]) (by kernel_rfl) (by simp) ?_
      refine consH _ rfl ?_ AllReadyH.nil
      refine hopCd 80 rfl (by kernel_rfl) rfl (by kernel_rfl) (Calls.mono (HP2.out _ (to_call Q6.out.1 bVa)) ?_)
      rintro e Vb ⟨vb, bs, rfl, hrb, hlb, hab, hb⟩
      have bVb : Below X6.heap.size X6 Vb := to_call bVa hb
      have hre := hre.later hb
      clear hb
      refine ⟨_, rfl, bVb, ?_⟩
      try simp only [Act.put, List.setIfInBounds_toArray, List.set_cons_zero, List.set_cons_succ]
      refine wpAnyH_ready (rs := [15]) (by kernel_rfl) (by simp) ?_
      refine consH _ rfl ?_ AllReadyH.nil
      refine hopCd 81 rfl (by kernel_rfl) rfl (by kernel_rfl) (Calls.mono (HPO.out _ ve vb es bs _ _ bVb hre hrb hle hlb hae hab) ?_)
      rintro e Vc ⟨vp, rfl, hpv, hb⟩
      have bVc : Below X6.heap.size X6 Vc := to_call bVb hb
      clear hb
      refine ⟨_, rfl, bVc, ?_⟩
      try simp only [Act.put, List.setIfInBounds_toArray, List.set_cons_zero, List.set_cons_succ]
      refine takeH 14 (i := 16) (v := vp) rfl rfl (by kernel_rfl) (by kernel_rfl) (by kernel_rfl) (fun _ _ _ h => h) (Or.inl ⟨by kernel_rfl, fun w' _ => by kernel_rfl⟩) bVc ?_
      try simp only [Act.put, List.setIfInBounds_toArray, List.set_cons_zero, List.set_cons_succ]
      refine wpAnyH_done (by kernel_rfl) ?_ _
      refine NoPanic.normal ?_
      try simp only [Act.put, List.setIfInBounds_toArray, List.set_cons_zero, List.set_cons_succ]
      go_wp2_with fail
      go_meet
      exact ⟨es, bs, _, hpv, ⟨mem_getD (P := fun z => z.natAbs ≤ 2 ^ E) (Nat.zero_le _) hae, mem_getD (P := fun z => z.natAbs ≤ 2 ^ E) (Nat.zero_le _) hab⟩, bVc⟩
    case rest =>
      obtain ⟨es, bs, BP, HPV, HAB, HBC⟩ := hcut
      obtain ⟨gp, qp, pn0, po0, pl0, pc0, pe0, hvp, -, -⟩ := RowZ.range HPV.out (k := 0) (by rw [ptV_len]; exact HF.out.n1)
      rw [ptV_len] at hvp
      subst hvp
      clear HP1 HP2 HPO D0 D3 hgl
      go_wp2_with fail
      go_loopg [15] z.rn (fun q v15 wx => ∃ (k : Nat), v15 = .int .i64 k ∧ k + q = z.rn ∧ Hid (Below wc.heap.size wc wx))
      case atStart => exact ⟨0, rfl, by omega, Below.refl _ _⟩
      case round =>
        obtain ⟨k, rfl, hk, HQ⟩ := hrel
        have QX : Hid (Below X6.heap.size X6 wr) := to_call HBC.out HQ.out
        have k1 : wr.cell? ⟨B3, 0, none⟩ = some (.int .i64 (z.rn : Int)) := cellAtJ (kept QX.out Q6.out.2.2.1) 0 _ rfl
        by_cases h1 : k < z.rn
        · have hd1 : decide ((k : Int) < (z.rn : Int)) = true := decide_eq_true (by omega)
          obtain ⟨q, rfl⟩ : ∃ q, gk = q + 1 := ⟨gk - 1, by omega⟩
          have HIG : Hid _ := hk
          clear hk
          go_upto_region 12 with fail
          have hyl : y.rs.length = z.rn := HG.out.rl
          have hycl : y.cs.length = z.rn := by rw [HG.out.cs, List.length_map]; exact HF.out.cl
          obtain ⟨gp', qp', pn, po, pl, pc, pe, vp, rp, zp⟩ := RowZ.range (HPV.out.later HQ.out) (k := k) (by rw [ptV_len]; exact h1)
          obtain ⟨g4, q4, n4, o4, t4, p4, x4, v4, r4, z4⟩ := RowN.range (RowN.later Q6.out.2.2.2.2.2.2.2.r QX.out) (k := k) (by rw [hyl]; exact h1)
          obtain ⟨g1, q1, n1, o1, t1, p1, x1, v1, r1, z1⟩ := RowN.range (RowN.later Q6.out.2.2.2.2.2.2.2.c QX.out) (k := k) (by rw [hycl]; exact h1)
          obtain ⟨g0', q0, n0, o0, t0, p0, x0, v0, r0, z0⟩ := RowN.range (RowN.later Q6.out.2.2.2.2.2.2.1.c QX.out) (k := k) (by rw [HF.out.cl]; exact h1)
          rw [ptV_len] at vp
          rw [hyl] at v4
          rw [hycl] at v1
          rw [HF.out.cl] at v0
          rw [ptV_at h1] at zp
          have C4 : Hid (wr.cell? ⟨B11, 4, none⟩ = some (.slice (some ⟨g4, 0, none⟩) z.rn q4)) := by rw [← v4]; exact cellAtJ (kept QX.out Q6.out.2.2.2.2.1) 4 _ rfl
          have C1 : Hid (wr.cell? ⟨B11, 1, none⟩ = some (.slice (some ⟨g1, 0, none⟩) z.rn q1)) := by rw [← v1]; exact cellAtJ (kept QX.out Q6.out.2.2.2.2.1) 1 _ rfl
          have C0 : Hid (wr.cell? ⟨B3, 1, none⟩ = some (.slice (some ⟨g0', 0, none⟩) z.rn q0)) := by rw [← v0]; exact cellAtJ (kept QX.out Q6.out.2.2.1) 1 _ rfl
          have hgp : gp' = gp := by injection vp with e1; injection e1 with e1; injection e1 with e1; exact e1.symm
          rw [hgp] at rp
          have RP : Hid (wr.rangeAt gp (k * 3) [.bool pn, .slice po pl pc, .int .i64 pe]) := rp
          have R4 : Hid (wr.rangeAt g4 (k * 3) [.bool n4, .slice o4 t4 p4, .int .i64 x4]) := r4
          have R1 : Hid (wr.rangeAt g1 (k * 3) [.bool n1, .slice o1 t1 p1, .int .i64 x1]) := r1
          have R0 : Hid (wr.rangeAt g0' (k * 3) [.bool n0, .slice o0 t0 p0, .int .i64 x0]) := r0
          have ZP : Hid (NumC wr (.agg #[.bool pn, .slice po pl pc, .int .i64 pe]) (E + E) 1060 (ptK (2 ^ E) z.cs z.rs z.gs es bs k z.gs.length)) := zp
          have Z1 : Hid (NumC wr (.agg #[.bool n1, .slice o1 t1 p1, .int .i64 x1]) E 1024 (fval (y.cs[k]?.getD 0))) := z1
          have HCC : Hid (∀ W', Below wr.heap.size wr W' → Calls Tryz.prog 10 #[.agg #[.bool n0, .slice o0 t0 p0, .int .i64 x0], .agg #[.bool n1, .slice o1 t1 p1, .int .i64 x1]] W' fun e w' => e = .returned (.int .i64 0) ∧ Below W'.heap.size W' w') := fun W' hb => by
            have h := cmpZ_any _ _ E 1024 _ _ W' (NumC.later z0 hb).toZ (NumC.later z1 hb).toZ (by rw [HE.out]; omega) (by omega)
            rw [HG.out.cs, getD_plain, fval_plainM, sgi_self] at h
            exact h
          have HCM : Hid (∀ (V W' : World) , True) := fun _ _ => trivial
          have HCM : Hid (∀ (W' : World) (v : Value), Below wr.heap.size wr W' → NumC W' v (E + E) (1060 + 1) ((ptK (2 ^ E) z.cs z.rs z.gs es bs k z.gs.length - fval (y.cs[k]?.getD 0) * ((2 ^ E : Nat) : Int)).natAbs : Int) → Calls Tryz.prog 10 #[v, .agg #[.bool n4, .slice o4 t4 p4, .int .i64 x4]] W' fun e w' => ∃ s0 : Int, e = .returned (.int .i64 s0) ∧ s0 ≤ 0 ∧ Below W'.heap.size W' w') := fun W' v hb hv => by
            refine Calls.mono (cmpZ_any _ _ (E + E) (1060 + 1) _ _ W' hv.toZ (((NumC.later z4 hb).moreJ E).mono (by omega)).toZ (by rw [HE.out]; omega) (by omega)) ?_
            rintro e w' ⟨he, hb'⟩
            refine ⟨_, he, sgi_le ?_, hb'⟩
            have hp := pt_in (cs := z.cs) (rs := z.rs) (gs := z.gs) (es := es) (bs := bs) (i := k) (HF.out.pos k) HAB.out.1 (HAB.out.2 k)
            have hq := Int.mul_le_mul_of_nonneg_right (HG.out.far k h1).1 (Int.natCast_nonneg (2 ^ E))
            rw [HG.out.cs, getD_plain, fval_plainM]
            omega
          have hk0 : (k : Int) < (z.rn : Int) := by omega
          clear v4 v1 v0 vp z4 z1 z0 zp r4 r1 r0 rp hyl hycl k1 hd1 hgp
          have bX : Below wr.heap.size wr wr.drew := (Below.refl _ _).drew
          refine wp_region_noPanic ?_
          refine wp_region_held_drew (S := (fun V => Below wr.heap.size wr V)) (by kernel_rfl) bX (fun _ => ?_)
          refine takeH 88 (i := 0) (v := ?_) rfl rfl (by kernel_rfl) (by kernel_rfl) (by kernel_rfl) (fun _ _ _ h => h) (Or.inl ⟨by kernel_rfl, ?_⟩) bX ?_
          rotate_left
          · intro w' hSw; have s1 := cell_later C1.out hSw; have s4 := cell_later C4.out hSw; have s0 := cell_later C0.out hSw; go_simp; try with_reducible rfl
          try simp only [Act.put, List.setIfInBounds_toArray, List.set_cons_zero, List.set_cons_succ]
          refine takeH 89 (i := 1) (v := ?_) rfl rfl (by kernel_rfl) (by kernel_rfl) (by kernel_rfl) (fun _ _ _ h => h) (Or.inl ⟨by kernel_rfl, ?_⟩) bX ?_
          rotate_left
          · intro w' hSw; have s1 := cell_later C1.out hSw; have s4 := cell_later C4.out hSw; have s0 := cell_later C0.out hSw; go_simp; try with_reducible rfl
          try simp only [Act.put, List.setIfInBounds_toArray, List.set_cons_zero, List.set_cons_succ]
          refine takeH 90 (i := 2) (v := ?_) rfl rfl (by kernel_rfl) (by kernel_rfl) (by kernel_rfl) (fun _ _ _ h => h) (Or.inl ⟨by kernel_rfl, ?_⟩) bX ?_
          rotate_left
          · intro w' hSw; have s1 := cell_later C1.out hSw; have s4 := cell_later C4.out hSw; have s0 := cell_later C0.out hSw; go_simp; try with_reducible rfl
          try simp only [Act.put, List.setIfInBounds_toArray, List.set_cons_zero, List.set_cons_succ]
          refine takeH 91 (i := 3) (v := .agg #[.bool pn, .slice po pl pc, .int .i64 pe]) rfl rfl (by kernel_rfl) (by kernel_rfl) (by kernel_rfl) (fun _ _ _ h => h) (yieldsIf_load_mid (by kernel_rfl) 45 _ rfl gp (k * 3) (by kernel_rfl) #[.bool pn, .slice po pl pc, .int .i64 pe].toList _ (fun V' hS => (range_later RP.out hS : V'.rangeAt gp (k * 3) [.bool pn, .slice po pl pc, .int .i64 pe])) Tryz.underlying45 rfl (by kernel_rfl)) bX ?_
          try simp only [Act.put, List.setIfInBounds_toArray, List.set_cons_zero, List.set_cons_succ]
          refine takeH 92 (i := 4) (v := ?_) rfl rfl (by kernel_rfl) (by kernel_rfl) (by kernel_rfl) (fun _ _ _ h => h) (Or.inl ⟨by kernel_rfl, ?_⟩) bX ?_
          rotate_left
          · intro w' hSw; have s1 := cell_later C1.out hSw; have s4 := cell_later C4.out hSw; have s0 := cell_later C0.out hSw; go_simp; try with_reducible rfl
          try simp only [Act.put, List.setIfInBounds_toArray, List.set_cons_zero, List.set_cons_succ]
          refine takeH 93 (i := 5) (v := ?_) rfl rfl (by kernel_rfl) (by kernel_rfl) (by kernel_rfl) (fun _ _ _ h => h) (Or.inl ⟨by kernel_rfl, ?_⟩) bX ?_
          rotate_left
          · intro w' hSw; have s1 := cell_later C1.out hSw; have s4 := cell_later C4.out hSw; have s0 := cell_later C0.out hSw; go_simp; try with_reducible rfl
          try simp only [Act.put, List.setIfInBounds_toArray, List.set_cons_zero, List.set_cons_succ]
          refine takeH 94 (i := 6) (v := ?_) rfl rfl (by kernel_rfl) (by kernel_rfl) (by kernel_rfl) (fun _ _ _ h => h) (Or.inl ⟨by kernel_rfl, ?_⟩) bX ?_
          rotate_left
          · intro w' hSw; have s1 := cell_later C1.out hSw; have s4 := cell_later C4.out hSw; have s0 := cell_later C0.out hSw; go_simp; try with_reducible rfl
          try simp only [Act.put, List.setIfInBounds_toArray, List.set_cons_zero, List.set_cons_succ]
          refine takeH 95 (i := 7) (v := ?_) rfl rfl (by kernel_rfl) (by kernel_rfl) (by kernel_rfl) (fun _ _ _ h => h) (Or.inl ⟨by kernel_rfl, ?_⟩) bX ?_
          rotate_left
          · intro w' hSw; have s1 := cell_later C1.out hSw; have s4 := cell_later C4.out hSw; have s0 := cell_later C0.out hSw; go_simp; try with_reducible rfl
          try simp only [Act.put, List.setIfInBounds_toArray, List.set_cons_zero, List.set_cons_succ]
          refine takeH 96 (i := 8) (v := .agg #[.bool n1, .slice o1 t1 p1, .int .i64 x1]) rfl rfl (by kernel_rfl) (by kernel_rfl) (by kernel_rfl) (fun _ _ _ h => h) (yieldsIf_load_mid (by kernel_rfl) 45 _ rfl g1 (k * 3) (by kernel_rfl) #[.bool n1, .slice o1 t1 p1, .int .i64 x1].toList _ (fun V' hS => (range_later R1.out hS : V'.rangeAt g1 (k * 3) [.bool n1, .slice o1 t1 p1, .int .i64 x1])) Tryz.underlying45 rfl (by kernel_rfl)) bX ?_
          try simp only [Act.put, List.setIfInBounds_toArray, List.set_cons_zero, List.set_cons_succ]
          refine takeH 99 (i := 11) (v := ?_) rfl rfl (by kernel_rfl) (by kernel_rfl) (by kernel_rfl) (fun _ _ _ h => h) (Or.inl ⟨by kernel_rfl, ?_⟩) bX ?_
          rotate_left
          · intro w' hSw; have s1 := cell_later C1.out hSw; have s4 := cell_later C4.out hSw; have s0 := cell_later C0.out hSw; go_simp; try with_reducible rfl
          try simp only [Act.put, List.setIfInBounds_toArray, List.set_cons_zero, List.set_cons_succ]
          refine takeH 100 (i := 12) (v := ?_) rfl rfl (by kernel_rfl) (by kernel_rfl) (by kernel_rfl) (fun _ _ _ h => h) (Or.inl ⟨by kernel_rfl, ?_⟩) bX ?_
          rotate_left
          · intro w' hSw; have s1 := cell_later C1.out hSw; have s4 := cell_later C4.out hSw; have s0 := cell_later C0.out hSw; go_simp; try with_reducible rfl
          try simp only [Act.put, List.setIfInBounds_toArray, List.set_cons_zero, List.set_cons_succ]
          refine takeH 101 (i := 13) (v := ?_) rfl rfl (by kernel_rfl) (by kernel_rfl) (by kernel_rfl) (fun _ _ _ h => h) (Or.inl ⟨by kernel_rfl, ?_⟩) bX ?_
          rotate_left
          · intro w' hSw; have s1 := cell_later C1.out hSw; have s4 := cell_later C4.out hSw; have s0 := cell_later C0.out hSw; go_simp; try with_reducible rfl
          try simp only [Act.put, List.setIfInBounds_toArray, List.set_cons_zero, List.set_cons_succ]
          refine takeH 102 (i := 14) (v := ?_) rfl rfl (by kernel_rfl) (by kernel_rfl) (by kernel_rfl) (fun _ _ _ h => h) (Or.inl ⟨by kernel_rfl, ?_⟩) bX ?_
          rotate_left
          · intro w' hSw; have s1 := cell_later C1.out hSw; have s4 := cell_later C4.out hSw; have s0 := cell_later C0.out hSw; go_simp; try with_reducible rfl
          try simp only [Act.put, List.setIfInBounds_toArray, List.set_cons_zero, List.set_cons_succ]
          refine takeH 103 (i := 15) (v := .agg #[.bool n4, .slice o4 t4 p4, .int .i64 x4]) rfl rfl (by kernel_rfl) (by kernel_rfl) (by kernel_rfl) (fun _ _ _ h => h) (yieldsIf_load_mid (by kernel_rfl) 45 _ rfl g4 (k * 3) (by kernel_rfl) #[.bool n4, .slice o4 t4 p4, .int .i64 x4].toList _ (fun V' hS => (range_later R4.out hS : V'.rangeAt g4 (k * 3) [.bool n4, .slice o4 t4 p4, .int .i64 x4])) Tryz.underlying45 rfl (by kernel_rfl)) bX ?_
          try simp only [Act.put, List.setIfInBounds_toArray, List.set_cons_zero, List.set_cons_succ]
          refine wpAnyH_ready (rs := [9]) (by kernel_rfl) (by simp) ?_
          refine consH _ rfl (hopCd 97 rfl (by kernel_rfl) rfl (by kernel_rfl) (Calls.mono (minusC_any _ _ (E + E) 1060 _ _ _ (NumC.later ZP.out bX) (((NumC.later Z1.out bX).moreJ E).mono (by omega)) (by rw [HE.out]; omega) (by omega)) ?_)) AllReadyH.nil
          rintro e V1 ⟨v1, rfl, hz1, b1⟩
          obtain ⟨n7, o7, t7, p7, x7, hv1⟩ := hz1.form
          subst hv1
          have bX : Below wr.heap.size wr V1 := to_call bX b1
          clear b1
          refine ⟨_, rfl, bX, ?_⟩
          try simp only [Act.put, List.setIfInBounds_toArray, List.set_cons_zero, List.set_cons_succ]
          refine wpAnyH_ready (rs := [10]) (by kernel_rfl) (by simp) ?_
          refine consH _ rfl (hopCd 98 rfl (by kernel_rfl) rfl (by kernel_rfl) (Calls.mono (sizeC_any _ (E + E) (1060 + 1) _ _ hz1) ?_)) AllReadyH.nil
          rintro e V2 ⟨v2, rfl, hz2, b2⟩
          obtain ⟨n8, o8, t8, p8, x8, hv2⟩ := hz2.form
          subst hv2
          have bX : Below wr.heap.size wr V2 := to_call bX b2
          clear b2 hz1
          refine ⟨_, rfl, bX, ?_⟩
          try simp only [Act.put, List.setIfInBounds_toArray, List.set_cons_zero, List.set_cons_succ]
          refine wpAnyH_ready (rs := [16]) (by kernel_rfl) (by simp) ?_
          refine consH _ rfl (hopCd 104 rfl (by kernel_rfl) rfl (by kernel_rfl) (Calls.mono (HCM.out _ _ bX hz2) ?_)) AllReadyH.nil
          rintro e V3 ⟨s0, rfl, hs0, b3⟩
          have g0 : decide (0 < s0) = false := decide_eq_false (by omega)
          have bX : Below wr.heap.size wr V3 := to_call bX b3
          clear b3 hz2 hs0
          refine ⟨_, rfl, bX, ?_⟩
          try simp only [Act.put, List.setIfInBounds_toArray, List.set_cons_zero, List.set_cons_succ]
          refine takeH 105 (i := 17) (v := ?_) rfl rfl (by kernel_rfl) (by kernel_rfl) (by kernel_rfl) (fun _ _ _ h => h) (Or.inl ⟨by kernel_rfl, ?_⟩) bX ?_
          rotate_left
          · intro w' hSw; have s1 := cell_later C1.out hSw; have s4 := cell_later C4.out hSw; have s0 := cell_later C0.out hSw; go_simp; try with_reducible rfl
          try simp only [Act.put, List.setIfInBounds_toArray, List.set_cons_zero, List.set_cons_succ]
          refine takeH 106 (i := 18) (v := ?_) rfl rfl (by kernel_rfl) (by kernel_rfl) (by kernel_rfl) (fun _ _ _ h => h) (Or.inl ⟨by kernel_rfl, ?_⟩) bX ?_
          rotate_left
          · intro w' hSw; have s1 := cell_later C1.out hSw; have s4 := cell_later C4.out hSw; have s0 := cell_later C0.out hSw; go_simp; try with_reducible rfl
          try simp only [Act.put, List.setIfInBounds_toArray, List.set_cons_zero, List.set_cons_succ]
          refine takeH 107 (i := 19) (v := ?_) rfl rfl (by kernel_rfl) (by kernel_rfl) (by kernel_rfl) (fun _ _ _ h => h) (Or.inl ⟨by kernel_rfl, ?_⟩) bX ?_
          rotate_left
          · intro w' hSw; have s1 := cell_later C1.out hSw; have s4 := cell_later C4.out hSw; have s0 := cell_later C0.out hSw; go_simp; try with_reducible rfl
          try simp only [Act.put, List.setIfInBounds_toArray, List.set_cons_zero, List.set_cons_succ]
          refine takeH 108 (i := 20) (v := ?_) rfl rfl (by kernel_rfl) (by kernel_rfl) (by kernel_rfl) (fun _ _ _ h => h) (Or.inl ⟨by kernel_rfl, ?_⟩) bX ?_
          rotate_left
          · intro w' hSw; have s1 := cell_later C1.out hSw; have s4 := cell_later C4.out hSw; have s0 := cell_later C0.out hSw; go_simp; try with_reducible rfl
          try simp only [Act.put, List.setIfInBounds_toArray, List.set_cons_zero, List.set_cons_succ]
          refine takeH 109 (i := 21) (v := ?_) rfl rfl (by kernel_rfl) (by kernel_rfl) (by kernel_rfl) (fun _ _ _ h => h) (Or.inl ⟨by kernel_rfl, ?_⟩) bX ?_
          rotate_left
          · intro w' hSw; have s1 := cell_later C1.out hSw; have s4 := cell_later C4.out hSw; have s0 := cell_later C0.out hSw; go_simp; try with_reducible rfl
          try simp only [Act.put, List.setIfInBounds_toArray, List.set_cons_zero, List.set_cons_succ]
          refine takeH 110 (i := 22) (v := ?_) rfl rfl (by kernel_rfl) (by kernel_rfl) (by kernel_rfl) (fun _ _ _ h => h) (Or.inl ⟨by kernel_rfl, ?_⟩) bX ?_
          rotate_left
          · intro w' hSw; have s1 := cell_later C1.out hSw; have s4 := cell_later C4.out hSw; have s0 := cell_later C0.out hSw; go_simp; try with_reducible rfl
          try simp only [Act.put, List.setIfInBounds_toArray, List.set_cons_zero, List.set_cons_succ]
          refine takeH 111 (i := 23) (v := .agg #[.bool n0, .slice o0 t0 p0, .int .i64 x0]) rfl rfl (by kernel_rfl) (by kernel_rfl) (by kernel_rfl) (fun _ _ _ h => h) (yieldsIf_load_mid (by kernel_rfl) 45 _ rfl g0' (k * 3) (by kernel_rfl) #[.bool n0, .slice o0 t0 p0, .int .i64 x0].toList _ (fun V' hS => (range_later R0.out hS : V'.rangeAt g0' (k * 3) [.bool n0, .slice o0 t0 p0, .int .i64 x0])) Tryz.underlying45 rfl (by kernel_rfl)) bX ?_
          try simp only [Act.put, List.setIfInBounds_toArray, List.set_cons_zero, List.set_cons_succ]
          refine takeH 112 (i := 24) (v := ?_) rfl rfl (by kernel_rfl) (by kernel_rfl) (by kernel_rfl) (fun _ _ _ h => h) (Or.inl ⟨by kernel_rfl, ?_⟩) bX ?_
          rotate_left
          · intro w' hSw; have s1 := cell_later C1.out hSw; have s4 := cell_later C4.out hSw; have s0 := cell_later C0.out hSw; go_simp; try with_reducible rfl
          try simp only [Act.put, List.setIfInBounds_toArray, List.set_cons_zero, List.set_cons_succ]
          refine takeH 113 (i := 25) (v := ?_) rfl rfl (by kernel_rfl) (by kernel_rfl) (by kernel_rfl) (fun _ _ _ h => h) (Or.inl ⟨by kernel_rfl, ?_⟩) bX ?_
          rotate_left
          · intro w' hSw; have s1 := cell_later C1.out hSw; have s4 := cell_later C4.out hSw; have s0 := cell_later C0.out hSw; go_simp; try with_reducible rfl
          try simp only [Act.put, List.setIfInBounds_toArray, List.set_cons_zero, List.set_cons_succ]
          refine takeH 114 (i := 26) (v := ?_) rfl rfl (by kernel_rfl) (by kernel_rfl) (by kernel_rfl) (fun _ _ _ h => h) (Or.inl ⟨by kernel_rfl, ?_⟩) bX ?_
          rotate_left
          · intro w' hSw; have s1 := cell_later C1.out hSw; have s4 := cell_later C4.out hSw; have s0 := cell_later C0.out hSw; go_simp; try with_reducible rfl
          try simp only [Act.put, List.setIfInBounds_toArray, List.set_cons_zero, List.set_cons_succ]
          refine takeH 115 (i := 27) (v := ?_) rfl rfl (by kernel_rfl) (by kernel_rfl) (by kernel_rfl) (fun _ _ _ h => h) (Or.inl ⟨by kernel_rfl, ?_⟩) bX ?_
          rotate_left
          · intro w' hSw; have s1 := cell_later C1.out hSw; have s4 := cell_later C4.out hSw; have s0 := cell_later C0.out hSw; go_simp; try with_reducible rfl
          try simp only [Act.put, List.setIfInBounds_toArray, List.set_cons_zero, List.set_cons_succ]
          refine takeH 116 (i := 28) (v := .agg #[.bool n1, .slice o1 t1 p1, .int .i64 x1]) rfl rfl (by kernel_rfl) (by kernel_rfl) (by kernel_rfl) (fun _ _ _ h => h) (yieldsIf_load_mid (by kernel_rfl) 45 _ rfl g1 (k * 3) (by kernel_rfl) #[.bool n1, .slice o1 t1 p1, .int .i64 x1].toList _ (fun V' hS => (range_later R1.out hS : V'.rangeAt g1 (k * 3) [.bool n1, .slice o1 t1 p1, .int .i64 x1])) Tryz.underlying45 rfl (by kernel_rfl)) bX ?_
          try simp only [Act.put, List.setIfInBounds_toArray, List.set_cons_zero, List.set_cons_succ]
          refine wpAnyH_ready (rs := [29]) (by kernel_rfl) (by simp) ?_
          refine consH _ rfl (hopCd 117 rfl (by kernel_rfl) rfl (by kernel_rfl) (Calls.mono (HCC.out _ bX) ?_)) AllReadyH.nil
          rintro e V4 ⟨rfl, b4⟩
          have bX : Below wr.heap.size wr V4 := to_call bX b4
          clear b4
          refine ⟨_, rfl, bX, ?_⟩
          try simp only [Act.put, List.setIfInBounds_toArray, List.set_cons_zero, List.set_cons_succ]
          refine takeH 118 (i := 30) (v := ?_) rfl rfl (by kernel_rfl) (by kernel_rfl) (by kernel_rfl) (fun _ _ _ h => h) (Or.inl ⟨by kernel_rfl, ?_⟩) bX ?_
          rotate_left
          · intro w' hSw; have s1 := cell_later C1.out hSw; have s4 := cell_later C4.out hSw; have s0 := cell_later C0.out hSw; go_simp; try with_reducible rfl
          try simp only [Act.put, List.setIfInBounds_toArray, List.set_cons_zero, List.set_cons_succ]
          refine takeH 119 (i := 31) (v := ?_) rfl rfl (by kernel_rfl) (by kernel_rfl) (by kernel_rfl) (fun _ _ _ h => h) (Or.inl ⟨by kernel_rfl, ?_⟩) bX ?_
          rotate_left
          · intro w' hSw; have s1 := cell_later C1.out hSw; have s4 := cell_later C4.out hSw; have s0 := cell_later C0.out hSw; go_simp; try with_reducible rfl
          try simp only [Act.put, List.setIfInBounds_toArray, List.set_cons_zero, List.set_cons_succ]
          refine wpAnyH_done (by kernel_rfl) ?_ _
          refine NoPanic.normal ?_
          try simp only [Act.put, List.setIfInBounds_toArray, List.set_cons_zero, List.set_cons_succ]
          have HQ9 : Hid (Below wc.heap.size wc V4) := to_call HQ.out bX
          clear bX g0 C0 C1 C4 RP R4 R1 R0 ZP Z1 HCC HCM QX HQ
          go_wp2_with fail
          go_roundg q
          case measure => omega
          case rel => exact ⟨k + 1, by go_num, by have := HIG.out; omega, HQ9⟩
        · have hd1 : decide ((k : Int) < (z.rn : Int)) = false := decide_eq_false (by omega)
          have HSZ : Hid (∀ W', Below w.heap.size w W' → _) := fun W' hb => support_whole z dO dl dcap ds W' (HZ.out W' hb) (HDS.out W' hb) HW0.out.1 HW0.out.2 HF.out
          have HSY : Hid (∀ W', Below X6.heap.size X6 W' → _) := fun W' hb => support_whole y dO dl dcap ds W' (Q6.out.2.2.2.2.2.1.later hb) (HDS.out W' (to_call Q6.out.1 hb)) HY.out.2.1 HY.out.2.2 HY.out.1
          unfold zRow at HSZ HSY
          go_upto_region 15 with (first
            | (refine wpList_load_row (by rfl) 26 _ (by rfl) w.heap.size _ (by rfl) (kept QX.out Q6.out.2.1) _ Tryz.underlying26 rfl 6 Tryz.infoZ (by rfl) ?_)
            | (go_at_call 13; refine Calls.mono (HSZ.out _ (to_call Q6.out.1 QX.out)) ?_; rintro e V1 ⟨s, ok, rfl, hs1, b1⟩; have sup1 : Hid (SupR z ds s ok) := hs1; clear hs1))
          have q1 : Hid (Below X6.heap.size X6 V1) := to_call QX.out b1
          clear b1 k1
          go_upto_region 16 with (first
            | (refine wpList_load_row (by rfl) 26 _ (by rfl) B9 _ (by rfl) (kept q1.out Q6.out.2.2.2.1) _ Tryz.underlying26 rfl 6 Tryz.infoZ (by rfl) ?_)
            | (go_at_call 13; refine Calls.mono (HSY.out _ q1.out) ?_; rintro e V2 ⟨s', ok', rfl, hs2, b2⟩; have sup2 : Hid (SupR y ds s' ok') := hs2; clear hs2))
          have q2 : Hid (Below X6.heap.size X6 V2) := to_call q1.out b2
          clear b2 q1 QX HQ hd1 h1 hk HSZ HSY
          cases ok with
          | false =>
            go_wp2_with (go_at_call 7; refine Calls.mono (started_any _) ?_; rintro e w9 ⟨rfl, b9⟩)
            go_ret
            exact ⟨rfl, to_call (to_call Q6.out.1 q2.out) b9⟩
          | true =>
            cases ok' with
            | false =>
              go_wp2_with (go_at_call 7; refine Calls.mono (started_any _) ?_; rintro e w9 ⟨rfl, b9⟩)
              go_ret
              exact ⟨rfl, to_call (to_call Q6.out.1 q2.out) b9⟩
            | true =>
              obtain ⟨hle, fs, ft⟩ := HG.out.sup (w := w) (HZ.out w (Below.refl _ _)) HF.out HY.out.1 sup1.out sup2.out
              have n1 := le_ordJ fs ft hle
              clear sup1 sup2 hle fs ft
              go_wp2_with (go_at_call 7; refine Calls.mono (started_any _) ?_; rintro e w9 ⟨rfl, b9⟩)
              go_ret
              exact ⟨rfl, to_call (to_call Q6.out.1 q2.out) b9⟩
end Go.Proofs.YtpjkebjgpknibaaGreat
