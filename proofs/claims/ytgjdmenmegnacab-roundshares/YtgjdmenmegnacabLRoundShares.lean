import Derived.Test.YtgjdmenmegnacabTF
namespace Go.Proofs.Ytgjdmenmegnacab
open Go.RowKit
set_option linter.unusedVariables false

theorem next_up' {f : Int} {lo : Nat} {p : Nat × Bool} (hS : srung lo = f) (h : RndZ 1 (fval lo * 64 + sideOf 1) 64 p) (h1 : -(infK : Int) < f) (h2 : f + 1 < (infK : Int)) : p.2 = true ∧ srung p.1 = f + 1 ∧ Fin p.1 := by
  have hs : sideOf 1 = 1 := rfl
  rw [fval_smag, hS, hs] at h
  have h3 := smag_lt (show f < f + 1 by omega)
  have hf : Sf (smag f * 64 + 1) 64 f := ⟨by show smag f * 64 ≤ _; omega, by show _ < smag (f + 1) * 64; omega⟩
  have hc : ceilK (smag f * 64 + 1) 64 f = f + 1 := by unfold ceilK; rw [if_neg (by show ¬ (smag f * 64 + 1 = smag f * 64); omega)]
  have hfin := rndZ_fin h
  rcases rz_up h hf with ⟨a1, a2, a3⟩ | ⟨a1, a2⟩
  · rw [hc] at a3
    exact ⟨a1, by omega, hfin.1⟩
  · rw [hc] at a2; omega
set_option maxRecDepth 100000 in
set_option maxHeartbeats 4000000 in
theorem roundShares_walk (a : Nat) (ha : a < 18446744073709551616) (b : Nat) (hb : b < 18446744073709551616) (w : World) :
    Calls Try.prog 5 #[.float .f64 a, .float .f64 b] w fun e w' => e = .returned (.bool true) ∧ Below w.heap.size w w' := by
  obtain ⟨E, hE⟩ : ∃ E : Nat, E = 1074 := ⟨_, rfl⟩
  obtain ⟨⟨lo, o2⟩, p21, p22, cp2⟩ := div_any 2 a b ha hb
  obtain ⟨⟨hi, o1⟩, p11, p12, cp1⟩ := div_any 1 a b ha hb
  obtain ⟨⟨m, o0⟩, p01, p02, cp0⟩ := div_any 0 a b ha hb
  simp only at cp2 cp1 cp0
  have PY : Hid (Fin a ∧ Fin b ∧ frung b ≠ 0 → ∃ f, Held (quoV E a b) (rmag (frung b)) f (lo, o2) (hi, o1) (m, o0)) := by
    rintro ⟨h1, h2, h3⟩
    obtain ⟨f, hf⟩ := Sf.some (quoV E a b) (frung_pos_rmag h3)
    exact ⟨f, frung_pos_rmag h3, hf, quo_rndZ h3 (p21 h1 h2 h3 E hE), quo_rndZ h3 (p11 h1 h2 h3 E hE), quo_rndZ h3 (p01 h1 h2 h3 E hE)⟩
  have PN : Hid (¬ (Fin a ∧ Fin b ∧ frung b ≠ 0) → lo = 0 ∧ o2 = false ∧ hi = 0 ∧ o1 = false) := by
    intro h
    have e1 := p22 h
    have e2 := p12 h
    simp only [Prod.mk.injEq] at e1 e2
    exact ⟨e1.1, e1.2, e2.1, e2.2⟩
  clear p21 p22 p11 p12 p01 p02
  go_enter Try.func5, Try.ntmps5
  go_wp2_with fail
  refine (num_any a ha _ E hE).mono ?_
  rintro e1 w1 ⟨v1, rfl, ⟨z1, hz1, hf1⟩, hb1⟩
  have Z1 : Hid (NumZ w1 v1 (E + E) 2048 (z1 * ((2 ^ E : Nat) : Int))) := NumZ.mono (NumZ.more hz1 E) (by omega)
  have F1 : Hid (Fin a → z1 = fval a) := hf1
  obtain ⟨nx, mx, ex, ⟨ao, len, cap, xs, rfl, -⟩, -⟩ := hz1
  have HB1 : Hid (Below w.heap.size w w1) := hb1
  clear hb1 hf1
  obtain ⟨da, hda⟩ : ∃ q, decide (Fin a) = q := ⟨_, rfl⟩
  rw [hda]
  go_wp2_with fail
  refine (num_any b hb _ E hE).mono ?_
  rintro e2 w2 ⟨v2, rfl, ⟨z2, hz2, hf2⟩, hb2⟩
  have Z2 : Hid (NumZ w2 v2 E 1024 z2) := hz2
  have F2 : Hid (Fin b → z2 = fval b) := hf2
  obtain ⟨ny, my, ey, ⟨bo, blen, bcap, ys, rfl, -⟩, -⟩ := hz2
  have HB1' : Hid (Below w.heap.size w (w1.alloc (Obj.cells #[Value.bool nx, Value.slice ao len cap, Value.int IntKind.i64 ex] 25))) := HB1.out.alloc HB1.out.size _
  have XX1 : Hid (Var (w1.alloc (Obj.cells #[Value.bool nx, Value.slice ao len cap, Value.int IntKind.i64 ex] 25)) w1.heap.size nx ao len cap ex (E + E) 2048 (z1 * ((2 ^ E : Nat) : Int))) := Var.new Z1.out
  have XX2 : Hid (Var w2 w1.heap.size nx ao len cap ex (E + E) 2048 (z1 * ((2 ^ E : Nat) : Int))) := XX1.out.later hb2
  have HB2 : Hid (Below w.heap.size w w2) := HB1'.out.trans (hb2.mono HB1'.out.size)
  have XX3 : Hid (Var (w2.alloc (Obj.cells #[Value.bool ny, Value.slice bo blen bcap, Value.int IntKind.i64 ey] 25)) w1.heap.size nx ao len cap ex (E + E) 2048 (z1 * ((2 ^ E : Nat) : Int))) := XX2.out.alloc _
  have YY3 : Hid (Var (w2.alloc (Obj.cells #[Value.bool ny, Value.slice bo blen bcap, Value.int IntKind.i64 ey] 25)) w2.heap.size ny bo blen bcap ey E 1024 z2) := Var.new Z2.out
  have HB3 : Hid (Below w.heap.size w (w2.alloc (Obj.cells #[Value.bool ny, Value.slice bo blen bcap, Value.int IntKind.i64 ey] 25))) := HB2.out.alloc HB2.out.size _
  clear hb2 hf2
  obtain ⟨db, hdb⟩ : ∃ q, decide (Fin b) = q := ⟨_, rfl⟩
  rw [hdb]
  go_wp2_with fail
  refine (cp2 _).mono ?_
  rintro e3 w3 ⟨rfl, rfl⟩
  go_wp2_with fail
  refine (cp1 _).mono ?_
  rintro e3 w3 ⟨rfl, rfl⟩
  clear cp1 cp2
  obtain ⟨y0, y1, y2⟩ := YY3.out.cells
  obtain ⟨x0, x1, x2⟩ := XX3.out.cells
  by_cases hall : Fin a ∧ Fin b ∧ frung b ≠ 0
  case neg =>
    obtain ⟨rfl, rfl, rfl, rfl⟩ := PN.out hall
    clear cp0 PY PN
    have hcs : da = false ∨ (da = true ∧ db = false) ∨ (da = true ∧ db = true ∧ sgi z2 = 0) := by
      by_cases h1 : Fin a
      · by_cases h2 : Fin b
        · right; right
          refine ⟨by rw [← hda]; exact decide_eq_true h1, by rw [← hdb]; exact decide_eq_true h2, ?_⟩
          have h3 : frung b = 0 := by
            rcases Nat.eq_zero_or_pos (frung b) with h | h
            · exact h
            · exact absurd ⟨h1, h2, by omega⟩ hall
          rw [F2.out h2]; unfold fval; rw [h3, rmag_zero]; split <;> rfl
        · right; left; exact ⟨by rw [← hda]; exact decide_eq_true h1, by rw [← hdb]; exact decide_eq_false h2⟩
      · left; rw [← hda]; exact decide_eq_false h1
    clear hda hdb
    rcases hcs with rfl | ⟨rfl, rfl⟩ | ⟨rfl, rfl, hs0⟩
    · go_wp2_with (go_at_call 11; refine (started_any _).mono ?_; rintro es ws ⟨rfl, rfl⟩)
      all_goals (go_ret; exact ⟨rfl, by first | exact HB3.out | exact HB3.out.drew⟩)
    · go_wp2_with (go_at_call 11; refine (started_any _).mono ?_; rintro es ws ⟨rfl, rfl⟩)
      all_goals (go_ret; exact ⟨rfl, by first | exact HB3.out | exact HB3.out.drew⟩)
    · have HS0 : Hid (sgi z2 = 0) := hs0
      clear hs0
      go_wp2_with fail
      refine (signZ_any _ E 1024 z2 _ YY3.out.num).mono ?_
      rintro e4 w4 ⟨rfl, hb4⟩
      rw [HS0.out]
      have HB4 : Hid (Below w.heap.size w w4) := HB3.out.trans (hb4.mono HB3.out.size)
      clear hb4
      go_wp2_with (go_at_call 11; refine (started_any _).mono ?_; rintro es ws ⟨rfl, rfl⟩)
      all_goals (go_ret; exact ⟨rfl, by first | exact HB4.out | exact HB4.out.drew⟩)
  case pos =>
    obtain ⟨f, hH⟩ := PY.out hall
    have HH : Hid (Held (quoV E a b) (rmag (frung b)) f (lo, o2) (hi, o1) (m, o0)) := hH
    obtain rfl : da = true := by rw [← hda]; exact decide_eq_true hall.1
    obtain rfl : db = true := by rw [← hdb]; exact decide_eq_true hall.2.1
    have hq1 := F1.out hall.1
    have hq2 := F2.out hall.2.1
    subst hq1 hq2
    have hbne : fval b ≠ 0 := by have := frung_pos_rmag hall.2.2; unfold fval; split <;> omega
    obtain ⟨s, hs⟩ : ∃ s, sgi (fval b) = s := ⟨_, rfl⟩
    have hs1 : s = 1 ∨ s = -1 := by rw [← hs]; exact (sgi_abs (fval b)).2 hbne
    have HS : Hid (sgi (fval b) = s) := hs
    have hs0 : (s == 0) = false := by rw [beq_eq_false_iff_ne]; omega
    have flo := tell_fin hH.dn
    have fhi := tell_fin hH.up
    simp only at flo fhi
    have FLO : Hid _ := flo
    have FHI : Hid _ := fhi
    obtain ⟨h1, hh1⟩ : ∃ h, sgi (fval lo * fval b - fval a * ((2 ^ E : Nat) : Int)) = h := ⟨_, rfl⟩
    obtain ⟨h2, hh2⟩ : ∃ h, sgi (fval hi * fval b - fval a * ((2 ^ E : Nat) : Int)) = h := ⟨_, rfl⟩
    have q1 := quo_cmp (E := E) (a := a) (x := lo) hall.2.2
    have q2 := quo_cmp (E := E) (a := a) (x := hi) hall.2.2
    rw [hs, hh1] at q1
    rw [hs, hh2] at q2
    have H1 : Hid (sgi (fval lo * fval b - fval a * ((2 ^ E : Nat) : Int)) = h1) := hh1
    have H2 : Hid (sgi (fval hi * fval b - fval a * ((2 ^ E : Nat) : Int)) = h2) := hh2
    obtain ⟨k1, hk1⟩ : ∃ k, s * h1 = k := ⟨_, rfl⟩
    obtain ⟨k2, hk2⟩ : ∃ k, s * h2 = k := ⟨_, rfl⟩
    rw [hk1] at q1
    rw [hk2] at q2
    have bk1 : -1 ≤ k1 ∧ k1 ≤ 1 := by rw [q1]; unfold sgi; split <;> (try split) <;> omega
    have bk2 : -1 ≤ k2 ∧ k2 ≤ 1 := by rw [q2]; unfold sgi; split <;> (try split) <;> omega
    have hwa : wrap64 (s * h1) = k1 := by rw [hk1]; unfold wrap64; omega
    have hwb : wrap64 (s * h2) = k2 := by rw [hk2]; unfold wrap64; omega
    have hwc : IntKind.i64.wrap (s * h1) = k1 := by rw [hk1, IntKind.wrap_i64]; omega
    have hwd : IntKind.i64.wrap (s * h2) = k2 := by rw [hk2, IntKind.wrap_i64]; omega
    have Q1 : Hid (k1 = sgi (fval lo * (rmag (frung b) : Int) - quoV E a b)) := q1
    have Q2 : Hid (k2 = sgi (fval hi * (rmag (frung b) : Int) - quoV E a b)) := q2
    have HK1 : Hid (s * h1 = k1) := hk1
    have HK2 : Hid (s * h2 = k2) := hk2
    have ht1 : o2 = true → decide (0 < k1) = false := fun h => decide_eq_false (by have := hH.lo_le h; simp only at this; rw [q1]; unfold sgi; split <;> (try split) <;> omega)
    have ht2 : o1 = true → decide (k2 < 0) = false := fun h => decide_eq_false (by have := hH.le_hi h; simp only at this; rw [q2]; unfold sgi; split <;> (try split) <;> omega)
    have HT1 : Hid _ := ht1
    have HT2 : Hid _ := ht2
    have hone := hH.one
    simp only at hone
    have HONE : Hid _ := hone
    have HS1 : Hid (s = 1 ∨ s = -1) := hs1
    clear hH hda hdb hs flo fhi hh1 hh2 q1 q2 hk1 hk2 bk1 bk2 ht1 ht2 hone hs1 hbne PY PN F1 F2
    go_wp2_with fail
    refine (signZ_any _ E 1024 (fval b) _ YY3.out.num).mono ?_
    rintro e4 w4 ⟨rfl, hb4⟩
    rw [HS.out]
    clear x0 x1 x2 y0 y1 y2
    have XX4 : Hid (Var w4 w1.heap.size nx ao len cap ex (E + E) 2048 (fval a * ((2 ^ E : Nat) : Int))) := XX3.out.later hb4
    have YY4 : Hid (Var w4 w2.heap.size ny bo blen bcap ey E 1024 (fval b)) := YY3.out.later hb4
    have HB4 : Hid (Below w.heap.size w w4) := HB3.out.trans (hb4.mono HB3.out.size)
    clear hb4 XX3 YY3 HB3 HB1' XX1 XX2 HB2
    have hcase : (o2 = true ∧ o1 = true) ∨ (o2 = true ∧ o1 = false) ∨ (o2 = false ∧ o1 = true) := by have h := HONE.out; cases o2 <;> cases o1 <;> simp at h ⊢
    rcases hcase with ⟨rfl, rfl⟩ | ⟨rfl, rfl⟩ | ⟨rfl, rfl⟩
    · skip
      go_wp2_with fail
      refine (num_any lo FLO.out.2 _ E hE).mono ?_
      rintro ed wd ⟨vd, rfl, ⟨zd, hzd, hfd⟩, hbd⟩
      have hzv := hfd FLO.out.1
      subst hzv
      have Zd : Hid (NumZ wd vd E 1024 (fval lo)) := hzd
      obtain ⟨np, mp, ep, ⟨po, plen, pcap, ps, rfl, -⟩, -⟩ := hzd
      have XXd : Hid (Var wd w1.heap.size nx ao len cap ex (E + E) 2048 (fval a * ((2 ^ E : Nat) : Int))) := XX4.out.later hbd
      have YYd : Hid (Var wd w2.heap.size ny bo blen bcap ey E 1024 (fval b)) := YY4.out.later hbd
      have HBd : Hid (Below w.heap.size w wd) := HB4.out.trans (hbd.mono HB4.out.size)
      have PPe : Hid (Var (wd.alloc (Obj.cells #[Value.bool np, Value.slice po plen pcap, Value.int IntKind.i64 ep] 25)) wd.heap.size np po plen pcap ep E 1024 (fval lo)) := Var.new Zd.out
      have XXe : Hid (Var (wd.alloc (Obj.cells #[Value.bool np, Value.slice po plen pcap, Value.int IntKind.i64 ep] 25)) w1.heap.size nx ao len cap ex (E + E) 2048 (fval a * ((2 ^ E : Nat) : Int))) := XXd.out.alloc _
      have YYe : Hid (Var (wd.alloc (Obj.cells #[Value.bool np, Value.slice po plen pcap, Value.int IntKind.i64 ep] 25)) w2.heap.size ny bo blen bcap ey E 1024 (fval b)) := YYd.out.alloc _
      have HBe : Hid (Below w.heap.size w (wd.alloc (Obj.cells #[Value.bool np, Value.slice po plen pcap, Value.int IntKind.i64 ep] 25))) := HBd.out.alloc HBd.out.size _
      clear hfd hbd
      obtain ⟨dl, hdl⟩ : ∃ q, decide (Fin lo) = q := ⟨_, rfl⟩
      rw [hdl]
      clear hdl
      go_wp2_with fail
      refine (num_any hi FHI.out.2 _ E hE).mono ?_
      rintro ee we ⟨ve, rfl, ⟨ze, hze, hfe⟩, hbe⟩
      have hzv := hfe FHI.out.1
      subst hzv
      have Ze : Hid (NumZ we ve E 1024 (fval hi)) := hze
      obtain ⟨nq, mq, eq, ⟨qo, qlen, qcap, qs, rfl, -⟩, -⟩ := hze
      have XXf : Hid (Var we w1.heap.size nx ao len cap ex (E + E) 2048 (fval a * ((2 ^ E : Nat) : Int))) := XXe.out.later hbe
      have YYf : Hid (Var we w2.heap.size ny bo blen bcap ey E 1024 (fval b)) := YYe.out.later hbe
      have PPf : Hid (Var we wd.heap.size np po plen pcap ep E 1024 (fval lo)) := PPe.out.later hbe
      have HBf : Hid (Below w.heap.size w we) := HBe.out.trans (hbe.mono HBe.out.size)
      have QQg : Hid (Var (we.alloc (Obj.cells #[Value.bool nq, Value.slice qo qlen qcap, Value.int IntKind.i64 eq] 25)) we.heap.size nq qo qlen qcap eq E 1024 (fval hi)) := Var.new Ze.out
      have XXg : Hid (Var (we.alloc (Obj.cells #[Value.bool nq, Value.slice qo qlen qcap, Value.int IntKind.i64 eq] 25)) w1.heap.size nx ao len cap ex (E + E) 2048 (fval a * ((2 ^ E : Nat) : Int))) := XXf.out.alloc _
      have YYg : Hid (Var (we.alloc (Obj.cells #[Value.bool nq, Value.slice qo qlen qcap, Value.int IntKind.i64 eq] 25)) w2.heap.size ny bo blen bcap ey E 1024 (fval b)) := YYf.out.alloc _
      have PPg : Hid (Var (we.alloc (Obj.cells #[Value.bool nq, Value.slice qo qlen qcap, Value.int IntKind.i64 eq] 25)) wd.heap.size np po plen pcap ep E 1024 (fval lo)) := PPf.out.alloc _
      have HBg : Hid (Below w.heap.size w (we.alloc (Obj.cells #[Value.bool nq, Value.slice qo qlen qcap, Value.int IntKind.i64 eq] 25))) := HBf.out.alloc HBf.out.size _
      clear hfe hbe XX4 YY4 HB4 XXd YYd HBd PPe XXe YYe HBe XXf YYf PPf HBf
      obtain ⟨dh, hdh⟩ : ∃ q, decide (Fin hi) = q := ⟨_, rfl⟩
      rw [hdh]
      clear hdh
      obtain ⟨y0, y1, y2⟩ := YYg.out.cells
      go_wp2_with fail
      refine (signZ_any _ E 1024 (fval b) _ YYg.out.num).mono ?_
      rintro eh wh ⟨rfl, hbh⟩
      rw [HS.out]
      clear y0 y1 y2
      have XXh : Hid (Var wh w1.heap.size nx ao len cap ex (E + E) 2048 (fval a * ((2 ^ E : Nat) : Int))) := XXg.out.later hbh
      obtain ⟨xxh0, xxh1, xxh2⟩ := XXh.out.cells
      have YYh : Hid (Var wh w2.heap.size ny bo blen bcap ey E 1024 (fval b)) := YYg.out.later hbh
      obtain ⟨yyh0, yyh1, yyh2⟩ := YYh.out.cells
      have PPh : Hid (Var wh wd.heap.size np po plen pcap ep E 1024 (fval lo)) := PPg.out.later hbh
      obtain ⟨pph0, pph1, pph2⟩ := PPh.out.cells
      have QQh : Hid (Var wh we.heap.size nq qo qlen qcap eq E 1024 (fval hi)) := QQg.out.later hbh
      obtain ⟨qqh0, qqh1, qqh2⟩ := QQh.out.cells
      have HBh : Hid (Below w.heap.size w wh) := HBg.out.trans (hbh.mono HBg.out.size)
      clear hbh XXg YYg PPg QQg HBg
      have ht1 : decide (0 < k1) = false := by first | exact HT1.out rfl | exact HT1.out trivial
      have ht2 : decide (k2 < 0) = false := by first | exact HT2.out rfl | exact HT2.out trivial
      go_wp2_with fail
      have XXi : Hid (Var wh.drew w1.heap.size nx ao len cap ex (E + E) 2048 (fval a * ((2 ^ E : Nat) : Int))) := XXh.out.drew
      have YYi : Hid (Var wh.drew w2.heap.size ny bo blen bcap ey E 1024 (fval b)) := YYh.out.drew
      have PPi : Hid (Var wh.drew wd.heap.size np po plen pcap ep E 1024 (fval lo)) := PPh.out.drew
      have QQi : Hid (Var wh.drew we.heap.size nq qo qlen qcap eq E 1024 (fval hi)) := QQh.out.drew
      have HBi : Hid (Below w.heap.size w wh.drew) := HBh.out.drew
      go_region_held3 (fun w' => w'.cell? ⟨w1.heap.size, 0, none⟩ = some (.bool nx) ∧ w'.cell? ⟨w1.heap.size, 1, none⟩ = some (.slice ao len cap) ∧ w'.cell? ⟨w1.heap.size, 2, none⟩ = some (.int .i64 ex) ∧ w'.cell? ⟨w2.heap.size, 0, none⟩ = some (.bool ny) ∧ w'.cell? ⟨w2.heap.size, 1, none⟩ = some (.slice bo blen bcap) ∧ w'.cell? ⟨w2.heap.size, 2, none⟩ = some (.int .i64 ey) ∧ w'.cell? ⟨wd.heap.size, 0, none⟩ = some (.bool np) ∧ w'.cell? ⟨wd.heap.size, 1, none⟩ = some (.slice po plen pcap) ∧ w'.cell? ⟨wd.heap.size, 2, none⟩ = some (.int .i64 ep) ∧ w'.cell? ⟨we.heap.size, 0, none⟩ = some (.bool nq) ∧ w'.cell? ⟨we.heap.size, 1, none⟩ = some (.slice qo qlen qcap) ∧ w'.cell? ⟨we.heap.size, 2, none⟩ = some (.int .i64 eq)) (go_keep)
        (first
          | (go_at_call_of 24 (Value.agg #[Value.bool np, Value.slice po plen pcap, Value.int IntKind.i64 ep]); refine (timesZ_any _ _ E 1024 1024 _ _ _ PPi.out.num YYi.out.num (by omega) (by omega) (by omega)).mono ?_; rintro ej1 wj1 ⟨vj1, rfl, hzj1, hbj1⟩; have XXj1 : Hid (Var wj1 w1.heap.size nx ao len cap ex (E + E) 2048 (fval a * ((2 ^ E : Nat) : Int))) := XXi.out.later hbj1; obtain ⟨xxj10, xxj11, xxj12⟩ := XXj1.out.cells; have YYj1 : Hid (Var wj1 w2.heap.size ny bo blen bcap ey E 1024 (fval b)) := YYi.out.later hbj1; obtain ⟨yyj10, yyj11, yyj12⟩ := YYj1.out.cells; have PPj1 : Hid (Var wj1 wd.heap.size np po plen pcap ep E 1024 (fval lo)) := PPi.out.later hbj1; obtain ⟨ppj10, ppj11, ppj12⟩ := PPj1.out.cells; have QQj1 : Hid (Var wj1 we.heap.size nq qo qlen qcap eq E 1024 (fval hi)) := QQi.out.later hbj1; obtain ⟨qqj10, qqj11, qqj12⟩ := QQj1.out.cells; have HBj1 : Hid (Below w.heap.size w wj1) := HBi.out.trans (hbj1.mono HBi.out.size); have Zj1 : Hid (NumZ wj1 vj1 (E + E) 2048 (fval lo * fval b)) := hzj1; clear hzj1 hbj1)
          | (go_at_call_of 13 vj1; refine (cmpZ_any _ _ (E + E) 2048 _ _ _ Zj1.out XXj1.out.num (by omega) (by omega)).mono ?_; rintro ej2 wj2 ⟨rfl, hbj2⟩; have XXj2 : Hid (Var wj2 w1.heap.size nx ao len cap ex (E + E) 2048 (fval a * ((2 ^ E : Nat) : Int))) := XXj1.out.later hbj2; obtain ⟨xxj20, xxj21, xxj22⟩ := XXj2.out.cells; have YYj2 : Hid (Var wj2 w2.heap.size ny bo blen bcap ey E 1024 (fval b)) := YYj1.out.later hbj2; obtain ⟨yyj20, yyj21, yyj22⟩ := YYj2.out.cells; have PPj2 : Hid (Var wj2 wd.heap.size np po plen pcap ep E 1024 (fval lo)) := PPj1.out.later hbj2; obtain ⟨ppj20, ppj21, ppj22⟩ := PPj2.out.cells; have QQj2 : Hid (Var wj2 we.heap.size nq qo qlen qcap eq E 1024 (fval hi)) := QQj1.out.later hbj2; obtain ⟨qqj20, qqj21, qqj22⟩ := QQj2.out.cells; have HBj2 : Hid (Below w.heap.size w wj2) := HBj1.out.trans (hbj2.mono HBj1.out.size); rw [H1.out]; clear hbj2)
          | (go_at_call_of 24 (Value.agg #[Value.bool nq, Value.slice qo qlen qcap, Value.int IntKind.i64 eq]); refine (timesZ_any _ _ E 1024 1024 _ _ _ QQj2.out.num YYj2.out.num (by omega) (by omega) (by omega)).mono ?_; rintro ej3 wj3 ⟨vj3, rfl, hzj3, hbj3⟩; have XXj3 : Hid (Var wj3 w1.heap.size nx ao len cap ex (E + E) 2048 (fval a * ((2 ^ E : Nat) : Int))) := XXj2.out.later hbj3; obtain ⟨xxj30, xxj31, xxj32⟩ := XXj3.out.cells; have YYj3 : Hid (Var wj3 w2.heap.size ny bo blen bcap ey E 1024 (fval b)) := YYj2.out.later hbj3; obtain ⟨yyj30, yyj31, yyj32⟩ := YYj3.out.cells; have PPj3 : Hid (Var wj3 wd.heap.size np po plen pcap ep E 1024 (fval lo)) := PPj2.out.later hbj3; obtain ⟨ppj30, ppj31, ppj32⟩ := PPj3.out.cells; have QQj3 : Hid (Var wj3 we.heap.size nq qo qlen qcap eq E 1024 (fval hi)) := QQj2.out.later hbj3; obtain ⟨qqj30, qqj31, qqj32⟩ := QQj3.out.cells; have HBj3 : Hid (Below w.heap.size w wj3) := HBj2.out.trans (hbj3.mono HBj2.out.size); have Zj3 : Hid (NumZ wj3 vj3 (E + E) 2048 (fval hi * fval b)) := hzj3; clear hzj3 hbj3)
          | (go_at_call_of 13 vj3; refine (cmpZ_any _ _ (E + E) 2048 _ _ _ Zj3.out XXj3.out.num (by omega) (by omega)).mono ?_; rintro ej4 wj4 ⟨rfl, hbj4⟩; have XXj4 : Hid (Var wj4 w1.heap.size nx ao len cap ex (E + E) 2048 (fval a * ((2 ^ E : Nat) : Int))) := XXj3.out.later hbj4; obtain ⟨xxj40, xxj41, xxj42⟩ := XXj4.out.cells; have YYj4 : Hid (Var wj4 w2.heap.size ny bo blen bcap ey E 1024 (fval b)) := YYj3.out.later hbj4; obtain ⟨yyj40, yyj41, yyj42⟩ := YYj4.out.cells; have PPj4 : Hid (Var wj4 wd.heap.size np po plen pcap ep E 1024 (fval lo)) := PPj3.out.later hbj4; obtain ⟨ppj40, ppj41, ppj42⟩ := PPj4.out.cells; have QQj4 : Hid (Var wj4 we.heap.size nq qo qlen qcap eq E 1024 (fval hi)) := QQj3.out.later hbj4; obtain ⟨qqj40, qqj41, qqj42⟩ := QQj4.out.cells; have HBj4 : Hid (Below w.heap.size w wj4) := HBj3.out.trans (hbj4.mono HBj3.out.size); rw [H2.out]; clear hbj4))
      have hT := HH.out.tight rfl rfl
      obtain ⟨c, hcd⟩ : ∃ c, ceilK (quoV E a b) (rmag (frung b)) f = c := ⟨_, rfl⟩
      rw [hcd] at hT
      obtain rfl : o0 = true := hT.near
      have hlS := hT.loS
      have hhS := hT.hiS
      have hmf := hT.fm
      have hmS := hT.mS
      simp only at hlS hhS hmf hmS
      have hlh : (FloatKind.f64.format.order lo hi != some .eq) = !decide (srung lo = srung hi) := ord_ne FLO.out.1 FHI.out.1
      rw [hlS, hhS] at hlh
      rcases hT.ends with hA | hA
      · rw [decide_eq_true hA.1.symm] at hlh
        simp only [Bool.not_true] at hlh
        clear hT hlS hhS hmf hmS hcd hA cp0
        go_wp2_with (go_at_call 11; refine (started_any _).mono ?_; rintro es ws ⟨rfl, rfl⟩)
        all_goals (go_ret; exact ⟨rfl, by first | exact HBj4.out | exact HBj4.out.drew⟩)
      obtain ⟨hcf, hz3, hz4⟩ := hA
      have hne : ¬ (f = c) := by omega
      rw [decide_eq_false hne] at hlh
      simp only [Bool.not_false] at hlh
      have e1 : k1 = -1 := by rw [Q1.out, fval_smag, hlS]; unfold sgi; rw [if_pos (by omega)]
      have e2 : k2 = 1 := by rw [Q2.out, fval_smag, hhS]; unfold sgi; rw [if_neg (by omega), if_neg (by omega)]
      have hn1 : (h1 != 0) = true := by rw [bne_iff_ne]; rintro rfl; have := HK1.out; rw [Int.mul_zero] at this; omega
      have hn2 : (h2 != 0) = true := by rw [bne_iff_ne]; rintro rfl; have := HK2.out; rw [Int.mul_zero] at this; omega
      obtain ⟨⟨nxt, on⟩, kn, -, cn⟩ := next_any 1 lo FLO.out.2
      simp only at cn
      obtain ⟨j1, j2, j3⟩ := next_up' hlS (kn FLO.out.1) hT.small.1 (by rw [← hcf]; exact hT.small.2.2.2)
      simp only at j1 j2 j3
      subst j1
      have hnx : (FloatKind.f64.format.order nxt hi == some .eq) = true := by rw [f64_fmt, ord_eq (Nat.le_of_lt j3) (Nat.le_of_lt FHI.out.1), j2, hhS]; exact decide_eq_true hcf.symm
      have hel : (FloatKind.f64.format.order m lo == some .eq) = decide (srung m = srung lo) := ord_eq (Nat.le_of_lt hmf.1) (Nat.le_of_lt FLO.out.1)
      have heh : (FloatKind.f64.format.order m hi == some .eq) = decide (srung m = srung hi) := ord_eq (Nat.le_of_lt hmf.1) (Nat.le_of_lt FHI.out.1)
      rw [hlS] at hel
      rw [hhS] at heh
      clear hT hlS hhS hmf hcd hz3 hz4 e1 e2 kn j2 j3 hwa hwb hwc hwd
      rcases hmS with hm | hm
      · rw [hm] at hel heh
        rw [decide_eq_true rfl] at hel
        rw [decide_eq_false hne] at heh
        clear hm hcf hne
        go_wp2_with fail
        refine (cn _).mono ?_
        rintro ec wc ⟨rfl, hwc⟩
        rw [hwc]
        clear hwc
        go_wp2_with fail
        refine (cp0 _).mono ?_
        rintro ec wc ⟨rfl, hwc⟩
        rw [hwc]
        clear hwc
        clear cn cp0
        go_wp2_with fail
        have XXk : Hid (Var wj4.drew w1.heap.size nx ao len cap ex (E + E) 2048 (fval a * ((2 ^ E : Nat) : Int))) := XXj4.out.drew
        have YYk : Hid (Var wj4.drew w2.heap.size ny bo blen bcap ey E 1024 (fval b)) := YYj4.out.drew
        have PPk : Hid (Var wj4.drew wd.heap.size np po plen pcap ep E 1024 (fval lo)) := PPj4.out.drew
        have QQk : Hid (Var wj4.drew we.heap.size nq qo qlen qcap eq E 1024 (fval hi)) := QQj4.out.drew
        have HBk : Hid (Below w.heap.size w wj4.drew) := HBj4.out.drew
        refine wp_region_held_drew (S := fun w' => w'.cell? ⟨w1.heap.size, 0, none⟩ = some (.bool nx) ∧ w'.cell? ⟨w1.heap.size, 1, none⟩ = some (.slice ao len cap) ∧ w'.cell? ⟨w1.heap.size, 2, none⟩ = some (.int .i64 ex) ∧ w'.cell? ⟨w2.heap.size, 0, none⟩ = some (.bool ny) ∧ w'.cell? ⟨w2.heap.size, 1, none⟩ = some (.slice bo blen bcap) ∧ w'.cell? ⟨w2.heap.size, 2, none⟩ = some (.int .i64 ey) ∧ w'.cell? ⟨wd.heap.size, 0, none⟩ = some (.bool np) ∧ w'.cell? ⟨wd.heap.size, 1, none⟩ = some (.slice po plen pcap) ∧ w'.cell? ⟨wd.heap.size, 2, none⟩ = some (.int .i64 ep) ∧ w'.cell? ⟨we.heap.size, 0, none⟩ = some (.bool nq) ∧ w'.cell? ⟨we.heap.size, 1, none⟩ = some (.slice qo qlen qcap) ∧ w'.cell? ⟨we.heap.size, 2, none⟩ = some (.int .i64 eq)) (by kernel_rfl) ?sSax (fun hHeld => ?_)
        case sSax => ((try dsimp only); go_keep)
        refine wpAnyH_take (i := 0) (oi := { dst := some 126, op := Op.move (Operand.tmp 19), type := 4, pos := "outright.go:108", after := #[], guard := none }) (v := ?v0ax) rfl (by kernel_rfl) (by kernel_rfl) (by kernel_rfl) (fun _ _ _ h => h) (Or.inl ⟨by rfl, ?y0ax⟩) (by assumption) ?r0ax
        case y0ax => (intro w0 hSw; (try dsimp only at hSw); (go_simp <;> with_reducible rfl))
        simp only [Act.put, List.setIfInBounds_toArray, List.set_cons_zero, List.set_cons_succ]
        refine wpAnyH_take (i := 1) (oi := { dst := some 127, op := Op.move (Operand.tmp 126), type := 4, pos := "outright.go:108", after := #[{ on := 0, ground := Ground.data }], guard := none }) (v := ?v1ax) rfl (by kernel_rfl) (by kernel_rfl) (by kernel_rfl) (fun _ _ _ h => h) (Or.inl ⟨by rfl, ?y1ax⟩) (by assumption) ?r1ax
        case y1ax => (intro w0 hSw; (try dsimp only at hSw); (go_simp <;> with_reducible rfl))
        simp only [Act.put, List.setIfInBounds_toArray, List.set_cons_zero, List.set_cons_succ]
        refine wpAnyH_take (i := 2) (oi := { dst := some 128, op := Op.move (Operand.tmp 18), type := 22, pos := "outright.go:108", after := #[{ on := 1, ground := Ground.guard }], guard := some (1, true) }) (v := ?v2ax) rfl (by kernel_rfl) (by kernel_rfl) (by kernel_rfl) (fun _ _ _ h => h) (Or.inl ⟨by rfl, ?y2ax⟩) (by assumption) ?r2ax
        case y2ax => (intro w0 hSw; (try dsimp only at hSw); (go_simp <;> with_reducible rfl))
        simp only [Act.put, List.setIfInBounds_toArray, List.set_cons_zero, List.set_cons_succ]
        refine wpAnyH_take (i := 3) (oi := { dst := some 129, op := Op.move (Operand.tmp 11), type := 22, pos := "outright.go:108", after := #[{ on := 1, ground := Ground.guard }], guard := some (1, true) }) (v := ?v3ax) rfl (by kernel_rfl) (by kernel_rfl) (by kernel_rfl) (fun _ _ _ h => h) (Or.inl ⟨by rfl, ?y3ax⟩) (by assumption) ?r3ax
        case y3ax => (intro w0 hSw; (try dsimp only at hSw); (go_simp <;> with_reducible rfl))
        simp only [Act.put, List.setIfInBounds_toArray, List.set_cons_zero, List.set_cons_succ]
        refine wpAnyH_take (i := 4) (oi := { dst := some 130, op := Op.binOp BinOp.eql 22 (Operand.tmp 128) (Operand.tmp 129) 22, type := 4, pos := "outright.go:108", after := #[{ on := 2, ground := Ground.data }, { on := 3, ground := Ground.data }, { on := 1, ground := Ground.guard }], guard := some (1, true) }) (v := ?v4ax) rfl (by kernel_rfl) (by kernel_rfl) (by kernel_rfl) (fun _ _ _ h => h) (Or.inl ⟨by rfl, ?y4ax⟩) (by assumption) ?r4ax
        case y4ax => (intro w0 hSw; (try dsimp only at hSw); (go_simp <;> with_reducible rfl))
        simp only [Act.put, List.setIfInBounds_toArray, List.set_cons_zero, List.set_cons_succ]
        refine wpAnyH_take (i := 5) (oi := { dst := some 131, op := Op.pick (Operand.tmp 127) (Operand.tmp 130) (Operand.const (Value.bool false)), type := 4, pos := "outright.go:108", after := #[{ on := 1, ground := Ground.data }, { on := 4, ground := Ground.data }], guard := none }) (v := ?v5ax) rfl (by kernel_rfl) (by kernel_rfl) (by kernel_rfl) (fun _ _ _ h => h) (Or.inl ⟨by rfl, ?y5ax⟩) (by assumption) ?r5ax
        case y5ax => (intro w0 hSw; (try dsimp only at hSw); (go_simp <;> with_reducible rfl))
        simp only [Act.put, List.setIfInBounds_toArray, List.set_cons_zero, List.set_cons_succ]
        refine wpAnyH_take (i := 6) (oi := { dst := some 132, op := Op.move (Operand.tmp 131), type := 4, pos := "outright.go:108", after := #[{ on := 5, ground := Ground.data }, { on := 1, ground := Ground.chain }], guard := none }) (v := ?v6ax) rfl (by kernel_rfl) (by kernel_rfl) (by kernel_rfl) (fun _ _ _ h => h) (Or.inl ⟨by rfl, ?y6ax⟩) (by assumption) ?r6ax
        case y6ax => (intro w0 hSw; (try dsimp only at hSw); (go_simp <;> with_reducible rfl))
        simp only [Act.put, List.setIfInBounds_toArray, List.set_cons_zero, List.set_cons_succ]
        refine wpAnyH_take (i := 7) (oi := { dst := some 133, op := Op.move (Operand.tmp 21), type := 4, pos := "outright.go:108", after := #[{ on := 6, ground := Ground.guard }], guard := some (6, true) }) (v := ?v7ax) rfl (by kernel_rfl) (by kernel_rfl) (by kernel_rfl) (fun _ _ _ h => h) (Or.inl ⟨by rfl, ?y7ax⟩) (by assumption) ?r7ax
        case y7ax => (intro w0 hSw; (try dsimp only at hSw); (go_simp <;> with_reducible rfl))
        simp only [Act.put, List.setIfInBounds_toArray, List.set_cons_zero, List.set_cons_succ]
        refine wpAnyH_take (i := 8) (oi := { dst := some 134, op := Op.pick (Operand.tmp 132) (Operand.tmp 133) (Operand.const (Value.bool false)), type := 4, pos := "outright.go:108", after := #[{ on := 6, ground := Ground.data }, { on := 7, ground := Ground.data }], guard := none }) (v := ?v8ax) rfl (by kernel_rfl) (by kernel_rfl) (by kernel_rfl) (fun _ _ _ h => h) (Or.inl ⟨by rfl, ?y8ax⟩) (by assumption) ?r8ax
        case y8ax => (intro w0 hSw; (try dsimp only at hSw); (go_simp <;> with_reducible rfl))
        simp only [Act.put, List.setIfInBounds_toArray, List.set_cons_zero, List.set_cons_succ]
        refine wpAnyH_take (i := 9) (oi := { dst := some 135, op := Op.move (Operand.tmp 134), type := 4, pos := "outright.go:108", after := #[{ on := 8, ground := Ground.data }, { on := 6, ground := Ground.chain }], guard := none }) (v := ?v9ax) rfl (by kernel_rfl) (by kernel_rfl) (by kernel_rfl) (fun _ _ _ h => h) (Or.inl ⟨by rfl, ?y9ax⟩) (by assumption) ?r9ax
        case y9ax => (intro w0 hSw; (try dsimp only at hSw); (go_simp <;> with_reducible rfl))
        simp only [Act.put, List.setIfInBounds_toArray, List.set_cons_zero, List.set_cons_succ]
        refine wpAnyH_take (i := 10) (oi := { dst := some 136, op := Op.move (Operand.tmp 20), type := 22, pos := "outright.go:108", after := #[{ on := 9, ground := Ground.guard }], guard := some (9, true) }) (v := ?v10ax) rfl (by kernel_rfl) (by kernel_rfl) (by kernel_rfl) (fun _ _ _ h => h) (Or.inl ⟨by rfl, ?y10ax⟩) (by assumption) ?r10ax
        case y10ax => (intro w0 hSw; (try dsimp only at hSw); (go_simp <;> with_reducible rfl))
        simp only [Act.put, List.setIfInBounds_toArray, List.set_cons_zero, List.set_cons_succ]
        refine wpAnyH_take (i := 11) (oi := { dst := some 137, op := Op.move (Operand.tmp 9), type := 22, pos := "outright.go:108", after := #[{ on := 9, ground := Ground.guard }], guard := some (9, true) }) (v := ?v11ax) rfl (by kernel_rfl) (by kernel_rfl) (by kernel_rfl) (fun _ _ _ h => h) (Or.inl ⟨by rfl, ?y11ax⟩) (by assumption) ?r11ax
        case y11ax => (intro w0 hSw; (try dsimp only at hSw); (go_simp <;> with_reducible rfl))
        simp only [Act.put, List.setIfInBounds_toArray, List.set_cons_zero, List.set_cons_succ]
        refine wpAnyH_take (i := 12) (oi := { dst := some 138, op := Op.binOp BinOp.eql 22 (Operand.tmp 136) (Operand.tmp 137) 22, type := 4, pos := "outright.go:108", after := #[{ on := 10, ground := Ground.data }, { on := 11, ground := Ground.data }, { on := 9, ground := Ground.guard }], guard := some (9, true) }) (v := ?v12ax) rfl (by kernel_rfl) (by kernel_rfl) (by kernel_rfl) (fun _ _ _ h => h) (Or.inl ⟨by rfl, ?y12ax⟩) (by assumption) ?r12ax
        case y12ax => (intro w0 hSw; (try dsimp only at hSw); (go_simp <;> with_reducible rfl))
        simp only [Act.put, List.setIfInBounds_toArray, List.set_cons_zero, List.set_cons_succ]
        refine wpAnyH_take (i := 13) (oi := { dst := some 139, op := Op.move (Operand.tmp 138), type := 4, pos := "outright.go:108", after := #[{ on := 12, ground := Ground.data }, { on := 9, ground := Ground.chain }, { on := 9, ground := Ground.guard }], guard := some (9, true) }) (v := ?v13ax) rfl (by kernel_rfl) (by kernel_rfl) (by kernel_rfl) (fun _ _ _ h => h) (Or.inl ⟨by rfl, ?y13ax⟩) (by assumption) ?r13ax
        case y13ax => (intro w0 hSw; (try dsimp only at hSw); (go_simp <;> with_reducible rfl))
        simp only [Act.put, List.setIfInBounds_toArray, List.set_cons_zero, List.set_cons_succ]
        refine wpAnyH_take (i := 14) (oi := { dst := some 140, op := Op.move (Operand.tmp 20), type := 22, pos := "outright.go:108", after := #[{ on := 13, ground := Ground.guard }], guard := some (13, false) }) (v := undef) rfl (by kernel_rfl) (by kernel_rfl) (by kernel_rfl) (fun _ _ _ h => h) (Or.inr ⟨by rfl, rfl⟩) (by assumption) ?r14ax
        simp only [Act.put, List.setIfInBounds_toArray, List.set_cons_zero, List.set_cons_succ]
        refine wpAnyH_take (i := 15) (oi := { dst := some 141, op := Op.move (Operand.tmp 11), type := 22, pos := "outright.go:108", after := #[{ on := 13, ground := Ground.guard }], guard := some (13, false) }) (v := undef) rfl (by kernel_rfl) (by kernel_rfl) (by kernel_rfl) (fun _ _ _ h => h) (Or.inr ⟨by rfl, rfl⟩) (by assumption) ?r15ax
        simp only [Act.put, List.setIfInBounds_toArray, List.set_cons_zero, List.set_cons_succ]
        refine wpAnyH_take (i := 16) (oi := { dst := some 142, op := Op.binOp BinOp.eql 22 (Operand.tmp 140) (Operand.tmp 141) 22, type := 4, pos := "outright.go:108", after := #[{ on := 14, ground := Ground.data }, { on := 15, ground := Ground.data }, { on := 13, ground := Ground.guard }], guard := some (13, false) }) (v := undef) rfl (by kernel_rfl) (by kernel_rfl) (by kernel_rfl) (fun _ _ _ h => h) (Or.inr ⟨by rfl, rfl⟩) (by assumption) ?r16ax
        simp only [Act.put, List.setIfInBounds_toArray, List.set_cons_zero, List.set_cons_succ]
        refine wpAnyH_take (i := 17) (oi := { dst := some 143, op := Op.pick (Operand.tmp 139) (Operand.const (Value.bool true)) (Operand.tmp 142), type := 4, pos := "outright.go:108", after := #[{ on := 13, ground := Ground.data }, { on := 16, ground := Ground.data }, { on := 9, ground := Ground.guard }], guard := some (9, true) }) (v := ?v17ax) rfl (by kernel_rfl) (by kernel_rfl) (by kernel_rfl) (fun _ _ _ h => h) (Or.inl ⟨by rfl, ?y17ax⟩) (by assumption) ?r17ax
        case y17ax => (intro w0 hSw; (try dsimp only at hSw); (go_simp <;> with_reducible rfl))
        simp only [Act.put, List.setIfInBounds_toArray, List.set_cons_zero, List.set_cons_succ]
        refine wpAnyH_take (i := 18) (oi := { dst := some 144, op := Op.pick (Operand.tmp 135) (Operand.tmp 143) (Operand.const (Value.bool false)), type := 4, pos := "outright.go:108", after := #[{ on := 9, ground := Ground.data }, { on := 17, ground := Ground.data }], guard := none }) (v := ?v18ax) rfl (by kernel_rfl) (by kernel_rfl) (by kernel_rfl) (fun _ _ _ h => h) (Or.inl ⟨by rfl, ?y18ax⟩) (by assumption) ?r18ax
        case y18ax => (intro w0 hSw; (try dsimp only at hSw); (go_simp <;> with_reducible rfl))
        simp only [Act.put, List.setIfInBounds_toArray, List.set_cons_zero, List.set_cons_succ]
        refine wpAnyH_take (i := 19) (oi := { dst := some 145, op := Op.move (Operand.tmp 144), type := 4, pos := "outright.go:108", after := #[{ on := 18, ground := Ground.data }, { on := 13, ground := Ground.chain }], guard := none }) (v := ?v19ax) rfl (by kernel_rfl) (by kernel_rfl) (by kernel_rfl) (fun _ _ _ h => h) (Or.inl ⟨by rfl, ?y19ax⟩) (by assumption) ?r19ax
        case y19ax => (intro w0 hSw; (try dsimp only at hSw); (go_simp <;> with_reducible rfl))
        simp only [Act.put, List.setIfInBounds_toArray, List.set_cons_zero, List.set_cons_succ]
        refine wpAnyH_take (i := 20) (oi := { dst := some 146, op := Op.load 25 (Operand.tmp 13), type := 25, pos := "outright.go:108", after := #[{ on := 19, ground := Ground.guard }], guard := some (19, true) }) (v := ?v20ax) rfl (by kernel_rfl) (by kernel_rfl) (by kernel_rfl) (fun _ _ _ h => h) (Or.inl ⟨by rfl, ?y20ax⟩) (by assumption) ?r20ax
        case y20ax => (intro w0 hSw; (try dsimp only at hSw); (go_simp <;> with_reducible rfl))
        simp only [Act.put, List.setIfInBounds_toArray, List.set_cons_zero, List.set_cons_succ]
        refine wpAnyH_take (i := 21) (oi := { dst := some 147, op := Op.load 25 (Operand.tmp 7), type := 25, pos := "outright.go:108", after := #[{ on := 19, ground := Ground.guard }], guard := some (19, true) }) (v := ?v21ax) rfl (by kernel_rfl) (by kernel_rfl) (by kernel_rfl) (fun _ _ _ h => h) (Or.inl ⟨by rfl, ?y21ax⟩) (by assumption) ?r21ax
        case y21ax => (intro w0 hSw; (try dsimp only at hSw); (go_simp <;> with_reducible rfl))
        simp only [Act.put, List.setIfInBounds_toArray, List.set_cons_zero, List.set_cons_succ]
        refine wpAnyH_take (i := 23) (oi := { dst := some 149, op := Op.load 25 (Operand.tmp 5), type := 25, pos := "outright.go:108", after := #[{ on := 19, ground := Ground.guard }], guard := some (19, true) }) (v := ?v23ax) rfl (by kernel_rfl) (by kernel_rfl) (by kernel_rfl) (fun _ _ _ h => h) (Or.inl ⟨by rfl, ?y23ax⟩) (by assumption) ?r23ax
        case y23ax => (intro w0 hSw; (try dsimp only at hSw); (go_simp <;> with_reducible rfl))
        simp only [Act.put, List.setIfInBounds_toArray, List.set_cons_zero, List.set_cons_succ]
        refine wpAnyH_ready (rs := [22]) (by kernel_rfl) (by simp) ?_
        refine AllReadyH.cons (o := { dst := some 148, op := Op.call { callee := Callee.value (Operand.func 24), args := #[Operand.tmp 146, Operand.tmp 147], argTypes := #[25, 25] }, type := 25, pos := "outright.go:108", after := #[{ on := 20, ground := Ground.data }, { on := 21, ground := Ground.data }, { on := 19, ground := Ground.chain }, { on := 19, ground := Ground.guard }], guard := some (19, true) }) rfl (fun K hK => ?st22ax) ?nl22ax
        case nl22ax => exact AllReadyH.nil
        go_simp
        (go_at_call_of 24 (Value.agg #[Value.bool np, Value.slice po plen pcap, Value.int IntKind.i64 ep]); refine (timesZ_any _ _ E 1024 1024 _ _ _ PPk.out.num YYk.out.num (by omega) (by omega) (by omega)).mono ?_; rintro em1 wm1 ⟨vm1, rfl, hzm1, hbm1⟩; have XXm1 : Hid (Var wm1 w1.heap.size nx ao len cap ex (E + E) 2048 (fval a * ((2 ^ E : Nat) : Int))) := XXk.out.later hbm1; obtain ⟨xxm10, xxm11, xxm12⟩ := XXm1.out.cells; have YYm1 : Hid (Var wm1 w2.heap.size ny bo blen bcap ey E 1024 (fval b)) := YYk.out.later hbm1; obtain ⟨yym10, yym11, yym12⟩ := YYm1.out.cells; have PPm1 : Hid (Var wm1 wd.heap.size np po plen pcap ep E 1024 (fval lo)) := PPk.out.later hbm1; obtain ⟨ppm10, ppm11, ppm12⟩ := PPm1.out.cells; have QQm1 : Hid (Var wm1 we.heap.size nq qo qlen qcap eq E 1024 (fval hi)) := QQk.out.later hbm1; obtain ⟨qqm10, qqm11, qqm12⟩ := QQm1.out.cells; have HBm1 : Hid (Below w.heap.size w wm1) := HBk.out.trans (hbm1.mono HBk.out.size); have Zm1 : Hid (NumZ wm1 vm1 (E + E) 2048 (fval lo * fval b)) := hzm1; clear hzm1 hbm1)
        refine hK.out _ _ ?sh22ax (fun hHeld => ?_)
        case sh22ax => ((try dsimp only); go_keep)
        clear hK K
        (try simp only [Act.put, List.setIfInBounds_toArray, List.set_cons_zero, List.set_cons_succ])
        refine wpAnyH_ready (rs := [24]) (by kernel_rfl) (by simp) ?_
        refine AllReadyH.cons (o := { dst := some 150, op := Op.call { callee := Callee.value (Operand.func 13), args := #[Operand.tmp 148, Operand.tmp 149], argTypes := #[25, 25] }, type := 3, pos := "outright.go:108", after := #[{ on := 22, ground := Ground.data }, { on := 23, ground := Ground.data }, { on := 22, ground := Ground.chain }, { on := 19, ground := Ground.guard }], guard := some (19, true) }) rfl (fun K hK => ?st24ax) ?nl24ax
        case nl24ax => exact AllReadyH.nil
        go_simp
        (go_at_call_of 13 vm1; refine (cmpZ_any _ _ (E + E) 2048 _ _ _ Zm1.out XXm1.out.num (by omega) (by omega)).mono ?_; rintro em2 wm2 ⟨rfl, hbm2⟩; have XXm2 : Hid (Var wm2 w1.heap.size nx ao len cap ex (E + E) 2048 (fval a * ((2 ^ E : Nat) : Int))) := XXm1.out.later hbm2; obtain ⟨xxm20, xxm21, xxm22⟩ := XXm2.out.cells; have YYm2 : Hid (Var wm2 w2.heap.size ny bo blen bcap ey E 1024 (fval b)) := YYm1.out.later hbm2; obtain ⟨yym20, yym21, yym22⟩ := YYm2.out.cells; have PPm2 : Hid (Var wm2 wd.heap.size np po plen pcap ep E 1024 (fval lo)) := PPm1.out.later hbm2; obtain ⟨ppm20, ppm21, ppm22⟩ := PPm2.out.cells; have QQm2 : Hid (Var wm2 we.heap.size nq qo qlen qcap eq E 1024 (fval hi)) := QQm1.out.later hbm2; obtain ⟨qqm20, qqm21, qqm22⟩ := QQm2.out.cells; have HBm2 : Hid (Below w.heap.size w wm2) := HBm1.out.trans (hbm2.mono HBm1.out.size); rw [H1.out]; clear hbm2)
        refine hK.out _ _ ?sh24ax (fun hHeld => ?_)
        case sh24ax => ((try dsimp only); go_keep)
        clear hK K
        (try simp only [Act.put, List.setIfInBounds_toArray, List.set_cons_zero, List.set_cons_succ])
        refine wpAnyH_take (i := 25) (oi := { dst := some 151, op := Op.binOp BinOp.neq 3 (Operand.tmp 150) (Operand.const (Value.int IntKind.i64 0)) 3, type := 4, pos := "outright.go:108", after := #[{ on := 24, ground := Ground.data }, { on := 19, ground := Ground.guard }], guard := some (19, true) }) (v := ?v25ax) rfl (by kernel_rfl) (by kernel_rfl) (by kernel_rfl) (fun _ _ _ h => h) (Or.inl ⟨by rfl, ?y25ax⟩) (by assumption) ?r25ax
        case y25ax => (intro w0 hSw; (try dsimp only at hSw); (go_simp <;> with_reducible rfl))
        simp only [Act.put, List.setIfInBounds_toArray, List.set_cons_zero, List.set_cons_succ]
        refine wpAnyH_take (i := 26) (oi := { dst := some 152, op := Op.pick (Operand.tmp 145) (Operand.tmp 151) (Operand.const (Value.bool false)), type := 4, pos := "outright.go:108", after := #[{ on := 19, ground := Ground.data }, { on := 25, ground := Ground.data }], guard := none }) (v := ?v26ax) rfl (by kernel_rfl) (by kernel_rfl) (by kernel_rfl) (fun _ _ _ h => h) (Or.inl ⟨by rfl, ?y26ax⟩) (by assumption) ?r26ax
        case y26ax => (intro w0 hSw; (try dsimp only at hSw); (go_simp <;> with_reducible rfl))
        simp only [Act.put, List.setIfInBounds_toArray, List.set_cons_zero, List.set_cons_succ]
        refine wpAnyH_take (i := 27) (oi := { dst := some 153, op := Op.move (Operand.tmp 152), type := 4, pos := "outright.go:108", after := #[{ on := 26, ground := Ground.data }, { on := 24, ground := Ground.chain }], guard := none }) (v := ?v27ax) rfl (by kernel_rfl) (by kernel_rfl) (by kernel_rfl) (fun _ _ _ h => h) (Or.inl ⟨by rfl, ?y27ax⟩) (by assumption) ?r27ax
        case y27ax => (intro w0 hSw; (try dsimp only at hSw); (go_simp <;> with_reducible rfl))
        simp only [Act.put, List.setIfInBounds_toArray, List.set_cons_zero, List.set_cons_succ]
        refine wpAnyH_take (i := 28) (oi := { dst := some 154, op := Op.load 25 (Operand.tmp 15), type := 25, pos := "outright.go:108", after := #[{ on := 27, ground := Ground.guard }], guard := some (27, true) }) (v := ?v28ax) rfl (by kernel_rfl) (by kernel_rfl) (by kernel_rfl) (fun _ _ _ h => h) (Or.inl ⟨by rfl, ?y28ax⟩) (by assumption) ?r28ax
        case y28ax => (intro w0 hSw; (try dsimp only at hSw); (go_simp <;> with_reducible rfl))
        simp only [Act.put, List.setIfInBounds_toArray, List.set_cons_zero, List.set_cons_succ]
        refine wpAnyH_take (i := 29) (oi := { dst := some 155, op := Op.load 25 (Operand.tmp 7), type := 25, pos := "outright.go:108", after := #[{ on := 27, ground := Ground.guard }], guard := some (27, true) }) (v := ?v29ax) rfl (by kernel_rfl) (by kernel_rfl) (by kernel_rfl) (fun _ _ _ h => h) (Or.inl ⟨by rfl, ?y29ax⟩) (by assumption) ?r29ax
        case y29ax => (intro w0 hSw; (try dsimp only at hSw); (go_simp <;> with_reducible rfl))
        simp only [Act.put, List.setIfInBounds_toArray, List.set_cons_zero, List.set_cons_succ]
        refine wpAnyH_take (i := 31) (oi := { dst := some 157, op := Op.load 25 (Operand.tmp 5), type := 25, pos := "outright.go:108", after := #[{ on := 27, ground := Ground.guard }], guard := some (27, true) }) (v := ?v31ax) rfl (by kernel_rfl) (by kernel_rfl) (by kernel_rfl) (fun _ _ _ h => h) (Or.inl ⟨by rfl, ?y31ax⟩) (by assumption) ?r31ax
        case y31ax => (intro w0 hSw; (try dsimp only at hSw); (go_simp <;> with_reducible rfl))
        simp only [Act.put, List.setIfInBounds_toArray, List.set_cons_zero, List.set_cons_succ]
        refine wpAnyH_ready (rs := [30]) (by kernel_rfl) (by simp) ?_
        refine AllReadyH.cons (o := { dst := some 156, op := Op.call { callee := Callee.value (Operand.func 24), args := #[Operand.tmp 154, Operand.tmp 155], argTypes := #[25, 25] }, type := 25, pos := "outright.go:108", after := #[{ on := 28, ground := Ground.data }, { on := 29, ground := Ground.data }, { on := 27, ground := Ground.chain }, { on := 27, ground := Ground.guard }], guard := some (27, true) }) rfl (fun K hK => ?st30ax) ?nl30ax
        case nl30ax => exact AllReadyH.nil
        go_simp
        (go_at_call_of 24 (Value.agg #[Value.bool nq, Value.slice qo qlen qcap, Value.int IntKind.i64 eq]); refine (timesZ_any _ _ E 1024 1024 _ _ _ QQm2.out.num YYm2.out.num (by omega) (by omega) (by omega)).mono ?_; rintro em3 wm3 ⟨vm3, rfl, hzm3, hbm3⟩; have XXm3 : Hid (Var wm3 w1.heap.size nx ao len cap ex (E + E) 2048 (fval a * ((2 ^ E : Nat) : Int))) := XXm2.out.later hbm3; obtain ⟨xxm30, xxm31, xxm32⟩ := XXm3.out.cells; have YYm3 : Hid (Var wm3 w2.heap.size ny bo blen bcap ey E 1024 (fval b)) := YYm2.out.later hbm3; obtain ⟨yym30, yym31, yym32⟩ := YYm3.out.cells; have PPm3 : Hid (Var wm3 wd.heap.size np po plen pcap ep E 1024 (fval lo)) := PPm2.out.later hbm3; obtain ⟨ppm30, ppm31, ppm32⟩ := PPm3.out.cells; have QQm3 : Hid (Var wm3 we.heap.size nq qo qlen qcap eq E 1024 (fval hi)) := QQm2.out.later hbm3; obtain ⟨qqm30, qqm31, qqm32⟩ := QQm3.out.cells; have HBm3 : Hid (Below w.heap.size w wm3) := HBm2.out.trans (hbm3.mono HBm2.out.size); have Zm3 : Hid (NumZ wm3 vm3 (E + E) 2048 (fval hi * fval b)) := hzm3; clear hzm3 hbm3)
        refine hK.out _ _ ?sh30ax (fun hHeld => ?_)
        case sh30ax => ((try dsimp only); go_keep)
        clear hK K
        (try simp only [Act.put, List.setIfInBounds_toArray, List.set_cons_zero, List.set_cons_succ])
        refine wpAnyH_ready (rs := [32]) (by kernel_rfl) (by simp) ?_
        refine AllReadyH.cons (o := { dst := some 158, op := Op.call { callee := Callee.value (Operand.func 13), args := #[Operand.tmp 156, Operand.tmp 157], argTypes := #[25, 25] }, type := 3, pos := "outright.go:108", after := #[{ on := 30, ground := Ground.data }, { on := 31, ground := Ground.data }, { on := 30, ground := Ground.chain }, { on := 27, ground := Ground.guard }], guard := some (27, true) }) rfl (fun K hK => ?st32ax) ?nl32ax
        case nl32ax => exact AllReadyH.nil
        go_simp
        (go_at_call_of 13 vm3; refine (cmpZ_any _ _ (E + E) 2048 _ _ _ Zm3.out XXm3.out.num (by omega) (by omega)).mono ?_; rintro em4 wm4 ⟨rfl, hbm4⟩; have XXm4 : Hid (Var wm4 w1.heap.size nx ao len cap ex (E + E) 2048 (fval a * ((2 ^ E : Nat) : Int))) := XXm3.out.later hbm4; obtain ⟨xxm40, xxm41, xxm42⟩ := XXm4.out.cells; have YYm4 : Hid (Var wm4 w2.heap.size ny bo blen bcap ey E 1024 (fval b)) := YYm3.out.later hbm4; obtain ⟨yym40, yym41, yym42⟩ := YYm4.out.cells; have PPm4 : Hid (Var wm4 wd.heap.size np po plen pcap ep E 1024 (fval lo)) := PPm3.out.later hbm4; obtain ⟨ppm40, ppm41, ppm42⟩ := PPm4.out.cells; have QQm4 : Hid (Var wm4 we.heap.size nq qo qlen qcap eq E 1024 (fval hi)) := QQm3.out.later hbm4; obtain ⟨qqm40, qqm41, qqm42⟩ := QQm4.out.cells; have HBm4 : Hid (Below w.heap.size w wm4) := HBm3.out.trans (hbm4.mono HBm3.out.size); rw [H2.out]; clear hbm4)
        refine hK.out _ _ ?sh32ax (fun hHeld => ?_)
        case sh32ax => ((try dsimp only); go_keep)
        clear hK K
        (try simp only [Act.put, List.setIfInBounds_toArray, List.set_cons_zero, List.set_cons_succ])
        refine wpAnyH_take (i := 33) (oi := { dst := some 159, op := Op.binOp BinOp.neq 3 (Operand.tmp 158) (Operand.const (Value.int IntKind.i64 0)) 3, type := 4, pos := "outright.go:108", after := #[{ on := 32, ground := Ground.data }, { on := 27, ground := Ground.guard }], guard := some (27, true) }) (v := ?v33ax) rfl (by kernel_rfl) (by kernel_rfl) (by kernel_rfl) (fun _ _ _ h => h) (Or.inl ⟨by rfl, ?y33ax⟩) (by assumption) ?r33ax
        case y33ax => (intro w0 hSw; (try dsimp only at hSw); (go_simp <;> with_reducible rfl))
        simp only [Act.put, List.setIfInBounds_toArray, List.set_cons_zero, List.set_cons_succ]
        refine wpAnyH_take (i := 34) (oi := { dst := some 160, op := Op.pick (Operand.tmp 153) (Operand.tmp 159) (Operand.const (Value.bool false)), type := 4, pos := "outright.go:108", after := #[{ on := 27, ground := Ground.data }, { on := 33, ground := Ground.data }], guard := none }) (v := ?v34ax) rfl (by kernel_rfl) (by kernel_rfl) (by kernel_rfl) (fun _ _ _ h => h) (Or.inl ⟨by rfl, ?y34ax⟩) (by assumption) ?r34ax
        case y34ax => (intro w0 hSw; (try dsimp only at hSw); (go_simp <;> with_reducible rfl))
        simp only [Act.put, List.setIfInBounds_toArray, List.set_cons_zero, List.set_cons_succ]
        refine wpAnyH_take (i := 35) (oi := { dst := some 161, op := Op.move (Operand.tmp 160), type := 4, pos := "outright.go:108", after := #[{ on := 34, ground := Ground.data }, { on := 32, ground := Ground.chain }], guard := none }) (v := ?v35ax) rfl (by kernel_rfl) (by kernel_rfl) (by kernel_rfl) (fun _ _ _ h => h) (Or.inl ⟨by rfl, ?y35ax⟩) (by assumption) ?r35ax
        case y35ax => (intro w0 hSw; (try dsimp only at hSw); (go_simp <;> with_reducible rfl))
        simp only [Act.put, List.setIfInBounds_toArray, List.set_cons_zero, List.set_cons_succ]
        refine wpAnyH_ready (rs := [36]) (by kernel_rfl) (by simp) ?_
        refine AllReadyH.cons (o := { dst := some 162, op := Op.call { callee := Callee.value (Operand.func 11), args := #[], argTypes := #[] }, type := 4, pos := "outright.go:108", after := #[{ on := 35, ground := Ground.chain }, { on := 35, ground := Ground.guard }], guard := some (35, true) }) rfl (fun K hK => ?st36ax) ?nl36ax
        case nl36ax => exact AllReadyH.nil
        go_simp
        (go_at_call 11; refine (started_any _).mono ?_; rintro es ws ⟨rfl, rfl⟩)
        refine hK.out _ _ ?sh36ax (fun hHeld => ?_)
        case sh36ax => ((try dsimp only); go_keep)
        clear hK K
        (try simp only [Act.put, List.setIfInBounds_toArray, List.set_cons_zero, List.set_cons_succ])
        refine wpAnyH_take (i := 37) (oi := { dst := some 163, op := Op.pick (Operand.tmp 161) (Operand.tmp 162) (Operand.const (Value.bool false)), type := 4, pos := "outright.go:108", after := #[{ on := 35, ground := Ground.data }, { on := 36, ground := Ground.data }], guard := none }) (v := ?v37ax) rfl (by kernel_rfl) (by kernel_rfl) (by kernel_rfl) (fun _ _ _ h => h) (Or.inl ⟨by rfl, ?y37ax⟩) (by assumption) ?r37ax
        case y37ax => (intro w0 hSw; (try dsimp only at hSw); (go_simp <;> with_reducible rfl))
        simp only [Act.put, List.setIfInBounds_toArray, List.set_cons_zero, List.set_cons_succ]
        refine wpAnyH_take (i := 38) (oi := { dst := some 4, op := Op.assign (Operand.tmp 163), type := 4, pos := "outright.go:108", after := #[{ on := 37, ground := Ground.data }, { on := 36, ground := Ground.chain }, { on := 0, ground := Ground.phase }, { on := 1, ground := Ground.phase }, { on := 2, ground := Ground.phase }, { on := 3, ground := Ground.phase }, { on := 4, ground := Ground.phase }, { on := 5, ground := Ground.phase }, { on := 6, ground := Ground.phase }, { on := 7, ground := Ground.phase }, { on := 8, ground := Ground.phase }, { on := 9, ground := Ground.phase }, { on := 10, ground := Ground.phase }, { on := 11, ground := Ground.phase }, { on := 12, ground := Ground.phase }, { on := 13, ground := Ground.phase }, { on := 14, ground := Ground.phase }, { on := 15, ground := Ground.phase }, { on := 16, ground := Ground.phase }, { on := 17, ground := Ground.phase }, { on := 18, ground := Ground.phase }, { on := 19, ground := Ground.phase }, { on := 20, ground := Ground.phase }, { on := 21, ground := Ground.phase }, { on := 22, ground := Ground.phase }, { on := 23, ground := Ground.phase }, { on := 24, ground := Ground.phase }, { on := 25, ground := Ground.phase }, { on := 26, ground := Ground.phase }, { on := 27, ground := Ground.phase }, { on := 28, ground := Ground.phase }, { on := 29, ground := Ground.phase }, { on := 30, ground := Ground.phase }, { on := 31, ground := Ground.phase }, { on := 32, ground := Ground.phase }, { on := 33, ground := Ground.phase }, { on := 34, ground := Ground.phase }, { on := 35, ground := Ground.phase }, { on := 36, ground := Ground.phase }, { on := 37, ground := Ground.phase }], guard := none }) (v := ?v38ax) rfl (by kernel_rfl) (by kernel_rfl) (by kernel_rfl) (fun _ _ _ h => h) (Or.inl ⟨by rfl, ?y38ax⟩) (by assumption) ?r38ax
        case y38ax => (intro w0 hSw; (try dsimp only at hSw); (go_simp <;> with_reducible rfl))
        simp only [Act.put, List.setIfInBounds_toArray, List.set_cons_zero, List.set_cons_succ]
        refine wpAnyH_done (by kernel_rfl) ?_ _
        go_wp2_with fail
        all_goals (go_ret; exact ⟨rfl, by first | exact HBm4.out | exact HBm4.out.drew⟩)
      · rw [hm] at hel heh
        rw [decide_eq_false (fun h => hne h.symm)] at hel
        rw [decide_eq_true rfl] at heh
        clear hm hcf hne
        go_wp2_with fail
        refine (cn _).mono ?_
        rintro ec wc ⟨rfl, hwc⟩
        rw [hwc]
        clear hwc
        go_wp2_with fail
        refine (cp0 _).mono ?_
        rintro ec wc ⟨rfl, hwc⟩
        rw [hwc]
        clear hwc
        clear cn cp0
        go_wp2_with fail
        have XXk : Hid (Var wj4.drew w1.heap.size nx ao len cap ex (E + E) 2048 (fval a * ((2 ^ E : Nat) : Int))) := XXj4.out.drew
        have YYk : Hid (Var wj4.drew w2.heap.size ny bo blen bcap ey E 1024 (fval b)) := YYj4.out.drew
        have PPk : Hid (Var wj4.drew wd.heap.size np po plen pcap ep E 1024 (fval lo)) := PPj4.out.drew
        have QQk : Hid (Var wj4.drew we.heap.size nq qo qlen qcap eq E 1024 (fval hi)) := QQj4.out.drew
        have HBk : Hid (Below w.heap.size w wj4.drew) := HBj4.out.drew
        refine wp_region_held_drew (S := fun w' => w'.cell? ⟨w1.heap.size, 0, none⟩ = some (.bool nx) ∧ w'.cell? ⟨w1.heap.size, 1, none⟩ = some (.slice ao len cap) ∧ w'.cell? ⟨w1.heap.size, 2, none⟩ = some (.int .i64 ex) ∧ w'.cell? ⟨w2.heap.size, 0, none⟩ = some (.bool ny) ∧ w'.cell? ⟨w2.heap.size, 1, none⟩ = some (.slice bo blen bcap) ∧ w'.cell? ⟨w2.heap.size, 2, none⟩ = some (.int .i64 ey) ∧ w'.cell? ⟨wd.heap.size, 0, none⟩ = some (.bool np) ∧ w'.cell? ⟨wd.heap.size, 1, none⟩ = some (.slice po plen pcap) ∧ w'.cell? ⟨wd.heap.size, 2, none⟩ = some (.int .i64 ep) ∧ w'.cell? ⟨we.heap.size, 0, none⟩ = some (.bool nq) ∧ w'.cell? ⟨we.heap.size, 1, none⟩ = some (.slice qo qlen qcap) ∧ w'.cell? ⟨we.heap.size, 2, none⟩ = some (.int .i64 eq)) (by kernel_rfl) ?sSaxx (fun hHeld => ?_)
        case sSaxx => ((try dsimp only); go_keep)
        refine wpAnyH_take (i := 0) (oi := { dst := some 126, op := Op.move (Operand.tmp 19), type := 4, pos := "outright.go:108", after := #[], guard := none }) (v := ?v0axx) rfl (by kernel_rfl) (by kernel_rfl) (by kernel_rfl) (fun _ _ _ h => h) (Or.inl ⟨by rfl, ?y0axx⟩) (by assumption) ?r0axx
        case y0axx => (intro w0 hSw; (try dsimp only at hSw); (go_simp <;> with_reducible rfl))
        simp only [Act.put, List.setIfInBounds_toArray, List.set_cons_zero, List.set_cons_succ]
        refine wpAnyH_take (i := 1) (oi := { dst := some 127, op := Op.move (Operand.tmp 126), type := 4, pos := "outright.go:108", after := #[{ on := 0, ground := Ground.data }], guard := none }) (v := ?v1axx) rfl (by kernel_rfl) (by kernel_rfl) (by kernel_rfl) (fun _ _ _ h => h) (Or.inl ⟨by rfl, ?y1axx⟩) (by assumption) ?r1axx
        case y1axx => (intro w0 hSw; (try dsimp only at hSw); (go_simp <;> with_reducible rfl))
        simp only [Act.put, List.setIfInBounds_toArray, List.set_cons_zero, List.set_cons_succ]
        refine wpAnyH_take (i := 2) (oi := { dst := some 128, op := Op.move (Operand.tmp 18), type := 22, pos := "outright.go:108", after := #[{ on := 1, ground := Ground.guard }], guard := some (1, true) }) (v := ?v2axx) rfl (by kernel_rfl) (by kernel_rfl) (by kernel_rfl) (fun _ _ _ h => h) (Or.inl ⟨by rfl, ?y2axx⟩) (by assumption) ?r2axx
        case y2axx => (intro w0 hSw; (try dsimp only at hSw); (go_simp <;> with_reducible rfl))
        simp only [Act.put, List.setIfInBounds_toArray, List.set_cons_zero, List.set_cons_succ]
        refine wpAnyH_take (i := 3) (oi := { dst := some 129, op := Op.move (Operand.tmp 11), type := 22, pos := "outright.go:108", after := #[{ on := 1, ground := Ground.guard }], guard := some (1, true) }) (v := ?v3axx) rfl (by kernel_rfl) (by kernel_rfl) (by kernel_rfl) (fun _ _ _ h => h) (Or.inl ⟨by rfl, ?y3axx⟩) (by assumption) ?r3axx
        case y3axx => (intro w0 hSw; (try dsimp only at hSw); (go_simp <;> with_reducible rfl))
        simp only [Act.put, List.setIfInBounds_toArray, List.set_cons_zero, List.set_cons_succ]
        refine wpAnyH_take (i := 4) (oi := { dst := some 130, op := Op.binOp BinOp.eql 22 (Operand.tmp 128) (Operand.tmp 129) 22, type := 4, pos := "outright.go:108", after := #[{ on := 2, ground := Ground.data }, { on := 3, ground := Ground.data }, { on := 1, ground := Ground.guard }], guard := some (1, true) }) (v := ?v4axx) rfl (by kernel_rfl) (by kernel_rfl) (by kernel_rfl) (fun _ _ _ h => h) (Or.inl ⟨by rfl, ?y4axx⟩) (by assumption) ?r4axx
        case y4axx => (intro w0 hSw; (try dsimp only at hSw); (go_simp <;> with_reducible rfl))
        simp only [Act.put, List.setIfInBounds_toArray, List.set_cons_zero, List.set_cons_succ]
        refine wpAnyH_take (i := 5) (oi := { dst := some 131, op := Op.pick (Operand.tmp 127) (Operand.tmp 130) (Operand.const (Value.bool false)), type := 4, pos := "outright.go:108", after := #[{ on := 1, ground := Ground.data }, { on := 4, ground := Ground.data }], guard := none }) (v := ?v5axx) rfl (by kernel_rfl) (by kernel_rfl) (by kernel_rfl) (fun _ _ _ h => h) (Or.inl ⟨by rfl, ?y5axx⟩) (by assumption) ?r5axx
        case y5axx => (intro w0 hSw; (try dsimp only at hSw); (go_simp <;> with_reducible rfl))
        simp only [Act.put, List.setIfInBounds_toArray, List.set_cons_zero, List.set_cons_succ]
        refine wpAnyH_take (i := 6) (oi := { dst := some 132, op := Op.move (Operand.tmp 131), type := 4, pos := "outright.go:108", after := #[{ on := 5, ground := Ground.data }, { on := 1, ground := Ground.chain }], guard := none }) (v := ?v6axx) rfl (by kernel_rfl) (by kernel_rfl) (by kernel_rfl) (fun _ _ _ h => h) (Or.inl ⟨by rfl, ?y6axx⟩) (by assumption) ?r6axx
        case y6axx => (intro w0 hSw; (try dsimp only at hSw); (go_simp <;> with_reducible rfl))
        simp only [Act.put, List.setIfInBounds_toArray, List.set_cons_zero, List.set_cons_succ]
        refine wpAnyH_take (i := 7) (oi := { dst := some 133, op := Op.move (Operand.tmp 21), type := 4, pos := "outright.go:108", after := #[{ on := 6, ground := Ground.guard }], guard := some (6, true) }) (v := ?v7axx) rfl (by kernel_rfl) (by kernel_rfl) (by kernel_rfl) (fun _ _ _ h => h) (Or.inl ⟨by rfl, ?y7axx⟩) (by assumption) ?r7axx
        case y7axx => (intro w0 hSw; (try dsimp only at hSw); (go_simp <;> with_reducible rfl))
        simp only [Act.put, List.setIfInBounds_toArray, List.set_cons_zero, List.set_cons_succ]
        refine wpAnyH_take (i := 8) (oi := { dst := some 134, op := Op.pick (Operand.tmp 132) (Operand.tmp 133) (Operand.const (Value.bool false)), type := 4, pos := "outright.go:108", after := #[{ on := 6, ground := Ground.data }, { on := 7, ground := Ground.data }], guard := none }) (v := ?v8axx) rfl (by kernel_rfl) (by kernel_rfl) (by kernel_rfl) (fun _ _ _ h => h) (Or.inl ⟨by rfl, ?y8axx⟩) (by assumption) ?r8axx
        case y8axx => (intro w0 hSw; (try dsimp only at hSw); (go_simp <;> with_reducible rfl))
        simp only [Act.put, List.setIfInBounds_toArray, List.set_cons_zero, List.set_cons_succ]
        refine wpAnyH_take (i := 9) (oi := { dst := some 135, op := Op.move (Operand.tmp 134), type := 4, pos := "outright.go:108", after := #[{ on := 8, ground := Ground.data }, { on := 6, ground := Ground.chain }], guard := none }) (v := ?v9axx) rfl (by kernel_rfl) (by kernel_rfl) (by kernel_rfl) (fun _ _ _ h => h) (Or.inl ⟨by rfl, ?y9axx⟩) (by assumption) ?r9axx
        case y9axx => (intro w0 hSw; (try dsimp only at hSw); (go_simp <;> with_reducible rfl))
        simp only [Act.put, List.setIfInBounds_toArray, List.set_cons_zero, List.set_cons_succ]
        refine wpAnyH_take (i := 10) (oi := { dst := some 136, op := Op.move (Operand.tmp 20), type := 22, pos := "outright.go:108", after := #[{ on := 9, ground := Ground.guard }], guard := some (9, true) }) (v := ?v10axx) rfl (by kernel_rfl) (by kernel_rfl) (by kernel_rfl) (fun _ _ _ h => h) (Or.inl ⟨by rfl, ?y10axx⟩) (by assumption) ?r10axx
        case y10axx => (intro w0 hSw; (try dsimp only at hSw); (go_simp <;> with_reducible rfl))
        simp only [Act.put, List.setIfInBounds_toArray, List.set_cons_zero, List.set_cons_succ]
        refine wpAnyH_take (i := 11) (oi := { dst := some 137, op := Op.move (Operand.tmp 9), type := 22, pos := "outright.go:108", after := #[{ on := 9, ground := Ground.guard }], guard := some (9, true) }) (v := ?v11axx) rfl (by kernel_rfl) (by kernel_rfl) (by kernel_rfl) (fun _ _ _ h => h) (Or.inl ⟨by rfl, ?y11axx⟩) (by assumption) ?r11axx
        case y11axx => (intro w0 hSw; (try dsimp only at hSw); (go_simp <;> with_reducible rfl))
        simp only [Act.put, List.setIfInBounds_toArray, List.set_cons_zero, List.set_cons_succ]
        refine wpAnyH_take (i := 12) (oi := { dst := some 138, op := Op.binOp BinOp.eql 22 (Operand.tmp 136) (Operand.tmp 137) 22, type := 4, pos := "outright.go:108", after := #[{ on := 10, ground := Ground.data }, { on := 11, ground := Ground.data }, { on := 9, ground := Ground.guard }], guard := some (9, true) }) (v := ?v12axx) rfl (by kernel_rfl) (by kernel_rfl) (by kernel_rfl) (fun _ _ _ h => h) (Or.inl ⟨by rfl, ?y12axx⟩) (by assumption) ?r12axx
        case y12axx => (intro w0 hSw; (try dsimp only at hSw); (go_simp <;> with_reducible rfl))
        simp only [Act.put, List.setIfInBounds_toArray, List.set_cons_zero, List.set_cons_succ]
        refine wpAnyH_take (i := 13) (oi := { dst := some 139, op := Op.move (Operand.tmp 138), type := 4, pos := "outright.go:108", after := #[{ on := 12, ground := Ground.data }, { on := 9, ground := Ground.chain }, { on := 9, ground := Ground.guard }], guard := some (9, true) }) (v := ?v13axx) rfl (by kernel_rfl) (by kernel_rfl) (by kernel_rfl) (fun _ _ _ h => h) (Or.inl ⟨by rfl, ?y13axx⟩) (by assumption) ?r13axx
        case y13axx => (intro w0 hSw; (try dsimp only at hSw); (go_simp <;> with_reducible rfl))
        simp only [Act.put, List.setIfInBounds_toArray, List.set_cons_zero, List.set_cons_succ]
        refine wpAnyH_take (i := 14) (oi := { dst := some 140, op := Op.move (Operand.tmp 20), type := 22, pos := "outright.go:108", after := #[{ on := 13, ground := Ground.guard }], guard := some (13, false) }) (v := ?v14axx) rfl (by kernel_rfl) (by kernel_rfl) (by kernel_rfl) (fun _ _ _ h => h) (Or.inl ⟨by rfl, ?y14axx⟩) (by assumption) ?r14axx
        case y14axx => (intro w0 hSw; (try dsimp only at hSw); (go_simp <;> with_reducible rfl))
        simp only [Act.put, List.setIfInBounds_toArray, List.set_cons_zero, List.set_cons_succ]
        refine wpAnyH_take (i := 15) (oi := { dst := some 141, op := Op.move (Operand.tmp 11), type := 22, pos := "outright.go:108", after := #[{ on := 13, ground := Ground.guard }], guard := some (13, false) }) (v := ?v15axx) rfl (by kernel_rfl) (by kernel_rfl) (by kernel_rfl) (fun _ _ _ h => h) (Or.inl ⟨by rfl, ?y15axx⟩) (by assumption) ?r15axx
        case y15axx => (intro w0 hSw; (try dsimp only at hSw); (go_simp <;> with_reducible rfl))
        simp only [Act.put, List.setIfInBounds_toArray, List.set_cons_zero, List.set_cons_succ]
        refine wpAnyH_take (i := 16) (oi := { dst := some 142, op := Op.binOp BinOp.eql 22 (Operand.tmp 140) (Operand.tmp 141) 22, type := 4, pos := "outright.go:108", after := #[{ on := 14, ground := Ground.data }, { on := 15, ground := Ground.data }, { on := 13, ground := Ground.guard }], guard := some (13, false) }) (v := ?v16axx) rfl (by kernel_rfl) (by kernel_rfl) (by kernel_rfl) (fun _ _ _ h => h) (Or.inl ⟨by rfl, ?y16axx⟩) (by assumption) ?r16axx
        case y16axx => (intro w0 hSw; (try dsimp only at hSw); (go_simp <;> with_reducible rfl))
        simp only [Act.put, List.setIfInBounds_toArray, List.set_cons_zero, List.set_cons_succ]
        refine wpAnyH_take (i := 17) (oi := { dst := some 143, op := Op.pick (Operand.tmp 139) (Operand.const (Value.bool true)) (Operand.tmp 142), type := 4, pos := "outright.go:108", after := #[{ on := 13, ground := Ground.data }, { on := 16, ground := Ground.data }, { on := 9, ground := Ground.guard }], guard := some (9, true) }) (v := ?v17axx) rfl (by kernel_rfl) (by kernel_rfl) (by kernel_rfl) (fun _ _ _ h => h) (Or.inl ⟨by rfl, ?y17axx⟩) (by assumption) ?r17axx
        case y17axx => (intro w0 hSw; (try dsimp only at hSw); (go_simp <;> with_reducible rfl))
        simp only [Act.put, List.setIfInBounds_toArray, List.set_cons_zero, List.set_cons_succ]
        refine wpAnyH_take (i := 18) (oi := { dst := some 144, op := Op.pick (Operand.tmp 135) (Operand.tmp 143) (Operand.const (Value.bool false)), type := 4, pos := "outright.go:108", after := #[{ on := 9, ground := Ground.data }, { on := 17, ground := Ground.data }], guard := none }) (v := ?v18axx) rfl (by kernel_rfl) (by kernel_rfl) (by kernel_rfl) (fun _ _ _ h => h) (Or.inl ⟨by rfl, ?y18axx⟩) (by assumption) ?r18axx
        case y18axx => (intro w0 hSw; (try dsimp only at hSw); (go_simp <;> with_reducible rfl))
        simp only [Act.put, List.setIfInBounds_toArray, List.set_cons_zero, List.set_cons_succ]
        refine wpAnyH_take (i := 19) (oi := { dst := some 145, op := Op.move (Operand.tmp 144), type := 4, pos := "outright.go:108", after := #[{ on := 18, ground := Ground.data }, { on := 13, ground := Ground.chain }], guard := none }) (v := ?v19axx) rfl (by kernel_rfl) (by kernel_rfl) (by kernel_rfl) (fun _ _ _ h => h) (Or.inl ⟨by rfl, ?y19axx⟩) (by assumption) ?r19axx
        case y19axx => (intro w0 hSw; (try dsimp only at hSw); (go_simp <;> with_reducible rfl))
        simp only [Act.put, List.setIfInBounds_toArray, List.set_cons_zero, List.set_cons_succ]
        refine wpAnyH_take (i := 20) (oi := { dst := some 146, op := Op.load 25 (Operand.tmp 13), type := 25, pos := "outright.go:108", after := #[{ on := 19, ground := Ground.guard }], guard := some (19, true) }) (v := ?v20axx) rfl (by kernel_rfl) (by kernel_rfl) (by kernel_rfl) (fun _ _ _ h => h) (Or.inl ⟨by rfl, ?y20axx⟩) (by assumption) ?r20axx
        case y20axx => (intro w0 hSw; (try dsimp only at hSw); (go_simp <;> with_reducible rfl))
        simp only [Act.put, List.setIfInBounds_toArray, List.set_cons_zero, List.set_cons_succ]
        refine wpAnyH_take (i := 21) (oi := { dst := some 147, op := Op.load 25 (Operand.tmp 7), type := 25, pos := "outright.go:108", after := #[{ on := 19, ground := Ground.guard }], guard := some (19, true) }) (v := ?v21axx) rfl (by kernel_rfl) (by kernel_rfl) (by kernel_rfl) (fun _ _ _ h => h) (Or.inl ⟨by rfl, ?y21axx⟩) (by assumption) ?r21axx
        case y21axx => (intro w0 hSw; (try dsimp only at hSw); (go_simp <;> with_reducible rfl))
        simp only [Act.put, List.setIfInBounds_toArray, List.set_cons_zero, List.set_cons_succ]
        refine wpAnyH_take (i := 23) (oi := { dst := some 149, op := Op.load 25 (Operand.tmp 5), type := 25, pos := "outright.go:108", after := #[{ on := 19, ground := Ground.guard }], guard := some (19, true) }) (v := ?v23axx) rfl (by kernel_rfl) (by kernel_rfl) (by kernel_rfl) (fun _ _ _ h => h) (Or.inl ⟨by rfl, ?y23axx⟩) (by assumption) ?r23axx
        case y23axx => (intro w0 hSw; (try dsimp only at hSw); (go_simp <;> with_reducible rfl))
        simp only [Act.put, List.setIfInBounds_toArray, List.set_cons_zero, List.set_cons_succ]
        refine wpAnyH_ready (rs := [22]) (by kernel_rfl) (by simp) ?_
        refine AllReadyH.cons (o := { dst := some 148, op := Op.call { callee := Callee.value (Operand.func 24), args := #[Operand.tmp 146, Operand.tmp 147], argTypes := #[25, 25] }, type := 25, pos := "outright.go:108", after := #[{ on := 20, ground := Ground.data }, { on := 21, ground := Ground.data }, { on := 19, ground := Ground.chain }, { on := 19, ground := Ground.guard }], guard := some (19, true) }) rfl (fun K hK => ?st22axx) ?nl22axx
        case nl22axx => exact AllReadyH.nil
        go_simp
        (go_at_call_of 24 (Value.agg #[Value.bool np, Value.slice po plen pcap, Value.int IntKind.i64 ep]); refine (timesZ_any _ _ E 1024 1024 _ _ _ PPk.out.num YYk.out.num (by omega) (by omega) (by omega)).mono ?_; rintro em1 wm1 ⟨vm1, rfl, hzm1, hbm1⟩; have XXm1 : Hid (Var wm1 w1.heap.size nx ao len cap ex (E + E) 2048 (fval a * ((2 ^ E : Nat) : Int))) := XXk.out.later hbm1; obtain ⟨xxm10, xxm11, xxm12⟩ := XXm1.out.cells; have YYm1 : Hid (Var wm1 w2.heap.size ny bo blen bcap ey E 1024 (fval b)) := YYk.out.later hbm1; obtain ⟨yym10, yym11, yym12⟩ := YYm1.out.cells; have PPm1 : Hid (Var wm1 wd.heap.size np po plen pcap ep E 1024 (fval lo)) := PPk.out.later hbm1; obtain ⟨ppm10, ppm11, ppm12⟩ := PPm1.out.cells; have QQm1 : Hid (Var wm1 we.heap.size nq qo qlen qcap eq E 1024 (fval hi)) := QQk.out.later hbm1; obtain ⟨qqm10, qqm11, qqm12⟩ := QQm1.out.cells; have HBm1 : Hid (Below w.heap.size w wm1) := HBk.out.trans (hbm1.mono HBk.out.size); have Zm1 : Hid (NumZ wm1 vm1 (E + E) 2048 (fval lo * fval b)) := hzm1; clear hzm1 hbm1)
        refine hK.out _ _ ?sh22axx (fun hHeld => ?_)
        case sh22axx => ((try dsimp only); go_keep)
        clear hK K
        (try simp only [Act.put, List.setIfInBounds_toArray, List.set_cons_zero, List.set_cons_succ])
        refine wpAnyH_ready (rs := [24]) (by kernel_rfl) (by simp) ?_
        refine AllReadyH.cons (o := { dst := some 150, op := Op.call { callee := Callee.value (Operand.func 13), args := #[Operand.tmp 148, Operand.tmp 149], argTypes := #[25, 25] }, type := 3, pos := "outright.go:108", after := #[{ on := 22, ground := Ground.data }, { on := 23, ground := Ground.data }, { on := 22, ground := Ground.chain }, { on := 19, ground := Ground.guard }], guard := some (19, true) }) rfl (fun K hK => ?st24axx) ?nl24axx
        case nl24axx => exact AllReadyH.nil
        go_simp
        (go_at_call_of 13 vm1; refine (cmpZ_any _ _ (E + E) 2048 _ _ _ Zm1.out XXm1.out.num (by omega) (by omega)).mono ?_; rintro em2 wm2 ⟨rfl, hbm2⟩; have XXm2 : Hid (Var wm2 w1.heap.size nx ao len cap ex (E + E) 2048 (fval a * ((2 ^ E : Nat) : Int))) := XXm1.out.later hbm2; obtain ⟨xxm20, xxm21, xxm22⟩ := XXm2.out.cells; have YYm2 : Hid (Var wm2 w2.heap.size ny bo blen bcap ey E 1024 (fval b)) := YYm1.out.later hbm2; obtain ⟨yym20, yym21, yym22⟩ := YYm2.out.cells; have PPm2 : Hid (Var wm2 wd.heap.size np po plen pcap ep E 1024 (fval lo)) := PPm1.out.later hbm2; obtain ⟨ppm20, ppm21, ppm22⟩ := PPm2.out.cells; have QQm2 : Hid (Var wm2 we.heap.size nq qo qlen qcap eq E 1024 (fval hi)) := QQm1.out.later hbm2; obtain ⟨qqm20, qqm21, qqm22⟩ := QQm2.out.cells; have HBm2 : Hid (Below w.heap.size w wm2) := HBm1.out.trans (hbm2.mono HBm1.out.size); rw [H1.out]; clear hbm2)
        refine hK.out _ _ ?sh24axx (fun hHeld => ?_)
        case sh24axx => ((try dsimp only); go_keep)
        clear hK K
        (try simp only [Act.put, List.setIfInBounds_toArray, List.set_cons_zero, List.set_cons_succ])
        refine wpAnyH_take (i := 25) (oi := { dst := some 151, op := Op.binOp BinOp.neq 3 (Operand.tmp 150) (Operand.const (Value.int IntKind.i64 0)) 3, type := 4, pos := "outright.go:108", after := #[{ on := 24, ground := Ground.data }, { on := 19, ground := Ground.guard }], guard := some (19, true) }) (v := ?v25axx) rfl (by kernel_rfl) (by kernel_rfl) (by kernel_rfl) (fun _ _ _ h => h) (Or.inl ⟨by rfl, ?y25axx⟩) (by assumption) ?r25axx
        case y25axx => (intro w0 hSw; (try dsimp only at hSw); (go_simp <;> with_reducible rfl))
        simp only [Act.put, List.setIfInBounds_toArray, List.set_cons_zero, List.set_cons_succ]
        refine wpAnyH_take (i := 26) (oi := { dst := some 152, op := Op.pick (Operand.tmp 145) (Operand.tmp 151) (Operand.const (Value.bool false)), type := 4, pos := "outright.go:108", after := #[{ on := 19, ground := Ground.data }, { on := 25, ground := Ground.data }], guard := none }) (v := ?v26axx) rfl (by kernel_rfl) (by kernel_rfl) (by kernel_rfl) (fun _ _ _ h => h) (Or.inl ⟨by rfl, ?y26axx⟩) (by assumption) ?r26axx
        case y26axx => (intro w0 hSw; (try dsimp only at hSw); (go_simp <;> with_reducible rfl))
        simp only [Act.put, List.setIfInBounds_toArray, List.set_cons_zero, List.set_cons_succ]
        refine wpAnyH_take (i := 27) (oi := { dst := some 153, op := Op.move (Operand.tmp 152), type := 4, pos := "outright.go:108", after := #[{ on := 26, ground := Ground.data }, { on := 24, ground := Ground.chain }], guard := none }) (v := ?v27axx) rfl (by kernel_rfl) (by kernel_rfl) (by kernel_rfl) (fun _ _ _ h => h) (Or.inl ⟨by rfl, ?y27axx⟩) (by assumption) ?r27axx
        case y27axx => (intro w0 hSw; (try dsimp only at hSw); (go_simp <;> with_reducible rfl))
        simp only [Act.put, List.setIfInBounds_toArray, List.set_cons_zero, List.set_cons_succ]
        refine wpAnyH_take (i := 28) (oi := { dst := some 154, op := Op.load 25 (Operand.tmp 15), type := 25, pos := "outright.go:108", after := #[{ on := 27, ground := Ground.guard }], guard := some (27, true) }) (v := ?v28axx) rfl (by kernel_rfl) (by kernel_rfl) (by kernel_rfl) (fun _ _ _ h => h) (Or.inl ⟨by rfl, ?y28axx⟩) (by assumption) ?r28axx
        case y28axx => (intro w0 hSw; (try dsimp only at hSw); (go_simp <;> with_reducible rfl))
        simp only [Act.put, List.setIfInBounds_toArray, List.set_cons_zero, List.set_cons_succ]
        refine wpAnyH_take (i := 29) (oi := { dst := some 155, op := Op.load 25 (Operand.tmp 7), type := 25, pos := "outright.go:108", after := #[{ on := 27, ground := Ground.guard }], guard := some (27, true) }) (v := ?v29axx) rfl (by kernel_rfl) (by kernel_rfl) (by kernel_rfl) (fun _ _ _ h => h) (Or.inl ⟨by rfl, ?y29axx⟩) (by assumption) ?r29axx
        case y29axx => (intro w0 hSw; (try dsimp only at hSw); (go_simp <;> with_reducible rfl))
        simp only [Act.put, List.setIfInBounds_toArray, List.set_cons_zero, List.set_cons_succ]
        refine wpAnyH_take (i := 31) (oi := { dst := some 157, op := Op.load 25 (Operand.tmp 5), type := 25, pos := "outright.go:108", after := #[{ on := 27, ground := Ground.guard }], guard := some (27, true) }) (v := ?v31axx) rfl (by kernel_rfl) (by kernel_rfl) (by kernel_rfl) (fun _ _ _ h => h) (Or.inl ⟨by rfl, ?y31axx⟩) (by assumption) ?r31axx
        case y31axx => (intro w0 hSw; (try dsimp only at hSw); (go_simp <;> with_reducible rfl))
        simp only [Act.put, List.setIfInBounds_toArray, List.set_cons_zero, List.set_cons_succ]
        refine wpAnyH_ready (rs := [30]) (by kernel_rfl) (by simp) ?_
        refine AllReadyH.cons (o := { dst := some 156, op := Op.call { callee := Callee.value (Operand.func 24), args := #[Operand.tmp 154, Operand.tmp 155], argTypes := #[25, 25] }, type := 25, pos := "outright.go:108", after := #[{ on := 28, ground := Ground.data }, { on := 29, ground := Ground.data }, { on := 27, ground := Ground.chain }, { on := 27, ground := Ground.guard }], guard := some (27, true) }) rfl (fun K hK => ?st30axx) ?nl30axx
        case nl30axx => exact AllReadyH.nil
        go_simp
        (go_at_call_of 24 (Value.agg #[Value.bool nq, Value.slice qo qlen qcap, Value.int IntKind.i64 eq]); refine (timesZ_any _ _ E 1024 1024 _ _ _ QQm2.out.num YYm2.out.num (by omega) (by omega) (by omega)).mono ?_; rintro em3 wm3 ⟨vm3, rfl, hzm3, hbm3⟩; have XXm3 : Hid (Var wm3 w1.heap.size nx ao len cap ex (E + E) 2048 (fval a * ((2 ^ E : Nat) : Int))) := XXm2.out.later hbm3; obtain ⟨xxm30, xxm31, xxm32⟩ := XXm3.out.cells; have YYm3 : Hid (Var wm3 w2.heap.size ny bo blen bcap ey E 1024 (fval b)) := YYm2.out.later hbm3; obtain ⟨yym30, yym31, yym32⟩ := YYm3.out.cells; have PPm3 : Hid (Var wm3 wd.heap.size np po plen pcap ep E 1024 (fval lo)) := PPm2.out.later hbm3; obtain ⟨ppm30, ppm31, ppm32⟩ := PPm3.out.cells; have QQm3 : Hid (Var wm3 we.heap.size nq qo qlen qcap eq E 1024 (fval hi)) := QQm2.out.later hbm3; obtain ⟨qqm30, qqm31, qqm32⟩ := QQm3.out.cells; have HBm3 : Hid (Below w.heap.size w wm3) := HBm2.out.trans (hbm3.mono HBm2.out.size); have Zm3 : Hid (NumZ wm3 vm3 (E + E) 2048 (fval hi * fval b)) := hzm3; clear hzm3 hbm3)
        refine hK.out _ _ ?sh30axx (fun hHeld => ?_)
        case sh30axx => ((try dsimp only); go_keep)
        clear hK K
        (try simp only [Act.put, List.setIfInBounds_toArray, List.set_cons_zero, List.set_cons_succ])
        refine wpAnyH_ready (rs := [32]) (by kernel_rfl) (by simp) ?_
        refine AllReadyH.cons (o := { dst := some 158, op := Op.call { callee := Callee.value (Operand.func 13), args := #[Operand.tmp 156, Operand.tmp 157], argTypes := #[25, 25] }, type := 3, pos := "outright.go:108", after := #[{ on := 30, ground := Ground.data }, { on := 31, ground := Ground.data }, { on := 30, ground := Ground.chain }, { on := 27, ground := Ground.guard }], guard := some (27, true) }) rfl (fun K hK => ?st32axx) ?nl32axx
        case nl32axx => exact AllReadyH.nil
        go_simp
        (go_at_call_of 13 vm3; refine (cmpZ_any _ _ (E + E) 2048 _ _ _ Zm3.out XXm3.out.num (by omega) (by omega)).mono ?_; rintro em4 wm4 ⟨rfl, hbm4⟩; have XXm4 : Hid (Var wm4 w1.heap.size nx ao len cap ex (E + E) 2048 (fval a * ((2 ^ E : Nat) : Int))) := XXm3.out.later hbm4; obtain ⟨xxm40, xxm41, xxm42⟩ := XXm4.out.cells; have YYm4 : Hid (Var wm4 w2.heap.size ny bo blen bcap ey E 1024 (fval b)) := YYm3.out.later hbm4; obtain ⟨yym40, yym41, yym42⟩ := YYm4.out.cells; have PPm4 : Hid (Var wm4 wd.heap.size np po plen pcap ep E 1024 (fval lo)) := PPm3.out.later hbm4; obtain ⟨ppm40, ppm41, ppm42⟩ := PPm4.out.cells; have QQm4 : Hid (Var wm4 we.heap.size nq qo qlen qcap eq E 1024 (fval hi)) := QQm3.out.later hbm4; obtain ⟨qqm40, qqm41, qqm42⟩ := QQm4.out.cells; have HBm4 : Hid (Below w.heap.size w wm4) := HBm3.out.trans (hbm4.mono HBm3.out.size); rw [H2.out]; clear hbm4)
        refine hK.out _ _ ?sh32axx (fun hHeld => ?_)
        case sh32axx => ((try dsimp only); go_keep)
        clear hK K
        (try simp only [Act.put, List.setIfInBounds_toArray, List.set_cons_zero, List.set_cons_succ])
        refine wpAnyH_take (i := 33) (oi := { dst := some 159, op := Op.binOp BinOp.neq 3 (Operand.tmp 158) (Operand.const (Value.int IntKind.i64 0)) 3, type := 4, pos := "outright.go:108", after := #[{ on := 32, ground := Ground.data }, { on := 27, ground := Ground.guard }], guard := some (27, true) }) (v := ?v33axx) rfl (by kernel_rfl) (by kernel_rfl) (by kernel_rfl) (fun _ _ _ h => h) (Or.inl ⟨by rfl, ?y33axx⟩) (by assumption) ?r33axx
        case y33axx => (intro w0 hSw; (try dsimp only at hSw); (go_simp <;> with_reducible rfl))
        simp only [Act.put, List.setIfInBounds_toArray, List.set_cons_zero, List.set_cons_succ]
        refine wpAnyH_take (i := 34) (oi := { dst := some 160, op := Op.pick (Operand.tmp 153) (Operand.tmp 159) (Operand.const (Value.bool false)), type := 4, pos := "outright.go:108", after := #[{ on := 27, ground := Ground.data }, { on := 33, ground := Ground.data }], guard := none }) (v := ?v34axx) rfl (by kernel_rfl) (by kernel_rfl) (by kernel_rfl) (fun _ _ _ h => h) (Or.inl ⟨by rfl, ?y34axx⟩) (by assumption) ?r34axx
        case y34axx => (intro w0 hSw; (try dsimp only at hSw); (go_simp <;> with_reducible rfl))
        simp only [Act.put, List.setIfInBounds_toArray, List.set_cons_zero, List.set_cons_succ]
        refine wpAnyH_take (i := 35) (oi := { dst := some 161, op := Op.move (Operand.tmp 160), type := 4, pos := "outright.go:108", after := #[{ on := 34, ground := Ground.data }, { on := 32, ground := Ground.chain }], guard := none }) (v := ?v35axx) rfl (by kernel_rfl) (by kernel_rfl) (by kernel_rfl) (fun _ _ _ h => h) (Or.inl ⟨by rfl, ?y35axx⟩) (by assumption) ?r35axx
        case y35axx => (intro w0 hSw; (try dsimp only at hSw); (go_simp <;> with_reducible rfl))
        simp only [Act.put, List.setIfInBounds_toArray, List.set_cons_zero, List.set_cons_succ]
        refine wpAnyH_ready (rs := [36]) (by kernel_rfl) (by simp) ?_
        refine AllReadyH.cons (o := { dst := some 162, op := Op.call { callee := Callee.value (Operand.func 11), args := #[], argTypes := #[] }, type := 4, pos := "outright.go:108", after := #[{ on := 35, ground := Ground.chain }, { on := 35, ground := Ground.guard }], guard := some (35, true) }) rfl (fun K hK => ?st36axx) ?nl36axx
        case nl36axx => exact AllReadyH.nil
        go_simp
        (go_at_call 11; refine (started_any _).mono ?_; rintro es ws ⟨rfl, rfl⟩)
        refine hK.out _ _ ?sh36axx (fun hHeld => ?_)
        case sh36axx => ((try dsimp only); go_keep)
        clear hK K
        (try simp only [Act.put, List.setIfInBounds_toArray, List.set_cons_zero, List.set_cons_succ])
        refine wpAnyH_take (i := 37) (oi := { dst := some 163, op := Op.pick (Operand.tmp 161) (Operand.tmp 162) (Operand.const (Value.bool false)), type := 4, pos := "outright.go:108", after := #[{ on := 35, ground := Ground.data }, { on := 36, ground := Ground.data }], guard := none }) (v := ?v37axx) rfl (by kernel_rfl) (by kernel_rfl) (by kernel_rfl) (fun _ _ _ h => h) (Or.inl ⟨by rfl, ?y37axx⟩) (by assumption) ?r37axx
        case y37axx => (intro w0 hSw; (try dsimp only at hSw); (go_simp <;> with_reducible rfl))
        simp only [Act.put, List.setIfInBounds_toArray, List.set_cons_zero, List.set_cons_succ]
        refine wpAnyH_take (i := 38) (oi := { dst := some 4, op := Op.assign (Operand.tmp 163), type := 4, pos := "outright.go:108", after := #[{ on := 37, ground := Ground.data }, { on := 36, ground := Ground.chain }, { on := 0, ground := Ground.phase }, { on := 1, ground := Ground.phase }, { on := 2, ground := Ground.phase }, { on := 3, ground := Ground.phase }, { on := 4, ground := Ground.phase }, { on := 5, ground := Ground.phase }, { on := 6, ground := Ground.phase }, { on := 7, ground := Ground.phase }, { on := 8, ground := Ground.phase }, { on := 9, ground := Ground.phase }, { on := 10, ground := Ground.phase }, { on := 11, ground := Ground.phase }, { on := 12, ground := Ground.phase }, { on := 13, ground := Ground.phase }, { on := 14, ground := Ground.phase }, { on := 15, ground := Ground.phase }, { on := 16, ground := Ground.phase }, { on := 17, ground := Ground.phase }, { on := 18, ground := Ground.phase }, { on := 19, ground := Ground.phase }, { on := 20, ground := Ground.phase }, { on := 21, ground := Ground.phase }, { on := 22, ground := Ground.phase }, { on := 23, ground := Ground.phase }, { on := 24, ground := Ground.phase }, { on := 25, ground := Ground.phase }, { on := 26, ground := Ground.phase }, { on := 27, ground := Ground.phase }, { on := 28, ground := Ground.phase }, { on := 29, ground := Ground.phase }, { on := 30, ground := Ground.phase }, { on := 31, ground := Ground.phase }, { on := 32, ground := Ground.phase }, { on := 33, ground := Ground.phase }, { on := 34, ground := Ground.phase }, { on := 35, ground := Ground.phase }, { on := 36, ground := Ground.phase }, { on := 37, ground := Ground.phase }], guard := none }) (v := ?v38axx) rfl (by kernel_rfl) (by kernel_rfl) (by kernel_rfl) (fun _ _ _ h => h) (Or.inl ⟨by rfl, ?y38axx⟩) (by assumption) ?r38axx
        case y38axx => (intro w0 hSw; (try dsimp only at hSw); (go_simp <;> with_reducible rfl))
        simp only [Act.put, List.setIfInBounds_toArray, List.set_cons_zero, List.set_cons_succ]
        refine wpAnyH_done (by kernel_rfl) ?_ _
        go_wp2_with fail
        all_goals (go_ret; exact ⟨rfl, by first | exact HBm4.out | exact HBm4.out.drew⟩)
    · skip
      go_wp2_with fail
      refine (num_any lo FLO.out.2 _ E hE).mono ?_
      rintro ed wd ⟨vd, rfl, ⟨zd, hzd, hfd⟩, hbd⟩
      have hzv := hfd FLO.out.1
      subst hzv
      have Zd : Hid (NumZ wd vd E 1024 (fval lo)) := hzd
      obtain ⟨np, mp, ep, ⟨po, plen, pcap, ps, rfl, -⟩, -⟩ := hzd
      have XXd : Hid (Var wd w1.heap.size nx ao len cap ex (E + E) 2048 (fval a * ((2 ^ E : Nat) : Int))) := XX4.out.later hbd
      have YYd : Hid (Var wd w2.heap.size ny bo blen bcap ey E 1024 (fval b)) := YY4.out.later hbd
      have HBd : Hid (Below w.heap.size w wd) := HB4.out.trans (hbd.mono HB4.out.size)
      have PPe : Hid (Var (wd.alloc (Obj.cells #[Value.bool np, Value.slice po plen pcap, Value.int IntKind.i64 ep] 25)) wd.heap.size np po plen pcap ep E 1024 (fval lo)) := Var.new Zd.out
      have XXe : Hid (Var (wd.alloc (Obj.cells #[Value.bool np, Value.slice po plen pcap, Value.int IntKind.i64 ep] 25)) w1.heap.size nx ao len cap ex (E + E) 2048 (fval a * ((2 ^ E : Nat) : Int))) := XXd.out.alloc _
      have YYe : Hid (Var (wd.alloc (Obj.cells #[Value.bool np, Value.slice po plen pcap, Value.int IntKind.i64 ep] 25)) w2.heap.size ny bo blen bcap ey E 1024 (fval b)) := YYd.out.alloc _
      have HBe : Hid (Below w.heap.size w (wd.alloc (Obj.cells #[Value.bool np, Value.slice po plen pcap, Value.int IntKind.i64 ep] 25))) := HBd.out.alloc HBd.out.size _
      clear hfd hbd
      obtain ⟨dl, hdl⟩ : ∃ q, decide (Fin lo) = q := ⟨_, rfl⟩
      rw [hdl]
      clear hdl
      go_wp2_with fail
      refine (num_any hi FHI.out.2 _ E hE).mono ?_
      rintro ee we ⟨ve, rfl, ⟨ze, hze, hfe⟩, hbe⟩
      have hzv := hfe FHI.out.1
      subst hzv
      have Ze : Hid (NumZ we ve E 1024 (fval hi)) := hze
      obtain ⟨nq, mq, eq, ⟨qo, qlen, qcap, qs, rfl, -⟩, -⟩ := hze
      have XXf : Hid (Var we w1.heap.size nx ao len cap ex (E + E) 2048 (fval a * ((2 ^ E : Nat) : Int))) := XXe.out.later hbe
      have YYf : Hid (Var we w2.heap.size ny bo blen bcap ey E 1024 (fval b)) := YYe.out.later hbe
      have PPf : Hid (Var we wd.heap.size np po plen pcap ep E 1024 (fval lo)) := PPe.out.later hbe
      have HBf : Hid (Below w.heap.size w we) := HBe.out.trans (hbe.mono HBe.out.size)
      have QQg : Hid (Var (we.alloc (Obj.cells #[Value.bool nq, Value.slice qo qlen qcap, Value.int IntKind.i64 eq] 25)) we.heap.size nq qo qlen qcap eq E 1024 (fval hi)) := Var.new Ze.out
      have XXg : Hid (Var (we.alloc (Obj.cells #[Value.bool nq, Value.slice qo qlen qcap, Value.int IntKind.i64 eq] 25)) w1.heap.size nx ao len cap ex (E + E) 2048 (fval a * ((2 ^ E : Nat) : Int))) := XXf.out.alloc _
      have YYg : Hid (Var (we.alloc (Obj.cells #[Value.bool nq, Value.slice qo qlen qcap, Value.int IntKind.i64 eq] 25)) w2.heap.size ny bo blen bcap ey E 1024 (fval b)) := YYf.out.alloc _
      have PPg : Hid (Var (we.alloc (Obj.cells #[Value.bool nq, Value.slice qo qlen qcap, Value.int IntKind.i64 eq] 25)) wd.heap.size np po plen pcap ep E 1024 (fval lo)) := PPf.out.alloc _
      have HBg : Hid (Below w.heap.size w (we.alloc (Obj.cells #[Value.bool nq, Value.slice qo qlen qcap, Value.int IntKind.i64 eq] 25))) := HBf.out.alloc HBf.out.size _
      clear hfe hbe XX4 YY4 HB4 XXd YYd HBd PPe XXe YYe HBe XXf YYf PPf HBf
      obtain ⟨dh, hdh⟩ : ∃ q, decide (Fin hi) = q := ⟨_, rfl⟩
      rw [hdh]
      clear hdh
      obtain ⟨y0, y1, y2⟩ := YYg.out.cells
      go_wp2_with fail
      refine (signZ_any _ E 1024 (fval b) _ YYg.out.num).mono ?_
      rintro eh wh ⟨rfl, hbh⟩
      rw [HS.out]
      clear y0 y1 y2
      have XXh : Hid (Var wh w1.heap.size nx ao len cap ex (E + E) 2048 (fval a * ((2 ^ E : Nat) : Int))) := XXg.out.later hbh
      obtain ⟨xxh0, xxh1, xxh2⟩ := XXh.out.cells
      have YYh : Hid (Var wh w2.heap.size ny bo blen bcap ey E 1024 (fval b)) := YYg.out.later hbh
      obtain ⟨yyh0, yyh1, yyh2⟩ := YYh.out.cells
      have PPh : Hid (Var wh wd.heap.size np po plen pcap ep E 1024 (fval lo)) := PPg.out.later hbh
      obtain ⟨pph0, pph1, pph2⟩ := PPh.out.cells
      have QQh : Hid (Var wh we.heap.size nq qo qlen qcap eq E 1024 (fval hi)) := QQg.out.later hbh
      obtain ⟨qqh0, qqh1, qqh2⟩ := QQh.out.cells
      have HBh : Hid (Below w.heap.size w wh) := HBg.out.trans (hbh.mono HBg.out.size)
      clear hbh XXg YYg PPg QQg HBg
      have ht1 : decide (0 < k1) = false := by first | exact HT1.out rfl | exact HT1.out trivial
      go_wp2_with fail
      have XXi : Hid (Var wh.drew w1.heap.size nx ao len cap ex (E + E) 2048 (fval a * ((2 ^ E : Nat) : Int))) := XXh.out.drew
      have YYi : Hid (Var wh.drew w2.heap.size ny bo blen bcap ey E 1024 (fval b)) := YYh.out.drew
      have PPi : Hid (Var wh.drew wd.heap.size np po plen pcap ep E 1024 (fval lo)) := PPh.out.drew
      have QQi : Hid (Var wh.drew we.heap.size nq qo qlen qcap eq E 1024 (fval hi)) := QQh.out.drew
      have HBi : Hid (Below w.heap.size w wh.drew) := HBh.out.drew
      refine wp_region_held_drew (S := fun w' => w'.cell? ⟨w1.heap.size, 0, none⟩ = some (.bool nx) ∧ w'.cell? ⟨w1.heap.size, 1, none⟩ = some (.slice ao len cap) ∧ w'.cell? ⟨w1.heap.size, 2, none⟩ = some (.int .i64 ex) ∧ w'.cell? ⟨w2.heap.size, 0, none⟩ = some (.bool ny) ∧ w'.cell? ⟨w2.heap.size, 1, none⟩ = some (.slice bo blen bcap) ∧ w'.cell? ⟨w2.heap.size, 2, none⟩ = some (.int .i64 ey) ∧ w'.cell? ⟨wd.heap.size, 0, none⟩ = some (.bool np) ∧ w'.cell? ⟨wd.heap.size, 1, none⟩ = some (.slice po plen pcap) ∧ w'.cell? ⟨wd.heap.size, 2, none⟩ = some (.int .i64 ep) ∧ w'.cell? ⟨we.heap.size, 0, none⟩ = some (.bool nq) ∧ w'.cell? ⟨we.heap.size, 1, none⟩ = some (.slice qo qlen qcap) ∧ w'.cell? ⟨we.heap.size, 2, none⟩ = some (.int .i64 eq)) (by kernel_rfl) ?sSaxxx (fun hHeld => ?_)
      case sSaxxx => ((try dsimp only); go_keep)
      refine wpAnyH_take (i := 0) (oi := { dst := some 82, op := Op.move (Operand.tmp 10), type := 4, pos := "outright.go:102", after := #[], guard := none }) (v := ?v0axxx) rfl (by kernel_rfl) (by kernel_rfl) (by kernel_rfl) (fun _ _ _ h => h) (Or.inl ⟨by rfl, ?y0axxx⟩) (by assumption) ?r0axxx
      case y0axxx => (intro w0 hSw; (try dsimp only at hSw); (go_simp <;> with_reducible rfl))
      simp only [Act.put, List.setIfInBounds_toArray, List.set_cons_zero, List.set_cons_succ]
      refine wpAnyH_take (i := 1) (oi := { dst := some 83, op := Op.move (Operand.tmp 82), type := 4, pos := "outright.go:102", after := #[{ on := 0, ground := Ground.data }], guard := none }) (v := ?v1axxx) rfl (by kernel_rfl) (by kernel_rfl) (by kernel_rfl) (fun _ _ _ h => h) (Or.inl ⟨by rfl, ?y1axxx⟩) (by assumption) ?r1axxx
      case y1axxx => (intro w0 hSw; (try dsimp only at hSw); (go_simp <;> with_reducible rfl))
      simp only [Act.put, List.setIfInBounds_toArray, List.set_cons_zero, List.set_cons_succ]
      refine wpAnyH_take (i := 2) (oi := { dst := some 84, op := Op.move (Operand.tmp 17), type := 3, pos := "outright.go:102", after := #[{ on := 1, ground := Ground.guard }], guard := some (1, true) }) (v := ?v2axxx) rfl (by kernel_rfl) (by kernel_rfl) (by kernel_rfl) (fun _ _ _ h => h) (Or.inl ⟨by rfl, ?y2axxx⟩) (by assumption) ?r2axxx
      case y2axxx => (intro w0 hSw; (try dsimp only at hSw); (go_simp <;> with_reducible rfl))
      simp only [Act.put, List.setIfInBounds_toArray, List.set_cons_zero, List.set_cons_succ]
      refine wpAnyH_take (i := 3) (oi := { dst := some 85, op := Op.load 25 (Operand.tmp 13), type := 25, pos := "outright.go:102", after := #[{ on := 1, ground := Ground.guard }], guard := some (1, true) }) (v := ?v3axxx) rfl (by kernel_rfl) (by kernel_rfl) (by kernel_rfl) (fun _ _ _ h => h) (Or.inl ⟨by rfl, ?y3axxx⟩) (by assumption) ?r3axxx
      case y3axxx => (intro w0 hSw; (try dsimp only at hSw); (go_simp <;> with_reducible rfl))
      simp only [Act.put, List.setIfInBounds_toArray, List.set_cons_zero, List.set_cons_succ]
      refine wpAnyH_take (i := 4) (oi := { dst := some 86, op := Op.load 25 (Operand.tmp 7), type := 25, pos := "outright.go:102", after := #[{ on := 1, ground := Ground.guard }], guard := some (1, true) }) (v := ?v4axxx) rfl (by kernel_rfl) (by kernel_rfl) (by kernel_rfl) (fun _ _ _ h => h) (Or.inl ⟨by rfl, ?y4axxx⟩) (by assumption) ?r4axxx
      case y4axxx => (intro w0 hSw; (try dsimp only at hSw); (go_simp <;> with_reducible rfl))
      simp only [Act.put, List.setIfInBounds_toArray, List.set_cons_zero, List.set_cons_succ]
      refine wpAnyH_take (i := 6) (oi := { dst := some 88, op := Op.load 25 (Operand.tmp 5), type := 25, pos := "outright.go:102", after := #[{ on := 1, ground := Ground.guard }], guard := some (1, true) }) (v := ?v6axxx) rfl (by kernel_rfl) (by kernel_rfl) (by kernel_rfl) (fun _ _ _ h => h) (Or.inl ⟨by rfl, ?y6axxx⟩) (by assumption) ?r6axxx
      case y6axxx => (intro w0 hSw; (try dsimp only at hSw); (go_simp <;> with_reducible rfl))
      simp only [Act.put, List.setIfInBounds_toArray, List.set_cons_zero, List.set_cons_succ]
      refine wpAnyH_ready (rs := [5]) (by kernel_rfl) (by simp) ?_
      refine AllReadyH.cons (o := { dst := some 87, op := Op.call { callee := Callee.value (Operand.func 24), args := #[Operand.tmp 85, Operand.tmp 86], argTypes := #[25, 25] }, type := 25, pos := "outright.go:102", after := #[{ on := 3, ground := Ground.data }, { on := 4, ground := Ground.data }, { on := 1, ground := Ground.chain }, { on := 1, ground := Ground.guard }], guard := some (1, true) }) rfl (fun K hK => ?st5axxx) ?nl5axxx
      case nl5axxx => exact AllReadyH.nil
      go_simp
      (go_at_call_of 24 (Value.agg #[Value.bool np, Value.slice po plen pcap, Value.int IntKind.i64 ep]); refine (timesZ_any _ _ E 1024 1024 _ _ _ PPi.out.num YYi.out.num (by omega) (by omega) (by omega)).mono ?_; rintro ej1 wj1 ⟨vj1, rfl, hzj1, hbj1⟩; have XXj1 : Hid (Var wj1 w1.heap.size nx ao len cap ex (E + E) 2048 (fval a * ((2 ^ E : Nat) : Int))) := XXi.out.later hbj1; obtain ⟨xxj10, xxj11, xxj12⟩ := XXj1.out.cells; have YYj1 : Hid (Var wj1 w2.heap.size ny bo blen bcap ey E 1024 (fval b)) := YYi.out.later hbj1; obtain ⟨yyj10, yyj11, yyj12⟩ := YYj1.out.cells; have PPj1 : Hid (Var wj1 wd.heap.size np po plen pcap ep E 1024 (fval lo)) := PPi.out.later hbj1; obtain ⟨ppj10, ppj11, ppj12⟩ := PPj1.out.cells; have QQj1 : Hid (Var wj1 we.heap.size nq qo qlen qcap eq E 1024 (fval hi)) := QQi.out.later hbj1; obtain ⟨qqj10, qqj11, qqj12⟩ := QQj1.out.cells; have HBj1 : Hid (Below w.heap.size w wj1) := HBi.out.trans (hbj1.mono HBi.out.size); have Zj1 : Hid (NumZ wj1 vj1 (E + E) 2048 (fval lo * fval b)) := hzj1; clear hzj1 hbj1)
      refine hK.out _ _ ?sh5axxx (fun hHeld => ?_)
      case sh5axxx => ((try dsimp only); go_keep)
      clear hK K
      (try simp only [Act.put, List.setIfInBounds_toArray, List.set_cons_zero, List.set_cons_succ])
      refine wpAnyH_ready (rs := [7]) (by kernel_rfl) (by simp) ?_
      refine AllReadyH.cons (o := { dst := some 89, op := Op.call { callee := Callee.value (Operand.func 13), args := #[Operand.tmp 87, Operand.tmp 88], argTypes := #[25, 25] }, type := 3, pos := "outright.go:102", after := #[{ on := 5, ground := Ground.data }, { on := 6, ground := Ground.data }, { on := 5, ground := Ground.chain }, { on := 1, ground := Ground.guard }], guard := some (1, true) }) rfl (fun K hK => ?st7axxx) ?nl7axxx
      case nl7axxx => exact AllReadyH.nil
      go_simp
      (go_at_call_of 13 vj1; refine (cmpZ_any _ _ (E + E) 2048 _ _ _ Zj1.out XXj1.out.num (by omega) (by omega)).mono ?_; rintro ej2 wj2 ⟨rfl, hbj2⟩; have XXj2 : Hid (Var wj2 w1.heap.size nx ao len cap ex (E + E) 2048 (fval a * ((2 ^ E : Nat) : Int))) := XXj1.out.later hbj2; obtain ⟨xxj20, xxj21, xxj22⟩ := XXj2.out.cells; have YYj2 : Hid (Var wj2 w2.heap.size ny bo blen bcap ey E 1024 (fval b)) := YYj1.out.later hbj2; obtain ⟨yyj20, yyj21, yyj22⟩ := YYj2.out.cells; have PPj2 : Hid (Var wj2 wd.heap.size np po plen pcap ep E 1024 (fval lo)) := PPj1.out.later hbj2; obtain ⟨ppj20, ppj21, ppj22⟩ := PPj2.out.cells; have QQj2 : Hid (Var wj2 we.heap.size nq qo qlen qcap eq E 1024 (fval hi)) := QQj1.out.later hbj2; obtain ⟨qqj20, qqj21, qqj22⟩ := QQj2.out.cells; have HBj2 : Hid (Below w.heap.size w wj2) := HBj1.out.trans (hbj2.mono HBj1.out.size); rw [H1.out]; clear hbj2)
      refine hK.out _ _ ?sh7axxx (fun hHeld => ?_)
      case sh7axxx => ((try dsimp only); go_keep)
      clear hK K
      (try simp only [Act.put, List.setIfInBounds_toArray, List.set_cons_zero, List.set_cons_succ])
      refine wpAnyH_take (i := 8) (oi := { dst := some 90, op := Op.binOp BinOp.mul 3 (Operand.tmp 84) (Operand.tmp 89) 3, type := 3, pos := "outright.go:102", after := #[{ on := 2, ground := Ground.data }, { on := 7, ground := Ground.data }, { on := 1, ground := Ground.guard }], guard := some (1, true) }) (v := ?v8axxx) rfl (by kernel_rfl) (by kernel_rfl) (by kernel_rfl) (fun _ _ _ h => h) (Or.inl ⟨by rfl, ?y8axxx⟩) (by assumption) ?r8axxx
      case y8axxx => (intro w0 hSw; (try dsimp only at hSw); (go_simp <;> with_reducible rfl))
      simp only [Act.put, List.setIfInBounds_toArray, List.set_cons_zero, List.set_cons_succ]
      refine wpAnyH_take (i := 9) (oi := { dst := some 91, op := Op.binOp BinOp.gtr 3 (Operand.tmp 90) (Operand.const (Value.int IntKind.i64 0)) 3, type := 4, pos := "outright.go:102", after := #[{ on := 8, ground := Ground.data }, { on := 1, ground := Ground.guard }], guard := some (1, true) }) (v := ?v9axxx) rfl (by kernel_rfl) (by kernel_rfl) (by kernel_rfl) (fun _ _ _ h => h) (Or.inl ⟨by rfl, ?y9axxx⟩) (by assumption) ?r9axxx
      case y9axxx => (intro w0 hSw; (try dsimp only at hSw); (go_simp <;> with_reducible rfl))
      simp only [Act.put, List.setIfInBounds_toArray, List.set_cons_zero, List.set_cons_succ]
      refine wpAnyH_take (i := 10) (oi := { dst := some 92, op := Op.pick (Operand.tmp 83) (Operand.tmp 91) (Operand.const (Value.bool false)), type := 4, pos := "outright.go:102", after := #[{ on := 1, ground := Ground.data }, { on := 9, ground := Ground.data }], guard := none }) (v := ?v10axxx) rfl (by kernel_rfl) (by kernel_rfl) (by kernel_rfl) (fun _ _ _ h => h) (Or.inl ⟨by rfl, ?y10axxx⟩) (by assumption) ?r10axxx
      case y10axxx => (intro w0 hSw; (try dsimp only at hSw); (go_simp <;> with_reducible rfl))
      simp only [Act.put, List.setIfInBounds_toArray, List.set_cons_zero, List.set_cons_succ]
      refine wpAnyH_take (i := 11) (oi := { dst := some 93, op := Op.move (Operand.tmp 92), type := 4, pos := "outright.go:102", after := #[{ on := 10, ground := Ground.data }, { on := 7, ground := Ground.chain }], guard := none }) (v := ?v11axxx) rfl (by kernel_rfl) (by kernel_rfl) (by kernel_rfl) (fun _ _ _ h => h) (Or.inl ⟨by rfl, ?y11axxx⟩) (by assumption) ?r11axxx
      case y11axxx => (intro w0 hSw; (try dsimp only at hSw); (go_simp <;> with_reducible rfl))
      simp only [Act.put, List.setIfInBounds_toArray, List.set_cons_zero, List.set_cons_succ]
      refine wpAnyH_take (i := 12) (oi := { dst := some 94, op := Op.move (Operand.tmp 12), type := 4, pos := "outright.go:102", after := #[{ on := 11, ground := Ground.guard }], guard := some (11, false) }) (v := ?v12axxx) rfl (by kernel_rfl) (by kernel_rfl) (by kernel_rfl) (fun _ _ _ h => h) (Or.inl ⟨by rfl, ?y12axxx⟩) (by assumption) ?r12axxx
      case y12axxx => (intro w0 hSw; (try dsimp only at hSw); (go_simp <;> with_reducible rfl))
      simp only [Act.put, List.setIfInBounds_toArray, List.set_cons_zero, List.set_cons_succ]
      refine wpAnyH_take (i := 13) (oi := { dst := some 95, op := Op.move (Operand.tmp 94), type := 4, pos := "outright.go:102", after := #[{ on := 12, ground := Ground.data }, { on := 11, ground := Ground.chain }, { on := 11, ground := Ground.guard }], guard := some (11, false) }) (v := ?v13axxx) rfl (by kernel_rfl) (by kernel_rfl) (by kernel_rfl) (fun _ _ _ h => h) (Or.inl ⟨by rfl, ?y13axxx⟩) (by assumption) ?r13axxx
      case y13axxx => (intro w0 hSw; (try dsimp only at hSw); (go_simp <;> with_reducible rfl))
      simp only [Act.put, List.setIfInBounds_toArray, List.set_cons_zero, List.set_cons_succ]
      refine wpAnyH_take (i := 14) (oi := { dst := some 96, op := Op.move (Operand.tmp 17), type := 3, pos := "outright.go:102", after := #[{ on := 13, ground := Ground.guard }], guard := some (13, true) }) (v := undef) rfl (by kernel_rfl) (by kernel_rfl) (by kernel_rfl) (fun _ _ _ h => h) (Or.inr ⟨by rfl, rfl⟩) (by assumption) ?r14axxx
      simp only [Act.put, List.setIfInBounds_toArray, List.set_cons_zero, List.set_cons_succ]
      refine wpAnyH_take (i := 15) (oi := { dst := some 97, op := Op.load 25 (Operand.tmp 15), type := 25, pos := "outright.go:102", after := #[{ on := 13, ground := Ground.guard }], guard := some (13, true) }) (v := undef) rfl (by kernel_rfl) (by kernel_rfl) (by kernel_rfl) (fun _ _ _ h => h) (Or.inr ⟨by rfl, rfl⟩) (by assumption) ?r15axxx
      simp only [Act.put, List.setIfInBounds_toArray, List.set_cons_zero, List.set_cons_succ]
      refine wpAnyH_take (i := 16) (oi := { dst := some 98, op := Op.load 25 (Operand.tmp 7), type := 25, pos := "outright.go:102", after := #[{ on := 13, ground := Ground.guard }], guard := some (13, true) }) (v := undef) rfl (by kernel_rfl) (by kernel_rfl) (by kernel_rfl) (fun _ _ _ h => h) (Or.inr ⟨by rfl, rfl⟩) (by assumption) ?r16axxx
      simp only [Act.put, List.setIfInBounds_toArray, List.set_cons_zero, List.set_cons_succ]
      refine wpAnyH_take (i := 18) (oi := { dst := some 100, op := Op.load 25 (Operand.tmp 5), type := 25, pos := "outright.go:102", after := #[{ on := 13, ground := Ground.guard }], guard := some (13, true) }) (v := undef) rfl (by kernel_rfl) (by kernel_rfl) (by kernel_rfl) (fun _ _ _ h => h) (Or.inr ⟨by rfl, rfl⟩) (by assumption) ?r18axxx
      simp only [Act.put, List.setIfInBounds_toArray, List.set_cons_zero, List.set_cons_succ]
      refine wpAnyH_take (i := 17) (oi := { dst := some 99, op := Op.call { callee := Callee.value (Operand.func 24), args := #[Operand.tmp 97, Operand.tmp 98], argTypes := #[25, 25] }, type := 25, pos := "outright.go:102", after := #[{ on := 15, ground := Ground.data }, { on := 16, ground := Ground.data }, { on := 13, ground := Ground.chain }, { on := 13, ground := Ground.guard }], guard := some (13, true) }) (v := undef) rfl (by kernel_rfl) (by kernel_rfl) (by kernel_rfl) (fun _ _ _ h => h) (Or.inr ⟨by rfl, rfl⟩) (by assumption) ?r17axxx
      simp only [Act.put, List.setIfInBounds_toArray, List.set_cons_zero, List.set_cons_succ]
      refine wpAnyH_take (i := 19) (oi := { dst := some 101, op := Op.call { callee := Callee.value (Operand.func 13), args := #[Operand.tmp 99, Operand.tmp 100], argTypes := #[25, 25] }, type := 3, pos := "outright.go:102", after := #[{ on := 17, ground := Ground.data }, { on := 18, ground := Ground.data }, { on := 17, ground := Ground.chain }, { on := 13, ground := Ground.guard }], guard := some (13, true) }) (v := undef) rfl (by kernel_rfl) (by kernel_rfl) (by kernel_rfl) (fun _ _ _ h => h) (Or.inr ⟨by rfl, rfl⟩) (by assumption) ?r19axxx
      simp only [Act.put, List.setIfInBounds_toArray, List.set_cons_zero, List.set_cons_succ]
      refine wpAnyH_take (i := 20) (oi := { dst := some 102, op := Op.binOp BinOp.mul 3 (Operand.tmp 96) (Operand.tmp 101) 3, type := 3, pos := "outright.go:102", after := #[{ on := 14, ground := Ground.data }, { on := 19, ground := Ground.data }, { on := 13, ground := Ground.guard }], guard := some (13, true) }) (v := undef) rfl (by kernel_rfl) (by kernel_rfl) (by kernel_rfl) (fun _ _ _ h => h) (Or.inr ⟨by rfl, rfl⟩) (by assumption) ?r20axxx
      simp only [Act.put, List.setIfInBounds_toArray, List.set_cons_zero, List.set_cons_succ]
      refine wpAnyH_take (i := 21) (oi := { dst := some 103, op := Op.binOp BinOp.lss 3 (Operand.tmp 102) (Operand.const (Value.int IntKind.i64 0)) 3, type := 4, pos := "outright.go:102", after := #[{ on := 20, ground := Ground.data }, { on := 13, ground := Ground.guard }], guard := some (13, true) }) (v := undef) rfl (by kernel_rfl) (by kernel_rfl) (by kernel_rfl) (fun _ _ _ h => h) (Or.inr ⟨by rfl, rfl⟩) (by assumption) ?r21axxx
      simp only [Act.put, List.setIfInBounds_toArray, List.set_cons_zero, List.set_cons_succ]
      refine wpAnyH_take (i := 22) (oi := { dst := some 104, op := Op.pick (Operand.tmp 95) (Operand.tmp 103) (Operand.const (Value.bool false)), type := 4, pos := "outright.go:102", after := #[{ on := 13, ground := Ground.data }, { on := 21, ground := Ground.data }, { on := 11, ground := Ground.guard }], guard := some (11, false) }) (v := ?v22axxx) rfl (by kernel_rfl) (by kernel_rfl) (by kernel_rfl) (fun _ _ _ h => h) (Or.inl ⟨by rfl, ?y22axxx⟩) (by assumption) ?r22axxx
      case y22axxx => (intro w0 hSw; (try dsimp only at hSw); (go_simp <;> with_reducible rfl))
      simp only [Act.put, List.setIfInBounds_toArray, List.set_cons_zero, List.set_cons_succ]
      refine wpAnyH_take (i := 23) (oi := { dst := some 105, op := Op.pick (Operand.tmp 93) (Operand.const (Value.bool true)) (Operand.tmp 104), type := 4, pos := "outright.go:102", after := #[{ on := 11, ground := Ground.data }, { on := 22, ground := Ground.data }], guard := none }) (v := ?v23axxx) rfl (by kernel_rfl) (by kernel_rfl) (by kernel_rfl) (fun _ _ _ h => h) (Or.inl ⟨by rfl, ?y23axxx⟩) (by assumption) ?r23axxx
      case y23axxx => (intro w0 hSw; (try dsimp only at hSw); (go_simp <;> with_reducible rfl))
      simp only [Act.put, List.setIfInBounds_toArray, List.set_cons_zero, List.set_cons_succ]
      refine wpAnyH_done (by kernel_rfl) ?_ _
      go_wp2_with (go_at_call 11; refine (started_any _).mono ?_; rintro es ws ⟨rfl, rfl⟩)
      all_goals (go_ret; exact ⟨rfl, by first | exact HBj2.out | exact HBj2.out.drew⟩)
    · skip
      go_wp2_with fail
      refine (num_any lo FLO.out.2 _ E hE).mono ?_
      rintro ed wd ⟨vd, rfl, ⟨zd, hzd, hfd⟩, hbd⟩
      have hzv := hfd FLO.out.1
      subst hzv
      have Zd : Hid (NumZ wd vd E 1024 (fval lo)) := hzd
      obtain ⟨np, mp, ep, ⟨po, plen, pcap, ps, rfl, -⟩, -⟩ := hzd
      have XXd : Hid (Var wd w1.heap.size nx ao len cap ex (E + E) 2048 (fval a * ((2 ^ E : Nat) : Int))) := XX4.out.later hbd
      have YYd : Hid (Var wd w2.heap.size ny bo blen bcap ey E 1024 (fval b)) := YY4.out.later hbd
      have HBd : Hid (Below w.heap.size w wd) := HB4.out.trans (hbd.mono HB4.out.size)
      have PPe : Hid (Var (wd.alloc (Obj.cells #[Value.bool np, Value.slice po plen pcap, Value.int IntKind.i64 ep] 25)) wd.heap.size np po plen pcap ep E 1024 (fval lo)) := Var.new Zd.out
      have XXe : Hid (Var (wd.alloc (Obj.cells #[Value.bool np, Value.slice po plen pcap, Value.int IntKind.i64 ep] 25)) w1.heap.size nx ao len cap ex (E + E) 2048 (fval a * ((2 ^ E : Nat) : Int))) := XXd.out.alloc _
      have YYe : Hid (Var (wd.alloc (Obj.cells #[Value.bool np, Value.slice po plen pcap, Value.int IntKind.i64 ep] 25)) w2.heap.size ny bo blen bcap ey E 1024 (fval b)) := YYd.out.alloc _
      have HBe : Hid (Below w.heap.size w (wd.alloc (Obj.cells #[Value.bool np, Value.slice po plen pcap, Value.int IntKind.i64 ep] 25))) := HBd.out.alloc HBd.out.size _
      clear hfd hbd
      obtain ⟨dl, hdl⟩ : ∃ q, decide (Fin lo) = q := ⟨_, rfl⟩
      rw [hdl]
      clear hdl
      go_wp2_with fail
      refine (num_any hi FHI.out.2 _ E hE).mono ?_
      rintro ee we ⟨ve, rfl, ⟨ze, hze, hfe⟩, hbe⟩
      have hzv := hfe FHI.out.1
      subst hzv
      have Ze : Hid (NumZ we ve E 1024 (fval hi)) := hze
      obtain ⟨nq, mq, eq, ⟨qo, qlen, qcap, qs, rfl, -⟩, -⟩ := hze
      have XXf : Hid (Var we w1.heap.size nx ao len cap ex (E + E) 2048 (fval a * ((2 ^ E : Nat) : Int))) := XXe.out.later hbe
      have YYf : Hid (Var we w2.heap.size ny bo blen bcap ey E 1024 (fval b)) := YYe.out.later hbe
      have PPf : Hid (Var we wd.heap.size np po plen pcap ep E 1024 (fval lo)) := PPe.out.later hbe
      have HBf : Hid (Below w.heap.size w we) := HBe.out.trans (hbe.mono HBe.out.size)
      have QQg : Hid (Var (we.alloc (Obj.cells #[Value.bool nq, Value.slice qo qlen qcap, Value.int IntKind.i64 eq] 25)) we.heap.size nq qo qlen qcap eq E 1024 (fval hi)) := Var.new Ze.out
      have XXg : Hid (Var (we.alloc (Obj.cells #[Value.bool nq, Value.slice qo qlen qcap, Value.int IntKind.i64 eq] 25)) w1.heap.size nx ao len cap ex (E + E) 2048 (fval a * ((2 ^ E : Nat) : Int))) := XXf.out.alloc _
      have YYg : Hid (Var (we.alloc (Obj.cells #[Value.bool nq, Value.slice qo qlen qcap, Value.int IntKind.i64 eq] 25)) w2.heap.size ny bo blen bcap ey E 1024 (fval b)) := YYf.out.alloc _
      have PPg : Hid (Var (we.alloc (Obj.cells #[Value.bool nq, Value.slice qo qlen qcap, Value.int IntKind.i64 eq] 25)) wd.heap.size np po plen pcap ep E 1024 (fval lo)) := PPf.out.alloc _
      have HBg : Hid (Below w.heap.size w (we.alloc (Obj.cells #[Value.bool nq, Value.slice qo qlen qcap, Value.int IntKind.i64 eq] 25))) := HBf.out.alloc HBf.out.size _
      clear hfe hbe XX4 YY4 HB4 XXd YYd HBd PPe XXe YYe HBe XXf YYf PPf HBf
      obtain ⟨dh, hdh⟩ : ∃ q, decide (Fin hi) = q := ⟨_, rfl⟩
      rw [hdh]
      clear hdh
      obtain ⟨y0, y1, y2⟩ := YYg.out.cells
      go_wp2_with fail
      refine (signZ_any _ E 1024 (fval b) _ YYg.out.num).mono ?_
      rintro eh wh ⟨rfl, hbh⟩
      rw [HS.out]
      clear y0 y1 y2
      have XXh : Hid (Var wh w1.heap.size nx ao len cap ex (E + E) 2048 (fval a * ((2 ^ E : Nat) : Int))) := XXg.out.later hbh
      obtain ⟨xxh0, xxh1, xxh2⟩ := XXh.out.cells
      have YYh : Hid (Var wh w2.heap.size ny bo blen bcap ey E 1024 (fval b)) := YYg.out.later hbh
      obtain ⟨yyh0, yyh1, yyh2⟩ := YYh.out.cells
      have PPh : Hid (Var wh wd.heap.size np po plen pcap ep E 1024 (fval lo)) := PPg.out.later hbh
      obtain ⟨pph0, pph1, pph2⟩ := PPh.out.cells
      have QQh : Hid (Var wh we.heap.size nq qo qlen qcap eq E 1024 (fval hi)) := QQg.out.later hbh
      obtain ⟨qqh0, qqh1, qqh2⟩ := QQh.out.cells
      have HBh : Hid (Below w.heap.size w wh) := HBg.out.trans (hbh.mono HBg.out.size)
      clear hbh XXg YYg PPg QQg HBg
      have ht2 : decide (k2 < 0) = false := by first | exact HT2.out rfl | exact HT2.out trivial
      go_wp2_with fail
      have XXi : Hid (Var wh.drew w1.heap.size nx ao len cap ex (E + E) 2048 (fval a * ((2 ^ E : Nat) : Int))) := XXh.out.drew
      have YYi : Hid (Var wh.drew w2.heap.size ny bo blen bcap ey E 1024 (fval b)) := YYh.out.drew
      have PPi : Hid (Var wh.drew wd.heap.size np po plen pcap ep E 1024 (fval lo)) := PPh.out.drew
      have QQi : Hid (Var wh.drew we.heap.size nq qo qlen qcap eq E 1024 (fval hi)) := QQh.out.drew
      have HBi : Hid (Below w.heap.size w wh.drew) := HBh.out.drew
      refine wp_region_held_drew (S := fun w' => w'.cell? ⟨w1.heap.size, 0, none⟩ = some (.bool nx) ∧ w'.cell? ⟨w1.heap.size, 1, none⟩ = some (.slice ao len cap) ∧ w'.cell? ⟨w1.heap.size, 2, none⟩ = some (.int .i64 ex) ∧ w'.cell? ⟨w2.heap.size, 0, none⟩ = some (.bool ny) ∧ w'.cell? ⟨w2.heap.size, 1, none⟩ = some (.slice bo blen bcap) ∧ w'.cell? ⟨w2.heap.size, 2, none⟩ = some (.int .i64 ey) ∧ w'.cell? ⟨wd.heap.size, 0, none⟩ = some (.bool np) ∧ w'.cell? ⟨wd.heap.size, 1, none⟩ = some (.slice po plen pcap) ∧ w'.cell? ⟨wd.heap.size, 2, none⟩ = some (.int .i64 ep) ∧ w'.cell? ⟨we.heap.size, 0, none⟩ = some (.bool nq) ∧ w'.cell? ⟨we.heap.size, 1, none⟩ = some (.slice qo qlen qcap) ∧ w'.cell? ⟨we.heap.size, 2, none⟩ = some (.int .i64 eq)) (by kernel_rfl) ?sSaxxxx (fun hHeld => ?_)
      case sSaxxxx => ((try dsimp only); go_keep)
      refine wpAnyH_take (i := 0) (oi := { dst := some 82, op := Op.move (Operand.tmp 10), type := 4, pos := "outright.go:102", after := #[], guard := none }) (v := ?v0axxxx) rfl (by kernel_rfl) (by kernel_rfl) (by kernel_rfl) (fun _ _ _ h => h) (Or.inl ⟨by rfl, ?y0axxxx⟩) (by assumption) ?r0axxxx
      case y0axxxx => (intro w0 hSw; (try dsimp only at hSw); (go_simp <;> with_reducible rfl))
      simp only [Act.put, List.setIfInBounds_toArray, List.set_cons_zero, List.set_cons_succ]
      refine wpAnyH_take (i := 1) (oi := { dst := some 83, op := Op.move (Operand.tmp 82), type := 4, pos := "outright.go:102", after := #[{ on := 0, ground := Ground.data }], guard := none }) (v := ?v1axxxx) rfl (by kernel_rfl) (by kernel_rfl) (by kernel_rfl) (fun _ _ _ h => h) (Or.inl ⟨by rfl, ?y1axxxx⟩) (by assumption) ?r1axxxx
      case y1axxxx => (intro w0 hSw; (try dsimp only at hSw); (go_simp <;> with_reducible rfl))
      simp only [Act.put, List.setIfInBounds_toArray, List.set_cons_zero, List.set_cons_succ]
      refine wpAnyH_take (i := 2) (oi := { dst := some 84, op := Op.move (Operand.tmp 17), type := 3, pos := "outright.go:102", after := #[{ on := 1, ground := Ground.guard }], guard := some (1, true) }) (v := undef) rfl (by kernel_rfl) (by kernel_rfl) (by kernel_rfl) (fun _ _ _ h => h) (Or.inr ⟨by rfl, rfl⟩) (by assumption) ?r2axxxx
      simp only [Act.put, List.setIfInBounds_toArray, List.set_cons_zero, List.set_cons_succ]
      refine wpAnyH_take (i := 3) (oi := { dst := some 85, op := Op.load 25 (Operand.tmp 13), type := 25, pos := "outright.go:102", after := #[{ on := 1, ground := Ground.guard }], guard := some (1, true) }) (v := undef) rfl (by kernel_rfl) (by kernel_rfl) (by kernel_rfl) (fun _ _ _ h => h) (Or.inr ⟨by rfl, rfl⟩) (by assumption) ?r3axxxx
      simp only [Act.put, List.setIfInBounds_toArray, List.set_cons_zero, List.set_cons_succ]
      refine wpAnyH_take (i := 4) (oi := { dst := some 86, op := Op.load 25 (Operand.tmp 7), type := 25, pos := "outright.go:102", after := #[{ on := 1, ground := Ground.guard }], guard := some (1, true) }) (v := undef) rfl (by kernel_rfl) (by kernel_rfl) (by kernel_rfl) (fun _ _ _ h => h) (Or.inr ⟨by rfl, rfl⟩) (by assumption) ?r4axxxx
      simp only [Act.put, List.setIfInBounds_toArray, List.set_cons_zero, List.set_cons_succ]
      refine wpAnyH_take (i := 6) (oi := { dst := some 88, op := Op.load 25 (Operand.tmp 5), type := 25, pos := "outright.go:102", after := #[{ on := 1, ground := Ground.guard }], guard := some (1, true) }) (v := undef) rfl (by kernel_rfl) (by kernel_rfl) (by kernel_rfl) (fun _ _ _ h => h) (Or.inr ⟨by rfl, rfl⟩) (by assumption) ?r6axxxx
      simp only [Act.put, List.setIfInBounds_toArray, List.set_cons_zero, List.set_cons_succ]
      refine wpAnyH_take (i := 5) (oi := { dst := some 87, op := Op.call { callee := Callee.value (Operand.func 24), args := #[Operand.tmp 85, Operand.tmp 86], argTypes := #[25, 25] }, type := 25, pos := "outright.go:102", after := #[{ on := 3, ground := Ground.data }, { on := 4, ground := Ground.data }, { on := 1, ground := Ground.chain }, { on := 1, ground := Ground.guard }], guard := some (1, true) }) (v := undef) rfl (by kernel_rfl) (by kernel_rfl) (by kernel_rfl) (fun _ _ _ h => h) (Or.inr ⟨by rfl, rfl⟩) (by assumption) ?r5axxxx
      simp only [Act.put, List.setIfInBounds_toArray, List.set_cons_zero, List.set_cons_succ]
      refine wpAnyH_take (i := 7) (oi := { dst := some 89, op := Op.call { callee := Callee.value (Operand.func 13), args := #[Operand.tmp 87, Operand.tmp 88], argTypes := #[25, 25] }, type := 3, pos := "outright.go:102", after := #[{ on := 5, ground := Ground.data }, { on := 6, ground := Ground.data }, { on := 5, ground := Ground.chain }, { on := 1, ground := Ground.guard }], guard := some (1, true) }) (v := undef) rfl (by kernel_rfl) (by kernel_rfl) (by kernel_rfl) (fun _ _ _ h => h) (Or.inr ⟨by rfl, rfl⟩) (by assumption) ?r7axxxx
      simp only [Act.put, List.setIfInBounds_toArray, List.set_cons_zero, List.set_cons_succ]
      refine wpAnyH_take (i := 8) (oi := { dst := some 90, op := Op.binOp BinOp.mul 3 (Operand.tmp 84) (Operand.tmp 89) 3, type := 3, pos := "outright.go:102", after := #[{ on := 2, ground := Ground.data }, { on := 7, ground := Ground.data }, { on := 1, ground := Ground.guard }], guard := some (1, true) }) (v := undef) rfl (by kernel_rfl) (by kernel_rfl) (by kernel_rfl) (fun _ _ _ h => h) (Or.inr ⟨by rfl, rfl⟩) (by assumption) ?r8axxxx
      simp only [Act.put, List.setIfInBounds_toArray, List.set_cons_zero, List.set_cons_succ]
      refine wpAnyH_take (i := 9) (oi := { dst := some 91, op := Op.binOp BinOp.gtr 3 (Operand.tmp 90) (Operand.const (Value.int IntKind.i64 0)) 3, type := 4, pos := "outright.go:102", after := #[{ on := 8, ground := Ground.data }, { on := 1, ground := Ground.guard }], guard := some (1, true) }) (v := undef) rfl (by kernel_rfl) (by kernel_rfl) (by kernel_rfl) (fun _ _ _ h => h) (Or.inr ⟨by rfl, rfl⟩) (by assumption) ?r9axxxx
      simp only [Act.put, List.setIfInBounds_toArray, List.set_cons_zero, List.set_cons_succ]
      refine wpAnyH_take (i := 10) (oi := { dst := some 92, op := Op.pick (Operand.tmp 83) (Operand.tmp 91) (Operand.const (Value.bool false)), type := 4, pos := "outright.go:102", after := #[{ on := 1, ground := Ground.data }, { on := 9, ground := Ground.data }], guard := none }) (v := ?v10axxxx) rfl (by kernel_rfl) (by kernel_rfl) (by kernel_rfl) (fun _ _ _ h => h) (Or.inl ⟨by rfl, ?y10axxxx⟩) (by assumption) ?r10axxxx
      case y10axxxx => (intro w0 hSw; (try dsimp only at hSw); (go_simp <;> with_reducible rfl))
      simp only [Act.put, List.setIfInBounds_toArray, List.set_cons_zero, List.set_cons_succ]
      refine wpAnyH_take (i := 11) (oi := { dst := some 93, op := Op.move (Operand.tmp 92), type := 4, pos := "outright.go:102", after := #[{ on := 10, ground := Ground.data }, { on := 7, ground := Ground.chain }], guard := none }) (v := ?v11axxxx) rfl (by kernel_rfl) (by kernel_rfl) (by kernel_rfl) (fun _ _ _ h => h) (Or.inl ⟨by rfl, ?y11axxxx⟩) (by assumption) ?r11axxxx
      case y11axxxx => (intro w0 hSw; (try dsimp only at hSw); (go_simp <;> with_reducible rfl))
      simp only [Act.put, List.setIfInBounds_toArray, List.set_cons_zero, List.set_cons_succ]
      refine wpAnyH_take (i := 12) (oi := { dst := some 94, op := Op.move (Operand.tmp 12), type := 4, pos := "outright.go:102", after := #[{ on := 11, ground := Ground.guard }], guard := some (11, false) }) (v := ?v12axxxx) rfl (by kernel_rfl) (by kernel_rfl) (by kernel_rfl) (fun _ _ _ h => h) (Or.inl ⟨by rfl, ?y12axxxx⟩) (by assumption) ?r12axxxx
      case y12axxxx => (intro w0 hSw; (try dsimp only at hSw); (go_simp <;> with_reducible rfl))
      simp only [Act.put, List.setIfInBounds_toArray, List.set_cons_zero, List.set_cons_succ]
      refine wpAnyH_take (i := 13) (oi := { dst := some 95, op := Op.move (Operand.tmp 94), type := 4, pos := "outright.go:102", after := #[{ on := 12, ground := Ground.data }, { on := 11, ground := Ground.chain }, { on := 11, ground := Ground.guard }], guard := some (11, false) }) (v := ?v13axxxx) rfl (by kernel_rfl) (by kernel_rfl) (by kernel_rfl) (fun _ _ _ h => h) (Or.inl ⟨by rfl, ?y13axxxx⟩) (by assumption) ?r13axxxx
      case y13axxxx => (intro w0 hSw; (try dsimp only at hSw); (go_simp <;> with_reducible rfl))
      simp only [Act.put, List.setIfInBounds_toArray, List.set_cons_zero, List.set_cons_succ]
      refine wpAnyH_take (i := 14) (oi := { dst := some 96, op := Op.move (Operand.tmp 17), type := 3, pos := "outright.go:102", after := #[{ on := 13, ground := Ground.guard }], guard := some (13, true) }) (v := ?v14axxxx) rfl (by kernel_rfl) (by kernel_rfl) (by kernel_rfl) (fun _ _ _ h => h) (Or.inl ⟨by rfl, ?y14axxxx⟩) (by assumption) ?r14axxxx
      case y14axxxx => (intro w0 hSw; (try dsimp only at hSw); (go_simp <;> with_reducible rfl))
      simp only [Act.put, List.setIfInBounds_toArray, List.set_cons_zero, List.set_cons_succ]
      refine wpAnyH_take (i := 15) (oi := { dst := some 97, op := Op.load 25 (Operand.tmp 15), type := 25, pos := "outright.go:102", after := #[{ on := 13, ground := Ground.guard }], guard := some (13, true) }) (v := ?v15axxxx) rfl (by kernel_rfl) (by kernel_rfl) (by kernel_rfl) (fun _ _ _ h => h) (Or.inl ⟨by rfl, ?y15axxxx⟩) (by assumption) ?r15axxxx
      case y15axxxx => (intro w0 hSw; (try dsimp only at hSw); (go_simp <;> with_reducible rfl))
      simp only [Act.put, List.setIfInBounds_toArray, List.set_cons_zero, List.set_cons_succ]
      refine wpAnyH_take (i := 16) (oi := { dst := some 98, op := Op.load 25 (Operand.tmp 7), type := 25, pos := "outright.go:102", after := #[{ on := 13, ground := Ground.guard }], guard := some (13, true) }) (v := ?v16axxxx) rfl (by kernel_rfl) (by kernel_rfl) (by kernel_rfl) (fun _ _ _ h => h) (Or.inl ⟨by rfl, ?y16axxxx⟩) (by assumption) ?r16axxxx
      case y16axxxx => (intro w0 hSw; (try dsimp only at hSw); (go_simp <;> with_reducible rfl))
      simp only [Act.put, List.setIfInBounds_toArray, List.set_cons_zero, List.set_cons_succ]
      refine wpAnyH_take (i := 18) (oi := { dst := some 100, op := Op.load 25 (Operand.tmp 5), type := 25, pos := "outright.go:102", after := #[{ on := 13, ground := Ground.guard }], guard := some (13, true) }) (v := ?v18axxxx) rfl (by kernel_rfl) (by kernel_rfl) (by kernel_rfl) (fun _ _ _ h => h) (Or.inl ⟨by rfl, ?y18axxxx⟩) (by assumption) ?r18axxxx
      case y18axxxx => (intro w0 hSw; (try dsimp only at hSw); (go_simp <;> with_reducible rfl))
      simp only [Act.put, List.setIfInBounds_toArray, List.set_cons_zero, List.set_cons_succ]
      refine wpAnyH_ready (rs := [17]) (by kernel_rfl) (by simp) ?_
      refine AllReadyH.cons (o := { dst := some 99, op := Op.call { callee := Callee.value (Operand.func 24), args := #[Operand.tmp 97, Operand.tmp 98], argTypes := #[25, 25] }, type := 25, pos := "outright.go:102", after := #[{ on := 15, ground := Ground.data }, { on := 16, ground := Ground.data }, { on := 13, ground := Ground.chain }, { on := 13, ground := Ground.guard }], guard := some (13, true) }) rfl (fun K hK => ?st17axxxx) ?nl17axxxx
      case nl17axxxx => exact AllReadyH.nil
      go_simp
      (go_at_call_of 24 (Value.agg #[Value.bool nq, Value.slice qo qlen qcap, Value.int IntKind.i64 eq]); refine (timesZ_any _ _ E 1024 1024 _ _ _ QQi.out.num YYi.out.num (by omega) (by omega) (by omega)).mono ?_; rintro ej3 wj3 ⟨vj3, rfl, hzj3, hbj3⟩; have XXj3 : Hid (Var wj3 w1.heap.size nx ao len cap ex (E + E) 2048 (fval a * ((2 ^ E : Nat) : Int))) := XXi.out.later hbj3; obtain ⟨xxj30, xxj31, xxj32⟩ := XXj3.out.cells; have YYj3 : Hid (Var wj3 w2.heap.size ny bo blen bcap ey E 1024 (fval b)) := YYi.out.later hbj3; obtain ⟨yyj30, yyj31, yyj32⟩ := YYj3.out.cells; have PPj3 : Hid (Var wj3 wd.heap.size np po plen pcap ep E 1024 (fval lo)) := PPi.out.later hbj3; obtain ⟨ppj30, ppj31, ppj32⟩ := PPj3.out.cells; have QQj3 : Hid (Var wj3 we.heap.size nq qo qlen qcap eq E 1024 (fval hi)) := QQi.out.later hbj3; obtain ⟨qqj30, qqj31, qqj32⟩ := QQj3.out.cells; have HBj3 : Hid (Below w.heap.size w wj3) := HBi.out.trans (hbj3.mono HBi.out.size); have Zj3 : Hid (NumZ wj3 vj3 (E + E) 2048 (fval hi * fval b)) := hzj3; clear hzj3 hbj3)
      refine hK.out _ _ ?sh17axxxx (fun hHeld => ?_)
      case sh17axxxx => ((try dsimp only); go_keep)
      clear hK K
      (try simp only [Act.put, List.setIfInBounds_toArray, List.set_cons_zero, List.set_cons_succ])
      refine wpAnyH_ready (rs := [19]) (by kernel_rfl) (by simp) ?_
      refine AllReadyH.cons (o := { dst := some 101, op := Op.call { callee := Callee.value (Operand.func 13), args := #[Operand.tmp 99, Operand.tmp 100], argTypes := #[25, 25] }, type := 3, pos := "outright.go:102", after := #[{ on := 17, ground := Ground.data }, { on := 18, ground := Ground.data }, { on := 17, ground := Ground.chain }, { on := 13, ground := Ground.guard }], guard := some (13, true) }) rfl (fun K hK => ?st19axxxx) ?nl19axxxx
      case nl19axxxx => exact AllReadyH.nil
      go_simp
      (go_at_call_of 13 vj3; refine (cmpZ_any _ _ (E + E) 2048 _ _ _ Zj3.out XXj3.out.num (by omega) (by omega)).mono ?_; rintro ej4 wj4 ⟨rfl, hbj4⟩; have XXj4 : Hid (Var wj4 w1.heap.size nx ao len cap ex (E + E) 2048 (fval a * ((2 ^ E : Nat) : Int))) := XXj3.out.later hbj4; obtain ⟨xxj40, xxj41, xxj42⟩ := XXj4.out.cells; have YYj4 : Hid (Var wj4 w2.heap.size ny bo blen bcap ey E 1024 (fval b)) := YYj3.out.later hbj4; obtain ⟨yyj40, yyj41, yyj42⟩ := YYj4.out.cells; have PPj4 : Hid (Var wj4 wd.heap.size np po plen pcap ep E 1024 (fval lo)) := PPj3.out.later hbj4; obtain ⟨ppj40, ppj41, ppj42⟩ := PPj4.out.cells; have QQj4 : Hid (Var wj4 we.heap.size nq qo qlen qcap eq E 1024 (fval hi)) := QQj3.out.later hbj4; obtain ⟨qqj40, qqj41, qqj42⟩ := QQj4.out.cells; have HBj4 : Hid (Below w.heap.size w wj4) := HBj3.out.trans (hbj4.mono HBj3.out.size); rw [H2.out]; clear hbj4)
      refine hK.out _ _ ?sh19axxxx (fun hHeld => ?_)
      case sh19axxxx => ((try dsimp only); go_keep)
      clear hK K
      (try simp only [Act.put, List.setIfInBounds_toArray, List.set_cons_zero, List.set_cons_succ])
      refine wpAnyH_take (i := 20) (oi := { dst := some 102, op := Op.binOp BinOp.mul 3 (Operand.tmp 96) (Operand.tmp 101) 3, type := 3, pos := "outright.go:102", after := #[{ on := 14, ground := Ground.data }, { on := 19, ground := Ground.data }, { on := 13, ground := Ground.guard }], guard := some (13, true) }) (v := ?v20axxxx) rfl (by kernel_rfl) (by kernel_rfl) (by kernel_rfl) (fun _ _ _ h => h) (Or.inl ⟨by rfl, ?y20axxxx⟩) (by assumption) ?r20axxxx
      case y20axxxx => (intro w0 hSw; (try dsimp only at hSw); (go_simp <;> with_reducible rfl))
      simp only [Act.put, List.setIfInBounds_toArray, List.set_cons_zero, List.set_cons_succ]
      refine wpAnyH_take (i := 21) (oi := { dst := some 103, op := Op.binOp BinOp.lss 3 (Operand.tmp 102) (Operand.const (Value.int IntKind.i64 0)) 3, type := 4, pos := "outright.go:102", after := #[{ on := 20, ground := Ground.data }, { on := 13, ground := Ground.guard }], guard := some (13, true) }) (v := ?v21axxxx) rfl (by kernel_rfl) (by kernel_rfl) (by kernel_rfl) (fun _ _ _ h => h) (Or.inl ⟨by rfl, ?y21axxxx⟩) (by assumption) ?r21axxxx
      case y21axxxx => (intro w0 hSw; (try dsimp only at hSw); (go_simp <;> with_reducible rfl))
      simp only [Act.put, List.setIfInBounds_toArray, List.set_cons_zero, List.set_cons_succ]
      refine wpAnyH_take (i := 22) (oi := { dst := some 104, op := Op.pick (Operand.tmp 95) (Operand.tmp 103) (Operand.const (Value.bool false)), type := 4, pos := "outright.go:102", after := #[{ on := 13, ground := Ground.data }, { on := 21, ground := Ground.data }, { on := 11, ground := Ground.guard }], guard := some (11, false) }) (v := ?v22axxxx) rfl (by kernel_rfl) (by kernel_rfl) (by kernel_rfl) (fun _ _ _ h => h) (Or.inl ⟨by rfl, ?y22axxxx⟩) (by assumption) ?r22axxxx
      case y22axxxx => (intro w0 hSw; (try dsimp only at hSw); (go_simp <;> with_reducible rfl))
      simp only [Act.put, List.setIfInBounds_toArray, List.set_cons_zero, List.set_cons_succ]
      refine wpAnyH_take (i := 23) (oi := { dst := some 105, op := Op.pick (Operand.tmp 93) (Operand.const (Value.bool true)) (Operand.tmp 104), type := 4, pos := "outright.go:102", after := #[{ on := 11, ground := Ground.data }, { on := 22, ground := Ground.data }], guard := none }) (v := ?v23axxxx) rfl (by kernel_rfl) (by kernel_rfl) (by kernel_rfl) (fun _ _ _ h => h) (Or.inl ⟨by rfl, ?y23axxxx⟩) (by assumption) ?r23axxxx
      case y23axxxx => (intro w0 hSw; (try dsimp only at hSw); (go_simp <;> with_reducible rfl))
      simp only [Act.put, List.setIfInBounds_toArray, List.set_cons_zero, List.set_cons_succ]
      refine wpAnyH_done (by kernel_rfl) ?_ _
      go_wp2_with (go_at_call 11; refine (started_any _).mono ?_; rintro es ws ⟨rfl, rfl⟩)
      all_goals (go_ret; exact ⟨rfl, by first | exact HBj4.out | exact HBj4.out.drew⟩)
end Go.Proofs.Ytgjdmenmegnacab
