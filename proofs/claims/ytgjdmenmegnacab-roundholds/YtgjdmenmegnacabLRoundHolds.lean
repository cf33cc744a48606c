import Derived.Test.YtgjdmenmegnacabTE
import Derived.Test.YtgjdmenmegnacabRO
namespace Go.Proofs.Ytgjdmenmegnacab
open Go.RowKit
set_option linter.unusedVariables false

theorem add_max {a b : Nat} (ha : Fin a) (hb : Fin b) (h : fval a + fval b = maxV ∨ fval a + fval b = -maxV) : ∃ r, Ieee.double.add a b = some r ∧ Fin r ∧ r < 18446744073709551616 ∧ fval r = fval a + fval b := by
  have hj : rmag (infK - 1) = (fval a + fval b).natAbs := by
    have hm : maxV = (rmag (infK - 1) : Int) := by
      unfold maxV
      have : ((infK : Int) - 1) = ((infK - 1 : Nat) : Int) := by decide
      rw [this, smag_nat]
    rcases h with h | h <;> rw [h, hm] <;> simp
  obtain ⟨r, hr, g, hg, hsg⟩ := add_fin ha hb
  obtain ⟨R, hR, h1, h2, h3⟩ := hg.rung
  have hn := near_one hR hj
  have hi : infK - 1 < infK := by decide
  have e := rmag_inj (hn.trans hj.symm)
  have hf : Fin r := by unfold Fin; rw [h1, e]; omega
  obtain ⟨hv, -⟩ := hg.fval_of hR hsg hf
  refine ⟨r, hr, hf, h3, ?_⟩
  rw [hv, hn]; split <;> omega
theorem ord_ne' {x y : Nat} (hx : Fin x) (hy : Fin y) : (Ieee.double.order x y != some .eq) = !decide (srung x = srung y) := ord_ne hx hy
theorem next_up {f : Int} {lo : Nat} {p : Nat × Bool} (hS : srung lo = f) (h : RndZ 1 (fval lo * 64 + sideOf 1) 64 p) (h1 : -(infK : Int) < f) (h2 : f + 1 < (infK : Int)) : p.2 = true ∧ srung p.1 = f + 1 ∧ Fin p.1 := by
  have hs : sideOf 1 = 1 := rfl
  rw [fval_smag, hS, hs] at h
  have h3 := smag_lt (show f < f + 1 by omega)
  have hf : Sf (smag f * 64 + 1) 64 f := ⟨by show smag f * 64 ≤ _; omega, by show _ < smag (f + 1) * 64; omega⟩
  have hc : ceilK (smag f * 64 + 1) 64 f = f + 1 := by unfold ceilK; rw [if_neg (by show ¬ (smag f * 64 + 1 = smag f * 64); omega)]
  have hfin := rndZ_fin h
  rcases rz_up h hf with ⟨a1, a2, a3⟩ | ⟨a1, a2⟩
  · rw [hc] at a3
    exact ⟨a1, by omega, hfin.1⟩
  · rw [hc] at a2; omega
set_option maxRecDepth 100000 in
set_option maxHeartbeats 4000000 in
theorem roundHolds_walk (n : Int) (n0 : -9223372036854775808 ≤ n) (n1 : n ≤ 9223372036854775807) (a : Nat) (ha : a < 18446744073709551616) (b : Nat) (hb : b < 18446744073709551616) (w : World) :
    Calls Try.prog 3 #[.int .i64 n, .float .f64 a, .float .f64 b] w fun e w' => e = .returned (.bool true) ∧ Below w.heap.size w w' := by
  obtain ⟨E, hE⟩ : ∃ E : Nat, E = 1074 := ⟨_, rfl⟩
  have k1 := callOf_is n
  have K1 : Hid _ := k1
  clear k1
  go_enter Try.func3, Try.ntmps3
  go_wp2_with fail
  generalize wrap64 (1 + (wrap64 (n.tmod 3 + 3)).tmod 3) = c1 at *
  obtain ⟨⟨lo, o2⟩, p21, p22, cp2⟩ := asked_any c1 2 K1.out a b ha hb E hE
  obtain ⟨⟨hi, o1⟩, p11, p12, cp1⟩ := asked_any c1 1 K1.out a b ha hb E hE
  obtain ⟨⟨m, o0⟩, p01, p02, cp0⟩ := asked_any c1 0 K1.out a b ha hb E hE
  simp only at cp2 cp1 cp0
  have P2 : Hid (Fin a ∧ Fin b → RndZ 2 (exactX c1 E a b) (2 ^ E) (lo, o2)) := p21
  have P1 : Hid (Fin a ∧ Fin b → RndZ 1 (exactX c1 E a b) (2 ^ E) (hi, o1)) := p11
  have P0 : Hid (Fin a ∧ Fin b → RndZ 0 (exactX c1 E a b) (2 ^ E) (m, o0)) := p01
  have PN : Hid (¬ (Fin a ∧ Fin b) → lo = 0 ∧ o2 = false ∧ hi = 0 ∧ o1 = false ∧ m = 0 ∧ o0 = false) := by
    intro h
    have e1 := p22 h
    have e2 := p12 h
    have e3 := p02 h
    simp only [Prod.mk.injEq] at e1 e2 e3
    exact ⟨e1.1, e1.2, e2.1, e2.2, e3.1, e3.2⟩
  clear p21 p22 p11 p12 p01 p02
  refine (exact_any c1 K1.out a b ha hb _ E hE).mono ?_
  rintro e1 w1 ⟨v1, rfl, ⟨z1, hz1, hf1⟩, hb1⟩
  have Z1 : Hid (NumZ w1 v1 (E + E) 2048 z1) := hz1
  have F1 : Hid (Fin a ∧ Fin b → z1 = exactX c1 E a b) := hf1
  obtain ⟨nx, mx, ex, ⟨ao, len, cap, xs, rfl, -⟩, -⟩ := hz1
  have HB1 : Hid (Below w.heap.size w w1) := hb1
  clear hb1 hf1
  obtain ⟨da, hda⟩ : ∃ q, decide (Fin a ∧ Fin b) = q := ⟨_, rfl⟩
  rw [hda]
  have HDA : Hid (da = true → Fin a ∧ Fin b) := fun h => by rw [← hda] at h; exact of_decide_eq_true h
  have HDN : Hid (da = false → ¬ (Fin a ∧ Fin b)) := fun h => by rw [← hda] at h; exact of_decide_eq_false h
  clear hda
  have HBA : Hid (Below w.heap.size w (w1.alloc (Obj.cells #[Value.bool nx, Value.slice ao len cap, Value.int IntKind.i64 ex] 25))) := HB1.out.alloc HB1.out.size _
  have ZA : Hid (NumZ (w1.alloc (Obj.cells #[Value.bool nx, Value.slice ao len cap, Value.int IntKind.i64 ex] 25)) _ (E + E) 2048 z1) := NumZ.later Z1.out ((Below.refl _ _).alloc (Nat.le_refl _) _)
  have VA : Hid (Var (w1.alloc (Obj.cells #[Value.bool nx, Value.slice ao len cap, Value.int IntKind.i64 ex] 25)) w1.heap.size nx ao len cap ex (E + E) 2048 z1) := Var.new Z1.out
  clear ZA
  go_wp2_with fail
  refine (cp2 _).mono ?_
  rintro e3 w3 ⟨rfl, rfl⟩
  go_wp2_with fail
  refine (cp1 _).mono ?_
  rintro e3 w3 ⟨rfl, rfl⟩
  go_wp2_with fail
  refine (cp0 _).mono ?_
  rintro e3 w3 ⟨rfl, rfl⟩
  clear cp0 cp1 cp2
  cases da
  · obtain ⟨rfl, rfl, rfl, rfl, rfl, rfl⟩ := PN.out (HDN.out rfl)
    have h00 : (FloatKind.f64.format.order 0 0 == some .eq) = true := by rw [f64_fmt, ord_eq (by decide) (by decide)]; decide
    go_wp2_with (go_at_call 11; refine (started_any _).mono ?_; rintro es ws ⟨rfl, rfl⟩)
    all_goals (go_ret; exact ⟨rfl, by first | exact HBA.out | exact HBA.out.drew⟩)
  have hfab := HDA.out rfl
  obtain ⟨f, hfl⟩ := Sf.some (exactX c1 E a b) (Nat.two_pow_pos E)
  have HH : Hid (Held z1 (2 ^ E) f (lo, o2) (hi, o1) (m, o0)) := by
    unfold Hid; rw [F1.out hfab]
    exact ⟨Nat.two_pow_pos E, hfl, P2.out hfab, P1.out hfab, P0.out hfab⟩
  clear hfl P0 P1 P2 PN HDA HDN F1 hfab
  go_wp2_with fail
  refine (ofZ_any 9218868437227405311 (by decide) _ E hE).mono ?_
  rintro e4 w4 ⟨v4, rfl, ⟨z4, hz4, hf4⟩, hb4⟩
  have hfm : Fin 9218868437227405311 := by decide
  have hmx := hf4 hfm
  rw [fval_max] at hmx
  subst hmx
  have Z4 : Hid (NumZ w4 v4 (E + E) 2048 (maxV * ((2 ^ E : Nat) : Int))) := NumZ.mono (NumZ.more hz4 E) (by omega)
  obtain ⟨ny, my, ey, ⟨bo, blen, bcap, ys, rfl, -⟩, -⟩ := hz4
  have HB4 : Hid (Below w.heap.size w w4) := HBA.out.trans (hb4.mono HBA.out.size)
  have V4 : Hid (Var w4 w1.heap.size nx ao len cap ex (E + E) 2048 z1) := VA.out.later hb4
  have VV : Hid (Var (w4.alloc (Obj.cells #[Value.bool ny, Value.slice bo blen bcap, Value.int IntKind.i64 ey] 25)) w1.heap.size nx ao len cap ex (E + E) 2048 z1) := V4.out.alloc _
  have TT : Hid (Var (w4.alloc (Obj.cells #[Value.bool ny, Value.slice bo blen bcap, Value.int IntKind.i64 ey] 25)) w4.heap.size ny bo blen bcap ey (E + E) 2048 (maxV * ((2 ^ E : Nat) : Int))) := Var.new Z4.out
  have HB5 : Hid (Below w.heap.size w (w4.alloc (Obj.cells #[Value.bool ny, Value.slice bo blen bcap, Value.int IntKind.i64 ey] 25))) := HB4.out.alloc HB4.out.size _
  generalize decide (Fin 9218868437227405311) = dmx
  clear hb4 hf4 hfm V4 HB4
  obtain ⟨v0, v1, v2⟩ := VV.out.cells
  obtain ⟨t0, t1, t2⟩ := TT.out.cells
  obtain ⟨g1, hg1⟩ : ∃ g, sgi (z1 - -(maxV * ((2 ^ E : Nat) : Int))) = g := ⟨_, rfl⟩
  obtain ⟨g2, hg2⟩ : ∃ g, sgi (z1 - (maxV * ((2 ^ E : Nat) : Int))) = g := ⟨_, rfl⟩
  have HG1 : Hid (sgi (z1 - -(maxV * ((2 ^ E : Nat) : Int))) = g1) := hg1
  have HG2 : Hid (sgi (z1 - (maxV * ((2 ^ E : Nat) : Int))) = g2) := hg2
  have ho2 : o2 = decide (0 ≤ g1) := by rw [← hg1, ← Int.neg_mul]; exact HH.out.lo_told
  have ho1 : o1 = decide (g2 ≤ 0) := by rw [← hg2]; exact HH.out.hi_told
  clear hg1 hg2
  obtain ⟨t1, ht1⟩ : ∃ t, decide (0 ≤ g1) = t := ⟨_, rfl⟩
  obtain ⟨t2, ht2⟩ : ∃ t, decide (g2 ≤ 0) = t := ⟨_, rfl⟩
  rw [ht1] at ho2
  rw [ht2] at ho1
  subst ho1 ho2
  go_wp2_with fail
  generalize w4.alloc (Obj.cells #[Value.bool ny, Value.slice bo blen bcap, Value.int IntKind.i64 ey] 25) = W at *
  have VVd : Hid (Var W.drew w1.heap.size nx ao len cap ex (E + E) 2048 z1) := VV.out.drew
  have TTd : Hid (Var W.drew w4.heap.size ny bo blen bcap ey (E + E) 2048 (maxV * ((2 ^ E : Nat) : Int))) := TT.out.drew
  have HBd : Hid (Below w.heap.size w W.drew) := HB5.out.drew
  cases o2
  · cases o1
    all_goals
      go_region_held3 (fun w' => w'.cell? ⟨w1.heap.size, 0, none⟩ = some (.bool nx) ∧ w'.cell? ⟨w1.heap.size, 1, none⟩ = some (.slice ao len cap) ∧ w'.cell? ⟨w1.heap.size, 2, none⟩ = some (.int .i64 ex) ∧ w'.cell? ⟨w4.heap.size, 0, none⟩ = some (.bool ny) ∧ w'.cell? ⟨w4.heap.size, 1, none⟩ = some (.slice bo blen bcap) ∧ w'.cell? ⟨w4.heap.size, 2, none⟩ = some (.int .i64 ey)) (go_keep)
        (first
          | (go_at_call 14; refine (turnedZ_any _ (E + E) 2048 _ _ TTd.out.num).mono ?_; rintro ea wa ⟨va, rfl, hza, hba⟩; have VVa : Hid (Var wa w1.heap.size nx ao len cap ex (E + E) 2048 z1) := VVd.out.later hba; obtain ⟨vva0, vva1, vva2⟩ := VVa.out.cells; have TTa : Hid (Var wa w4.heap.size ny bo blen bcap ey (E + E) 2048 (maxV * ((2 ^ E : Nat) : Int))) := TTd.out.later hba; obtain ⟨tta0, tta1, tta2⟩ := TTa.out.cells; have HBa : Hid (Below w.heap.size w wa) := HBd.out.trans (hba.mono HBd.out.size); have ZTa : Hid (NumZ wa va (E + E) 2048 (-(maxV * ((2 ^ E : Nat) : Int)))) := hza; clear hza hba)
          | (go_at_call_of 13 va; refine (cmpZ_any _ _ (E + E) 2048 _ _ _ VVa.out.num ZTa.out (by omega) (by omega)).mono ?_; rintro eb wb ⟨rfl, hbb⟩; have VVb : Hid (Var wb w1.heap.size nx ao len cap ex (E + E) 2048 z1) := VVa.out.later hbb; obtain ⟨vvb0, vvb1, vvb2⟩ := VVb.out.cells; have TTb : Hid (Var wb w4.heap.size ny bo blen bcap ey (E + E) 2048 (maxV * ((2 ^ E : Nat) : Int))) := TTa.out.later hbb; obtain ⟨ttb0, ttb1, ttb2⟩ := TTb.out.cells; have HBb : Hid (Below w.heap.size w wb) := HBa.out.trans (hbb.mono HBa.out.size); rw [HG1.out]; clear hbb)
          | (go_at_call_of 13 (Value.agg #[Value.bool ny, Value.slice bo blen bcap, Value.int IntKind.i64 ey]); refine (cmpZ_any _ _ (E + E) 2048 _ _ _ VVb.out.num TTb.out.num (by omega) (by omega)).mono ?_; rintro ec wc ⟨rfl, hbc⟩; have VVc : Hid (Var wc w1.heap.size nx ao len cap ex (E + E) 2048 z1) := VVb.out.later hbc; obtain ⟨vvc0, vvc1, vvc2⟩ := VVc.out.cells; have TTc : Hid (Var wc w4.heap.size ny bo blen bcap ey (E + E) 2048 (maxV * ((2 ^ E : Nat) : Int))) := TTb.out.later hbc; obtain ⟨ttc0, ttc1, ttc2⟩ := TTc.out.cells; have HBc : Hid (Below w.heap.size w wc) := HBb.out.trans (hbc.mono HBb.out.size); rw [HG2.out]; clear hbc))
      have hby := HH.out.beyond (.inl rfl)
      simp only at hby
      obtain ⟨y1, y2, y3, y4, y5, y6⟩ := hby
      obtain ⟨r, r1, r2, r3, r4⟩ := add_max y1 y2 y5
      have ra := run_add r1
      have R4 : Hid ((fval r * ((2 ^ E : Nat) : Int)).natAbs = (((maxV * ((2 ^ E : Nat) : Int))).natAbs)) := by (unfold Hid; rw [r4]; rcases y5 with h | h; exact congrArg (fun t : Int => (t * ((2 ^ E : Nat) : Int)).natAbs) h; rw [h, Int.neg_mul, Int.natAbs_neg])
      have Y6 : Hid ((maxV * ((2 ^ E : Nat) : Int)) < (z1.natAbs : Int)) := y6
      clear y1 y2 y3 y4 y5 y6 r1 r4 HH HG1 HG2 ht1 ht2
      go_wp2_with fail
      refine (num_any r r3 _ E hE).mono ?_
      rintro ed wd ⟨vd, rfl, ⟨zd, hzd, hfd⟩, hbd⟩
      have hzv := hfd r2
      subst hzv
      have Zd : Hid (NumZ wd vd (E + E) 2048 (fval r * ((2 ^ E : Nat) : Int))) := NumZ.mono (NumZ.more hzd E) (by omega)
      obtain ⟨np, mp, ep, ⟨po, plen, pcap, ps, rfl, -⟩, -⟩ := hzd
      clear vvc0 vvc1 vvc2 ttc0 ttc1 ttc2
      have VVe : Hid (Var wd w1.heap.size nx ao len cap ex (E + E) 2048 z1) := VVc.out.later hbd
      have TTe : Hid (Var wd w4.heap.size ny bo blen bcap ey (E + E) 2048 (maxV * ((2 ^ E : Nat) : Int))) := TTc.out.later hbd
      have HBe : Hid (Below w.heap.size w wd) := HBc.out.trans (hbd.mono HBc.out.size)
      have PPf : Hid (Var (wd.alloc (Obj.cells #[Value.bool np, Value.slice po plen pcap, Value.int IntKind.i64 ep] 25)) wd.heap.size np po plen pcap ep (E + E) 2048 (fval r * ((2 ^ E : Nat) : Int))) := Var.new Zd.out
      have VVf : Hid (Var (wd.alloc (Obj.cells #[Value.bool np, Value.slice po plen pcap, Value.int IntKind.i64 ep] 25)) w1.heap.size nx ao len cap ex (E + E) 2048 z1) := VVe.out.alloc _
      have TTf : Hid (Var (wd.alloc (Obj.cells #[Value.bool np, Value.slice po plen pcap, Value.int IntKind.i64 ep] 25)) w4.heap.size ny bo blen bcap ey (E + E) 2048 (maxV * ((2 ^ E : Nat) : Int))) := TTe.out.alloc _
      have HBf : Hid (Below w.heap.size w (wd.alloc (Obj.cells #[Value.bool np, Value.slice po plen pcap, Value.int IntKind.i64 ep] 25))) := HBe.out.alloc HBe.out.size _
      clear hfd hbd VVe TTe HBe VVc TTc HBc VVa VVb TTa TTb VVd TTd HBa HBb HBd
      obtain ⟨dl, hdl⟩ : ∃ q, decide (Fin r) = q := ⟨_, rfl⟩
      rw [hdl]
      clear hdl
      obtain ⟨x0, x1, x2⟩ := VVf.out.cells
      obtain ⟨z0, z1', z2⟩ := TTf.out.cells
      obtain ⟨y0, y1, y2⟩ := PPf.out.cells
      go_wp2_with fail
      have hMXp : 0 < (maxV * ((2 ^ E : Nat) : Int)) := Int.mul_pos maxV_pos (by have := Nat.two_pow_pos E; omega)
      have HC1 : Hid (sgi (((fval r * ((2 ^ E : Nat) : Int)).natAbs : Int) - (maxV * ((2 ^ E : Nat) : Int))) = 0) := by (unfold Hid; rw [R4.out]; unfold sgi; rw [if_neg (by omega), if_pos (by omega)])
      have HC2 : Hid (sgi ((z1.natAbs : Int) - (maxV * ((2 ^ E : Nat) : Int))) = 1) := by (have := Y6.out; unfold Hid sgi; rw [if_neg (by omega), if_neg (by omega)])
      clear hMXp
      generalize wd.alloc (Obj.cells #[Value.bool np, Value.slice po plen pcap, Value.int IntKind.i64 ep] 25) = WQ at *
      have VVr : Hid (Var WQ.drew w1.heap.size nx ao len cap ex (E + E) 2048 z1) := VVf.out.drew
      have TTr : Hid (Var WQ.drew w4.heap.size ny bo blen bcap ey (E + E) 2048 (maxV * ((2 ^ E : Nat) : Int))) := TTf.out.drew
      have PPr : Hid (Var WQ.drew wd.heap.size np po plen pcap ep (E + E) 2048 (fval r * ((2 ^ E : Nat) : Int))) := PPf.out.drew
      have HBr : Hid (Below w.heap.size w WQ.drew) := HBf.out.drew
      go_region_held3 (fun w' => w'.cell? ⟨w1.heap.size, 0, none⟩ = some (.bool nx) ∧ w'.cell? ⟨w1.heap.size, 1, none⟩ = some (.slice ao len cap) ∧ w'.cell? ⟨w1.heap.size, 2, none⟩ = some (.int .i64 ex) ∧ w'.cell? ⟨w4.heap.size, 0, none⟩ = some (.bool ny) ∧ w'.cell? ⟨w4.heap.size, 1, none⟩ = some (.slice bo blen bcap) ∧ w'.cell? ⟨w4.heap.size, 2, none⟩ = some (.int .i64 ey) ∧ w'.cell? ⟨wd.heap.size, 0, none⟩ = some (.bool np) ∧ w'.cell? ⟨wd.heap.size, 1, none⟩ = some (.slice po plen pcap) ∧ w'.cell? ⟨wd.heap.size, 2, none⟩ = some (.int .i64 ep)) (go_keep)
        (first
          | (go_at_call_of 16 (Value.agg #[Value.bool np, Value.slice po plen pcap, Value.int IntKind.i64 ep]); refine (sizeZ_any _ (E + E) 2048 _ _ PPr.out.num).mono ?_; rintro el wl ⟨vl, rfl, hzl, hbl⟩; have VVl : Hid (Var wl w1.heap.size nx ao len cap ex (E + E) 2048 z1) := VVr.out.later hbl; obtain ⟨vvl0, vvl1, vvl2⟩ := VVl.out.cells; have TTl : Hid (Var wl w4.heap.size ny bo blen bcap ey (E + E) 2048 (maxV * ((2 ^ E : Nat) : Int))) := TTr.out.later hbl; obtain ⟨ttl0, ttl1, ttl2⟩ := TTl.out.cells; have PPl : Hid (Var wl wd.heap.size np po plen pcap ep (E + E) 2048 (fval r * ((2 ^ E : Nat) : Int))) := PPr.out.later hbl; obtain ⟨ppl0, ppl1, ppl2⟩ := PPl.out.cells; have HBl : Hid (Below w.heap.size w wl) := HBr.out.trans (hbl.mono HBr.out.size); have ZL : Hid (NumZ wl vl (E + E) 2048 ((fval r * ((2 ^ E : Nat) : Int)).natAbs : Int)) := hzl; clear hzl hbl)
          | (go_at_call_of 13 vl; refine (cmpZ_any _ _ (E + E) 2048 _ _ _ ZL.out TTl.out.num (by omega) (by omega)).mono ?_; rintro em wm ⟨rfl, hbm⟩; have VVm : Hid (Var wm w1.heap.size nx ao len cap ex (E + E) 2048 z1) := VVl.out.later hbm; obtain ⟨vvm0, vvm1, vvm2⟩ := VVm.out.cells; have TTm : Hid (Var wm w4.heap.size ny bo blen bcap ey (E + E) 2048 (maxV * ((2 ^ E : Nat) : Int))) := TTl.out.later hbm; obtain ⟨ttm0, ttm1, ttm2⟩ := TTm.out.cells; have PPm : Hid (Var wm wd.heap.size np po plen pcap ep (E + E) 2048 (fval r * ((2 ^ E : Nat) : Int))) := PPl.out.later hbm; obtain ⟨ppm0, ppm1, ppm2⟩ := PPm.out.cells; have HBm : Hid (Below w.heap.size w wm) := HBl.out.trans (hbm.mono HBl.out.size); rw [HC1.out]; clear hbm)
          | (go_at_call_of 16 (Value.agg #[Value.bool nx, Value.slice ao len cap, Value.int IntKind.i64 ex]); refine (sizeZ_any _ (E + E) 2048 _ _ VVm.out.num).mono ?_; rintro en wn ⟨vn, rfl, hzn, hbn⟩; have VVn : Hid (Var wn w1.heap.size nx ao len cap ex (E + E) 2048 z1) := VVm.out.later hbn; obtain ⟨vvn0, vvn1, vvn2⟩ := VVn.out.cells; have TTn : Hid (Var wn w4.heap.size ny bo blen bcap ey (E + E) 2048 (maxV * ((2 ^ E : Nat) : Int))) := TTm.out.later hbn; obtain ⟨ttn0, ttn1, ttn2⟩ := TTn.out.cells; have PPn : Hid (Var wn wd.heap.size np po plen pcap ep (E + E) 2048 (fval r * ((2 ^ E : Nat) : Int))) := PPm.out.later hbn; obtain ⟨ppn0, ppn1, ppn2⟩ := PPn.out.cells; have HBn : Hid (Below w.heap.size w wn) := HBm.out.trans (hbn.mono HBm.out.size); have ZN : Hid (NumZ wn vn (E + E) 2048 (z1.natAbs : Int)) := hzn; clear hzn hbn)
          | (go_at_call_of 13 vn; refine (cmpZ_any _ _ (E + E) 2048 _ _ _ ZN.out TTn.out.num (by omega) (by omega)).mono ?_; rintro eo wo ⟨rfl, hbo⟩; have VVo : Hid (Var wo w1.heap.size nx ao len cap ex (E + E) 2048 z1) := VVn.out.later hbo; obtain ⟨vvo0, vvo1, vvo2⟩ := VVo.out.cells; have TTo : Hid (Var wo w4.heap.size ny bo blen bcap ey (E + E) 2048 (maxV * ((2 ^ E : Nat) : Int))) := TTn.out.later hbo; obtain ⟨tto0, tto1, tto2⟩ := TTo.out.cells; have PPo : Hid (Var wo wd.heap.size np po plen pcap ep (E + E) 2048 (fval r * ((2 ^ E : Nat) : Int))) := PPn.out.later hbo; obtain ⟨ppo0, ppo1, ppo2⟩ := PPo.out.cells; have HBo : Hid (Below w.heap.size w wo) := HBn.out.trans (hbo.mono HBn.out.size); rw [HC2.out]; clear hbo)
          | (go_at_call 11; refine (started_any _).mono ?_; rintro es ws ⟨rfl, rfl⟩))
      all_goals go_wp2_with (go_at_call 11; refine (started_any _).mono ?_; rintro es ws ⟨rfl, rfl⟩)
      all_goals (go_ret; exact ⟨rfl, by first | exact HBo.out | exact HBo.out.drew⟩)
  cases o1
  · skip
    go_region_held3 (fun w' => w'.cell? ⟨w1.heap.size, 0, none⟩ = some (.bool nx) ∧ w'.cell? ⟨w1.heap.size, 1, none⟩ = some (.slice ao len cap) ∧ w'.cell? ⟨w1.heap.size, 2, none⟩ = some (.int .i64 ex) ∧ w'.cell? ⟨w4.heap.size, 0, none⟩ = some (.bool ny) ∧ w'.cell? ⟨w4.heap.size, 1, none⟩ = some (.slice bo blen bcap) ∧ w'.cell? ⟨w4.heap.size, 2, none⟩ = some (.int .i64 ey)) (go_keep)
      (first
        | (go_at_call 14; refine (turnedZ_any _ (E + E) 2048 _ _ TTd.out.num).mono ?_; rintro ea wa ⟨va, rfl, hza, hba⟩; have VVa : Hid (Var wa w1.heap.size nx ao len cap ex (E + E) 2048 z1) := VVd.out.later hba; obtain ⟨vva0, vva1, vva2⟩ := VVa.out.cells; have TTa : Hid (Var wa w4.heap.size ny bo blen bcap ey (E + E) 2048 (maxV * ((2 ^ E : Nat) : Int))) := TTd.out.later hba; obtain ⟨tta0, tta1, tta2⟩ := TTa.out.cells; have HBa : Hid (Below w.heap.size w wa) := HBd.out.trans (hba.mono HBd.out.size); have ZTa : Hid (NumZ wa va (E + E) 2048 (-(maxV * ((2 ^ E : Nat) : Int)))) := hza; clear hza hba)
        | (go_at_call_of 13 va; refine (cmpZ_any _ _ (E + E) 2048 _ _ _ VVa.out.num ZTa.out (by omega) (by omega)).mono ?_; rintro eb wb ⟨rfl, hbb⟩; have VVb : Hid (Var wb w1.heap.size nx ao len cap ex (E + E) 2048 z1) := VVa.out.later hbb; obtain ⟨vvb0, vvb1, vvb2⟩ := VVb.out.cells; have TTb : Hid (Var wb w4.heap.size ny bo blen bcap ey (E + E) 2048 (maxV * ((2 ^ E : Nat) : Int))) := TTa.out.later hbb; obtain ⟨ttb0, ttb1, ttb2⟩ := TTb.out.cells; have HBb : Hid (Below w.heap.size w wb) := HBa.out.trans (hbb.mono HBa.out.size); rw [HG1.out]; clear hbb)
        | (go_at_call_of 13 (Value.agg #[Value.bool ny, Value.slice bo blen bcap, Value.int IntKind.i64 ey]); refine (cmpZ_any _ _ (E + E) 2048 _ _ _ VVb.out.num TTb.out.num (by omega) (by omega)).mono ?_; rintro ec wc ⟨rfl, hbc⟩; have VVc : Hid (Var wc w1.heap.size nx ao len cap ex (E + E) 2048 z1) := VVb.out.later hbc; obtain ⟨vvc0, vvc1, vvc2⟩ := VVc.out.cells; have TTc : Hid (Var wc w4.heap.size ny bo blen bcap ey (E + E) 2048 (maxV * ((2 ^ E : Nat) : Int))) := TTb.out.later hbc; obtain ⟨ttc0, ttc1, ttc2⟩ := TTc.out.cells; have HBc : Hid (Below w.heap.size w wc) := HBb.out.trans (hbc.mono HBb.out.size); rw [HG2.out]; clear hbc))
    have hby := HH.out.beyond (.inr rfl)
    simp only at hby
    obtain ⟨y1, y2, y3, y4, y5, y6⟩ := hby
    obtain ⟨r, r1, r2, r3, r4⟩ := add_max y1 y2 y5
    have ra := run_add r1
    have R4 : Hid ((fval r * ((2 ^ E : Nat) : Int)).natAbs = (((maxV * ((2 ^ E : Nat) : Int))).natAbs)) := by (unfold Hid; rw [r4]; rcases y5 with h | h; exact congrArg (fun t : Int => (t * ((2 ^ E : Nat) : Int)).natAbs) h; rw [h, Int.neg_mul, Int.natAbs_neg])
    have Y6 : Hid ((maxV * ((2 ^ E : Nat) : Int)) < (z1.natAbs : Int)) := y6
    clear y1 y2 y3 y4 y5 y6 r1 r4 HH HG1 HG2 ht1 ht2
    go_wp2_with fail
    refine (num_any r r3 _ E hE).mono ?_
    rintro ed wd ⟨vd, rfl, ⟨zd, hzd, hfd⟩, hbd⟩
    have hzv := hfd r2
    subst hzv
    have Zd : Hid (NumZ wd vd (E + E) 2048 (fval r * ((2 ^ E : Nat) : Int))) := NumZ.mono (NumZ.more hzd E) (by omega)
    obtain ⟨np, mp, ep, ⟨po, plen, pcap, ps, rfl, -⟩, -⟩ := hzd
    clear vvc0 vvc1 vvc2 ttc0 ttc1 ttc2
    have VVe : Hid (Var wd w1.heap.size nx ao len cap ex (E + E) 2048 z1) := VVc.out.later hbd
    have TTe : Hid (Var wd w4.heap.size ny bo blen bcap ey (E + E) 2048 (maxV * ((2 ^ E : Nat) : Int))) := TTc.out.later hbd
    have HBe : Hid (Below w.heap.size w wd) := HBc.out.trans (hbd.mono HBc.out.size)
    have PPf : Hid (Var (wd.alloc (Obj.cells #[Value.bool np, Value.slice po plen pcap, Value.int IntKind.i64 ep] 25)) wd.heap.size np po plen pcap ep (E + E) 2048 (fval r * ((2 ^ E : Nat) : Int))) := Var.new Zd.out
    have VVf : Hid (Var (wd.alloc (Obj.cells #[Value.bool np, Value.slice po plen pcap, Value.int IntKind.i64 ep] 25)) w1.heap.size nx ao len cap ex (E + E) 2048 z1) := VVe.out.alloc _
    have TTf : Hid (Var (wd.alloc (Obj.cells #[Value.bool np, Value.slice po plen pcap, Value.int IntKind.i64 ep] 25)) w4.heap.size ny bo blen bcap ey (E + E) 2048 (maxV * ((2 ^ E : Nat) : Int))) := TTe.out.alloc _
    have HBf : Hid (Below w.heap.size w (wd.alloc (Obj.cells #[Value.bool np, Value.slice po plen pcap, Value.int IntKind.i64 ep] 25))) := HBe.out.alloc HBe.out.size _
    clear hfd hbd VVe TTe HBe VVc TTc HBc VVa VVb TTa TTb VVd TTd HBa HBb HBd
    obtain ⟨dl, hdl⟩ : ∃ q, decide (Fin r) = q := ⟨_, rfl⟩
    rw [hdl]
    clear hdl
    obtain ⟨x0, x1, x2⟩ := VVf.out.cells
    obtain ⟨z0, z1', z2⟩ := TTf.out.cells
    obtain ⟨y0, y1, y2⟩ := PPf.out.cells
    go_wp2_with fail
    have hMXp : 0 < (maxV * ((2 ^ E : Nat) : Int)) := Int.mul_pos maxV_pos (by have := Nat.two_pow_pos E; omega)
    have HC1 : Hid (sgi (((fval r * ((2 ^ E : Nat) : Int)).natAbs : Int) - (maxV * ((2 ^ E : Nat) : Int))) = 0) := by (unfold Hid; rw [R4.out]; unfold sgi; rw [if_neg (by omega), if_pos (by omega)])
    have HC2 : Hid (sgi ((z1.natAbs : Int) - (maxV * ((2 ^ E : Nat) : Int))) = 1) := by (have := Y6.out; unfold Hid sgi; rw [if_neg (by omega), if_neg (by omega)])
    clear hMXp
    generalize wd.alloc (Obj.cells #[Value.bool np, Value.slice po plen pcap, Value.int IntKind.i64 ep] 25) = WQ at *
    have VVr : Hid (Var WQ.drew w1.heap.size nx ao len cap ex (E + E) 2048 z1) := VVf.out.drew
    have TTr : Hid (Var WQ.drew w4.heap.size ny bo blen bcap ey (E + E) 2048 (maxV * ((2 ^ E : Nat) : Int))) := TTf.out.drew
    have PPr : Hid (Var WQ.drew wd.heap.size np po plen pcap ep (E + E) 2048 (fval r * ((2 ^ E : Nat) : Int))) := PPf.out.drew
    have HBr : Hid (Below w.heap.size w WQ.drew) := HBf.out.drew
    go_region_held3 (fun w' => w'.cell? ⟨w1.heap.size, 0, none⟩ = some (.bool nx) ∧ w'.cell? ⟨w1.heap.size, 1, none⟩ = some (.slice ao len cap) ∧ w'.cell? ⟨w1.heap.size, 2, none⟩ = some (.int .i64 ex) ∧ w'.cell? ⟨w4.heap.size, 0, none⟩ = some (.bool ny) ∧ w'.cell? ⟨w4.heap.size, 1, none⟩ = some (.slice bo blen bcap) ∧ w'.cell? ⟨w4.heap.size, 2, none⟩ = some (.int .i64 ey) ∧ w'.cell? ⟨wd.heap.size, 0, none⟩ = some (.bool np) ∧ w'.cell? ⟨wd.heap.size, 1, none⟩ = some (.slice po plen pcap) ∧ w'.cell? ⟨wd.heap.size, 2, none⟩ = some (.int .i64 ep)) (go_keep)
      (first
        | (go_at_call_of 16 (Value.agg #[Value.bool np, Value.slice po plen pcap, Value.int IntKind.i64 ep]); refine (sizeZ_any _ (E + E) 2048 _ _ PPr.out.num).mono ?_; rintro el wl ⟨vl, rfl, hzl, hbl⟩; have VVl : Hid (Var wl w1.heap.size nx ao len cap ex (E + E) 2048 z1) := VVr.out.later hbl; obtain ⟨vvl0, vvl1, vvl2⟩ := VVl.out.cells; have TTl : Hid (Var wl w4.heap.size ny bo blen bcap ey (E + E) 2048 (maxV * ((2 ^ E : Nat) : Int))) := TTr.out.later hbl; obtain ⟨ttl0, ttl1, ttl2⟩ := TTl.out.cells; have PPl : Hid (Var wl wd.heap.size np po plen pcap ep (E + E) 2048 (fval r * ((2 ^ E : Nat) : Int))) := PPr.out.later hbl; obtain ⟨ppl0, ppl1, ppl2⟩ := PPl.out.cells; have HBl : Hid (Below w.heap.size w wl) := HBr.out.trans (hbl.mono HBr.out.size); have ZL : Hid (NumZ wl vl (E + E) 2048 ((fval r * ((2 ^ E : Nat) : Int)).natAbs : Int)) := hzl; clear hzl hbl)
        | (go_at_call_of 13 vl; refine (cmpZ_any _ _ (E + E) 2048 _ _ _ ZL.out TTl.out.num (by omega) (by omega)).mono ?_; rintro em wm ⟨rfl, hbm⟩; have VVm : Hid (Var wm w1.heap.size nx ao len cap ex (E + E) 2048 z1) := VVl.out.later hbm; obtain ⟨vvm0, vvm1, vvm2⟩ := VVm.out.cells; have TTm : Hid (Var wm w4.heap.size ny bo blen bcap ey (E + E) 2048 (maxV * ((2 ^ E : Nat) : Int))) := TTl.out.later hbm; obtain ⟨ttm0, ttm1, ttm2⟩ := TTm.out.cells; have PPm : Hid (Var wm wd.heap.size np po plen pcap ep (E + E) 2048 (fval r * ((2 ^ E : Nat) : Int))) := PPl.out.later hbm; obtain ⟨ppm0, ppm1, ppm2⟩ := PPm.out.cells; have HBm : Hid (Below w.heap.size w wm) := HBl.out.trans (hbm.mono HBl.out.size); rw [HC1.out]; clear hbm)
        | (go_at_call_of 16 (Value.agg #[Value.bool nx, Value.slice ao len cap, Value.int IntKind.i64 ex]); refine (sizeZ_any _ (E + E) 2048 _ _ VVm.out.num).mono ?_; rintro en wn ⟨vn, rfl, hzn, hbn⟩; have VVn : Hid (Var wn w1.heap.size nx ao len cap ex (E + E) 2048 z1) := VVm.out.later hbn; obtain ⟨vvn0, vvn1, vvn2⟩ := VVn.out.cells; have TTn : Hid (Var wn w4.heap.size ny bo blen bcap ey (E + E) 2048 (maxV * ((2 ^ E : Nat) : Int))) := TTm.out.later hbn; obtain ⟨ttn0, ttn1, ttn2⟩ := TTn.out.cells; have PPn : Hid (Var wn wd.heap.size np po plen pcap ep (E + E) 2048 (fval r * ((2 ^ E : Nat) : Int))) := PPm.out.later hbn; obtain ⟨ppn0, ppn1, ppn2⟩ := PPn.out.cells; have HBn : Hid (Below w.heap.size w wn) := HBm.out.trans (hbn.mono HBm.out.size); have ZN : Hid (NumZ wn vn (E + E) 2048 (z1.natAbs : Int)) := hzn; clear hzn hbn)
        | (go_at_call_of 13 vn; refine (cmpZ_any _ _ (E + E) 2048 _ _ _ ZN.out TTn.out.num (by omega) (by omega)).mono ?_; rintro eo wo ⟨rfl, hbo⟩; have VVo : Hid (Var wo w1.heap.size nx ao len cap ex (E + E) 2048 z1) := VVn.out.later hbo; obtain ⟨vvo0, vvo1, vvo2⟩ := VVo.out.cells; have TTo : Hid (Var wo w4.heap.size ny bo blen bcap ey (E + E) 2048 (maxV * ((2 ^ E : Nat) : Int))) := TTn.out.later hbo; obtain ⟨tto0, tto1, tto2⟩ := TTo.out.cells; have PPo : Hid (Var wo wd.heap.size np po plen pcap ep (E + E) 2048 (fval r * ((2 ^ E : Nat) : Int))) := PPn.out.later hbo; obtain ⟨ppo0, ppo1, ppo2⟩ := PPo.out.cells; have HBo : Hid (Below w.heap.size w wo) := HBn.out.trans (hbo.mono HBn.out.size); rw [HC2.out]; clear hbo)
        | (go_at_call 11; refine (started_any _).mono ?_; rintro es ws ⟨rfl, rfl⟩))
    all_goals go_wp2_with (go_at_call 11; refine (started_any _).mono ?_; rintro es ws ⟨rfl, rfl⟩)
    all_goals (go_ret; exact ⟨rfl, by first | exact HBo.out | exact HBo.out.drew⟩)
  go_region_held3 (fun w' => w'.cell? ⟨w1.heap.size, 0, none⟩ = some (.bool nx) ∧ w'.cell? ⟨w1.heap.size, 1, none⟩ = some (.slice ao len cap) ∧ w'.cell? ⟨w1.heap.size, 2, none⟩ = some (.int .i64 ex) ∧ w'.cell? ⟨w4.heap.size, 0, none⟩ = some (.bool ny) ∧ w'.cell? ⟨w4.heap.size, 1, none⟩ = some (.slice bo blen bcap) ∧ w'.cell? ⟨w4.heap.size, 2, none⟩ = some (.int .i64 ey)) (go_keep)
    (first
      | (go_at_call 14; refine (turnedZ_any _ (E + E) 2048 _ _ TTd.out.num).mono ?_; rintro ea wa ⟨va, rfl, hza, hba⟩; have VVa : Hid (Var wa w1.heap.size nx ao len cap ex (E + E) 2048 z1) := VVd.out.later hba; obtain ⟨vva0, vva1, vva2⟩ := VVa.out.cells; have TTa : Hid (Var wa w4.heap.size ny bo blen bcap ey (E + E) 2048 (maxV * ((2 ^ E : Nat) : Int))) := TTd.out.later hba; obtain ⟨tta0, tta1, tta2⟩ := TTa.out.cells; have HBa : Hid (Below w.heap.size w wa) := HBd.out.trans (hba.mono HBd.out.size); have ZTa : Hid (NumZ wa va (E + E) 2048 (-(maxV * ((2 ^ E : Nat) : Int)))) := hza; clear hza hba)
      | (go_at_call_of 13 va; refine (cmpZ_any _ _ (E + E) 2048 _ _ _ VVa.out.num ZTa.out (by omega) (by omega)).mono ?_; rintro eb wb ⟨rfl, hbb⟩; have VVb : Hid (Var wb w1.heap.size nx ao len cap ex (E + E) 2048 z1) := VVa.out.later hbb; obtain ⟨vvb0, vvb1, vvb2⟩ := VVb.out.cells; have TTb : Hid (Var wb w4.heap.size ny bo blen bcap ey (E + E) 2048 (maxV * ((2 ^ E : Nat) : Int))) := TTa.out.later hbb; obtain ⟨ttb0, ttb1, ttb2⟩ := TTb.out.cells; have HBb : Hid (Below w.heap.size w wb) := HBa.out.trans (hbb.mono HBa.out.size); rw [HG1.out]; clear hbb)
      | (go_at_call_of 13 (Value.agg #[Value.bool ny, Value.slice bo blen bcap, Value.int IntKind.i64 ey]); refine (cmpZ_any _ _ (E + E) 2048 _ _ _ VVb.out.num TTb.out.num (by omega) (by omega)).mono ?_; rintro ec wc ⟨rfl, hbc⟩; have VVc : Hid (Var wc w1.heap.size nx ao len cap ex (E + E) 2048 z1) := VVb.out.later hbc; obtain ⟨vvc0, vvc1, vvc2⟩ := VVc.out.cells; have TTc : Hid (Var wc w4.heap.size ny bo blen bcap ey (E + E) 2048 (maxV * ((2 ^ E : Nat) : Int))) := TTb.out.later hbc; obtain ⟨ttc0, ttc1, ttc2⟩ := TTc.out.cells; have HBc : Hid (Below w.heap.size w wc) := HBb.out.trans (hbc.mono HBb.out.size); rw [HG2.out]; clear hbc))
  go_wp2_with fail
  have hT := HH.out.tight rfl rfl
  obtain ⟨c, hcd⟩ : ∃ c, ceilK z1 (2 ^ E) f = c := ⟨_, rfl⟩
  rw [hcd] at hT
  obtain rfl : o0 = true := hT.near
  have hlf := hT.flo
  have hhf := hT.fhi
  have hmf := hT.fm
  have hlS := hT.loS
  have hhS := hT.hiS
  simp only at hlf hhf hmf hlS hhS
  have HT : Hid (Tight z1 (2 ^ E) f c (lo, true) (hi, true) (m, true)) := hT
  clear hT hcd HH TTa TTb TTc VVa VVb VVd TTd HG1 HG2 ZTa HBa HBb HBd VV TT HB5 ht1 ht2 HBA VA
  have HLF : Hid _ := hlf
  have HHF : Hid _ := hhf
  have HMF : Hid _ := hmf
  have HLS : Hid _ := hlS
  have HHS : Hid _ := hhS
  clear hlf hhf hmf hlS hhS
  refine (num_any lo HLF.out.2 _ E hE).mono ?_
  rintro ed wd ⟨vd, rfl, ⟨zd, hzd, hfd⟩, hbd⟩
  have hzv := hfd HLF.out.1
  rw [fval_smag, HLS.out] at hzv
  subst hzv
  have Zd : Hid (NumZ wd vd (E + E) 2048 (smag f * ((2 ^ E : Nat) : Int))) := NumZ.mono (NumZ.more hzd E) (by omega)
  obtain ⟨np, mp, ep, ⟨po, plen, pcap, ps, rfl, -⟩, -⟩ := hzd
  have VVe : Hid (Var wd w1.heap.size nx ao len cap ex (E + E) 2048 z1) := VVc.out.later hbd
  have HBe : Hid (Below w.heap.size w wd) := HBc.out.trans (hbd.mono HBc.out.size)
  have PPf : Hid (Var (wd.alloc (Obj.cells #[Value.bool np, Value.slice po plen pcap, Value.int IntKind.i64 ep] 25)) wd.heap.size np po plen pcap ep (E + E) 2048 (smag f * ((2 ^ E : Nat) : Int))) := Var.new Zd.out
  have VVf : Hid (Var (wd.alloc (Obj.cells #[Value.bool np, Value.slice po plen pcap, Value.int IntKind.i64 ep] 25)) w1.heap.size nx ao len cap ex (E + E) 2048 z1) := VVe.out.alloc _
  have HBf : Hid (Below w.heap.size w (wd.alloc (Obj.cells #[Value.bool np, Value.slice po plen pcap, Value.int IntKind.i64 ep] 25))) := HBe.out.alloc HBe.out.size _
  clear hfd hbd
  obtain ⟨dl, hdl⟩ : ∃ q, decide (Fin lo) = q := ⟨_, rfl⟩
  rw [hdl]
  clear hdl
  go_wp2_with fail
  refine (num_any hi HHF.out.2 _ E hE).mono ?_
  rintro ee we ⟨ve, rfl, ⟨ze, hze, hfe⟩, hbe⟩
  have hzv := hfe HHF.out.1
  rw [fval_smag, HHS.out] at hzv
  subst hzv
  have Ze : Hid (NumZ we ve (E + E) 2048 (smag c * ((2 ^ E : Nat) : Int))) := NumZ.mono (NumZ.more hze E) (by omega)
  obtain ⟨nq, mq, eq, ⟨qo, qlen, qcap, qs, rfl, -⟩, -⟩ := hze
  have VVg : Hid (Var we w1.heap.size nx ao len cap ex (E + E) 2048 z1) := VVf.out.later hbe
  have PPg : Hid (Var we wd.heap.size np po plen pcap ep (E + E) 2048 (smag f * ((2 ^ E : Nat) : Int))) := PPf.out.later hbe
  have HBg : Hid (Below w.heap.size w we) := HBf.out.trans (hbe.mono HBf.out.size)
  have VVh : Hid (Var (we.alloc (Obj.cells #[Value.bool nq, Value.slice qo qlen qcap, Value.int IntKind.i64 eq] 25)) w1.heap.size nx ao len cap ex (E + E) 2048 z1) := VVg.out.alloc _
  have PPh : Hid (Var (we.alloc (Obj.cells #[Value.bool nq, Value.slice qo qlen qcap, Value.int IntKind.i64 eq] 25)) wd.heap.size np po plen pcap ep (E + E) 2048 (smag f * ((2 ^ E : Nat) : Int))) := PPg.out.alloc _
  have QQh : Hid (Var (we.alloc (Obj.cells #[Value.bool nq, Value.slice qo qlen qcap, Value.int IntKind.i64 eq] 25)) we.heap.size nq qo qlen qcap eq (E + E) 2048 (smag c * ((2 ^ E : Nat) : Int))) := Var.new Ze.out
  have HBh : Hid (Below w.heap.size w (we.alloc (Obj.cells #[Value.bool nq, Value.slice qo qlen qcap, Value.int IntKind.i64 eq] 25))) := HBg.out.alloc HBg.out.size _
  clear hfe hbe VVe VVf PPf HBe HBf VVg PPg HBg VVc HBc
  obtain ⟨dh, hdh⟩ : ∃ q, decide (Fin hi) = q := ⟨_, rfl⟩
  rw [hdh]
  clear hdh
  obtain ⟨x0, x1, x2⟩ := VVh.out.cells
  obtain ⟨y0, y1, y2⟩ := PPh.out.cells
  obtain ⟨u0, u1, u2⟩ := QQh.out.cells
  obtain ⟨g3, hg3⟩ : ∃ g, sgi ((smag f * ((2 ^ E : Nat) : Int)) - z1) = g := ⟨_, rfl⟩
  obtain ⟨g4, hg4⟩ : ∃ g, sgi (z1 - (smag c * ((2 ^ E : Nat) : Int))) = g := ⟨_, rfl⟩
  have HG3 : Hid (sgi ((smag f * ((2 ^ E : Nat) : Int)) - z1) = g3) := hg3
  have HG4 : Hid (sgi (z1 - (smag c * ((2 ^ E : Nat) : Int))) = g4) := hg4
  have hd3 : decide (0 < g3) = false := decide_eq_false (by have := HT.out.below; rw [← hg3]; unfold sgi; split <;> omega)
  have hd4 : decide (0 < g4) = false := decide_eq_false (by have := HT.out.above; rw [← hg4]; unfold sgi; split <;> omega)
  clear hg3 hg4
  have hnl : (FloatKind.f64.format.order m lo != some .eq) = !decide (srung m = srung lo) := ord_ne HMF.out.1 HLF.out.1
  have hnh : (FloatKind.f64.format.order m hi != some .eq) = !decide (srung m = srung hi) := ord_ne HMF.out.1 HHF.out.1
  have hlh : (FloatKind.f64.format.order lo hi != some .eq) = !decide (srung lo = srung hi) := ord_ne HLF.out.1 HHF.out.1
  rw [HLS.out] at hnl hlh
  rw [HHS.out] at hnh hlh
  go_wp2_with fail
  generalize we.alloc (Obj.cells #[Value.bool nq, Value.slice qo qlen qcap, Value.int IntKind.i64 eq] 25) = W at *
  have VVi : Hid (Var W.drew w1.heap.size nx ao len cap ex (E + E) 2048 z1) := VVh.out.drew
  have PPi : Hid (Var W.drew wd.heap.size np po plen pcap ep (E + E) 2048 (smag f * ((2 ^ E : Nat) : Int))) := PPh.out.drew
  have QQi : Hid (Var W.drew we.heap.size nq qo qlen qcap eq (E + E) 2048 (smag c * ((2 ^ E : Nat) : Int))) := QQh.out.drew
  have HBi : Hid (Below w.heap.size w W.drew) := HBh.out.drew
  refine (cmpZ_any _ _ (E + E) 2048 _ _ _ PPh.out.num VVh.out.num (by omega) (by omega)).mono ?_
  rintro ej wj ⟨rfl, hbj⟩
  have VVj : Hid (Var wj w1.heap.size nx ao len cap ex (E + E) 2048 z1) := VVh.out.later hbj
  obtain ⟨vvj0, vvj1, vvj2⟩ := VVj.out.cells
  have PPj : Hid (Var wj wd.heap.size np po plen pcap ep (E + E) 2048 (smag f * ((2 ^ E : Nat) : Int))) := PPh.out.later hbj
  obtain ⟨ppj0, ppj1, ppj2⟩ := PPj.out.cells
  have QQj : Hid (Var wj we.heap.size nq qo qlen qcap eq (E + E) 2048 (smag c * ((2 ^ E : Nat) : Int))) := QQh.out.later hbj
  obtain ⟨qqj0, qqj1, qqj2⟩ := QQj.out.cells
  have HBj : Hid (Below w.heap.size w wj) := HBh.out.trans (hbj.mono HBh.out.size)
  rw [HG3.out]
  clear hbj VVh PPh QQh HBh VVi PPi QQi HBi x0 x1 x2 y0 y1 y2 u0 u1 u2
  go_wp2_with fail
  refine (cmpZ_any _ _ (E + E) 2048 _ _ _ VVj.out.num QQj.out.num (by omega) (by omega)).mono ?_
  rintro ek wk ⟨rfl, hbk⟩
  clear vvj0 vvj1 vvj2 ppj0 ppj1 ppj2 qqj0 qqj1 qqj2
  have VVk : Hid (Var wk w1.heap.size nx ao len cap ex (E + E) 2048 z1) := VVj.out.later hbk
  obtain ⟨vvk0, vvk1, vvk2⟩ := VVk.out.cells
  have PPk : Hid (Var wk wd.heap.size np po plen pcap ep (E + E) 2048 (smag f * ((2 ^ E : Nat) : Int))) := PPj.out.later hbk
  obtain ⟨ppk0, ppk1, ppk2⟩ := PPk.out.cells
  have QQk : Hid (Var wk we.heap.size nq qo qlen qcap eq (E + E) 2048 (smag c * ((2 ^ E : Nat) : Int))) := QQj.out.later hbk
  obtain ⟨qqk0, qqk1, qqk2⟩ := QQk.out.cells
  have HBk : Hid (Below w.heap.size w wk) := HBj.out.trans (hbk.mono HBj.out.size)
  rw [HG4.out]
  clear hbk VVj PPj QQj HBj
  obtain ⟨g5, hg5⟩ : ∃ g, sgi ((z1 - (smag f * ((2 ^ E : Nat) : Int))) - ((smag c * ((2 ^ E : Nat) : Int)) - z1)) = g := ⟨_, rfl⟩
  have HG5 : Hid (sgi ((z1 - (smag f * ((2 ^ E : Nat) : Int))) - ((smag c * ((2 ^ E : Nat) : Int)) - z1)) = g5) := hg5
  have hel : (FloatKind.f64.format.order m lo == some .eq) = decide (srung m = srung lo) := ord_eq (Nat.le_of_lt HMF.out.1) (Nat.le_of_lt HLF.out.1)
  have heh : (FloatKind.f64.format.order m hi == some .eq) = decide (srung m = srung hi) := ord_eq (Nat.le_of_lt HMF.out.1) (Nat.le_of_lt HHF.out.1)
  have helh : (FloatKind.f64.format.order lo hi == some .eq) = decide (srung lo = srung hi) := ord_eq (Nat.le_of_lt HLF.out.1) (Nat.le_of_lt HHF.out.1)
  rw [HLS.out] at hel helh
  rw [HHS.out] at heh helh
  have hmS := HT.out.mS
  simp only at hmS
  have HEV : Hid (m % 2 = 0 ↔ srung m % 2 = 0) := even_word HMF.out.2
  rcases HT.out.ends with hA | hA
  · obtain ⟨hcf, hzz⟩ := hA
    have hcf2 := hcf.symm
    clear hcf
    subst hcf2
    have hm : srung m = f := by rcases hmS with h | h <;> exact h
    rw [hm] at hnl hnh hel heh
    simp only [decide_true, Bool.not_true] at hnl hnh hlh hel heh helh
    have hz5 : g5 = 0 := by rw [← hg5, hzz]; unfold sgi; rw [if_neg (by omega), if_pos (by omega)]
    subst hz5
    clear hg5 hmS hm HT
    go_wp2_with fail
    have VVr : Hid (Var wk.drew w1.heap.size nx ao len cap ex (E + E) 2048 z1) := VVk.out.drew
    have PPr : Hid (Var wk.drew wd.heap.size np po plen pcap ep (E + E) 2048 (smag f * ((2 ^ E : Nat) : Int))) := PPk.out.drew
    have QQr : Hid (Var wk.drew we.heap.size nq qo qlen qcap eq (E + E) 2048 (smag f * ((2 ^ E : Nat) : Int))) := QQk.out.drew
    have HBr : Hid (Below w.heap.size w wk.drew) := HBk.out.drew
    go_region_held3 (fun w' => w'.cell? ⟨w1.heap.size, 0, none⟩ = some (.bool nx) ∧ w'.cell? ⟨w1.heap.size, 1, none⟩ = some (.slice ao len cap) ∧ w'.cell? ⟨w1.heap.size, 2, none⟩ = some (.int .i64 ex) ∧ w'.cell? ⟨wd.heap.size, 0, none⟩ = some (.bool np) ∧ w'.cell? ⟨wd.heap.size, 1, none⟩ = some (.slice po plen pcap) ∧ w'.cell? ⟨wd.heap.size, 2, none⟩ = some (.int .i64 ep) ∧ w'.cell? ⟨we.heap.size, 0, none⟩ = some (.bool nq) ∧ w'.cell? ⟨we.heap.size, 1, none⟩ = some (.slice qo qlen qcap) ∧ w'.cell? ⟨we.heap.size, 2, none⟩ = some (.int .i64 eq)) (go_keep)
      (first
        | (go_at_call_of 18 (Value.agg #[Value.bool np, Value.slice po plen pcap, Value.int IntKind.i64 ep]); refine (minusZ_any _ _ (E + E) 2048 _ _ _ VVr.out.num PPr.out.num (by omega) (by omega)).mono ?_; rintro el wl ⟨vl, rfl, hzl, hbl⟩; have VVl : Hid (Var wl w1.heap.size nx ao len cap ex (E + E) 2048 z1) := VVr.out.later hbl; obtain ⟨vvl0, vvl1, vvl2⟩ := VVl.out.cells; have PPl : Hid (Var wl wd.heap.size np po plen pcap ep (E + E) 2048 (smag f * ((2 ^ E : Nat) : Int))) := PPr.out.later hbl; obtain ⟨ppl0, ppl1, ppl2⟩ := PPl.out.cells; have QQl : Hid (Var wl we.heap.size nq qo qlen qcap eq (E + E) 2048 (smag f * ((2 ^ E : Nat) : Int))) := QQr.out.later hbl; obtain ⟨qql0, qql1, qql2⟩ := QQl.out.cells; have HBl : Hid (Below w.heap.size w wl) := HBr.out.trans (hbl.mono HBr.out.size); have ZL : Hid (NumZ wl vl (E + E) 2049 (z1 - (smag f * ((2 ^ E : Nat) : Int)))) := hzl; clear hzl hbl)
        | (go_at_call_of 18 (Value.agg #[Value.bool nq, Value.slice qo qlen qcap, Value.int IntKind.i64 eq]); refine (minusZ_any _ _ (E + E) 2048 _ _ _ QQl.out.num VVl.out.num (by omega) (by omega)).mono ?_; rintro em wm ⟨vm, rfl, hzm, hbm⟩; have VVm : Hid (Var wm w1.heap.size nx ao len cap ex (E + E) 2048 z1) := VVl.out.later hbm; obtain ⟨vvm0, vvm1, vvm2⟩ := VVm.out.cells; have PPm : Hid (Var wm wd.heap.size np po plen pcap ep (E + E) 2048 (smag f * ((2 ^ E : Nat) : Int))) := PPl.out.later hbm; obtain ⟨ppm0, ppm1, ppm2⟩ := PPm.out.cells; have QQm : Hid (Var wm we.heap.size nq qo qlen qcap eq (E + E) 2048 (smag f * ((2 ^ E : Nat) : Int))) := QQl.out.later hbm; obtain ⟨qqm0, qqm1, qqm2⟩ := QQm.out.cells; have HBm : Hid (Below w.heap.size w wm) := HBl.out.trans (hbm.mono HBl.out.size); have ZLm : Hid (NumZ wm vl (E + E) 2049 (z1 - (smag f * ((2 ^ E : Nat) : Int)))) := NumZ.later ZL.out hbm; have ZM : Hid (NumZ wm vm (E + E) 2049 ((smag f * ((2 ^ E : Nat) : Int)) - z1)) := hzm; clear hzm hbm)
        | (go_at_call 13; refine (cmpZ_any _ _ (E + E) 2049 _ _ _ ZLm.out ZM.out (by omega) (by omega)).mono ?_; rintro en wn ⟨rfl, hbn⟩; have VVn : Hid (Var wn w1.heap.size nx ao len cap ex (E + E) 2048 z1) := VVm.out.later hbn; obtain ⟨vvn0, vvn1, vvn2⟩ := VVn.out.cells; have PPn : Hid (Var wn wd.heap.size np po plen pcap ep (E + E) 2048 (smag f * ((2 ^ E : Nat) : Int))) := PPm.out.later hbn; obtain ⟨ppn0, ppn1, ppn2⟩ := PPn.out.cells; have QQn : Hid (Var wn we.heap.size nq qo qlen qcap eq (E + E) 2048 (smag f * ((2 ^ E : Nat) : Int))) := QQm.out.later hbn; obtain ⟨qqn0, qqn1, qqn2⟩ := QQn.out.cells; have HBn : Hid (Below w.heap.size w wn) := HBm.out.trans (hbn.mono HBm.out.size); rw [HG5.out]; clear hbn))
    obtain ⟨tv, htv⟩ : ∃ t, ((m : Int) % 2 == 0) = t := ⟨_, rfl⟩
    cases tv
    all_goals go_wp2_with (first | (go_at_call 19; refine (bits_any _ _).mono ?_; rintro eb wb ⟨rfl, rfl⟩) | (go_at_call 11; refine (started_any _).mono ?_; rintro es ws ⟨rfl, rfl⟩))
    all_goals (go_ret; exact ⟨rfl, by first | exact HBn.out | exact HBn.out.drew⟩)
  · obtain ⟨hcf, hz3, hz4⟩ := hA
    have hne : ¬ (f = c) := by omega
    have hne' : ¬ (c = f) := by omega
    have key : (g5 = -1 ∧ srung m = f) ∨ (g5 = 1 ∧ srung m = c) ∨ (g5 = 0 ∧ m % 2 = 0 ∧ srung m = f) ∨ (g5 = 0 ∧ m % 2 = 0 ∧ srung m = c) := by
      rcases HT.out.best with h | ⟨b1, b2, b3⟩
      · exact absurd h hne'
      · simp only at b1 b2 b3
        rw [Int.add_mul] at b1 b2 b3
        rcases Int.lt_trichotomy (2 * z1) (smag f * ((2 ^ E : Nat) : Int) + smag c * ((2 ^ E : Nat) : Int)) with h | h | h
        · left; exact ⟨by rw [← hg5]; unfold sgi; rw [if_pos (by omega)], b1 h⟩
        · right; right
          have h0 : g5 = 0 := by rw [← hg5]; unfold sgi; rw [if_neg (by omega), if_pos (by omega)]
          have hev := HEV.out.2 (b3 h)
          rcases hmS with k | k
          · left; exact ⟨h0, hev, k⟩
          · right; exact ⟨h0, hev, k⟩
        · right; left; exact ⟨by rw [← hg5]; unfold sgi; rw [if_neg (by omega), if_neg (by omega)], b2 h⟩
    have hq3 : (g3 == 0) = false := by rw [beq_eq_false_iff_ne, ← HG3.out]; unfold sgi; rw [if_pos (by omega)]; decide
    have hq4 : (g4 == 0) = false := by rw [beq_eq_false_iff_ne, ← HG4.out]; unfold sgi; rw [if_pos (by omega)]; decide
    obtain ⟨⟨nxt, on⟩, kn, -, cn⟩ := next_any 1 lo HLF.out.2
    simp only at cn
    obtain ⟨j1, j2, j3⟩ := next_up HLS.out (kn HLF.out.1) HT.out.small.1 (by rw [← hcf]; exact HT.out.small.2.2.2)
    simp only at j1 j2 j3
    subst j1
    have hnx : (FloatKind.f64.format.order nxt hi != some .eq) = false := by rw [f64_fmt, ord_ne' j3 HHF.out.1, j2, HHS.out, decide_eq_true hcf.symm]; rfl
    have hdf : decide (f = c) = false := decide_eq_false hne
    have hdc : decide (c = f) = false := decide_eq_false hne'
    have hdt : ∀ x : Int, decide (x = x) = true := fun x => decide_eq_true rfl
    rw [hdf] at hlh helh
    simp only [Bool.not_false] at hlh
    have HK : Hid _ := key
    clear hg5 hmS HT kn j2 j3 hz3 hz4 key hcf hne hne' HEV
    rcases HK.out with ⟨h5, hm⟩ | ⟨h5, hm⟩ | ⟨h5, hev, hm⟩ | ⟨h5, hev, hm⟩
    · subst h5
      rw [hm] at hnl hnh hel heh
      rw [hdt] at hnl hel
      rw [hdf] at hnh heh
      simp only [Bool.not_false, Bool.not_true] at hnl hnh
      clear hdt hdf hdc hm HK
      go_wp2_with fail
      refine (cn _).mono ?_
      rintro ec wc ⟨rfl, rfl⟩
      clear cn
      go_wp2_with fail
      refine (cmpZ_any _ _ (E + E) 2048 _ _ _ PPk.out.num VVk.out.num (by omega) (by omega)).mono ?_
      rintro es ws ⟨rfl, hbs⟩
      clear vvk0 vvk1 vvk2 ppk0 ppk1 ppk2 qqk0 qqk1 qqk2
      have VVs : Hid (Var ws w1.heap.size nx ao len cap ex (E + E) 2048 z1) := VVk.out.later hbs
      obtain ⟨vvs0, vvs1, vvs2⟩ := VVs.out.cells
      have PPs : Hid (Var ws wd.heap.size np po plen pcap ep (E + E) 2048 (smag f * ((2 ^ E : Nat) : Int))) := PPk.out.later hbs
      obtain ⟨pps0, pps1, pps2⟩ := PPs.out.cells
      have QQs : Hid (Var ws we.heap.size nq qo qlen qcap eq (E + E) 2048 (smag c * ((2 ^ E : Nat) : Int))) := QQk.out.later hbs
      obtain ⟨qqs0, qqs1, qqs2⟩ := QQs.out.cells
      have HBs : Hid (Below w.heap.size w ws) := HBk.out.trans (hbs.mono HBk.out.size)
      rw [HG3.out]
      clear hbs VVk PPk QQk HBk
      go_wp2_with fail
      refine (cmpZ_any _ _ (E + E) 2048 _ _ _ VVs.out.num QQs.out.num (by omega) (by omega)).mono ?_
      rintro et wt ⟨rfl, hbt⟩
      clear vvs0 vvs1 vvs2 pps0 pps1 pps2 qqs0 qqs1 qqs2
      have VVt : Hid (Var wt w1.heap.size nx ao len cap ex (E + E) 2048 z1) := VVs.out.later hbt
      obtain ⟨vvt0, vvt1, vvt2⟩ := VVt.out.cells
      have PPt : Hid (Var wt wd.heap.size np po plen pcap ep (E + E) 2048 (smag f * ((2 ^ E : Nat) : Int))) := PPs.out.later hbt
      obtain ⟨ppt0, ppt1, ppt2⟩ := PPt.out.cells
      have QQt : Hid (Var wt we.heap.size nq qo qlen qcap eq (E + E) 2048 (smag c * ((2 ^ E : Nat) : Int))) := QQs.out.later hbt
      obtain ⟨qqt0, qqt1, qqt2⟩ := QQt.out.cells
      have HBt : Hid (Below w.heap.size w wt) := HBs.out.trans (hbt.mono HBs.out.size)
      rw [HG4.out]
      clear hbt VVs PPs QQs HBs
      go_wp2_with fail
      have VVr : Hid (Var wt.drew w1.heap.size nx ao len cap ex (E + E) 2048 z1) := VVt.out.drew
      have PPr : Hid (Var wt.drew wd.heap.size np po plen pcap ep (E + E) 2048 (smag f * ((2 ^ E : Nat) : Int))) := PPt.out.drew
      have QQr : Hid (Var wt.drew we.heap.size nq qo qlen qcap eq (E + E) 2048 (smag c * ((2 ^ E : Nat) : Int))) := QQt.out.drew
      have HBr : Hid (Below w.heap.size w wt.drew) := HBt.out.drew
      go_region_held3 (fun w' => w'.cell? ⟨w1.heap.size, 0, none⟩ = some (.bool nx) ∧ w'.cell? ⟨w1.heap.size, 1, none⟩ = some (.slice ao len cap) ∧ w'.cell? ⟨w1.heap.size, 2, none⟩ = some (.int .i64 ex) ∧ w'.cell? ⟨wd.heap.size, 0, none⟩ = some (.bool np) ∧ w'.cell? ⟨wd.heap.size, 1, none⟩ = some (.slice po plen pcap) ∧ w'.cell? ⟨wd.heap.size, 2, none⟩ = some (.int .i64 ep) ∧ w'.cell? ⟨we.heap.size, 0, none⟩ = some (.bool nq) ∧ w'.cell? ⟨we.heap.size, 1, none⟩ = some (.slice qo qlen qcap) ∧ w'.cell? ⟨we.heap.size, 2, none⟩ = some (.int .i64 eq)) (go_keep)
        (first
          | (go_at_call_of 18 (Value.agg #[Value.bool np, Value.slice po plen pcap, Value.int IntKind.i64 ep]); refine (minusZ_any _ _ (E + E) 2048 _ _ _ VVr.out.num PPr.out.num (by omega) (by omega)).mono ?_; rintro el wl ⟨vl, rfl, hzl, hbl⟩; have VVl : Hid (Var wl w1.heap.size nx ao len cap ex (E + E) 2048 z1) := VVr.out.later hbl; obtain ⟨vvl0, vvl1, vvl2⟩ := VVl.out.cells; have PPl : Hid (Var wl wd.heap.size np po plen pcap ep (E + E) 2048 (smag f * ((2 ^ E : Nat) : Int))) := PPr.out.later hbl; obtain ⟨ppl0, ppl1, ppl2⟩ := PPl.out.cells; have QQl : Hid (Var wl we.heap.size nq qo qlen qcap eq (E + E) 2048 (smag c * ((2 ^ E : Nat) : Int))) := QQr.out.later hbl; obtain ⟨qql0, qql1, qql2⟩ := QQl.out.cells; have HBl : Hid (Below w.heap.size w wl) := HBr.out.trans (hbl.mono HBr.out.size); have ZL : Hid (NumZ wl vl (E + E) 2049 (z1 - (smag f * ((2 ^ E : Nat) : Int)))) := hzl; clear hzl hbl)
          | (go_at_call_of 18 (Value.agg #[Value.bool nq, Value.slice qo qlen qcap, Value.int IntKind.i64 eq]); refine (minusZ_any _ _ (E + E) 2048 _ _ _ QQl.out.num VVl.out.num (by omega) (by omega)).mono ?_; rintro em wm ⟨vm, rfl, hzm, hbm⟩; have VVm : Hid (Var wm w1.heap.size nx ao len cap ex (E + E) 2048 z1) := VVl.out.later hbm; obtain ⟨vvm0, vvm1, vvm2⟩ := VVm.out.cells; have PPm : Hid (Var wm wd.heap.size np po plen pcap ep (E + E) 2048 (smag f * ((2 ^ E : Nat) : Int))) := PPl.out.later hbm; obtain ⟨ppm0, ppm1, ppm2⟩ := PPm.out.cells; have QQm : Hid (Var wm we.heap.size nq qo qlen qcap eq (E + E) 2048 (smag c * ((2 ^ E : Nat) : Int))) := QQl.out.later hbm; obtain ⟨qqm0, qqm1, qqm2⟩ := QQm.out.cells; have HBm : Hid (Below w.heap.size w wm) := HBl.out.trans (hbm.mono HBl.out.size); have ZLm : Hid (NumZ wm vl (E + E) 2049 (z1 - (smag f * ((2 ^ E : Nat) : Int)))) := NumZ.later ZL.out hbm; have ZM : Hid (NumZ wm vm (E + E) 2049 ((smag c * ((2 ^ E : Nat) : Int)) - z1)) := hzm; clear hzm hbm)
          | (go_at_call 13; refine (cmpZ_any _ _ (E + E) 2049 _ _ _ ZLm.out ZM.out (by omega) (by omega)).mono ?_; rintro en wn ⟨rfl, hbn⟩; have VVn : Hid (Var wn w1.heap.size nx ao len cap ex (E + E) 2048 z1) := VVm.out.later hbn; obtain ⟨vvn0, vvn1, vvn2⟩ := VVn.out.cells; have PPn : Hid (Var wn wd.heap.size np po plen pcap ep (E + E) 2048 (smag f * ((2 ^ E : Nat) : Int))) := PPm.out.later hbn; obtain ⟨ppn0, ppn1, ppn2⟩ := PPn.out.cells; have QQn : Hid (Var wn we.heap.size nq qo qlen qcap eq (E + E) 2048 (smag c * ((2 ^ E : Nat) : Int))) := QQm.out.later hbn; obtain ⟨qqn0, qqn1, qqn2⟩ := QQn.out.cells; have HBn : Hid (Below w.heap.size w wn) := HBm.out.trans (hbn.mono HBm.out.size); rw [HG5.out]; clear hbn))
      all_goals go_wp2_with (first | (go_at_call 19; refine (bits_any _ _).mono ?_; rintro eb wb ⟨rfl, rfl⟩) | (go_at_call 11; refine (started_any _).mono ?_; rintro es ws ⟨rfl, rfl⟩))
      all_goals (go_ret; exact ⟨rfl, by first | exact HBn.out | exact HBn.out.drew⟩)
    · subst h5
      rw [hm] at hnl hnh hel heh
      rw [hdc] at hnl hel
      rw [hdt] at hnh heh
      simp only [Bool.not_false, Bool.not_true] at hnl hnh
      clear hdt hdf hdc hm HK
      go_wp2_with fail
      refine (cn _).mono ?_
      rintro ec wc ⟨rfl, rfl⟩
      clear cn
      go_wp2_with fail
      refine (cmpZ_any _ _ (E + E) 2048 _ _ _ PPk.out.num VVk.out.num (by omega) (by omega)).mono ?_
      rintro es ws ⟨rfl, hbs⟩
      clear vvk0 vvk1 vvk2 ppk0 ppk1 ppk2 qqk0 qqk1 qqk2
      have VVs : Hid (Var ws w1.heap.size nx ao len cap ex (E + E) 2048 z1) := VVk.out.later hbs
      obtain ⟨vvs0, vvs1, vvs2⟩ := VVs.out.cells
      have PPs : Hid (Var ws wd.heap.size np po plen pcap ep (E + E) 2048 (smag f * ((2 ^ E : Nat) : Int))) := PPk.out.later hbs
      obtain ⟨pps0, pps1, pps2⟩ := PPs.out.cells
      have QQs : Hid (Var ws we.heap.size nq qo qlen qcap eq (E + E) 2048 (smag c * ((2 ^ E : Nat) : Int))) := QQk.out.later hbs
      obtain ⟨qqs0, qqs1, qqs2⟩ := QQs.out.cells
      have HBs : Hid (Below w.heap.size w ws) := HBk.out.trans (hbs.mono HBk.out.size)
      rw [HG3.out]
      clear hbs VVk PPk QQk HBk
      go_wp2_with fail
      refine (cmpZ_any _ _ (E + E) 2048 _ _ _ VVs.out.num QQs.out.num (by omega) (by omega)).mono ?_
      rintro et wt ⟨rfl, hbt⟩
      clear vvs0 vvs1 vvs2 pps0 pps1 pps2 qqs0 qqs1 qqs2
      have VVt : Hid (Var wt w1.heap.size nx ao len cap ex (E + E) 2048 z1) := VVs.out.later hbt
      obtain ⟨vvt0, vvt1, vvt2⟩ := VVt.out.cells
      have PPt : Hid (Var wt wd.heap.size np po plen pcap ep (E + E) 2048 (smag f * ((2 ^ E : Nat) : Int))) := PPs.out.later hbt
      obtain ⟨ppt0, ppt1, ppt2⟩ := PPt.out.cells
      have QQt : Hid (Var wt we.heap.size nq qo qlen qcap eq (E + E) 2048 (smag c * ((2 ^ E : Nat) : Int))) := QQs.out.later hbt
      obtain ⟨qqt0, qqt1, qqt2⟩ := QQt.out.cells
      have HBt : Hid (Below w.heap.size w wt) := HBs.out.trans (hbt.mono HBs.out.size)
      rw [HG4.out]
      clear hbt VVs PPs QQs HBs
      go_wp2_with fail
      have VVr : Hid (Var wt.drew w1.heap.size nx ao len cap ex (E + E) 2048 z1) := VVt.out.drew
      have PPr : Hid (Var wt.drew wd.heap.size np po plen pcap ep (E + E) 2048 (smag f * ((2 ^ E : Nat) : Int))) := PPt.out.drew
      have QQr : Hid (Var wt.drew we.heap.size nq qo qlen qcap eq (E + E) 2048 (smag c * ((2 ^ E : Nat) : Int))) := QQt.out.drew
      have HBr : Hid (Below w.heap.size w wt.drew) := HBt.out.drew
      go_region_held3 (fun w' => w'.cell? ⟨w1.heap.size, 0, none⟩ = some (.bool nx) ∧ w'.cell? ⟨w1.heap.size, 1, none⟩ = some (.slice ao len cap) ∧ w'.cell? ⟨w1.heap.size, 2, none⟩ = some (.int .i64 ex) ∧ w'.cell? ⟨wd.heap.size, 0, none⟩ = some (.bool np) ∧ w'.cell? ⟨wd.heap.size, 1, none⟩ = some (.slice po plen pcap) ∧ w'.cell? ⟨wd.heap.size, 2, none⟩ = some (.int .i64 ep) ∧ w'.cell? ⟨we.heap.size, 0, none⟩ = some (.bool nq) ∧ w'.cell? ⟨we.heap.size, 1, none⟩ = some (.slice qo qlen qcap) ∧ w'.cell? ⟨we.heap.size, 2, none⟩ = some (.int .i64 eq)) (go_keep)
        (first
          | (go_at_call_of 18 (Value.agg #[Value.bool np, Value.slice po plen pcap, Value.int IntKind.i64 ep]); refine (minusZ_any _ _ (E + E) 2048 _ _ _ VVr.out.num PPr.out.num (by omega) (by omega)).mono ?_; rintro el wl ⟨vl, rfl, hzl, hbl⟩; have VVl : Hid (Var wl w1.heap.size nx ao len cap ex (E + E) 2048 z1) := VVr.out.later hbl; obtain ⟨vvl0, vvl1, vvl2⟩ := VVl.out.cells; have PPl : Hid (Var wl wd.heap.size np po plen pcap ep (E + E) 2048 (smag f * ((2 ^ E : Nat) : Int))) := PPr.out.later hbl; obtain ⟨ppl0, ppl1, ppl2⟩ := PPl.out.cells; have QQl : Hid (Var wl we.heap.size nq qo qlen qcap eq (E + E) 2048 (smag c * ((2 ^ E : Nat) : Int))) := QQr.out.later hbl; obtain ⟨qql0, qql1, qql2⟩ := QQl.out.cells; have HBl : Hid (Below w.heap.size w wl) := HBr.out.trans (hbl.mono HBr.out.size); have ZL : Hid (NumZ wl vl (E + E) 2049 (z1 - (smag f * ((2 ^ E : Nat) : Int)))) := hzl; clear hzl hbl)
          | (go_at_call_of 18 (Value.agg #[Value.bool nq, Value.slice qo qlen qcap, Value.int IntKind.i64 eq]); refine (minusZ_any _ _ (E + E) 2048 _ _ _ QQl.out.num VVl.out.num (by omega) (by omega)).mono ?_; rintro em wm ⟨vm, rfl, hzm, hbm⟩; have VVm : Hid (Var wm w1.heap.size nx ao len cap ex (E + E) 2048 z1) := VVl.out.later hbm; obtain ⟨vvm0, vvm1, vvm2⟩ := VVm.out.cells; have PPm : Hid (Var wm wd.heap.size np po plen pcap ep (E + E) 2048 (smag f * ((2 ^ E : Nat) : Int))) := PPl.out.later hbm; obtain ⟨ppm0, ppm1, ppm2⟩ := PPm.out.cells; have QQm : Hid (Var wm we.heap.size nq qo qlen qcap eq (E + E) 2048 (smag c * ((2 ^ E : Nat) : Int))) := QQl.out.later hbm; obtain ⟨qqm0, qqm1, qqm2⟩ := QQm.out.cells; have HBm : Hid (Below w.heap.size w wm) := HBl.out.trans (hbm.mono HBl.out.size); have ZLm : Hid (NumZ wm vl (E + E) 2049 (z1 - (smag f * ((2 ^ E : Nat) : Int)))) := NumZ.later ZL.out hbm; have ZM : Hid (NumZ wm vm (E + E) 2049 ((smag c * ((2 ^ E : Nat) : Int)) - z1)) := hzm; clear hzm hbm)
          | (go_at_call 13; refine (cmpZ_any _ _ (E + E) 2049 _ _ _ ZLm.out ZM.out (by omega) (by omega)).mono ?_; rintro en wn ⟨rfl, hbn⟩; have VVn : Hid (Var wn w1.heap.size nx ao len cap ex (E + E) 2048 z1) := VVm.out.later hbn; obtain ⟨vvn0, vvn1, vvn2⟩ := VVn.out.cells; have PPn : Hid (Var wn wd.heap.size np po plen pcap ep (E + E) 2048 (smag f * ((2 ^ E : Nat) : Int))) := PPm.out.later hbn; obtain ⟨ppn0, ppn1, ppn2⟩ := PPn.out.cells; have QQn : Hid (Var wn we.heap.size nq qo qlen qcap eq (E + E) 2048 (smag c * ((2 ^ E : Nat) : Int))) := QQm.out.later hbn; obtain ⟨qqn0, qqn1, qqn2⟩ := QQn.out.cells; have HBn : Hid (Below w.heap.size w wn) := HBm.out.trans (hbn.mono HBm.out.size); rw [HG5.out]; clear hbn))
      all_goals go_wp2_with (first | (go_at_call 19; refine (bits_any _ _).mono ?_; rintro eb wb ⟨rfl, rfl⟩) | (go_at_call 11; refine (started_any _).mono ?_; rintro es ws ⟨rfl, rfl⟩))
      all_goals (go_ret; exact ⟨rfl, by first | exact HBn.out | exact HBn.out.drew⟩)
    · subst h5
      rw [hm] at hnl hnh hel heh
      rw [hdt] at hnl hel
      rw [hdf] at hnh heh
      simp only [Bool.not_false, Bool.not_true] at hnl hnh
      have hmod : ((m : Int) % 2 == 0) = true := by rw [beq_iff_eq]; omega
      clear hdt hdf hdc hm HK
      go_wp2_with fail
      refine (cn _).mono ?_
      rintro ec wc ⟨rfl, rfl⟩
      clear cn
      go_wp2_with fail
      refine (cmpZ_any _ _ (E + E) 2048 _ _ _ PPk.out.num VVk.out.num (by omega) (by omega)).mono ?_
      rintro es ws ⟨rfl, hbs⟩
      clear vvk0 vvk1 vvk2 ppk0 ppk1 ppk2 qqk0 qqk1 qqk2
      have VVs : Hid (Var ws w1.heap.size nx ao len cap ex (E + E) 2048 z1) := VVk.out.later hbs
      obtain ⟨vvs0, vvs1, vvs2⟩ := VVs.out.cells
      have PPs : Hid (Var ws wd.heap.size np po plen pcap ep (E + E) 2048 (smag f * ((2 ^ E : Nat) : Int))) := PPk.out.later hbs
      obtain ⟨pps0, pps1, pps2⟩ := PPs.out.cells
      have QQs : Hid (Var ws we.heap.size nq qo qlen qcap eq (E + E) 2048 (smag c * ((2 ^ E : Nat) : Int))) := QQk.out.later hbs
      obtain ⟨qqs0, qqs1, qqs2⟩ := QQs.out.cells
      have HBs : Hid (Below w.heap.size w ws) := HBk.out.trans (hbs.mono HBk.out.size)
      rw [HG3.out]
      clear hbs VVk PPk QQk HBk
      go_wp2_with fail
      refine (cmpZ_any _ _ (E + E) 2048 _ _ _ VVs.out.num QQs.out.num (by omega) (by omega)).mono ?_
      rintro et wt ⟨rfl, hbt⟩
      clear vvs0 vvs1 vvs2 pps0 pps1 pps2 qqs0 qqs1 qqs2
      have VVt : Hid (Var wt w1.heap.size nx ao len cap ex (E + E) 2048 z1) := VVs.out.later hbt
      obtain ⟨vvt0, vvt1, vvt2⟩ := VVt.out.cells
      have PPt : Hid (Var wt wd.heap.size np po plen pcap ep (E + E) 2048 (smag f * ((2 ^ E : Nat) : Int))) := PPs.out.later hbt
      obtain ⟨ppt0, ppt1, ppt2⟩ := PPt.out.cells
      have QQt : Hid (Var wt we.heap.size nq qo qlen qcap eq (E + E) 2048 (smag c * ((2 ^ E : Nat) : Int))) := QQs.out.later hbt
      obtain ⟨qqt0, qqt1, qqt2⟩ := QQt.out.cells
      have HBt : Hid (Below w.heap.size w wt) := HBs.out.trans (hbt.mono HBs.out.size)
      rw [HG4.out]
      clear hbt VVs PPs QQs HBs
      go_wp2_with fail
      have VVr : Hid (Var wt.drew w1.heap.size nx ao len cap ex (E + E) 2048 z1) := VVt.out.drew
      have PPr : Hid (Var wt.drew wd.heap.size np po plen pcap ep (E + E) 2048 (smag f * ((2 ^ E : Nat) : Int))) := PPt.out.drew
      have QQr : Hid (Var wt.drew we.heap.size nq qo qlen qcap eq (E + E) 2048 (smag c * ((2 ^ E : Nat) : Int))) := QQt.out.drew
      have HBr : Hid (Below w.heap.size w wt.drew) := HBt.out.drew
      go_region_held3 (fun w' => w'.cell? ⟨w1.heap.size, 0, none⟩ = some (.bool nx) ∧ w'.cell? ⟨w1.heap.size, 1, none⟩ = some (.slice ao len cap) ∧ w'.cell? ⟨w1.heap.size, 2, none⟩ = some (.int .i64 ex) ∧ w'.cell? ⟨wd.heap.size, 0, none⟩ = some (.bool np) ∧ w'.cell? ⟨wd.heap.size, 1, none⟩ = some (.slice po plen pcap) ∧ w'.cell? ⟨wd.heap.size, 2, none⟩ = some (.int .i64 ep) ∧ w'.cell? ⟨we.heap.size, 0, none⟩ = some (.bool nq) ∧ w'.cell? ⟨we.heap.size, 1, none⟩ = some (.slice qo qlen qcap) ∧ w'.cell? ⟨we.heap.size, 2, none⟩ = some (.int .i64 eq)) (go_keep)
        (first
          | (go_at_call_of 18 (Value.agg #[Value.bool np, Value.slice po plen pcap, Value.int IntKind.i64 ep]); refine (minusZ_any _ _ (E + E) 2048 _ _ _ VVr.out.num PPr.out.num (by omega) (by omega)).mono ?_; rintro el wl ⟨vl, rfl, hzl, hbl⟩; have VVl : Hid (Var wl w1.heap.size nx ao len cap ex (E + E) 2048 z1) := VVr.out.later hbl; obtain ⟨vvl0, vvl1, vvl2⟩ := VVl.out.cells; have PPl : Hid (Var wl wd.heap.size np po plen pcap ep (E + E) 2048 (smag f * ((2 ^ E : Nat) : Int))) := PPr.out.later hbl; obtain ⟨ppl0, ppl1, ppl2⟩ := PPl.out.cells; have QQl : Hid (Var wl we.heap.size nq qo qlen qcap eq (E + E) 2048 (smag c * ((2 ^ E : Nat) : Int))) := QQr.out.later hbl; obtain ⟨qql0, qql1, qql2⟩ := QQl.out.cells; have HBl : Hid (Below w.heap.size w wl) := HBr.out.trans (hbl.mono HBr.out.size); have ZL : Hid (NumZ wl vl (E + E) 2049 (z1 - (smag f * ((2 ^ E : Nat) : Int)))) := hzl; clear hzl hbl)
          | (go_at_call_of 18 (Value.agg #[Value.bool nq, Value.slice qo qlen qcap, Value.int IntKind.i64 eq]); refine (minusZ_any _ _ (E + E) 2048 _ _ _ QQl.out.num VVl.out.num (by omega) (by omega)).mono ?_; rintro em wm ⟨vm, rfl, hzm, hbm⟩; have VVm : Hid (Var wm w1.heap.size nx ao len cap ex (E + E) 2048 z1) := VVl.out.later hbm; obtain ⟨vvm0, vvm1, vvm2⟩ := VVm.out.cells; have PPm : Hid (Var wm wd.heap.size np po plen pcap ep (E + E) 2048 (smag f * ((2 ^ E : Nat) : Int))) := PPl.out.later hbm; obtain ⟨ppm0, ppm1, ppm2⟩ := PPm.out.cells; have QQm : Hid (Var wm we.heap.size nq qo qlen qcap eq (E + E) 2048 (smag c * ((2 ^ E : Nat) : Int))) := QQl.out.later hbm; obtain ⟨qqm0, qqm1, qqm2⟩ := QQm.out.cells; have HBm : Hid (Below w.heap.size w wm) := HBl.out.trans (hbm.mono HBl.out.size); have ZLm : Hid (NumZ wm vl (E + E) 2049 (z1 - (smag f * ((2 ^ E : Nat) : Int)))) := NumZ.later ZL.out hbm; have ZM : Hid (NumZ wm vm (E + E) 2049 ((smag c * ((2 ^ E : Nat) : Int)) - z1)) := hzm; clear hzm hbm)
          | (go_at_call 13; refine (cmpZ_any _ _ (E + E) 2049 _ _ _ ZLm.out ZM.out (by omega) (by omega)).mono ?_; rintro en wn ⟨rfl, hbn⟩; have VVn : Hid (Var wn w1.heap.size nx ao len cap ex (E + E) 2048 z1) := VVm.out.later hbn; obtain ⟨vvn0, vvn1, vvn2⟩ := VVn.out.cells; have PPn : Hid (Var wn wd.heap.size np po plen pcap ep (E + E) 2048 (smag f * ((2 ^ E : Nat) : Int))) := PPm.out.later hbn; obtain ⟨ppn0, ppn1, ppn2⟩ := PPn.out.cells; have QQn : Hid (Var wn we.heap.size nq qo qlen qcap eq (E + E) 2048 (smag c * ((2 ^ E : Nat) : Int))) := QQm.out.later hbn; obtain ⟨qqn0, qqn1, qqn2⟩ := QQn.out.cells; have HBn : Hid (Below w.heap.size w wn) := HBm.out.trans (hbn.mono HBm.out.size); rw [HG5.out]; clear hbn))
      all_goals go_wp2_with (first | (go_at_call 19; refine (bits_any _ _).mono ?_; rintro eb wb ⟨rfl, rfl⟩) | (go_at_call 11; refine (started_any _).mono ?_; rintro es ws ⟨rfl, rfl⟩))
      all_goals (go_ret; exact ⟨rfl, by first | exact HBn.out | exact HBn.out.drew⟩)
    · subst h5
      rw [hm] at hnl hnh hel heh
      rw [hdc] at hnl hel
      rw [hdt] at hnh heh
      simp only [Bool.not_false, Bool.not_true] at hnl hnh
      have hmod : ((m : Int) % 2 == 0) = true := by rw [beq_iff_eq]; omega
      clear hdt hdf hdc hm HK
      go_wp2_with fail
      refine (cn _).mono ?_
      rintro ec wc ⟨rfl, rfl⟩
      clear cn
      go_wp2_with fail
      refine (cmpZ_any _ _ (E + E) 2048 _ _ _ PPk.out.num VVk.out.num (by omega) (by omega)).mono ?_
      rintro es ws ⟨rfl, hbs⟩
      clear vvk0 vvk1 vvk2 ppk0 ppk1 ppk2 qqk0 qqk1 qqk2
      have VVs : Hid (Var ws w1.heap.size nx ao len cap ex (E + E) 2048 z1) := VVk.out.later hbs
      obtain ⟨vvs0, vvs1, vvs2⟩ := VVs.out.cells
      have PPs : Hid (Var ws wd.heap.size np po plen pcap ep (E + E) 2048 (smag f * ((2 ^ E : Nat) : Int))) := PPk.out.later hbs
      obtain ⟨pps0, pps1, pps2⟩ := PPs.out.cells
      have QQs : Hid (Var ws we.heap.size nq qo qlen qcap eq (E + E) 2048 (smag c * ((2 ^ E : Nat) : Int))) := QQk.out.later hbs
      obtain ⟨qqs0, qqs1, qqs2⟩ := QQs.out.cells
      have HBs : Hid (Below w.heap.size w ws) := HBk.out.trans (hbs.mono HBk.out.size)
      rw [HG3.out]
      clear hbs VVk PPk QQk HBk
      go_wp2_with fail
      refine (cmpZ_any _ _ (E + E) 2048 _ _ _ VVs.out.num QQs.out.num (by omega) (by omega)).mono ?_
      rintro et wt ⟨rfl, hbt⟩
      clear vvs0 vvs1 vvs2 pps0 pps1 pps2 qqs0 qqs1 qqs2
      have VVt : Hid (Var wt w1.heap.size nx ao len cap ex (E + E) 2048 z1) := VVs.out.later hbt
      obtain ⟨vvt0, vvt1, vvt2⟩ := VVt.out.cells
      have PPt : Hid (Var wt wd.heap.size np po plen pcap ep (E + E) 2048 (smag f * ((2 ^ E : Nat) : Int))) := PPs.out.later hbt
      obtain ⟨ppt0, ppt1, ppt2⟩ := PPt.out.cells
      have QQt : Hid (Var wt we.heap.size nq qo qlen qcap eq (E + E) 2048 (smag c * ((2 ^ E : Nat) : Int))) := QQs.out.later hbt
      obtain ⟨qqt0, qqt1, qqt2⟩ := QQt.out.cells
      have HBt : Hid (Below w.heap.size w wt) := HBs.out.trans (hbt.mono HBs.out.size)
      rw [HG4.out]
      clear hbt VVs PPs QQs HBs
      go_wp2_with fail
      have VVr : Hid (Var wt.drew w1.heap.size nx ao len cap ex (E + E) 2048 z1) := VVt.out.drew
      have PPr : Hid (Var wt.drew wd.heap.size np po plen pcap ep (E + E) 2048 (smag f * ((2 ^ E : Nat) : Int))) := PPt.out.drew
      have QQr : Hid (Var wt.drew we.heap.size nq qo qlen qcap eq (E + E) 2048 (smag c * ((2 ^ E : Nat) : Int))) := QQt.out.drew
      have HBr : Hid (Below w.heap.size w wt.drew) := HBt.out.drew
      go_region_held3 (fun w' => w'.cell? ⟨w1.heap.size, 0, none⟩ = some (.bool nx) ∧ w'.cell? ⟨w1.heap.size, 1, none⟩ = some (.slice ao len cap) ∧ w'.cell? ⟨w1.heap.size, 2, none⟩ = some (.int .i64 ex) ∧ w'.cell? ⟨wd.heap.size, 0, none⟩ = some (.bool np) ∧ w'.cell? ⟨wd.heap.size, 1, none⟩ = some (.slice po plen pcap) ∧ w'.cell? ⟨wd.heap.size, 2, none⟩ = some (.int .i64 ep) ∧ w'.cell? ⟨we.heap.size, 0, none⟩ = some (.bool nq) ∧ w'.cell? ⟨we.heap.size, 1, none⟩ = some (.slice qo qlen qcap) ∧ w'.cell? ⟨we.heap.size, 2, none⟩ = some (.int .i64 eq)) (go_keep)
        (first
          | (go_at_call_of 18 (Value.agg #[Value.bool np, Value.slice po plen pcap, Value.int IntKind.i64 ep]); refine (minusZ_any _ _ (E + E) 2048 _ _ _ VVr.out.num PPr.out.num (by omega) (by omega)).mono ?_; rintro el wl ⟨vl, rfl, hzl, hbl⟩; have VVl : Hid (Var wl w1.heap.size nx ao len cap ex (E + E) 2048 z1) := VVr.out.later hbl; obtain ⟨vvl0, vvl1, vvl2⟩ := VVl.out.cells; have PPl : Hid (Var wl wd.heap.size np po plen pcap ep (E + E) 2048 (smag f * ((2 ^ E : Nat) : Int))) := PPr.out.later hbl; obtain ⟨ppl0, ppl1, ppl2⟩ := PPl.out.cells; have QQl : Hid (Var wl we.heap.size nq qo qlen qcap eq (E + E) 2048 (smag c * ((2 ^ E : Nat) : Int))) := QQr.out.later hbl; obtain ⟨qql0, qql1, qql2⟩ := QQl.out.cells; have HBl : Hid (Below w.heap.size w wl) := HBr.out.trans (hbl.mono HBr.out.size); have ZL : Hid (NumZ wl vl (E + E) 2049 (z1 - (smag f * ((2 ^ E : Nat) : Int)))) := hzl; clear hzl hbl)
          | (go_at_call_of 18 (Value.agg #[Value.bool nq, Value.slice qo qlen qcap, Value.int IntKind.i64 eq]); refine (minusZ_any _ _ (E + E) 2048 _ _ _ QQl.out.num VVl.out.num (by omega) (by omega)).mono ?_; rintro em wm ⟨vm, rfl, hzm, hbm⟩; have VVm : Hid (Var wm w1.heap.size nx ao len cap ex (E + E) 2048 z1) := VVl.out.later hbm; obtain ⟨vvm0, vvm1, vvm2⟩ := VVm.out.cells; have PPm : Hid (Var wm wd.heap.size np po plen pcap ep (E + E) 2048 (smag f * ((2 ^ E : Nat) : Int))) := PPl.out.later hbm; obtain ⟨ppm0, ppm1, ppm2⟩ := PPm.out.cells; have QQm : Hid (Var wm we.heap.size nq qo qlen qcap eq (E + E) 2048 (smag c * ((2 ^ E : Nat) : Int))) := QQl.out.later hbm; obtain ⟨qqm0, qqm1, qqm2⟩ := QQm.out.cells; have HBm : Hid (Below w.heap.size w wm) := HBl.out.trans (hbm.mono HBl.out.size); have ZLm : Hid (NumZ wm vl (E + E) 2049 (z1 - (smag f * ((2 ^ E : Nat) : Int)))) := NumZ.later ZL.out hbm; have ZM : Hid (NumZ wm vm (E + E) 2049 ((smag c * ((2 ^ E : Nat) : Int)) - z1)) := hzm; clear hzm hbm)
          | (go_at_call 13; refine (cmpZ_any _ _ (E + E) 2049 _ _ _ ZLm.out ZM.out (by omega) (by omega)).mono ?_; rintro en wn ⟨rfl, hbn⟩; have VVn : Hid (Var wn w1.heap.size nx ao len cap ex (E + E) 2048 z1) := VVm.out.later hbn; obtain ⟨vvn0, vvn1, vvn2⟩ := VVn.out.cells; have PPn : Hid (Var wn wd.heap.size np po plen pcap ep (E + E) 2048 (smag f * ((2 ^ E : Nat) : Int))) := PPm.out.later hbn; obtain ⟨ppn0, ppn1, ppn2⟩ := PPn.out.cells; have QQn : Hid (Var wn we.heap.size nq qo qlen qcap eq (E + E) 2048 (smag c * ((2 ^ E : Nat) : Int))) := QQm.out.later hbn; obtain ⟨qqn0, qqn1, qqn2⟩ := QQn.out.cells; have HBn : Hid (Below w.heap.size w wn) := HBm.out.trans (hbn.mono HBm.out.size); rw [HG5.out]; clear hbn))
      all_goals go_wp2_with (first | (go_at_call 19; refine (bits_any _ _).mono ?_; rintro eb wb ⟨rfl, rfl⟩) | (go_at_call 11; refine (started_any _).mono ?_; rintro es ws ⟨rfl, rfl⟩))
      all_goals (go_ret; exact ⟨rfl, by first | exact HBn.out | exact HBn.out.drew⟩)
end Go.Proofs.Ytgjdmenmegnacab
