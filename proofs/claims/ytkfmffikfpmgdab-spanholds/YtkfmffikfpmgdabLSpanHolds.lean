import Derived.Test.YtkfmffikfpmgdabHG
namespace Go.Proofs.Ytkfmffikfpmgdab
open Go.RowKit
set_option linter.unusedVariables false

set_option maxRecDepth 100000 in
set_option maxHeartbeats 16000000 in
theorem spanHolds_walk (al ah : Nat) (ab : Bool) (hal : al < 18446744073709551616) (hah : ah < 18446744073709551616) (bl bh : Nat) (bb : Bool) (hbl : bl < 18446744073709551616) (hbh : bh < 18446744073709551616) (i : Int) (hi0 : -9223372036854775808 ≤ i) (hi1 : i ≤ 9223372036854775807) (j : Int) (hj0 : -9223372036854775808 ≤ j) (hj1 : j ≤ 9223372036854775807) (n : Int) (hn0 : -9223372036854775808 ≤ n) (hn1 : n ≤ 9223372036854775807) (w : World) :
    Calls Try.prog 3 #[.agg #[Value.float .f64 al, .float .f64 ah, .bool ab], .agg #[Value.float .f64 bl, .float .f64 bh, .bool bb], .int .i64 i, .int .i64 j, .int .i64 n] w fun e w' => e = .returned (.bool true) ∧ Below w.heap.size w w' := by
  obtain ⟨E, hE⟩ : ∃ E : Nat, E = 1074 := ⟨_, rfl⟩
  have hsf := run_store_f
  have ST : Hid _ := spStarted_any
  have hfd : ∀ w, (Instr.field 24 (.agg #[.float .f64 0, .float .f64 0, .bool true]) 2).run Try.prog w = .ok (.bool true) w := fun w => by kernel_rfl
  obtain ⟨g0, g1, -, gb⟩ := alloc2_facts w (Obj.cells #[Value.float .f64 al, .float .f64 ah, .bool ab] 24) (Obj.cells #[Value.float .f64 bl, .float .f64 bh, .bool bb] 24)
  have Na : Hid _ := g0
  have Nb : Hid _ := g1
  have NB : Hid _ := gb
  clear g0 g1 gb
  go_enter Try.func3, Try.ntmps3
  go_upto_region 1 with fail
  generalize ((w.alloc (Obj.cells #[Value.float .f64 al, .float .f64 ah, .bool ab] 24)).alloc (Obj.cells #[Value.float .f64 bl, .float .f64 bh, .bool bb] 24)) = W0 at Na Nb NB ⊢
  obtain ⟨Pb, hPb⟩ : ∃ P, w.heap.size + 1 = P := ⟨_, rfl⟩
  rw [hPb] at Nb ⊢
  obtain ⟨Pa, hPa⟩ : ∃ P, w.heap.size = P := ⟨_, rfl⟩
  have HPa : Hid (w.heap.size = Pa) := hPa
  rw [hPa] at Na ⊢
  clear hPa hPb
  obtain ⟨a0, a1, a2⟩ := cells3 Na.out
  go_wp2_with fail
  refine Calls.mono (within_any al ah ab hal hah i n hi0 hi1 hn0 hn1 E hE _) ?_
  rintro e w1 ⟨v1, rfl, ⟨N1, I1, hN1, hI1, zx, hzx, hx⟩, bw⟩
  have ZX0 : Hid (NumZ w1 v1 (E + E) 2051 zx) := hzx
  have IX : Hid (Good al ah ab → In2 al ah ab E zx) := fun hg => ⟨hg, (within_bounds (by omega) hI1 (good_mono hg) (hx hg)).1, (within_bounds (by omega) hI1 (good_mono hg) (hx hg)).2⟩
  obtain ⟨n1, m1, e1, ⟨o1, l1, c1, xs1, rfl, -⟩, -⟩ := hzx
  have Ma : Hid _ := (bw.block _ (blk_lt Na.out)).trans Na.out
  have Mb : Hid _ := (bw.block _ (blk_lt Nb.out)).trans Nb.out
  have MB : Hid (Below w.heap.size w w1) := NB.out.trans (bw.mono NB.out.size)
  clear bw hx Na Nb NB a0 a1 a2
  obtain ⟨da, hda⟩ : ∃ d, decide (Good al ah ab) = d := ⟨_, rfl⟩
  have HDA : Hid _ := hda
  rw [hda]
  clear hda
  go_upto_region 2 with fail
  have Na : Hid _ := (alloc4 Ma.out MB.out (Obj.cells #[Value.bool n1, Value.slice o1 l1 c1, Value.int IntKind.i64 e1] 27)).1
  have Nb : Hid _ := (alloc4 Mb.out MB.out (Obj.cells #[Value.bool n1, Value.slice o1 l1 c1, Value.int IntKind.i64 e1] 27)).1
  have Nx : Hid _ := heap_alloc_new w1 (Obj.cells #[Value.bool n1, Value.slice o1 l1 c1, Value.int IntKind.i64 e1] 27)
  have NB : Hid (Below w.heap.size w (w1.alloc (Obj.cells #[Value.bool n1, Value.slice o1 l1 c1, Value.int IntKind.i64 e1] 27))) := MB.out.alloc MB.out.size _
  have ZX1 : Hid _ := NumZ.later ZX0.out ((Below.refl _ w1).alloc (Nat.le_refl _) (Obj.cells #[Value.bool n1, Value.slice o1 l1 c1, Value.int IntKind.i64 e1] 27))
  obtain ⟨Px, hPx⟩ : ∃ P, w1.heap.size = P := ⟨_, rfl⟩
  rw [hPx] at Nx ⊢
  generalize w1.alloc (Obj.cells #[Value.bool n1, Value.slice o1 l1 c1, Value.int IntKind.i64 e1] 27) = W1 at Na Nb Nx NB ZX1 ⊢
  clear hPx Ma Mb MB ZX0
  obtain ⟨b0, b1, b2⟩ := cells3 Nb.out
  go_wp2_with fail
  refine Calls.mono (within_any bl bh bb hbl hbh j n hj0 hj1 hn0 hn1 E hE _) ?_
  rintro e w2 ⟨v2, rfl, ⟨N2, I2, hN2, hI2, zy, hzy, hy⟩, bw⟩
  have ZY0 : Hid (NumZ w2 v2 (E + E) 2051 zy) := hzy
  have IY : Hid (Good bl bh bb → In2 bl bh bb E zy) := fun hg => ⟨hg, (within_bounds (by omega) hI2 (good_mono hg) (hy hg)).1, (within_bounds (by omega) hI2 (good_mono hg) (hy hg)).2⟩
  obtain ⟨n2, m2, e2, ⟨o2, l2, c2, xs2, rfl, -⟩, -⟩ := hzy
  have Ma : Hid _ := (bw.block _ (blk_lt Na.out)).trans Na.out
  have Mb : Hid _ := (bw.block _ (blk_lt Nb.out)).trans Nb.out
  have Mx : Hid _ := (bw.block _ (blk_lt Nx.out)).trans Nx.out
  have ZX0 : Hid _ := NumZ.later ZX1.out bw
  have MB : Hid (Below w.heap.size w w2) := NB.out.trans (bw.mono NB.out.size)
  clear bw hy Na Nb Nx NB ZX1 b0 b1 b2
  obtain ⟨db, hdb⟩ : ∃ d, decide (Good bl bh bb) = d := ⟨_, rfl⟩
  have HDB : Hid _ := hdb
  rw [hdb]
  clear hdb
  go_upto_region 3 with fail
  have Na : Hid _ := (alloc4 Ma.out MB.out (Obj.cells #[Value.bool n2, Value.slice o2 l2 c2, Value.int IntKind.i64 e2] 27)).1
  have Nb : Hid _ := (alloc4 Mb.out MB.out (Obj.cells #[Value.bool n2, Value.slice o2 l2 c2, Value.int IntKind.i64 e2] 27)).1
  have Nx : Hid _ := (alloc4 Mx.out MB.out (Obj.cells #[Value.bool n2, Value.slice o2 l2 c2, Value.int IntKind.i64 e2] 27)).1
  have Ny : Hid _ := heap_alloc_new w2 (Obj.cells #[Value.bool n2, Value.slice o2 l2 c2, Value.int IntKind.i64 e2] 27)
  have NB : Hid (Below w.heap.size w (w2.alloc (Obj.cells #[Value.bool n2, Value.slice o2 l2 c2, Value.int IntKind.i64 e2] 27))) := MB.out.alloc MB.out.size _
  have ZX1 : Hid _ := NumZ.later ZX0.out ((Below.refl _ w2).alloc (Nat.le_refl _) (Obj.cells #[Value.bool n2, Value.slice o2 l2 c2, Value.int IntKind.i64 e2] 27))
  have ZY1 : Hid _ := NumZ.later ZY0.out ((Below.refl _ w2).alloc (Nat.le_refl _) (Obj.cells #[Value.bool n2, Value.slice o2 l2 c2, Value.int IntKind.i64 e2] 27))
  obtain ⟨Py, hPy⟩ : ∃ P, w2.heap.size = P := ⟨_, rfl⟩
  rw [hPy] at Ny ⊢
  generalize w2.alloc (Obj.cells #[Value.bool n2, Value.slice o2 l2 c2, Value.int IntKind.i64 e2] 27) = W2 at Na Nb Nx Ny NB ZX1 ZY1 ⊢
  clear hPy Ma Mb Mx MB ZX0 ZY0
  as_aux_lemma =>
  by_cases hg : Good al ah ab ∧ Good bl bh bb
  · have X2 : Hid _ := IX.out hg.1
    have Y2 : Hid _ := IY.out hg.2
    have hda : da = true := by rw [← HDA.out]; exact decide_eq_true hg.1
    have hdb : db = true := by rw [← HDB.out]; exact decide_eq_true hg.2
    subst hda hdb
    clear HDA HDB IX IY
    obtain ⟨m, hm0, hm1, em⟩ := turn_m n
    have bm := tmod_pos (a := n) (m := 61) (by decide)
    have bm2 := tmod_pos (a := n.tmod 61 + 61) (m := 61) (by decide)
    have vm1 : IntKind.i64.wrap (n.tmod 61) = n.tmod 61 := by rw [IntKind.wrap_i64]; omega
    have vm2 : IntKind.i64.wrap (n.tmod 61 + 61) = n.tmod 61 + 61 := by rw [IntKind.wrap_i64]; omega
    have vm3 : IntKind.i64.wrap ((n.tmod 61 + 61).tmod 61) = (n.tmod 61 + 61).tmod 61 := by rw [IntKind.wrap_i64]; omega
    have vm4 : IntKind.i64.wrap ((n.tmod 61 + 61).tmod 61 - 30) = m := by rw [em, IntKind.wrap_i64]; omega
    obtain ⟨⟨nl, nh, nb⟩, rn, cn⟩ := spNeg_any al ah ab hal hah
    obtain ⟨⟨pl, ph, pb⟩, rp, cp⟩ := spAdd_any al ah bl bh ab bb hal hah hbl hbh
    obtain ⟨⟨sl, sh, sb⟩, rs, cs⟩ := spSub_any al ah bl bh ab bb hal hah hbl hbh
    obtain ⟨⟨ml, mh, mb⟩, rm, cm⟩ := spMul_any al ah bl bh ab bb hal hah hbl hbh E hE
    obtain ⟨⟨fl, fh, fb⟩, rf, cf⟩ := spScale_any al ah ab m hal hah
    obtain ⟨⟨ql, qh, qb⟩, rq, cq⟩ := spSquare_any al ah ab hal hah E hE
    obtain ⟨⟨xl, xh, xb⟩, rx, cx⟩ := spMax_any al ah bl bh ab bb hal hah hbl hbh
    obtain ⟨⟨ul, uh, ub⟩, ru, cu⟩ := spHull_any al ah bl bh ab bb hal hah hbl hbh
    obtain ⟨⟨tl, th, tb⟩, rt, ct⟩ := spMeet_any al ah bl bh ab bb hal hah hbl hbh
    obtain ⟨⟨dl, dh, db⟩, rd, cd⟩ := spDiv_any al ah bl bh ab bb hal hah hbl hbh E hE
    have CN : Hid _ := cn
    have CP : Hid _ := cp
    have CS : Hid _ := cs
    have CM : Hid _ := cm
    have CF : Hid _ := cf
    have CQ : Hid _ := cq
    have CX : Hid _ := cx
    have CU : Hid _ := cu
    have CT : Hid _ := ct
    have CD : Hid _ := cd
    have DN : Hid (Hds (nl, nh, nb) E (-zx)) := h_neg X2.out rn
    have DP : Hid (Hds (pl, ph, pb) E (zx + zy)) := h_add X2.out Y2.out rp
    have DS : Hid (Hds (sl, sh, sb) E (zx - zy)) := h_sub X2.out Y2.out rs
    have DM : Hid (Hds (ml, mh, mb) (E + E + E) (zx * zy)) := h_mul X2.out Y2.out rm
    have DF : Hid (Hds (fl, fh, fb) (E + 30) (zx * ((2 ^ (30 + m).toNat : Nat) : Int))) := h_scale ⟨hm0, hm1⟩ X2.out rf
    have DQ : Hid (Hds (ql, qh, qb) (E + E + E) (zx * zx)) := h_square X2.out rq
    have DX : Hid (Hds (xl, xh, xb) E (max zx zy)) := h_max X2.out Y2.out rx
    have DU : Hid (Hds (ul, uh, ub) E zx ∧ Hds (ul, uh, ub) E zy) := h_hull X2.out Y2.out ru
    have DT : Hid (zx = zy → tb = false ∧ Hds (tl, th, tb) E zx) := fun he => h_meet hal hah hbl hbh X2.out Y2.out he rt
    have DD : Hid (db = false → Good dl dh db ∧ zy ≠ 0 ∧ (0 < zy → fval dl * zy ≤ zx * ((2 ^ E : Nat) : Int) ∧ zx * ((2 ^ E : Nat) : Int) ≤ fval dh * zy) ∧ (zy < 0 → zx * ((2 ^ E : Nat) : Int) ≤ fval dl * zy ∧ fval dh * zy ≤ zx * ((2 ^ E : Nat) : Int))) := fun hb => h_div X2.out Y2.out rd hb
    have LN := un_lt rn
    have LP := bin_lt rp
    have LS := bin_lt rs
    have LM := mul_lt rm
    have LF := sc_lt rf
    have LQ := un_lt rq
    have LX := mk_lt rx
    have LU := mk_lt ru
    have LT := mk_lt rt
    have LD := div_lt rd
    have HLN : Hid _ := LN
    have HLP : Hid _ := LP
    have HLS : Hid _ := LS
    have HLM : Hid _ := LM
    have HLF : Hid _ := LF
    have HLQ : Hid _ := LQ
    have HLX : Hid _ := LX
    have HLU : Hid _ := LU
    have HLT : Hid _ := LT
    have HLD : Hid _ := LD
    clear rn rp rs rm rf rq rx ru rt rd cn cp cs cm cf cq cx cu ct cd LN LP LS LM LF LQ LX LU LT LD X2 Y2 hg
    as_aux_lemma =>
    go_upto_region 5 with fail
    go_cut [15] (fun s15 wx => s15 = .int .i64 m ∧ wx = W2)
    case first =>
      go_wp2_with fail
      go_meet
      exact ⟨by first | exact congrArg (Value.int IntKind.i64) ((m_form n).trans em) | (rw [← em, ← m_form]) | (rw [m_form, em]), rfl⟩
    case rest =>
    obtain ⟨rfl, hw⟩ := hcut
    subst hw
    clear vm1 vm2 vm3 vm4 bm bm2 em
    as_aux_lemma =>
    obtain ⟨x0, x1, x2⟩ := cells3 Nx.out
    obtain ⟨y0, y1, y2⟩ := cells3 Ny.out
    go_wp2_with fail
    refine Calls.mono (mostZ_any _ _ (E + E) 2051 zx zy _ ZX1.out ZY1.out (by omega) (by omega)) ?_
    rintro e w3 ⟨v3, rfl, hz3, bw⟩
    have ZM0 : Hid (NumZ w3 v3 (E + E) 2051 (max zx zy)) := hz3
    obtain ⟨n3, m3, e3, ⟨o3, l3, c3, xs3, rfl, -⟩, -⟩ := hz3
    have Ma : Hid _ := (bw.block _ (blk_lt Na.out)).trans Na.out
    have Mb : Hid _ := (bw.block _ (blk_lt Nb.out)).trans Nb.out
    have Mx : Hid _ := (bw.block _ (blk_lt Nx.out)).trans Nx.out
    have My : Hid _ := (bw.block _ (blk_lt Ny.out)).trans Ny.out
    have ZX0 : Hid _ := NumZ.later ZX1.out bw
    have ZY0 : Hid _ := NumZ.later ZY1.out bw
    have MB : Hid (Below w.heap.size w w3) := NB.out.trans (bw.mono NB.out.size)
    clear bw Na Nb Nx Ny NB ZX1 ZY1 x0 x1 x2 y0 y1 y2
    go_upto_region 7 with fail
    have Ka : Hid _ := (alloc4 Ma.out MB.out (Obj.cells #[Value.bool n3, Value.slice o3 l3 c3, Value.int IntKind.i64 e3] 27)).1
    have Kb : Hid _ := (alloc4 Mb.out MB.out (Obj.cells #[Value.bool n3, Value.slice o3 l3 c3, Value.int IntKind.i64 e3] 27)).1
    have Kx : Hid _ := (alloc4 Mx.out MB.out (Obj.cells #[Value.bool n3, Value.slice o3 l3 c3, Value.int IntKind.i64 e3] 27)).1
    have Ky : Hid _ := (alloc4 My.out MB.out (Obj.cells #[Value.bool n3, Value.slice o3 l3 c3, Value.int IntKind.i64 e3] 27)).1
    have Km : Hid _ := heap_alloc_new w3 (Obj.cells #[Value.bool n3, Value.slice o3 l3 c3, Value.int IntKind.i64 e3] 27)
    have KB : Hid (Below w.heap.size w (w3.alloc (Obj.cells #[Value.bool n3, Value.slice o3 l3 c3, Value.int IntKind.i64 e3] 27))) := MB.out.alloc MB.out.size _
    have ZX : Hid (NumZ _ _ (E + E) 2051 zx) := NumZ.later ZX0.out ((Below.refl _ w3).alloc (Nat.le_refl _) (Obj.cells #[Value.bool n3, Value.slice o3 l3 c3, Value.int IntKind.i64 e3] 27))
    have ZY : Hid (NumZ _ _ (E + E) 2051 zy) := NumZ.later ZY0.out ((Below.refl _ w3).alloc (Nat.le_refl _) (Obj.cells #[Value.bool n3, Value.slice o3 l3 c3, Value.int IntKind.i64 e3] 27))
    have ZM : Hid (NumZ _ _ (E + E) 2051 (max zx zy)) := NumZ.later ZM0.out ((Below.refl _ w3).alloc (Nat.le_refl _) (Obj.cells #[Value.bool n3, Value.slice o3 l3 c3, Value.int IntKind.i64 e3] 27))
    obtain ⟨Pm, hPm⟩ : ∃ P, w3.heap.size = P := ⟨_, rfl⟩
    rw [hPm] at Km ⊢
    generalize w3.alloc (Obj.cells #[Value.bool n3, Value.slice o3 l3 c3, Value.int IntKind.i64 e3] 27) = W6 at Ka Kb Kx Ky Km KB ZX ZY ZM ⊢
    clear hPm Ma Mb Mx My MB ZX0 ZY0 ZM0
    have HC : Hid (∀ wx wy, Below W6.heap.size W6 wx → Below wx.heap.size wx wy → Below W6.heap.size W6 wy ∧ (wy.cell? ⟨Pa, 0, none⟩ = some (.float .f64 al) ∧ wy.cell? ⟨Pa, 1, none⟩ = some (.float .f64 ah) ∧ wy.cell? ⟨Pa, 2, none⟩ = some (.bool ab)) ∧ (wy.cell? ⟨Pb, 0, none⟩ = some (.float .f64 bl) ∧ wy.cell? ⟨Pb, 1, none⟩ = some (.float .f64 bh) ∧ wy.cell? ⟨Pb, 2, none⟩ = some (.bool bb)) ∧ (wy.cell? ⟨Px, 0, none⟩ = some (Value.bool n1) ∧ wy.cell? ⟨Px, 1, none⟩ = some (Value.slice o1 l1 c1) ∧ wy.cell? ⟨Px, 2, none⟩ = some (Value.int IntKind.i64 e1)) ∧ (wy.cell? ⟨Py, 0, none⟩ = some (Value.bool n2) ∧ wy.cell? ⟨Py, 1, none⟩ = some (Value.slice o2 l2 c2) ∧ wy.cell? ⟨Py, 2, none⟩ = some (Value.int IntKind.i64 e2)) ∧ (wy.cell? ⟨Pm, 0, none⟩ = some (Value.bool n3) ∧ wy.cell? ⟨Pm, 1, none⟩ = some (Value.slice o3 l3 c3) ∧ wy.cell? ⟨Pm, 2, none⟩ = some (Value.int IntKind.i64 e3))) := by
      intro wx wy q1 q2
      have h := q1.trans (q2.mono q1.size)
      exact ⟨h, cells3 ((h.block _ (blk_lt Ka.out)).trans Ka.out), cells3 ((h.block _ (blk_lt Kb.out)).trans Kb.out), cells3 ((h.block _ (blk_lt Kx.out)).trans Kx.out), cells3 ((h.block _ (blk_lt Ky.out)).trans Ky.out), cells3 ((h.block _ (blk_lt Km.out)).trans Km.out)⟩
    obtain ⟨a0, a1, a2⟩ := cells3 Ka.out
    obtain ⟨b0, b1, b2⟩ := cells3 Kb.out
    obtain ⟨x0, x1, x2⟩ := cells3 Kx.out
    obtain ⟨y0, y1, y2⟩ := cells3 Ky.out
    obtain ⟨m0, m1', m2'⟩ := cells3 Km.out
    have GE : Hid (E + E + (E + E) = E + (E + E + E) ∧ E + E + 30 = E + (E + 30)) := ⟨by omega, by omega⟩
    as_aux_lemma =>
    go_region_held3 (fun w' => (w'.cell? ⟨Pa, 0, none⟩ = some (.float .f64 al) ∧ w'.cell? ⟨Pa, 1, none⟩ = some (.float .f64 ah) ∧ w'.cell? ⟨Pa, 2, none⟩ = some (.bool ab)) ∧ (w'.cell? ⟨Pb, 0, none⟩ = some (.float .f64 bl) ∧ w'.cell? ⟨Pb, 1, none⟩ = some (.float .f64 bh) ∧ w'.cell? ⟨Pb, 2, none⟩ = some (.bool bb)) ∧ (w'.cell? ⟨Px, 0, none⟩ = some (Value.bool n1) ∧ w'.cell? ⟨Px, 1, none⟩ = some (Value.slice o1 l1 c1) ∧ w'.cell? ⟨Px, 2, none⟩ = some (Value.int IntKind.i64 e1)) ∧ (w'.cell? ⟨Py, 0, none⟩ = some (Value.bool n2) ∧ w'.cell? ⟨Py, 1, none⟩ = some (Value.slice o2 l2 c2) ∧ w'.cell? ⟨Py, 2, none⟩ = some (Value.int IntKind.i64 e2)) ∧ (w'.cell? ⟨Pm, 0, none⟩ = some (Value.bool n3) ∧ w'.cell? ⟨Pm, 1, none⟩ = some (Value.slice o3 l3 c3) ∧ w'.cell? ⟨Pm, 2, none⟩ = some (Value.int IntKind.i64 e3))) (go_keep) ((first
      | (go_at_call 13; refine Calls.mono (CN.out _) ?_; rintro e w71 ⟨rfl, bx71⟩; obtain ⟨bb71, ⟨s710, s711, s712⟩, ⟨s713, s714, s715⟩, ⟨s716, s717, s718⟩, ⟨s719, s7110, s7111⟩, ⟨s7112, s7113, s7114⟩⟩ := HC.out _ w71 (by first | assumption | exact (Below.refl _ _).drew) bx71)
      | (go_at_call 14; refine Calls.mono (turnedZ_any _ (E + E) 2051 zx _ (NumZ.later ZX.out (by first | assumption | exact (Below.refl _ _).drew))) ?_; rintro e w72 ⟨v72, rfl, hz72, bx72⟩; obtain ⟨bb72, ⟨s720, s721, s722⟩, ⟨s723, s724, s725⟩, ⟨s726, s727, s728⟩, ⟨s729, s7210, s7211⟩, ⟨s7212, s7213, s7214⟩⟩ := HC.out _ w72 (by first | assumption | exact (Below.refl _ _).drew) bx72; have Z72 : Hid (NumZ w72 v72 (E + E) 2051 (-zx)) := (by first | exact hz72 | (rw [← GE.out.1]; exact hz72) | (rw [← GE.out.2]; exact hz72)); clear hz72)
      | (go_at_call_of 12 (Value.float FloatKind.f64 nl); refine Calls.mono (holds_any nl nh nb HLN.out.1 HLN.out.2 _ E (E) 2051 (-zx) hE (by omega) (by omega) _ Z72.out DN.out) ?_; rintro e w73 ⟨rfl, bx73⟩; obtain ⟨bb73, ⟨s730, s731, s732⟩, ⟨s733, s734, s735⟩, ⟨s736, s737, s738⟩, ⟨s739, s7310, s7311⟩, ⟨s7312, s7313, s7314⟩⟩ := HC.out _ w73 (by first | assumption | exact (Below.refl _ _).drew) bx73)
      | (go_at_call 6; refine Calls.mono (CP.out _) ?_; rintro e w74 ⟨rfl, bx74⟩; obtain ⟨bb74, ⟨s740, s741, s742⟩, ⟨s743, s744, s745⟩, ⟨s746, s747, s748⟩, ⟨s749, s7410, s7411⟩, ⟨s7412, s7413, s7414⟩⟩ := HC.out _ w74 (by first | assumption | exact (Below.refl _ _).drew) bx74)
      | (go_at_call 15; refine Calls.mono (plusZ_any _ _ (E + E) 2051 zx zy _ (NumZ.later ZX.out (by first | assumption | exact (Below.refl _ _).drew)) (NumZ.later ZY.out (by first | assumption | exact (Below.refl _ _).drew)) (by omega) (by omega)) ?_; rintro e w75 ⟨v75, rfl, hz75, bx75⟩; obtain ⟨bb75, ⟨s750, s751, s752⟩, ⟨s753, s754, s755⟩, ⟨s756, s757, s758⟩, ⟨s759, s7510, s7511⟩, ⟨s7512, s7513, s7514⟩⟩ := HC.out _ w75 (by first | assumption | exact (Below.refl _ _).drew) bx75; have Z75 : Hid (NumZ w75 v75 (E + E) 2052 (zx + zy)) := (by first | exact hz75 | (rw [← GE.out.1]; exact hz75) | (rw [← GE.out.2]; exact hz75)); clear hz75)
      | (go_at_call_of 12 (Value.float FloatKind.f64 pl); refine Calls.mono (holds_any pl ph pb HLP.out.1 HLP.out.2 _ E (E) 2052 (zx + zy) hE (by omega) (by omega) _ Z75.out DP.out) ?_; rintro e w76 ⟨rfl, bx76⟩; obtain ⟨bb76, ⟨s760, s761, s762⟩, ⟨s763, s764, s765⟩, ⟨s766, s767, s768⟩, ⟨s769, s7610, s7611⟩, ⟨s7612, s7613, s7614⟩⟩ := HC.out _ w76 (by first | assumption | exact (Below.refl _ _).drew) bx76)
      | (go_at_call 16; refine Calls.mono (CS.out _) ?_; rintro e w77 ⟨rfl, bx77⟩; obtain ⟨bb77, ⟨s770, s771, s772⟩, ⟨s773, s774, s775⟩, ⟨s776, s777, s778⟩, ⟨s779, s7710, s7711⟩, ⟨s7712, s7713, s7714⟩⟩ := HC.out _ w77 (by first | assumption | exact (Below.refl _ _).drew) bx77)
      | (go_at_call 17; refine Calls.mono (minusZ_any _ _ (E + E) 2051 zx zy _ (NumZ.later ZX.out (by first | assumption | exact (Below.refl _ _).drew)) (NumZ.later ZY.out (by first | assumption | exact (Below.refl _ _).drew)) (by omega) (by omega)) ?_; rintro e w78 ⟨v78, rfl, hz78, bx78⟩; obtain ⟨bb78, ⟨s780, s781, s782⟩, ⟨s783, s784, s785⟩, ⟨s786, s787, s788⟩, ⟨s789, s7810, s7811⟩, ⟨s7812, s7813, s7814⟩⟩ := HC.out _ w78 (by first | assumption | exact (Below.refl _ _).drew) bx78; have Z78 : Hid (NumZ w78 v78 (E + E) 2052 (zx - zy)) := (by first | exact hz78 | (rw [← GE.out.1]; exact hz78) | (rw [← GE.out.2]; exact hz78)); clear hz78)
      | (go_at_call_of 12 (Value.float FloatKind.f64 sl); refine Calls.mono (holds_any sl sh sb HLS.out.1 HLS.out.2 _ E (E) 2052 (zx - zy) hE (by omega) (by omega) _ Z78.out DS.out) ?_; rintro e w79 ⟨rfl, bx79⟩; obtain ⟨bb79, ⟨s790, s791, s792⟩, ⟨s793, s794, s795⟩, ⟨s796, s797, s798⟩, ⟨s799, s7910, s7911⟩, ⟨s7912, s7913, s7914⟩⟩ := HC.out _ w79 (by first | assumption | exact (Below.refl _ _).drew) bx79)
      | (go_at_call 7; refine Calls.mono (CM.out _) ?_; rintro e w7b ⟨rfl, bx7b⟩; obtain ⟨bb7b, ⟨s7b0, s7b1, s7b2⟩, ⟨s7b3, s7b4, s7b5⟩, ⟨s7b6, s7b7, s7b8⟩, ⟨s7b9, s7b10, s7b11⟩, ⟨s7b12, s7b13, s7b14⟩⟩ := HC.out _ w7b (by first | assumption | exact (Below.refl _ _).drew) bx7b)
      | (go_at_call 18; refine Calls.mono (timesZ_any _ _ (E + E) 2051 2051 zx zy _ (NumZ.later ZX.out (by first | assumption | exact (Below.refl _ _).drew)) (NumZ.later ZY.out (by first | assumption | exact (Below.refl _ _).drew)) (by omega) (by omega) (by omega)) ?_; rintro e w7c ⟨v7c, rfl, hz7c, bx7c⟩; obtain ⟨bb7c, ⟨s7c0, s7c1, s7c2⟩, ⟨s7c3, s7c4, s7c5⟩, ⟨s7c6, s7c7, s7c8⟩, ⟨s7c9, s7c10, s7c11⟩, ⟨s7c12, s7c13, s7c14⟩⟩ := HC.out _ w7c (by first | assumption | exact (Below.refl _ _).drew) bx7c; have Z7c : Hid (NumZ w7c v7c (E + (E + E + E)) 4102 (zx * zy)) := (by first | exact hz7c | (rw [← GE.out.1]; exact hz7c) | (rw [← GE.out.2]; exact hz7c)); clear hz7c)
      | (go_at_call_of 12 (Value.float FloatKind.f64 ml); refine Calls.mono (holds_any ml mh mb HLM.out.1 HLM.out.2 _ E (E + E + E) 4102 (zx * zy) hE (by omega) (by omega) _ Z7c.out DM.out) ?_; rintro e w7d ⟨rfl, bx7d⟩; obtain ⟨bb7d, ⟨s7d0, s7d1, s7d2⟩, ⟨s7d3, s7d4, s7d5⟩, ⟨s7d6, s7d7, s7d8⟩, ⟨s7d9, s7d10, s7d11⟩, ⟨s7d12, s7d13, s7d14⟩⟩ := HC.out _ w7d (by first | assumption | exact (Below.refl _ _).drew) bx7d)))
    all_goals
    have BX : Hid (Below W6.heap.size W6 w7d) := bb7d
    clear bb71 bx71 s710 s711 s712 s713 s714 s715 s716 s717 s718 s719 s7110 s7111 s7112 s7113 s7114 bb72 bx72 s720 s721 s722 s723 s724 s725 s726 s727 s728 s729 s7210 s7211 s7212 s7213 s7214 bb73 bx73 s730 s731 s732 s733 s734 s735 s736 s737 s738 s739 s7310 s7311 s7312 s7313 s7314 bb74 bx74 s740 s741 s742 s743 s744 s745 s746 s747 s748 s749 s7410 s7411 s7412 s7413 s7414 bb75 bx75 s750 s751 s752 s753 s754 s755 s756 s757 s758 s759 s7510 s7511 s7512 s7513 s7514 bb76 bx76 s760 s761 s762 s763 s764 s765 s766 s767 s768 s769 s7610 s7611 s7612 s7613 s7614 bb77 bx77 s770 s771 s772 s773 s774 s775 s776 s777 s778 s779 s7710 s7711 s7712 s7713 s7714 bb78 bx78 s780 s781 s782 s783 s784 s785 s786 s787 s788 s789 s7810 s7811 s7812 s7813 s7814 bb79 bx79 s790 s791 s792 s793 s794 s795 s796 s797 s798 s799 s7910 s7911 s7912 s7913 s7914 bb7b bx7b s7b0 s7b1 s7b2 s7b3 s7b4 s7b5 s7b6 s7b7 s7b8 s7b9 s7b10 s7b11 s7b12 s7b13 s7b14 bb7c bx7c s7c0 s7c1 s7c2 s7c3 s7c4 s7c5 s7c6 s7c7 s7c8 s7c9 s7c10 s7c11 s7c12 s7c13 s7c14 bb7d bx7d s7d0 s7d1 s7d2 s7d3 s7d4 s7d5 s7d6 s7d7 s7d8 s7d9 s7d10 s7d11 s7d12 s7d13 s7d14 Z72 Z75 Z78 Z7c a0 a1 a2 b0 b1 b2 x0 x1 x2 y0 y1 y2 m0 m1' m2'
    as_aux_lemma =>
    go_upto_region 9 with fail
    have bxd : Below W6.heap.size W6 w7d.drew := BX.out.drew
    obtain ⟨-, ⟨a0, a1, a2⟩, ⟨b0, b1, b2⟩, ⟨x0, x1, x2⟩, ⟨y0, y1, y2⟩, ⟨m0, m1', m2'⟩⟩ := HC.out _ w7d (Below.refl _ _) (by exact BX.out)
    go_region_held3 (fun w' => (w'.cell? ⟨Pa, 0, none⟩ = some (.float .f64 al) ∧ w'.cell? ⟨Pa, 1, none⟩ = some (.float .f64 ah) ∧ w'.cell? ⟨Pa, 2, none⟩ = some (.bool ab)) ∧ (w'.cell? ⟨Pb, 0, none⟩ = some (.float .f64 bl) ∧ w'.cell? ⟨Pb, 1, none⟩ = some (.float .f64 bh) ∧ w'.cell? ⟨Pb, 2, none⟩ = some (.bool bb)) ∧ (w'.cell? ⟨Px, 0, none⟩ = some (Value.bool n1) ∧ w'.cell? ⟨Px, 1, none⟩ = some (Value.slice o1 l1 c1) ∧ w'.cell? ⟨Px, 2, none⟩ = some (Value.int IntKind.i64 e1)) ∧ (w'.cell? ⟨Py, 0, none⟩ = some (Value.bool n2) ∧ w'.cell? ⟨Py, 1, none⟩ = some (Value.slice o2 l2 c2) ∧ w'.cell? ⟨Py, 2, none⟩ = some (Value.int IntKind.i64 e2)) ∧ (w'.cell? ⟨Pm, 0, none⟩ = some (Value.bool n3) ∧ w'.cell? ⟨Pm, 1, none⟩ = some (Value.slice o3 l3 c3) ∧ w'.cell? ⟨Pm, 2, none⟩ = some (Value.int IntKind.i64 e3))) (go_keep) ((first
      | (go_at_call 19; refine Calls.mono (CF.out _) ?_; rintro e w91 ⟨rfl, bx91⟩; obtain ⟨bb91, ⟨s910, s911, s912⟩, ⟨s913, s914, s915⟩, ⟨s916, s917, s918⟩, ⟨s919, s9110, s9111⟩, ⟨s9112, s9113, s9114⟩⟩ := HC.out _ w91 (by first | assumption | exact (Below.refl _ _).drew) bx91)
      | (go_at_call 20; refine Calls.mono (movedG_any _ (E + E) 2051 zx m ⟨hm0, hm1⟩ _ (NumZ.later ZX.out (by first | assumption | exact (Below.refl _ _).drew)) (by omega) (by omega)) ?_; rintro e w92 ⟨v92, rfl, hz92, bx92⟩; obtain ⟨bb92, ⟨s920, s921, s922⟩, ⟨s923, s924, s925⟩, ⟨s926, s927, s928⟩, ⟨s929, s9210, s9211⟩, ⟨s9212, s9213, s9214⟩⟩ := HC.out _ w92 (by first | assumption | exact (Below.refl _ _).drew) bx92; have Z92 : Hid (NumZ w92 v92 (E + (E + 30)) 2081 (zx * ((2 ^ (30 + m).toNat : Nat) : Int))) := (by first | exact hz92 | (rw [← GE.out.1]; exact hz92) | (rw [← GE.out.2]; exact hz92)); clear hz92)
      | (go_at_call_of 12 (Value.float FloatKind.f64 fl); refine Calls.mono (holds_any fl fh fb HLF.out.1 HLF.out.2 _ E (E + 30) 2081 (zx * ((2 ^ (30 + m).toNat : Nat) : Int)) hE (by omega) (by omega) _ Z92.out DF.out) ?_; rintro e w93 ⟨rfl, bx93⟩; obtain ⟨bb93, ⟨s930, s931, s932⟩, ⟨s933, s934, s935⟩, ⟨s936, s937, s938⟩, ⟨s939, s9310, s9311⟩, ⟨s9312, s9313, s9314⟩⟩ := HC.out _ w93 (by first | assumption | exact (Below.refl _ _).drew) bx93)
      | (go_at_call 21; refine Calls.mono (CQ.out _) ?_; rintro e w94 ⟨rfl, bx94⟩; obtain ⟨bb94, ⟨s940, s941, s942⟩, ⟨s943, s944, s945⟩, ⟨s946, s947, s948⟩, ⟨s949, s9410, s9411⟩, ⟨s9412, s9413, s9414⟩⟩ := HC.out _ w94 (by first | assumption | exact (Below.refl _ _).drew) bx94)
      | (go_at_call 18; refine Calls.mono (timesZ_any _ _ (E + E) 2051 2051 zx zx _ (NumZ.later ZX.out (by first | assumption | exact (Below.refl _ _).drew)) (NumZ.later ZX.out (by first | assumption | exact (Below.refl _ _).drew)) (by omega) (by omega) (by omega)) ?_; rintro e w95 ⟨v95, rfl, hz95, bx95⟩; obtain ⟨bb95, ⟨s950, s951, s952⟩, ⟨s953, s954, s955⟩, ⟨s956, s957, s958⟩, ⟨s959, s9510, s9511⟩, ⟨s9512, s9513, s9514⟩⟩ := HC.out _ w95 (by first | assumption | exact (Below.refl _ _).drew) bx95; have Z95 : Hid (NumZ w95 v95 (E + (E + E + E)) 4102 (zx * zx)) := (by first | exact hz95 | (rw [← GE.out.1]; exact hz95) | (rw [← GE.out.2]; exact hz95)); clear hz95)
      | (go_at_call_of 12 (Value.float FloatKind.f64 ql); refine Calls.mono (holds_any ql qh qb HLQ.out.1 HLQ.out.2 _ E (E + E + E) 4102 (zx * zx) hE (by omega) (by omega) _ Z95.out DQ.out) ?_; rintro e w96 ⟨rfl, bx96⟩; obtain ⟨bb96, ⟨s960, s961, s962⟩, ⟨s963, s964, s965⟩, ⟨s966, s967, s968⟩, ⟨s969, s9610, s9611⟩, ⟨s9612, s9613, s9614⟩⟩ := HC.out _ w96 (by first | assumption | exact (Below.refl _ _).drew) bx96)
      | (go_at_call 9; refine Calls.mono (CX.out _) ?_; rintro e w97 ⟨rfl, bx97⟩; obtain ⟨bb97, ⟨s970, s971, s972⟩, ⟨s973, s974, s975⟩, ⟨s976, s977, s978⟩, ⟨s979, s9710, s9711⟩, ⟨s9712, s9713, s9714⟩⟩ := HC.out _ w97 (by first | assumption | exact (Below.refl _ _).drew) bx97)
      | (go_at_call_of 12 (Value.float FloatKind.f64 xl); refine Calls.mono (holds_any xl xh xb HLX.out.1 HLX.out.2 _ E (E) 2051 (max zx zy) hE (by omega) (by omega) _ (NumZ.later ZM.out (by first | assumption | exact (Below.refl _ _).drew)) DX.out) ?_; rintro e w98 ⟨rfl, bx98⟩; obtain ⟨bb98, ⟨s980, s981, s982⟩, ⟨s983, s984, s985⟩, ⟨s986, s987, s988⟩, ⟨s989, s9810, s9811⟩, ⟨s9812, s9813, s9814⟩⟩ := HC.out _ w98 (by first | assumption | exact (Below.refl _ _).drew) bx98)
      | (go_at_call 8; refine Calls.mono (CU.out _) ?_; rintro e w9b ⟨rfl, bx9b⟩; obtain ⟨bb9b, ⟨s9b0, s9b1, s9b2⟩, ⟨s9b3, s9b4, s9b5⟩, ⟨s9b6, s9b7, s9b8⟩, ⟨s9b9, s9b10, s9b11⟩, ⟨s9b12, s9b13, s9b14⟩⟩ := HC.out _ w9b (by first | assumption | exact (Below.refl _ _).drew) bx9b)
      | (go_at_call_of 12 (Value.bool n1); refine Calls.mono (holds_any ul uh ub HLU.out.1 HLU.out.2 _ E E 2051 zx hE (by omega) (by omega) _ (NumZ.later ZX.out (by first | assumption | exact (Below.refl _ _).drew)) DU.out.1) ?_; rintro e w9d ⟨rfl, bx9d⟩; obtain ⟨bb9d, ⟨s9d0, s9d1, s9d2⟩, ⟨s9d3, s9d4, s9d5⟩, ⟨s9d6, s9d7, s9d8⟩, ⟨s9d9, s9d10, s9d11⟩, ⟨s9d12, s9d13, s9d14⟩⟩ := HC.out _ w9d (by first | assumption | exact (Below.refl _ _).drew) bx9d)
      | (go_at_call 12; refine Calls.mono (holds_any ul uh ub HLU.out.1 HLU.out.2 _ E E 2051 zy hE (by omega) (by omega) _ (NumZ.later ZY.out (by first | assumption | exact (Below.refl _ _).drew)) DU.out.2) ?_; rintro e w9e ⟨rfl, bx9e⟩; obtain ⟨bb9e, ⟨s9e0, s9e1, s9e2⟩, ⟨s9e3, s9e4, s9e5⟩, ⟨s9e6, s9e7, s9e8⟩, ⟨s9e9, s9e10, s9e11⟩, ⟨s9e12, s9e13, s9e14⟩⟩ := HC.out _ w9e (by first | assumption | exact (Below.refl _ _).drew) bx9e)))
    all_goals
    have BX2 : Hid (Below W6.heap.size W6 w9e) := bb9e
    clear bb91 bx91 s910 s911 s912 s913 s914 s915 s916 s917 s918 s919 s9110 s9111 s9112 s9113 s9114 bb92 bx92 s920 s921 s922 s923 s924 s925 s926 s927 s928 s929 s9210 s9211 s9212 s9213 s9214 bb93 bx93 s930 s931 s932 s933 s934 s935 s936 s937 s938 s939 s9310 s9311 s9312 s9313 s9314 bb94 bx94 s940 s941 s942 s943 s944 s945 s946 s947 s948 s949 s9410 s9411 s9412 s9413 s9414 bb95 bx95 s950 s951 s952 s953 s954 s955 s956 s957 s958 s959 s9510 s9511 s9512 s9513 s9514 bb96 bx96 s960 s961 s962 s963 s964 s965 s966 s967 s968 s969 s9610 s9611 s9612 s9613 s9614 bb97 bx97 s970 s971 s972 s973 s974 s975 s976 s977 s978 s979 s9710 s9711 s9712 s9713 s9714 bb98 bx98 s980 s981 s982 s983 s984 s985 s986 s987 s988 s989 s9810 s9811 s9812 s9813 s9814 bb9b bx9b s9b0 s9b1 s9b2 s9b3 s9b4 s9b5 s9b6 s9b7 s9b8 s9b9 s9b10 s9b11 s9b12 s9b13 s9b14 bb9d bx9d s9d0 s9d1 s9d2 s9d3 s9d4 s9d5 s9d6 s9d7 s9d8 s9d9 s9d10 s9d11 s9d12 s9d13 s9d14 bb9e bx9e s9e0 s9e1 s9e2 s9e3 s9e4 s9e5 s9e6 s9e7 s9e8 s9e9 s9e10 s9e11 s9e12 s9e13 s9e14 Z92 Z95 a0 a1 a2 b0 b1 b2 x0 x1 x2 y0 y1 y2 m0 m1' m2' bxd BX
    as_aux_lemma =>
    obtain ⟨-, ⟨a0, a1, a2⟩, ⟨b0, b1, b2⟩, ⟨x0, x1, x2⟩, ⟨y0, y1, y2⟩, ⟨m0, m1', m2'⟩⟩ := HC.out _ w9e (Below.refl _ _) (by exact BX2.out)
    go_wp2_with fail
    refine Calls.mono (CT.out _) ?_
    rintro e wA ⟨rfl, bw⟩
    have BX3 : Hid (Below W6.heap.size W6 wA) := BX2.out.trans (bw.mono BX2.out.size)
    clear bw a0 a1 a2 b0 b1 b2 x0 x1 x2 y0 y1 y2 m0 m1' m2' BX2
    go_upto_region 12 with fail
    have Kt : Hid _ := heap_alloc_new wA (Obj.cells #[Value.float .f64 tl, .float .f64 th, .bool tb] 24)
    have BX4 : Hid (Below W6.heap.size W6 (wA.alloc (Obj.cells #[Value.float .f64 tl, .float .f64 th, .bool tb] 24))) := BX3.out.alloc BX3.out.size _
    obtain ⟨Pt, hPt⟩ : ∃ P, wA.heap.size = P := ⟨_, rfl⟩
    rw [hPt] at Kt ⊢
    generalize wA.alloc (Obj.cells #[Value.float .f64 tl, .float .f64 th, .bool tb] 24) = WB at Kt BX4 ⊢
    clear hPt BX3
    obtain ⟨-, ⟨a0, a1, a2⟩, ⟨b0, b1, b2⟩, ⟨x0, x1, x2⟩, ⟨y0, y1, y2⟩, ⟨m0, m1', m2'⟩⟩ := HC.out _ WB (Below.refl _ _) (by exact BX4.out)
    obtain ⟨t0, t1, t2⟩ := cells3 Kt.out
    go_cut [169] (fun s169 wx => s169 = .bool false ∧ Hid (Below W6.heap.size W6 wx))
    case first =>
      by_cases he : zx = zy
      · have hs0 : sgi (zx - zy) = 0 := by rw [he, Int.sub_self]; rfl
        obtain ⟨htb, hdt⟩ := DT.out he
        subst htb
        have DT2 : Hid (Hds (tl, th, false) E zx) := hdt
        clear hdt DT
        as_aux_lemma =>
        go_wp2_with fail
        refine Calls.mono (cmpZ_any _ _ (E + E) 2051 zx zy _ (NumZ.later ZX.out BX4.out) (NumZ.later ZY.out BX4.out) (by omega) (by omega)) ?_
        rintro e wC ⟨rfl, bw⟩
        rw [hs0]
        have BX5 : Hid (Below W6.heap.size W6 wC) := BX4.out.trans (bw.mono BX4.out.size)
        have Kt2 : Hid _ := (bw.block _ (blk_lt Kt.out)).trans Kt.out
        clear bw a0 a1 a2 b0 b1 b2 x0 x1 x2 y0 y1 y2 m0 m1' m2' t0 t1 t2 Kt
        obtain ⟨-, ⟨a0, a1, a2⟩, ⟨b0, b1, b2⟩, ⟨x0, x1, x2⟩, ⟨y0, y1, y2⟩, ⟨m0, m1', m2'⟩⟩ := HC.out _ wC (Below.refl _ _) (by exact BX5.out)
        obtain ⟨t0, t1, t2⟩ := cells3 Kt2.out
        go_wp2_with fail
        refine Calls.mono (holds_any tl th false HLT.out.1 HLT.out.2 _ E E 2051 zx hE (by omega) (by omega) _ (NumZ.later ZX.out BX5.out) DT2.out) ?_
        rintro e wD ⟨rfl, bw⟩
        have BX6 : Hid (Below W6.heap.size W6 wD) := BX5.out.trans (bw.mono BX5.out.size)
        clear bw
        go_wp2_with fail
        go_meet
        exact ⟨rfl, BX6⟩
      · have hs0 : sgi (zx - zy) ≠ 0 := by
          unfold sgi; split
          · decide
          · split
            · omega
            · decide
        have hs1 : (sgi (zx - zy) == 0) = false := by simpa using hs0
        have HS1 : Hid _ := hs1
        clear hs0 hs1
        as_aux_lemma =>
        go_wp2_with fail
        refine Calls.mono (cmpZ_any _ _ (E + E) 2051 zx zy _ (NumZ.later ZX.out BX4.out) (NumZ.later ZY.out BX4.out) (by omega) (by omega)) ?_
        rintro e wC ⟨rfl, bw⟩
        have BX5 : Hid (Below W6.heap.size W6 wC) := BX4.out.trans (bw.mono BX4.out.size)
        have hs1 := HS1.out
        generalize sgi (zx - zy) = sg at hs1 ⊢
        clear bw
        go_wp2_with fail
        go_meet
        exact ⟨rfl, BX5⟩
    case rest =>
    obtain ⟨rfl, BY⟩ := hcut
    clear a0 a1 a2 b0 b1 b2 x0 x1 x2 y0 y1 y2 m0 m1' m2' t0 t1 t2 Kt BX4 DT
    as_aux_lemma =>
    obtain ⟨-, ⟨a0, a1, a2⟩, ⟨b0, b1, b2⟩, ⟨x0, x1, x2⟩, ⟨y0, y1, y2⟩, ⟨m0, m1', m2'⟩⟩ := HC.out _ wc (Below.refl _ _) (by exact BY.out)
    go_wp2_with fail
    refine Calls.mono (CD.out _) ?_
    rintro e wE ⟨rfl, bw⟩
    have BZ : Hid (Below W6.heap.size W6 wE) := BY.out.trans (bw.mono BY.out.size)
    clear bw a0 a1 a2 b0 b1 b2 x0 x1 x2 y0 y1 y2 m0 m1' m2' BY
    go_upto_region 15 with fail
    have Kd : Hid _ := heap_alloc_new wE (Obj.cells #[Value.float .f64 dl, .float .f64 dh, .bool db] 24)
    have BW : Hid (Below W6.heap.size W6 (wE.alloc (Obj.cells #[Value.float .f64 dl, .float .f64 dh, .bool db] 24))) := BZ.out.alloc BZ.out.size _
    obtain ⟨Pd, hPd⟩ : ∃ P, wE.heap.size = P := ⟨_, rfl⟩
    rw [hPd] at Kd ⊢
    generalize wE.alloc (Obj.cells #[Value.float .f64 dl, .float .f64 dh, .bool db] 24) = WF at Kd BW ⊢
    clear hPd BZ
    obtain ⟨d0, d1, d2⟩ := cells3 Kd.out
    cases db
    · obtain ⟨gd, hy0, hpos, hneg⟩ := DD.out rfl
      have HGD : Hid (Good dl dh false) := gd
      have HY0 : Hid (zy ≠ 0) := hy0
      have HPOS : Hid _ := hpos
      have HNEG : Hid _ := hneg
      clear gd hy0 hpos hneg DD
      as_aux_lemma =>
      go_wp2_with fail
      refine Calls.mono (of_any4 dl dh false _) ?_
      rintro e wG ⟨rfl, bw⟩
      have BG : Hid (Below W6.heap.size W6 wG) := BW.out.trans (bw.mono BW.out.size)
      clear bw d0 d1 d2 Kd BW
      go_wp2_with fail
      refine Calls.mono (ends_any dl dh false HLD.out.1 HLD.out.2 _ E hE) ?_
      rintro e wH ⟨v5, v6, rfl, ⟨z5, hz5, hf5⟩, ⟨z6, hz6, hf6⟩, bw⟩
      rw [decide_eq_true HGD.out]
      have Z5 : Hid (NumZ wH v5 E 1024 z5) := hz5
      have Z6 : Hid (NumZ wH v6 E 1024 z6) := hz6
      have F5 : Hid (z5 = fval dl ∧ z6 = fval dh) := ⟨hf5 HGD.out.2.1, hf6 HGD.out.2.2.1⟩
      obtain ⟨n5, m5, e5, ⟨o5, l5, c5, xs5, rfl, -⟩, -⟩ := hz5
      obtain ⟨n6, m6, e6, ⟨o6, l6, c6, xs6, rfl, -⟩, -⟩ := hz6
      have BH : Hid (Below W6.heap.size W6 wH) := BG.out.trans (bw.mono BG.out.size)
      clear bw hf5 hf6 BG
      go_upto_region 17 with fail
      obtain ⟨k0, k1, -, kb⟩ := alloc2_facts wH (Obj.cells #[Value.bool n5, Value.slice o5 l5 c5, Value.int IntKind.i64 e5] 27) (Obj.cells #[Value.bool n6, Value.slice o6 l6 c6, Value.int IntKind.i64 e6] 27)
      have Kp : Hid _ := k0
      have Kq : Hid _ := k1
      have BI : Hid (Below W6.heap.size W6 ((wH.alloc (Obj.cells #[Value.bool n5, Value.slice o5 l5 c5, Value.int IntKind.i64 e5] 27)).alloc (Obj.cells #[Value.bool n6, Value.slice o6 l6 c6, Value.int IntKind.i64 e6] 27))) := BH.out.trans (kb.mono BH.out.size)
      have V5 : Hid _ := NumZ.later Z5.out kb
      have V6 : Hid _ := NumZ.later Z6.out kb
      obtain ⟨Pq, hPq⟩ : ∃ P, wH.heap.size + 1 = P := ⟨_, rfl⟩
      rw [hPq] at Kq ⊢
      obtain ⟨Pp, hPp⟩ : ∃ P, wH.heap.size = P := ⟨_, rfl⟩
      rw [hPp] at Kp ⊢
      generalize ((wH.alloc (Obj.cells #[Value.bool n5, Value.slice o5 l5 c5, Value.int IntKind.i64 e5] 27)).alloc (Obj.cells #[Value.bool n6, Value.slice o6 l6 c6, Value.int IntKind.i64 e6] 27)) = WI at Kp Kq BI V5 V6 ⊢
      clear k0 k1 kb hPp hPq Z5 Z6 BH
      obtain ⟨-, ⟨a0, a1, a2⟩, ⟨b0, b1, b2⟩, ⟨x0, x1, x2⟩, ⟨y0, y1, y2⟩, ⟨m0, m1', m2'⟩⟩ := HC.out _ WI (Below.refl _ _) (by exact BI.out)
      go_wp2_with fail
      refine Calls.mono (signZ_any _ (E + E) 2051 zy _ (NumZ.later ZY.out BI.out)) ?_
      rintro e wJ ⟨rfl, bw⟩
      have BJ : Hid (Below W6.heap.size W6 wJ) := BI.out.trans (bw.mono BI.out.size)
      have Kp2 : Hid _ := (bw.block _ (blk_lt Kp.out)).trans Kp.out
      have Kq2 : Hid _ := (bw.block _ (blk_lt Kq.out)).trans Kq.out
      have X5 : Hid (NumZ wJ _ (E + E) 2051 (z5 * ((2 ^ E : Nat) : Int))) := NumZ.mono (NumZ.more (NumZ.later V5.out bw) E) (by omega)
      have X6 : Hid (NumZ wJ _ (E + E) 2051 (z6 * ((2 ^ E : Nat) : Int))) := NumZ.mono (NumZ.more (NumZ.later V6.out bw) E) (by omega)
      have XY : Hid (NumZ wJ _ (E + E) 2051 zy) := NumZ.later ZY.out BJ.out
      have XX : Hid (NumZ wJ _ (E + E + (E + E)) 4102 (zx * ((2 ^ (E + E) : Nat) : Int))) := NumZ.mono (NumZ.more (NumZ.later ZX.out BJ.out) (E + E)) (by omega)
      clear bw a0 a1 a2 b0 b1 b2 x0 x1 x2 y0 y1 y2 m0 m1' m2' Kp Kq V5 V6 BI
      have HSG : Hid ((sgi zy = 1 ∧ sgi (z5 * ((2 ^ E : Nat) : Int) * zy - zx * ((2 ^ (E + E) : Nat) : Int)) ≤ 0 ∧ 0 ≤ sgi (z6 * ((2 ^ E : Nat) : Int) * zy - zx * ((2 ^ (E + E) : Nat) : Int))) ∨ (sgi zy = -1 ∧ 0 ≤ sgi (z5 * ((2 ^ E : Nat) : Int) * zy - zx * ((2 ^ (E + E) : Nat) : Int)) ∧ sgi (z6 * ((2 ^ E : Nat) : Int) * zy - zx * ((2 ^ (E + E) : Nat) : Int)) ≤ 0)) := by
        have hF : (0 : Int) ≤ ((2 ^ E : Nat) : Int) := Int.natCast_nonneg _
        have e2' : ((2 ^ (E + E) : Nat) : Int) = ((2 ^ E : Nat) : Int) * ((2 ^ E : Nat) : Int) := by rw [← Int.natCast_mul, ← Nat.pow_add]
        have ge : ∀ z : Int, 0 ≤ sgi z ↔ 0 ≤ z := fun z => by unfold sgi; split; omega; split <;> omega
        rw [F5.out.1, F5.out.2, e2']
        unfold Hid
        rw [sgi_le, ge, ge, sgi_le]
        have p1 := HPOS.out; have p2 := HNEG.out; have p3 := HY0.out
        generalize ((2 ^ E : Nat) : Int) = F at *
        have f1 : ∀ u : Int, u * F * zy = u * zy * F := fun u => Int.mul_right_comm _ _ _
        have f2 : zx * (F * F) = zx * F * F := (Int.mul_assoc _ _ _).symm
        rw [f1, f1, f2]
        rcases Int.lt_trichotomy zy 0 with c | c | c
        · right
          have q := p2 c
          have q1 := Int.mul_le_mul_of_nonneg_right q.1 hF
          have q2 := Int.mul_le_mul_of_nonneg_right q.2 hF
          exact ⟨by unfold sgi; rw [if_pos c], by omega, by omega⟩
        · exact absurd c p3
        · left
          have q := p1 c
          have q1 := Int.mul_le_mul_of_nonneg_right q.1 hF
          have q2 := Int.mul_le_mul_of_nonneg_right q.2 hF
          exact ⟨by unfold sgi; rw [if_neg (by omega), if_neg (by omega)], by omega, by omega⟩
      have tri : ∀ z : Int, sgi z = -1 ∨ sgi z = 0 ∨ sgi z = 1 := fun z => by unfold sgi; split; simp; split <;> simp
      have t1 := tri (z5 * ((2 ^ E : Nat) : Int) * zy - zx * ((2 ^ (E + E) : Nat) : Int))
      have t2 := tri (z6 * ((2 ^ E : Nat) : Int) * zy - zx * ((2 ^ (E + E) : Nat) : Int))
      have HT1 : Hid (∀ wx v u, NumZ wx v (E + E + (E + E)) 4102 (z5 * ((2 ^ E : Nat) : Int) * zy) → NumZ wx u (E + E + (E + E)) 4102 (zx * ((2 ^ (E + E) : Nat) : Int)) → Calls Try.prog 23 #[v, u] wx fun e' w' => e' = .returned (.int .i64 (sgi (z5 * ((2 ^ E : Nat) : Int) * zy - zx * ((2 ^ (E + E) : Nat) : Int)))) ∧ Below wx.heap.size wx w') := fun wx v u h1 h2 => cmpZ_any v u _ 4102 _ _ wx h1 h2 (by omega) (by omega)
      have HT2 : Hid (∀ wx v u, NumZ wx v (E + E + (E + E)) 4102 (z6 * ((2 ^ E : Nat) : Int) * zy) → NumZ wx u (E + E + (E + E)) 4102 (zx * ((2 ^ (E + E) : Nat) : Int)) → Calls Try.prog 23 #[v, u] wx fun e' w' => e' = .returned (.int .i64 (sgi (z6 * ((2 ^ E : Nat) : Int) * zy - zx * ((2 ^ (E + E) : Nat) : Int)))) ∧ Below wx.heap.size wx w') := fun wx v u h1 h2 => cmpZ_any v u _ 4102 _ _ wx h1 h2 (by omega) (by omega)
      have hsg := HSG.out
      generalize sgi (z5 * ((2 ^ E : Nat) : Int) * zy - zx * ((2 ^ (E + E) : Nat) : Int)) = q5 at HT1 hsg t1
      generalize sgi (z6 * ((2 ^ E : Nat) : Int) * zy - zx * ((2 ^ (E + E) : Nat) : Int)) = q6 at HT2 hsg t2
      generalize sgi zy = sy at hsg ⊢
      have HD8 : Hid (∀ wx wy, Below wJ.heap.size wJ wx → Below wx.heap.size wx wy → Below wJ.heap.size wJ wy ∧ (wy.cell? ⟨Px, 0, none⟩ = some (Value.bool n1) ∧ wy.cell? ⟨Px, 1, none⟩ = some (Value.slice o1 l1 c1) ∧ wy.cell? ⟨Px, 2, none⟩ = some (Value.int IntKind.i64 e1)) ∧ (wy.cell? ⟨Py, 0, none⟩ = some (Value.bool n2) ∧ wy.cell? ⟨Py, 1, none⟩ = some (Value.slice o2 l2 c2) ∧ wy.cell? ⟨Py, 2, none⟩ = some (Value.int IntKind.i64 e2)) ∧ (wy.cell? ⟨Pp, 0, none⟩ = some (Value.bool n5) ∧ wy.cell? ⟨Pp, 1, none⟩ = some (Value.slice o5 l5 c5) ∧ wy.cell? ⟨Pp, 2, none⟩ = some (Value.int IntKind.i64 e5)) ∧ (wy.cell? ⟨Pq, 0, none⟩ = some (Value.bool n6) ∧ wy.cell? ⟨Pq, 1, none⟩ = some (Value.slice o6 l6 c6) ∧ wy.cell? ⟨Pq, 2, none⟩ = some (Value.int IntKind.i64 e6))) := by
        intro wx wy q1 q2
        have h := q1.trans (q2.mono q1.size)
        have h6 := BJ.out.trans (h.mono BJ.out.size)
        obtain ⟨-, -, -, r3, r4, -⟩ := HC.out _ wy (Below.refl _ _) h6
        exact ⟨h, r3, r4, cells3 ((h.block _ (blk_lt Kp2.out)).trans Kp2.out), cells3 ((h.block _ (blk_lt Kq2.out)).trans Kq2.out)⟩
      obtain ⟨-, ⟨x0, x1, x2⟩, ⟨y0, y1, y2⟩, ⟨p0, p1, p2⟩, ⟨g0, g1, g2⟩⟩ := HD8.out _ wJ (Below.refl _ _) (Below.refl _ _)
      have hcase : (sy = 1 ∧ (q5 = -1 ∨ q5 = 0) ∧ (q6 = 0 ∨ q6 = 1)) ∨ (sy = -1 ∧ (q5 = 0 ∨ q5 = 1) ∧ (q6 = -1 ∨ q6 = 0)) := by omega
      clear hsg t1 t2 tri HSG HPOS HNEG HY0 F5
      as_aux_lemma =>
      rcases hcase with ⟨rfl, rfl | rfl, rfl | rfl⟩ | ⟨rfl, rfl | rfl, rfl | rfl⟩
      all_goals
        as_aux_lemma =>
        go_upto_region 18 with fail
        go_region_held3 (fun w' => (w'.cell? ⟨Px, 0, none⟩ = some (Value.bool n1) ∧ w'.cell? ⟨Px, 1, none⟩ = some (Value.slice o1 l1 c1) ∧ w'.cell? ⟨Px, 2, none⟩ = some (Value.int IntKind.i64 e1)) ∧ (w'.cell? ⟨Py, 0, none⟩ = some (Value.bool n2) ∧ w'.cell? ⟨Py, 1, none⟩ = some (Value.slice o2 l2 c2) ∧ w'.cell? ⟨Py, 2, none⟩ = some (Value.int IntKind.i64 e2)) ∧ (w'.cell? ⟨Pp, 0, none⟩ = some (Value.bool n5) ∧ w'.cell? ⟨Pp, 1, none⟩ = some (Value.slice o5 l5 c5) ∧ w'.cell? ⟨Pp, 2, none⟩ = some (Value.int IntKind.i64 e5)) ∧ (w'.cell? ⟨Pq, 0, none⟩ = some (Value.bool n6) ∧ w'.cell? ⟨Pq, 1, none⟩ = some (Value.slice o6 l6 c6) ∧ w'.cell? ⟨Pq, 2, none⟩ = some (Value.int IntKind.i64 e6))) (go_keep) ((first
          | (go_at_call_of 18 (Value.bool n5); refine Calls.mono (timesZ_any _ _ (E + E) 2051 2051 _ _ _ (NumZ.later X5.out (by first | assumption | exact (Below.refl _ _).drew)) (NumZ.later XY.out (by first | assumption | exact (Below.refl _ _).drew)) (by omega) (by omega) (by omega)) ?_; rintro e wK1 ⟨vk1, rfl, hk1, bk1⟩; obtain ⟨bl1, ⟨s0, s1, s2⟩, ⟨s3, s4, s5⟩, ⟨s6, s7, s8⟩, ⟨s9, s10, s11⟩⟩ := HD8.out _ wK1 (by first | assumption | exact (Below.refl _ _).drew) bk1; have ZK1 : Hid (NumZ wK1 vk1 (E + E + (E + E)) 4102 _) := hk1; clear hk1)
          | (go_at_call_of 18 (Value.bool n6); refine Calls.mono (timesZ_any _ _ (E + E) 2051 2051 _ _ _ (NumZ.later X6.out (by first | assumption | exact (Below.refl _ _).drew)) (NumZ.later XY.out (by first | assumption | exact (Below.refl _ _).drew)) (by omega) (by omega) (by omega)) ?_; rintro e wK2 ⟨vk2, rfl, hk2, bk2⟩; obtain ⟨bl2, ⟨u0, u1, u2⟩, ⟨u3, u4, u5⟩, ⟨u6, u7, u8⟩, ⟨u9, u10, u11⟩⟩ := HD8.out _ wK2 (by first | assumption | exact (Below.refl _ _).drew) bk2; have ZK2 : Hid (NumZ wK2 vk2 (E + E + (E + E)) 4102 _) := hk2; clear hk2)
          | (go_at_call_of 23 vk2; refine Calls.mono (HT2.out _ _ _ ZK2.out (NumZ.later XX.out (by first | assumption | exact (Below.refl _ _).drew))) ?_; rintro e wK4 ⟨rfl, bk4⟩; obtain ⟨bl4, ⟨h0, h1, h2⟩, ⟨h3, h4, h5⟩, ⟨h6, h7, h8⟩, ⟨h9, h10, h11⟩⟩ := HD8.out _ wK4 (by first | assumption | exact (Below.refl _ _).drew) bk4)
          | (go_at_call 23; refine Calls.mono (HT1.out _ _ _ ZK1.out (NumZ.later XX.out (by first | assumption | exact (Below.refl _ _).drew))) ?_; rintro e wK3 ⟨rfl, bk3⟩; obtain ⟨bl3, ⟨r0, r1, r2⟩, ⟨r3, r4, r5⟩, ⟨r6, r7, r8⟩, ⟨r9, r10, r11⟩⟩ := HD8.out _ wK3 (by first | assumption | exact (Below.refl _ _).drew) bk3)))
        have BL : Hid (Below w.heap.size w wK4) := (KB.out.trans (BJ.out.mono KB.out.size)).trans (bl4.mono (KB.out.trans (BJ.out.mono KB.out.size)).size)
        clear bl1 bl2 bl3 bl4
        go_wp2_with fail
        refine Calls.mono (ST.out _) ?_
        rintro e wG ⟨rfl, bw⟩
        have QB : Hid (Below w.heap.size w wG) := BL.out.trans (bw.mono BL.out.size)
        clear bw
        go_wp2_with fail
        go_ret
        exact ⟨rfl, QB.out⟩
    · go_wp2_with fail
      refine Calls.mono (ST.out _) ?_
      rintro e wG ⟨rfl, bw⟩
      have QB : Hid (Below w.heap.size w wG) := (KB.out.trans (BW.out.mono KB.out.size)).trans (bw.mono (KB.out.trans (BW.out.mono KB.out.size)).size)
      clear bw
      go_wp2_with fail
      go_ret
      exact ⟨rfl, QB.out⟩
  · have hcase : da = false ∨ (da = true ∧ db = false) := by
      have h1 := HDA.out; have h2 := HDB.out
      cases da
      · exact .inl rfl
      · refine .inr ⟨rfl, ?_⟩
        cases db
        · rfl
        · exact absurd ⟨of_decide_eq_true h1, of_decide_eq_true h2⟩ hg
    obtain ⟨rp, r1, cp⟩ := spAdd_any al ah bl bh ab bb hal hah hbl hbh
    obtain ⟨rm, r2, cm⟩ := spMul_any al ah bl bh ab bb hal hah hbl hbh E hE
    obtain ⟨ru, r3, cu⟩ := spHull_any al ah bl bh ab bb hal hah hbl hbh
    obtain ⟨rx, r4, cx⟩ := spMax_any al ah bl bh ab bb hal hah hbl hbh
    have e1 : rp = (0, 0, true) := by unfold BinR at r1; rw [if_neg hg] at r1; exact r1
    have e2' : rm = (0, 0, true) := by unfold MulR at r2; rw [if_neg hg] at r2; exact r2
    have e3' : ru = (0, 0, true) := by unfold BinR at r3; rw [if_neg hg] at r3; exact r3
    have e4' : rx = (0, 0, true) := by unfold BinR at r4; rw [if_neg hg] at r4; exact r4
    subst e1 e2' e3' e4'
    have CP : Hid _ := cp
    have CM : Hid _ := cm
    have CU : Hid _ := cu
    have CX : Hid _ := cx
    clear r1 r2 r3 r4 cp cm cu cx hg HDA HDB IX IY ZX1 ZY1 Nx Ny
    as_aux_lemma =>
    rcases hcase with rfl | ⟨rfl, rfl⟩
    all_goals
      obtain ⟨a0, a1, a2⟩ := cells3 Na.out
      obtain ⟨b0, b1, b2⟩ := cells3 Nb.out
      go_wp2_with fail
      refine Calls.mono (CP.out _) ?_
      rintro e w3 ⟨rfl, bw⟩
      have Ma : Hid _ := (bw.block _ (blk_lt Na.out)).trans Na.out
      have Mb : Hid _ := (bw.block _ (blk_lt Nb.out)).trans Nb.out
      have MB : Hid (Below w.heap.size w w3) := NB.out.trans (bw.mono NB.out.size)
      clear bw Na Nb NB a0 a1 a2 b0 b1 b2
      obtain ⟨a0, a1, a2⟩ := cells3 Ma.out
      obtain ⟨b0, b1, b2⟩ := cells3 Mb.out
      go_wp2_with fail
      refine Calls.mono (CM.out _) ?_
      rintro e w4 ⟨rfl, bw⟩
      have Na : Hid _ := (bw.block _ (blk_lt Ma.out)).trans Ma.out
      have Nb : Hid _ := (bw.block _ (blk_lt Mb.out)).trans Mb.out
      have NB : Hid (Below w.heap.size w w4) := MB.out.trans (bw.mono MB.out.size)
      clear bw Ma Mb MB a0 a1 a2 b0 b1 b2
      obtain ⟨a0, a1, a2⟩ := cells3 Na.out
      obtain ⟨b0, b1, b2⟩ := cells3 Nb.out
      go_wp2_with fail
      refine Calls.mono (CU.out _) ?_
      rintro e w5 ⟨rfl, bw⟩
      have Ma : Hid _ := (bw.block _ (blk_lt Na.out)).trans Na.out
      have Mb : Hid _ := (bw.block _ (blk_lt Nb.out)).trans Nb.out
      have MB : Hid (Below w.heap.size w w5) := NB.out.trans (bw.mono NB.out.size)
      clear bw Na Nb NB a0 a1 a2 b0 b1 b2
      obtain ⟨a0, a1, a2⟩ := cells3 Ma.out
      obtain ⟨b0, b1, b2⟩ := cells3 Mb.out
      go_wp2_with fail
      refine Calls.mono (CX.out _) ?_
      rintro e w6 ⟨rfl, bw⟩
      have NB : Hid (Below w.heap.size w w6) := MB.out.trans (bw.mono MB.out.size)
      clear bw Ma Mb MB a0 a1 a2 b0 b1 b2
      go_wp2_with fail
      refine Calls.mono (ST.out _) ?_
      rintro e w7 ⟨rfl, bw⟩
      have QB : Hid (Below w.heap.size w w7) := NB.out.trans (bw.mono NB.out.size)
      clear bw
      go_wp2_with fail
      go_ret
      exact ⟨rfl, QB.out⟩
end Go.Proofs.Ytkfmffikfpmgdab
