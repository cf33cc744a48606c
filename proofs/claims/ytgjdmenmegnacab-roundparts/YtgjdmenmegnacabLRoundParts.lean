import Derived.Test.YtgjdmenmegnacabTE
import Derived.Test.YtgjdmenmegnacabRQ
import Derived.Test.YtgjdmenmegnacabRP
namespace Go.Proofs.Ytgjdmenmegnacab
open Go.RowKit
set_option linter.unusedVariables false

theorem Rest.parts {z : Int} {D u v : Nat} {b : Bool} {m : Nat × Bool} (hD : 0 < D) (h : Rest z D u v b) (hm : RndZ 0 z D m) : (b = true → m.2 = true ∧ m.1 = u ∧ Fin u ∧ u < 18446744073709551616 ∧ Fin v ∧ v < 18446744073709551616 ∧ z = fval u * D + fval v * D) := by
  rintro rfl
  rcases h with ⟨p, h1, -, -, h4⟩ | ⟨p, v1, o1, v2, o2, h1, h2, h3, h4⟩
  · cases h4
  · rcases h4 with ⟨rfl, rfl, rfl, rfl, rfl, -⟩ | ⟨-, -, -, h5⟩
    · have e := hm.uniq h1
      subst e
      have f1 := tell_fin h1
      have f2 := tell_fin h2
      obtain ⟨k, hk, hn, hv⟩ := rnd_both h2 h3 rfl
      refine ⟨rfl, rfl, f1.1, f1.2, f2.1, f2.2, ?_⟩
      have hs := sgn_parts (decide (z - fval u * D < 0)) hk
      rw [← hv] at hs
      have hval : fval v * D = z - fval u * D := by
        rw [fval_smag, hs.2.2.2]
        by_cases c : z - fval u * D < 0
        · rw [decide_eq_true c, if_pos rfl, smag_neg, Int.neg_mul, ← Int.natCast_mul]; omega
        · rw [decide_eq_false c]
          simp only [Bool.false_eq_true, if_false]
          rw [smag_nat, ← Int.natCast_mul]; omega
      omega
    · cases h5
theorem Rest.near {z : Int} {u v : Nat} {b : Bool} {m : Nat × Bool} (h : Rest z 1 u v b) (hm : RndZ 0 z 1 m) (hb : m.2 = true → ∃ r, r < 18446744073709551616 ∧ Fin r ∧ z - fval m.1 * ((1 : Nat) : Int) = fval r * ((1 : Nat) : Int)) : b = m.2 := by
  obtain ⟨p, o⟩ := m
  cases o
  · rcases h with ⟨q, h1, -, -, h4⟩ | ⟨q, v1, o1, v2, o2, h1, -⟩
    · exact h4
    · have := hm.uniq h1; simp at this
  · obtain ⟨r, h1, h2, h3⟩ := hb rfl
    exact (Rest.uniq h (Rest.of_num (by decide) hm h1 h2 h3)).2.2
set_option maxRecDepth 100000 in
set_option maxHeartbeats 4000000 in
theorem roundParts_walk (a : Nat) (ha : a < 18446744073709551616) (b : Nat) (hb : b < 18446744073709551616) (w : World) :
    Calls Try.prog 7 #[.float .f64 a, .float .f64 b] w fun e w' => e = .returned (.bool true) ∧ Below w.heap.size w w' := by
  obtain ⟨E, hE⟩ : ∃ E : Nat, E = 1074 := ⟨_, rfl⟩
  obtain ⟨s, e, ok, s1, s2, cs⟩ := sum2_any a b ha hb
  obtain ⟨p, f, is, p1, p2, cp⟩ := prod2_any a b ha hb hE
  obtain ⟨⟨m, near⟩, m1, m2, cm⟩ := add_any 0 a b ha hb
  obtain ⟨⟨n, also⟩, n1, n2, cn⟩ := mul_any 0 a b ha hb
  simp only at cm cn
  have HALL : Hid ((near = ok) ∧ (ok = true → m = s) ∧ (is = true → also = true ∧ n = p) ∧ (ok = true ∨ is = true → Fin a ∧ Fin b) ∧ (ok = true → (Fin s ∧ s < 18446744073709551616) ∧ (Fin e ∧ e < 18446744073709551616) ∧ fval a + fval b = fval s + fval e) ∧ (is = true → (Fin p ∧ p < 18446744073709551616) ∧ (Fin f ∧ f < 18446744073709551616) ∧ fval a * fval b = (fval p + fval f) * ((2 ^ E : Nat) : Int))) := by
    by_cases hf : Fin a ∧ Fin b
    · have hS := s1 hf
      have hP := p1 hf
      have hM := m1 hf.1 hf.2
      have hN := mul_rndZq (n1 hf.1 hf.2 E hE)
      have hnr : ok = near := Rest.near hS hM (fun h => by
        obtain ⟨s0, x, y, t, r, g, -, -, -, -, hg, hsg, -, hrl, hr⟩ := sum_all hf.1 hf.2
        simp only at h
        subst h
        obtain ⟨k1, k2, -, -⟩ := near_of hM hg hsg
        obtain ⟨k3, k4⟩ := hr k1
        exact ⟨r, hrl, k3, by show _ - fval m * _ = _; rw [k4, k2]; simp⟩)
      have hS2 := Rest.parts (by decide) hS hM
      have hP2 := Rest.parts (Nat.two_pow_pos E) hP hN
      simp only at hS2 hP2
      refine ⟨hnr.symm, fun h => (hS2 h).2.1, fun h => ⟨(hP2 h).1, (hP2 h).2.1⟩, fun _ => hf, fun h => ?_, fun h => ?_⟩
      · obtain ⟨-, -, q1, q2, q3, q4, q5⟩ := hS2 h
        exact ⟨⟨q1, q2⟩, ⟨q3, q4⟩, by rw [q5]; simp⟩
      · obtain ⟨-, -, q1, q2, q3, q4, q5⟩ := hP2 h
        exact ⟨⟨q1, q2⟩, ⟨q3, q4⟩, by rw [q5, Int.add_mul]⟩
    · obtain ⟨-, -, rfl⟩ := s2 hf
      obtain ⟨-, -, rfl⟩ := p2 hf
      have e1 := m2 hf
      simp only [Prod.mk.injEq] at e1
      exact ⟨e1.2, fun h => absurd h (by decide), fun h => absurd h (by decide), fun h => absurd h (by decide), fun h => absurd h (by decide), fun h => absurd h (by decide)⟩
  clear s1 s2 p1 p2 m1 m2 n1 n2
  obtain ⟨rfl, -⟩ := HALL.out
  have HB0 : Hid (Below w.heap.size w w) := Below.refl _ _
  have hcase : (near = true ∧ is = true) ∨ (near = true ∧ is = false) ∨ (near = false ∧ is = true) ∨ (near = false ∧ is = false) := by cases near <;> cases is <;> simp
  rcases hcase with ⟨rfl, rfl⟩ | ⟨rfl, rfl⟩ | ⟨rfl, rfl⟩ | ⟨rfl, rfl⟩
  · skip
    obtain ⟨-, q1, q2, q3, q4, q5⟩ := HALL.out
    have hms := q1 rfl
    subst hms
    obtain ⟨y1, y2, y3⟩ := q4 rfl
    have FS : Hid _ := y1
    have FE : Hid _ := y2
    have HC1 : Hid (sgi ((fval m + fval e) * ((2 ^ E : Nat) : Int) - exactX 1 E a b) = 0) := by (unfold Hid exactX; rw [if_pos rfl, y3]; unfold sgi; rw [if_neg (by omega), if_pos (by omega)])
    have hmm : (FloatKind.f64.format.order m m != some .eq) = false := by rw [ord_ne y1.1 y1.1]; simp
    clear y1 y2 y3
    obtain ⟨rfl, hnp⟩ := q2 rfl
    subst hnp
    obtain ⟨y1, y2, y3⟩ := q5 rfl
    have FP : Hid _ := y1
    have FF : Hid _ := y2
    have HC2 : Hid (sgi ((fval n + fval f) * ((2 ^ E : Nat) : Int) - exactX 3 E a b) = 0) := by (unfold Hid exactX; rw [if_neg (by decide), if_neg (by decide), y3]; unfold sgi; rw [if_neg (by omega), if_pos (by omega)])
    have hnn : (FloatKind.f64.format.order n n != some .eq) = false := by rw [ord_ne y1.1 y1.1]; simp
    clear y1 y2 y3
    have FAB : Hid (Fin a ∧ Fin b) := q3 (by simp)
    clear q1 q2 q3 q4 q5 HALL
    go_enter Try.func7, Try.ntmps7
    go_wp2_with fail
    refine (cs _).mono ?_
    rintro ee ww ⟨rfl, hww⟩
    rw [hww]
    clear hww
    go_wp2_with fail
    refine (cp _).mono ?_
    rintro ee ww ⟨rfl, hww⟩
    rw [hww]
    clear hww
    go_wp2_with fail
    refine (cm _).mono ?_
    rintro ee ww ⟨rfl, hww⟩
    rw [hww]
    clear hww
    go_wp2_with fail
    refine (cn _).mono ?_
    rintro ee ww ⟨rfl, hww⟩
    rw [hww]
    clear hww
    clear cs cp cm cn
    go_wp2_with fail
    refine (num_any m FS.out.2 _ E hE).mono ?_
    rintro ee wa1 ⟨vv, rfl, ⟨zz, hzz, hff⟩, hbb⟩
    have hzv := hff FS.out.1
    subst hzv
    have ZZ : Hid (NumZ wa1 vv E 1024 (fval m)) := hzz
    obtain ⟨nx1, mmwa1, ex1, ⟨xo1, xl1, xc1, sswa1, rfl, -⟩, -⟩ := hzz
    have HBa1p : Hid (Below w.heap.size w wa1) := HB0.out.trans (hbb.mono HB0.out.size)
    have X1a1 : Hid (Var (wa1.alloc (Obj.cells #[Value.bool nx1, Value.slice xo1 xl1 xc1, Value.int IntKind.i64 ex1] 25)) wa1.heap.size nx1 xo1 xl1 xc1 ex1 E 1024 (fval m)) := Var.new ZZ.out
    have HBa1 : Hid (Below w.heap.size w (wa1.alloc (Obj.cells #[Value.bool nx1, Value.slice xo1 xl1 xc1, Value.int IntKind.i64 ex1] 25))) := HBa1p.out.alloc HBa1p.out.size _
    obtain ⟨ddwa1, hdd⟩ : ∃ q, decide (Fin m) = q := ⟨_, rfl⟩
    rw [hdd]
    clear hdd hff hbb ZZ  HBa1p
    go_wp2_with fail
    refine (num_any e FE.out.2 _ E hE).mono ?_
    rintro ee wb1 ⟨vv, rfl, ⟨zz, hzz, hff⟩, hbb⟩
    have hzv := hff FE.out.1
    subst hzv
    have ZZ : Hid (NumZ wb1 vv E 1024 (fval e)) := hzz
    obtain ⟨ny1, mmwb1, ey1, ⟨yo1, yl1, yc1, sswb1, rfl, -⟩, -⟩ := hzz
    have X1b1p : Hid (Var wb1 wa1.heap.size nx1 xo1 xl1 xc1 ex1 E 1024 (fval m)) := X1a1.out.later hbb
    have HBb1p : Hid (Below w.heap.size w wb1) := HBa1.out.trans (hbb.mono HBa1.out.size)
    have Y1b1 : Hid (Var (wb1.alloc (Obj.cells #[Value.bool ny1, Value.slice yo1 yl1 yc1, Value.int IntKind.i64 ey1] 25)) wb1.heap.size ny1 yo1 yl1 yc1 ey1 E 1024 (fval e)) := Var.new ZZ.out
    have X1b1 : Hid (Var (wb1.alloc (Obj.cells #[Value.bool ny1, Value.slice yo1 yl1 yc1, Value.int IntKind.i64 ey1] 25)) wa1.heap.size nx1 xo1 xl1 xc1 ex1 E 1024 (fval m)) := X1b1p.out.alloc _
    have HBb1 : Hid (Below w.heap.size w (wb1.alloc (Obj.cells #[Value.bool ny1, Value.slice yo1 yl1 yc1, Value.int IntKind.i64 ey1] 25))) := HBb1p.out.alloc HBb1p.out.size _
    obtain ⟨ddwb1, hdd⟩ : ∃ q, decide (Fin e) = q := ⟨_, rfl⟩
    rw [hdd]
    clear hdd hff hbb ZZ X1b1p HBb1p
    go_wp2_with fail
    refine (exact_any 1 (by decide) a b ha hb _ E hE).mono ?_
    rintro ee wc1 ⟨vv, rfl, ⟨zz, hzz, hff⟩, hbb⟩
    have hzv := hff FAB.out
    subst hzv
    have ZZ : Hid (NumZ wc1 vv (E + E) 2048 (exactX 1 E a b)) := hzz
    obtain ⟨nv1, mmc1, ev1, ⟨vo1, vl1, vc1, ssc1, rfl, -⟩, -⟩ := hzz
    have X1c1p : Hid (Var wc1 wa1.heap.size nx1 xo1 xl1 xc1 ex1 E 1024 (fval m)) := X1b1.out.later hbb
    have Y1c1p : Hid (Var wc1 wb1.heap.size ny1 yo1 yl1 yc1 ey1 E 1024 (fval e)) := Y1b1.out.later hbb
    have HBc1p : Hid (Below w.heap.size w wc1) := HBb1.out.trans (hbb.mono HBb1.out.size)
    have V1c1 : Hid (Var (wc1.alloc (Obj.cells #[Value.bool nv1, Value.slice vo1 vl1 vc1, Value.int IntKind.i64 ev1] 25)) wc1.heap.size nv1 vo1 vl1 vc1 ev1 (E + E) 2048 (exactX 1 E a b)) := Var.new ZZ.out
    have X1c1 : Hid (Var (wc1.alloc (Obj.cells #[Value.bool nv1, Value.slice vo1 vl1 vc1, Value.int IntKind.i64 ev1] 25)) wa1.heap.size nx1 xo1 xl1 xc1 ex1 E 1024 (fval m)) := X1c1p.out.alloc _
    have Y1c1 : Hid (Var (wc1.alloc (Obj.cells #[Value.bool nv1, Value.slice vo1 vl1 vc1, Value.int IntKind.i64 ev1] 25)) wb1.heap.size ny1 yo1 yl1 yc1 ey1 E 1024 (fval e)) := Y1c1p.out.alloc _
    have HBc1 : Hid (Below w.heap.size w (wc1.alloc (Obj.cells #[Value.bool nv1, Value.slice vo1 vl1 vc1, Value.int IntKind.i64 ev1] 25))) := HBc1p.out.alloc HBc1p.out.size _
    obtain ⟨ddc1, hdd⟩ : ∃ q, decide (Fin a ∧ Fin b) = q := ⟨_, rfl⟩
    rw [hdd]
    clear hdd hff hbb ZZ X1c1p Y1c1p HBc1p X1a1 X1b1 Y1b1
    obtain ⟨x1u0, x1u1, x1u2⟩ := X1c1.out.cells
    obtain ⟨y1u0, y1u1, y1u2⟩ := Y1c1.out.cells
    obtain ⟨v1u0, v1u1, v1u2⟩ := V1c1.out.cells
    go_wp2_with fail
    generalize wc1.alloc (Obj.cells #[Value.bool nv1, Value.slice vo1 vl1 vc1, Value.int IntKind.i64 ev1] 25) = WW1 at *
    have X1d1 : Hid (Var WW1.drew wa1.heap.size nx1 xo1 xl1 xc1 ex1 E 1024 (fval m)) := X1c1.out.drew
    have Y1d1 : Hid (Var WW1.drew wb1.heap.size ny1 yo1 yl1 yc1 ey1 E 1024 (fval e)) := Y1c1.out.drew
    have V1d1 : Hid (Var WW1.drew wc1.heap.size nv1 vo1 vl1 vc1 ev1 (E + E) 2048 (exactX 1 E a b)) := V1c1.out.drew
    have HBd1 : Hid (Below w.heap.size w WW1.drew) := HBc1.out.drew
    go_region_held3 (fun w' => w'.cell? ⟨wa1.heap.size, 0, none⟩ = some (.bool nx1) ∧ w'.cell? ⟨wa1.heap.size, 1, none⟩ = some (.slice xo1 xl1 xc1) ∧ w'.cell? ⟨wa1.heap.size, 2, none⟩ = some (.int .i64 ex1) ∧ w'.cell? ⟨wb1.heap.size, 0, none⟩ = some (.bool ny1) ∧ w'.cell? ⟨wb1.heap.size, 1, none⟩ = some (.slice yo1 yl1 yc1) ∧ w'.cell? ⟨wb1.heap.size, 2, none⟩ = some (.int .i64 ey1) ∧ w'.cell? ⟨wc1.heap.size, 0, none⟩ = some (.bool nv1) ∧ w'.cell? ⟨wc1.heap.size, 1, none⟩ = some (.slice vo1 vl1 vc1) ∧ w'.cell? ⟨wc1.heap.size, 2, none⟩ = some (.int .i64 ev1)) (go_keep)
      (first
        | (go_at_call 29; refine (plusZ_any _ _ E 1024 _ _ _ X1d1.out.num Y1d1.out.num (by omega) (by omega)).mono ?_; rintro ee we1 ⟨vp1, rfl, hzp1, hbe1⟩; have X1e1 : Hid (Var we1 wa1.heap.size nx1 xo1 xl1 xc1 ex1 E 1024 (fval m)) := X1d1.out.later hbe1; obtain ⟨x1e10, x1e11, x1e12⟩ := X1e1.out.cells; have Y1e1 : Hid (Var we1 wb1.heap.size ny1 yo1 yl1 yc1 ey1 E 1024 (fval e)) := Y1d1.out.later hbe1; obtain ⟨y1e10, y1e11, y1e12⟩ := Y1e1.out.cells; have V1e1 : Hid (Var we1 wc1.heap.size nv1 vo1 vl1 vc1 ev1 (E + E) 2048 (exactX 1 E a b)) := V1d1.out.later hbe1; obtain ⟨v1e10, v1e11, v1e12⟩ := V1e1.out.cells; have HBe1 : Hid (Below w.heap.size w we1) := HBd1.out.trans (hbe1.mono HBd1.out.size); have ZP1 : Hid (NumZ we1 vp1 (E + E) 2048 ((fval m + fval e) * ((2 ^ E : Nat) : Int))) := NumZ.mono (NumZ.more hzp1 E) (by omega); clear hzp1 hbe1)
        | (go_at_call 13; refine (cmpZ_any _ _ (E + E) 2048 _ _ _ ZP1.out V1e1.out.num (by omega) (by omega)).mono ?_; rintro ee wf1 ⟨rfl, hbf1⟩; have X1f1 : Hid (Var wf1 wa1.heap.size nx1 xo1 xl1 xc1 ex1 E 1024 (fval m)) := X1e1.out.later hbf1; obtain ⟨x1f10, x1f11, x1f12⟩ := X1f1.out.cells; have Y1f1 : Hid (Var wf1 wb1.heap.size ny1 yo1 yl1 yc1 ey1 E 1024 (fval e)) := Y1e1.out.later hbf1; obtain ⟨y1f10, y1f11, y1f12⟩ := Y1f1.out.cells; have V1f1 : Hid (Var wf1 wc1.heap.size nv1 vo1 vl1 vc1 ev1 (E + E) 2048 (exactX 1 E a b)) := V1e1.out.later hbf1; obtain ⟨v1f10, v1f11, v1f12⟩ := V1f1.out.cells; have HBf1 : Hid (Below w.heap.size w wf1) := HBe1.out.trans (hbf1.mono HBe1.out.size); rw [HC1.out]; clear hbf1))
    go_wp2_with fail
    refine (num_any n FP.out.2 _ E hE).mono ?_
    rintro ee wa2 ⟨vv, rfl, ⟨zz, hzz, hff⟩, hbb⟩
    have hzv := hff FP.out.1
    subst hzv
    have ZZ : Hid (NumZ wa2 vv E 1024 (fval n)) := hzz
    obtain ⟨nx2, mmwa2, ex2, ⟨xo2, xl2, xc2, sswa2, rfl, -⟩, -⟩ := hzz
    have HBa2p : Hid (Below w.heap.size w wa2) := HBf1.out.trans (hbb.mono HBf1.out.size)
    have X2a2 : Hid (Var (wa2.alloc (Obj.cells #[Value.bool nx2, Value.slice xo2 xl2 xc2, Value.int IntKind.i64 ex2] 25)) wa2.heap.size nx2 xo2 xl2 xc2 ex2 E 1024 (fval n)) := Var.new ZZ.out
    have HBa2 : Hid (Below w.heap.size w (wa2.alloc (Obj.cells #[Value.bool nx2, Value.slice xo2 xl2 xc2, Value.int IntKind.i64 ex2] 25))) := HBa2p.out.alloc HBa2p.out.size _
    obtain ⟨ddwa2, hdd⟩ : ∃ q, decide (Fin n) = q := ⟨_, rfl⟩
    rw [hdd]
    clear hdd hff hbb ZZ  HBa2p
    go_wp2_with fail
    refine (num_any f FF.out.2 _ E hE).mono ?_
    rintro ee wb2 ⟨vv, rfl, ⟨zz, hzz, hff⟩, hbb⟩
    have hzv := hff FF.out.1
    subst hzv
    have ZZ : Hid (NumZ wb2 vv E 1024 (fval f)) := hzz
    obtain ⟨ny2, mmwb2, ey2, ⟨yo2, yl2, yc2, sswb2, rfl, -⟩, -⟩ := hzz
    have X2b2p : Hid (Var wb2 wa2.heap.size nx2 xo2 xl2 xc2 ex2 E 1024 (fval n)) := X2a2.out.later hbb
    have HBb2p : Hid (Below w.heap.size w wb2) := HBa2.out.trans (hbb.mono HBa2.out.size)
    have Y2b2 : Hid (Var (wb2.alloc (Obj.cells #[Value.bool ny2, Value.slice yo2 yl2 yc2, Value.int IntKind.i64 ey2] 25)) wb2.heap.size ny2 yo2 yl2 yc2 ey2 E 1024 (fval f)) := Var.new ZZ.out
    have X2b2 : Hid (Var (wb2.alloc (Obj.cells #[Value.bool ny2, Value.slice yo2 yl2 yc2, Value.int IntKind.i64 ey2] 25)) wa2.heap.size nx2 xo2 xl2 xc2 ex2 E 1024 (fval n)) := X2b2p.out.alloc _
    have HBb2 : Hid (Below w.heap.size w (wb2.alloc (Obj.cells #[Value.bool ny2, Value.slice yo2 yl2 yc2, Value.int IntKind.i64 ey2] 25))) := HBb2p.out.alloc HBb2p.out.size _
    obtain ⟨ddwb2, hdd⟩ : ∃ q, decide (Fin f) = q := ⟨_, rfl⟩
    rw [hdd]
    clear hdd hff hbb ZZ X2b2p HBb2p
    go_wp2_with fail
    refine (exact_any 3 (by decide) a b ha hb _ E hE).mono ?_
    rintro ee wc2 ⟨vv, rfl, ⟨zz, hzz, hff⟩, hbb⟩
    have hzv := hff FAB.out
    subst hzv
    have ZZ : Hid (NumZ wc2 vv (E + E) 2048 (exactX 3 E a b)) := hzz
    obtain ⟨nv2, mmc2, ev2, ⟨vo2, vl2, vc2, ssc2, rfl, -⟩, -⟩ := hzz
    have X2c2p : Hid (Var wc2 wa2.heap.size nx2 xo2 xl2 xc2 ex2 E 1024 (fval n)) := X2b2.out.later hbb
    have Y2c2p : Hid (Var wc2 wb2.heap.size ny2 yo2 yl2 yc2 ey2 E 1024 (fval f)) := Y2b2.out.later hbb
    have HBc2p : Hid (Below w.heap.size w wc2) := HBb2.out.trans (hbb.mono HBb2.out.size)
    have V2c2 : Hid (Var (wc2.alloc (Obj.cells #[Value.bool nv2, Value.slice vo2 vl2 vc2, Value.int IntKind.i64 ev2] 25)) wc2.heap.size nv2 vo2 vl2 vc2 ev2 (E + E) 2048 (exactX 3 E a b)) := Var.new ZZ.out
    have X2c2 : Hid (Var (wc2.alloc (Obj.cells #[Value.bool nv2, Value.slice vo2 vl2 vc2, Value.int IntKind.i64 ev2] 25)) wa2.heap.size nx2 xo2 xl2 xc2 ex2 E 1024 (fval n)) := X2c2p.out.alloc _
    have Y2c2 : Hid (Var (wc2.alloc (Obj.cells #[Value.bool nv2, Value.slice vo2 vl2 vc2, Value.int IntKind.i64 ev2] 25)) wb2.heap.size ny2 yo2 yl2 yc2 ey2 E 1024 (fval f)) := Y2c2p.out.alloc _
    have HBc2 : Hid (Below w.heap.size w (wc2.alloc (Obj.cells #[Value.bool nv2, Value.slice vo2 vl2 vc2, Value.int IntKind.i64 ev2] 25))) := HBc2p.out.alloc HBc2p.out.size _
    obtain ⟨ddc2, hdd⟩ : ∃ q, decide (Fin a ∧ Fin b) = q := ⟨_, rfl⟩
    rw [hdd]
    clear hdd hff hbb ZZ X2c2p Y2c2p HBc2p X2a2 X2b2 Y2b2
    obtain ⟨x2u0, x2u1, x2u2⟩ := X2c2.out.cells
    obtain ⟨y2u0, y2u1, y2u2⟩ := Y2c2.out.cells
    obtain ⟨v2u0, v2u1, v2u2⟩ := V2c2.out.cells
    go_wp2_with fail
    generalize wc2.alloc (Obj.cells #[Value.bool nv2, Value.slice vo2 vl2 vc2, Value.int IntKind.i64 ev2] 25) = WW2 at *
    have X2d2 : Hid (Var WW2.drew wa2.heap.size nx2 xo2 xl2 xc2 ex2 E 1024 (fval n)) := X2c2.out.drew
    have Y2d2 : Hid (Var WW2.drew wb2.heap.size ny2 yo2 yl2 yc2 ey2 E 1024 (fval f)) := Y2c2.out.drew
    have V2d2 : Hid (Var WW2.drew wc2.heap.size nv2 vo2 vl2 vc2 ev2 (E + E) 2048 (exactX 3 E a b)) := V2c2.out.drew
    have HBd2 : Hid (Below w.heap.size w WW2.drew) := HBc2.out.drew
    go_region_held3 (fun w' => w'.cell? ⟨wa2.heap.size, 0, none⟩ = some (.bool nx2) ∧ w'.cell? ⟨wa2.heap.size, 1, none⟩ = some (.slice xo2 xl2 xc2) ∧ w'.cell? ⟨wa2.heap.size, 2, none⟩ = some (.int .i64 ex2) ∧ w'.cell? ⟨wb2.heap.size, 0, none⟩ = some (.bool ny2) ∧ w'.cell? ⟨wb2.heap.size, 1, none⟩ = some (.slice yo2 yl2 yc2) ∧ w'.cell? ⟨wb2.heap.size, 2, none⟩ = some (.int .i64 ey2) ∧ w'.cell? ⟨wc2.heap.size, 0, none⟩ = some (.bool nv2) ∧ w'.cell? ⟨wc2.heap.size, 1, none⟩ = some (.slice vo2 vl2 vc2) ∧ w'.cell? ⟨wc2.heap.size, 2, none⟩ = some (.int .i64 ev2)) (go_keep)
      (first
        | (go_at_call 29; refine (plusZ_any _ _ E 1024 _ _ _ X2d2.out.num Y2d2.out.num (by omega) (by omega)).mono ?_; rintro ee we2 ⟨vp2, rfl, hzp2, hbe2⟩; have X2e2 : Hid (Var we2 wa2.heap.size nx2 xo2 xl2 xc2 ex2 E 1024 (fval n)) := X2d2.out.later hbe2; obtain ⟨x2e20, x2e21, x2e22⟩ := X2e2.out.cells; have Y2e2 : Hid (Var we2 wb2.heap.size ny2 yo2 yl2 yc2 ey2 E 1024 (fval f)) := Y2d2.out.later hbe2; obtain ⟨y2e20, y2e21, y2e22⟩ := Y2e2.out.cells; have V2e2 : Hid (Var we2 wc2.heap.size nv2 vo2 vl2 vc2 ev2 (E + E) 2048 (exactX 3 E a b)) := V2d2.out.later hbe2; obtain ⟨v2e20, v2e21, v2e22⟩ := V2e2.out.cells; have HBe2 : Hid (Below w.heap.size w we2) := HBd2.out.trans (hbe2.mono HBd2.out.size); have ZP2 : Hid (NumZ we2 vp2 (E + E) 2048 ((fval n + fval f) * ((2 ^ E : Nat) : Int))) := NumZ.mono (NumZ.more hzp2 E) (by omega); clear hzp2 hbe2)
        | (go_at_call 13; refine (cmpZ_any _ _ (E + E) 2048 _ _ _ ZP2.out V2e2.out.num (by omega) (by omega)).mono ?_; rintro ee wf2 ⟨rfl, hbf2⟩; have X2f2 : Hid (Var wf2 wa2.heap.size nx2 xo2 xl2 xc2 ex2 E 1024 (fval n)) := X2e2.out.later hbf2; obtain ⟨x2f20, x2f21, x2f22⟩ := X2f2.out.cells; have Y2f2 : Hid (Var wf2 wb2.heap.size ny2 yo2 yl2 yc2 ey2 E 1024 (fval f)) := Y2e2.out.later hbf2; obtain ⟨y2f20, y2f21, y2f22⟩ := Y2f2.out.cells; have V2f2 : Hid (Var wf2 wc2.heap.size nv2 vo2 vl2 vc2 ev2 (E + E) 2048 (exactX 3 E a b)) := V2e2.out.later hbf2; obtain ⟨v2f20, v2f21, v2f22⟩ := V2f2.out.cells; have HBf2 : Hid (Below w.heap.size w wf2) := HBe2.out.trans (hbf2.mono HBe2.out.size); rw [HC2.out]; clear hbf2))
    all_goals go_wp2_with (go_at_call 11; refine (started_any _).mono ?_; rintro es ws ⟨rfl, rfl⟩)
    all_goals (go_ret; exact ⟨rfl, by first | exact HBf2.out | exact HBf2.out.drew⟩)
  · skip
    obtain ⟨-, q1, q2, q3, q4, q5⟩ := HALL.out
    have hms := q1 rfl
    subst hms
    obtain ⟨y1, y2, y3⟩ := q4 rfl
    have FS : Hid _ := y1
    have FE : Hid _ := y2
    have HC1 : Hid (sgi ((fval m + fval e) * ((2 ^ E : Nat) : Int) - exactX 1 E a b) = 0) := by (unfold Hid exactX; rw [if_pos rfl, y3]; unfold sgi; rw [if_neg (by omega), if_pos (by omega)])
    have hmm : (FloatKind.f64.format.order m m != some .eq) = false := by rw [ord_ne y1.1 y1.1]; simp
    clear y1 y2 y3
    have FAB : Hid (Fin a ∧ Fin b) := q3 (by simp)
    clear q1 q2 q3 q4 q5 HALL
    go_enter Try.func7, Try.ntmps7
    go_wp2_with fail
    refine (cs _).mono ?_
    rintro ee ww ⟨rfl, hww⟩
    rw [hww]
    clear hww
    go_wp2_with fail
    refine (cp _).mono ?_
    rintro ee ww ⟨rfl, hww⟩
    rw [hww]
    clear hww
    go_wp2_with fail
    refine (cm _).mono ?_
    rintro ee ww ⟨rfl, hww⟩
    rw [hww]
    clear hww
    go_wp2_with fail
    refine (cn _).mono ?_
    rintro ee ww ⟨rfl, hww⟩
    rw [hww]
    clear hww
    clear cs cp cm cn
    go_wp2_with fail
    refine (num_any m FS.out.2 _ E hE).mono ?_
    rintro ee wa1 ⟨vv, rfl, ⟨zz, hzz, hff⟩, hbb⟩
    have hzv := hff FS.out.1
    subst hzv
    have ZZ : Hid (NumZ wa1 vv E 1024 (fval m)) := hzz
    obtain ⟨nx1, mmwa1, ex1, ⟨xo1, xl1, xc1, sswa1, rfl, -⟩, -⟩ := hzz
    have HBa1p : Hid (Below w.heap.size w wa1) := HB0.out.trans (hbb.mono HB0.out.size)
    have X1a1 : Hid (Var (wa1.alloc (Obj.cells #[Value.bool nx1, Value.slice xo1 xl1 xc1, Value.int IntKind.i64 ex1] 25)) wa1.heap.size nx1 xo1 xl1 xc1 ex1 E 1024 (fval m)) := Var.new ZZ.out
    have HBa1 : Hid (Below w.heap.size w (wa1.alloc (Obj.cells #[Value.bool nx1, Value.slice xo1 xl1 xc1, Value.int IntKind.i64 ex1] 25))) := HBa1p.out.alloc HBa1p.out.size _
    obtain ⟨ddwa1, hdd⟩ : ∃ q, decide (Fin m) = q := ⟨_, rfl⟩
    rw [hdd]
    clear hdd hff hbb ZZ  HBa1p
    go_wp2_with fail
    refine (num_any e FE.out.2 _ E hE).mono ?_
    rintro ee wb1 ⟨vv, rfl, ⟨zz, hzz, hff⟩, hbb⟩
    have hzv := hff FE.out.1
    subst hzv
    have ZZ : Hid (NumZ wb1 vv E 1024 (fval e)) := hzz
    obtain ⟨ny1, mmwb1, ey1, ⟨yo1, yl1, yc1, sswb1, rfl, -⟩, -⟩ := hzz
    have X1b1p : Hid (Var wb1 wa1.heap.size nx1 xo1 xl1 xc1 ex1 E 1024 (fval m)) := X1a1.out.later hbb
    have HBb1p : Hid (Below w.heap.size w wb1) := HBa1.out.trans (hbb.mono HBa1.out.size)
    have Y1b1 : Hid (Var (wb1.alloc (Obj.cells #[Value.bool ny1, Value.slice yo1 yl1 yc1, Value.int IntKind.i64 ey1] 25)) wb1.heap.size ny1 yo1 yl1 yc1 ey1 E 1024 (fval e)) := Var.new ZZ.out
    have X1b1 : Hid (Var (wb1.alloc (Obj.cells #[Value.bool ny1, Value.slice yo1 yl1 yc1, Value.int IntKind.i64 ey1] 25)) wa1.heap.size nx1 xo1 xl1 xc1 ex1 E 1024 (fval m)) := X1b1p.out.alloc _
    have HBb1 : Hid (Below w.heap.size w (wb1.alloc (Obj.cells #[Value.bool ny1, Value.slice yo1 yl1 yc1, Value.int IntKind.i64 ey1] 25))) := HBb1p.out.alloc HBb1p.out.size _
    obtain ⟨ddwb1, hdd⟩ : ∃ q, decide (Fin e) = q := ⟨_, rfl⟩
    rw [hdd]
    clear hdd hff hbb ZZ X1b1p HBb1p
    go_wp2_with fail
    refine (exact_any 1 (by decide) a b ha hb _ E hE).mono ?_
    rintro ee wc1 ⟨vv, rfl, ⟨zz, hzz, hff⟩, hbb⟩
    have hzv := hff FAB.out
    subst hzv
    have ZZ : Hid (NumZ wc1 vv (E + E) 2048 (exactX 1 E a b)) := hzz
    obtain ⟨nv1, mmc1, ev1, ⟨vo1, vl1, vc1, ssc1, rfl, -⟩, -⟩ := hzz
    have X1c1p : Hid (Var wc1 wa1.heap.size nx1 xo1 xl1 xc1 ex1 E 1024 (fval m)) := X1b1.out.later hbb
    have Y1c1p : Hid (Var wc1 wb1.heap.size ny1 yo1 yl1 yc1 ey1 E 1024 (fval e)) := Y1b1.out.later hbb
    have HBc1p : Hid (Below w.heap.size w wc1) := HBb1.out.trans (hbb.mono HBb1.out.size)
    have V1c1 : Hid (Var (wc1.alloc (Obj.cells #[Value.bool nv1, Value.slice vo1 vl1 vc1, Value.int IntKind.i64 ev1] 25)) wc1.heap.size nv1 vo1 vl1 vc1 ev1 (E + E) 2048 (exactX 1 E a b)) := Var.new ZZ.out
    have X1c1 : Hid (Var (wc1.alloc (Obj.cells #[Value.bool nv1, Value.slice vo1 vl1 vc1, Value.int IntKind.i64 ev1] 25)) wa1.heap.size nx1 xo1 xl1 xc1 ex1 E 1024 (fval m)) := X1c1p.out.alloc _
    have Y1c1 : Hid (Var (wc1.alloc (Obj.cells #[Value.bool nv1, Value.slice vo1 vl1 vc1, Value.int IntKind.i64 ev1] 25)) wb1.heap.size ny1 yo1 yl1 yc1 ey1 E 1024 (fval e)) := Y1c1p.out.alloc _
    have HBc1 : Hid (Below w.heap.size w (wc1.alloc (Obj.cells #[Value.bool nv1, Value.slice vo1 vl1 vc1, Value.int IntKind.i64 ev1] 25))) := HBc1p.out.alloc HBc1p.out.size _
    obtain ⟨ddc1, hdd⟩ : ∃ q, decide (Fin a ∧ Fin b) = q := ⟨_, rfl⟩
    rw [hdd]
    clear hdd hff hbb ZZ X1c1p Y1c1p HBc1p X1a1 X1b1 Y1b1
    obtain ⟨x1u0, x1u1, x1u2⟩ := X1c1.out.cells
    obtain ⟨y1u0, y1u1, y1u2⟩ := Y1c1.out.cells
    obtain ⟨v1u0, v1u1, v1u2⟩ := V1c1.out.cells
    go_wp2_with fail
    generalize wc1.alloc (Obj.cells #[Value.bool nv1, Value.slice vo1 vl1 vc1, Value.int IntKind.i64 ev1] 25) = WW1 at *
    have X1d1 : Hid (Var WW1.drew wa1.heap.size nx1 xo1 xl1 xc1 ex1 E 1024 (fval m)) := X1c1.out.drew
    have Y1d1 : Hid (Var WW1.drew wb1.heap.size ny1 yo1 yl1 yc1 ey1 E 1024 (fval e)) := Y1c1.out.drew
    have V1d1 : Hid (Var WW1.drew wc1.heap.size nv1 vo1 vl1 vc1 ev1 (E + E) 2048 (exactX 1 E a b)) := V1c1.out.drew
    have HBd1 : Hid (Below w.heap.size w WW1.drew) := HBc1.out.drew
    go_region_held3 (fun w' => w'.cell? ⟨wa1.heap.size, 0, none⟩ = some (.bool nx1) ∧ w'.cell? ⟨wa1.heap.size, 1, none⟩ = some (.slice xo1 xl1 xc1) ∧ w'.cell? ⟨wa1.heap.size, 2, none⟩ = some (.int .i64 ex1) ∧ w'.cell? ⟨wb1.heap.size, 0, none⟩ = some (.bool ny1) ∧ w'.cell? ⟨wb1.heap.size, 1, none⟩ = some (.slice yo1 yl1 yc1) ∧ w'.cell? ⟨wb1.heap.size, 2, none⟩ = some (.int .i64 ey1) ∧ w'.cell? ⟨wc1.heap.size, 0, none⟩ = some (.bool nv1) ∧ w'.cell? ⟨wc1.heap.size, 1, none⟩ = some (.slice vo1 vl1 vc1) ∧ w'.cell? ⟨wc1.heap.size, 2, none⟩ = some (.int .i64 ev1)) (go_keep)
      (first
        | (go_at_call 29; refine (plusZ_any _ _ E 1024 _ _ _ X1d1.out.num Y1d1.out.num (by omega) (by omega)).mono ?_; rintro ee we1 ⟨vp1, rfl, hzp1, hbe1⟩; have X1e1 : Hid (Var we1 wa1.heap.size nx1 xo1 xl1 xc1 ex1 E 1024 (fval m)) := X1d1.out.later hbe1; obtain ⟨x1e10, x1e11, x1e12⟩ := X1e1.out.cells; have Y1e1 : Hid (Var we1 wb1.heap.size ny1 yo1 yl1 yc1 ey1 E 1024 (fval e)) := Y1d1.out.later hbe1; obtain ⟨y1e10, y1e11, y1e12⟩ := Y1e1.out.cells; have V1e1 : Hid (Var we1 wc1.heap.size nv1 vo1 vl1 vc1 ev1 (E + E) 2048 (exactX 1 E a b)) := V1d1.out.later hbe1; obtain ⟨v1e10, v1e11, v1e12⟩ := V1e1.out.cells; have HBe1 : Hid (Below w.heap.size w we1) := HBd1.out.trans (hbe1.mono HBd1.out.size); have ZP1 : Hid (NumZ we1 vp1 (E + E) 2048 ((fval m + fval e) * ((2 ^ E : Nat) : Int))) := NumZ.mono (NumZ.more hzp1 E) (by omega); clear hzp1 hbe1)
        | (go_at_call 13; refine (cmpZ_any _ _ (E + E) 2048 _ _ _ ZP1.out V1e1.out.num (by omega) (by omega)).mono ?_; rintro ee wf1 ⟨rfl, hbf1⟩; have X1f1 : Hid (Var wf1 wa1.heap.size nx1 xo1 xl1 xc1 ex1 E 1024 (fval m)) := X1e1.out.later hbf1; obtain ⟨x1f10, x1f11, x1f12⟩ := X1f1.out.cells; have Y1f1 : Hid (Var wf1 wb1.heap.size ny1 yo1 yl1 yc1 ey1 E 1024 (fval e)) := Y1e1.out.later hbf1; obtain ⟨y1f10, y1f11, y1f12⟩ := Y1f1.out.cells; have V1f1 : Hid (Var wf1 wc1.heap.size nv1 vo1 vl1 vc1 ev1 (E + E) 2048 (exactX 1 E a b)) := V1e1.out.later hbf1; obtain ⟨v1f10, v1f11, v1f12⟩ := V1f1.out.cells; have HBf1 : Hid (Below w.heap.size w wf1) := HBe1.out.trans (hbf1.mono HBe1.out.size); rw [HC1.out]; clear hbf1))
    all_goals go_wp2_with (go_at_call 11; refine (started_any _).mono ?_; rintro es ws ⟨rfl, rfl⟩)
    all_goals (go_ret; exact ⟨rfl, by first | exact HBf1.out | exact HBf1.out.drew⟩)
  · skip
    obtain ⟨-, q1, q2, q3, q4, q5⟩ := HALL.out
    obtain ⟨rfl, hnp⟩ := q2 rfl
    subst hnp
    obtain ⟨y1, y2, y3⟩ := q5 rfl
    have FP : Hid _ := y1
    have FF : Hid _ := y2
    have HC2 : Hid (sgi ((fval n + fval f) * ((2 ^ E : Nat) : Int) - exactX 3 E a b) = 0) := by (unfold Hid exactX; rw [if_neg (by decide), if_neg (by decide), y3]; unfold sgi; rw [if_neg (by omega), if_pos (by omega)])
    have hnn : (FloatKind.f64.format.order n n != some .eq) = false := by rw [ord_ne y1.1 y1.1]; simp
    clear y1 y2 y3
    have FAB : Hid (Fin a ∧ Fin b) := q3 (by simp)
    clear q1 q2 q3 q4 q5 HALL
    go_enter Try.func7, Try.ntmps7
    go_wp2_with fail
    refine (cs _).mono ?_
    rintro ee ww ⟨rfl, hww⟩
    rw [hww]
    clear hww
    go_wp2_with fail
    refine (cp _).mono ?_
    rintro ee ww ⟨rfl, hww⟩
    rw [hww]
    clear hww
    go_wp2_with fail
    refine (cm _).mono ?_
    rintro ee ww ⟨rfl, hww⟩
    rw [hww]
    clear hww
    go_wp2_with fail
    refine (cn _).mono ?_
    rintro ee ww ⟨rfl, hww⟩
    rw [hww]
    clear hww
    clear cs cp cm cn
    go_wp2_with fail
    refine (num_any n FP.out.2 _ E hE).mono ?_
    rintro ee wa2 ⟨vv, rfl, ⟨zz, hzz, hff⟩, hbb⟩
    have hzv := hff FP.out.1
    subst hzv
    have ZZ : Hid (NumZ wa2 vv E 1024 (fval n)) := hzz
    obtain ⟨nx2, mmwa2, ex2, ⟨xo2, xl2, xc2, sswa2, rfl, -⟩, -⟩ := hzz
    have HBa2p : Hid (Below w.heap.size w wa2) := HB0.out.trans (hbb.mono HB0.out.size)
    have X2a2 : Hid (Var (wa2.alloc (Obj.cells #[Value.bool nx2, Value.slice xo2 xl2 xc2, Value.int IntKind.i64 ex2] 25)) wa2.heap.size nx2 xo2 xl2 xc2 ex2 E 1024 (fval n)) := Var.new ZZ.out
    have HBa2 : Hid (Below w.heap.size w (wa2.alloc (Obj.cells #[Value.bool nx2, Value.slice xo2 xl2 xc2, Value.int IntKind.i64 ex2] 25))) := HBa2p.out.alloc HBa2p.out.size _
    obtain ⟨ddwa2, hdd⟩ : ∃ q, decide (Fin n) = q := ⟨_, rfl⟩
    rw [hdd]
    clear hdd hff hbb ZZ  HBa2p
    go_wp2_with fail
    refine (num_any f FF.out.2 _ E hE).mono ?_
    rintro ee wb2 ⟨vv, rfl, ⟨zz, hzz, hff⟩, hbb⟩
    have hzv := hff FF.out.1
    subst hzv
    have ZZ : Hid (NumZ wb2 vv E 1024 (fval f)) := hzz
    obtain ⟨ny2, mmwb2, ey2, ⟨yo2, yl2, yc2, sswb2, rfl, -⟩, -⟩ := hzz
    have X2b2p : Hid (Var wb2 wa2.heap.size nx2 xo2 xl2 xc2 ex2 E 1024 (fval n)) := X2a2.out.later hbb
    have HBb2p : Hid (Below w.heap.size w wb2) := HBa2.out.trans (hbb.mono HBa2.out.size)
    have Y2b2 : Hid (Var (wb2.alloc (Obj.cells #[Value.bool ny2, Value.slice yo2 yl2 yc2, Value.int IntKind.i64 ey2] 25)) wb2.heap.size ny2 yo2 yl2 yc2 ey2 E 1024 (fval f)) := Var.new ZZ.out
    have X2b2 : Hid (Var (wb2.alloc (Obj.cells #[Value.bool ny2, Value.slice yo2 yl2 yc2, Value.int IntKind.i64 ey2] 25)) wa2.heap.size nx2 xo2 xl2 xc2 ex2 E 1024 (fval n)) := X2b2p.out.alloc _
    have HBb2 : Hid (Below w.heap.size w (wb2.alloc (Obj.cells #[Value.bool ny2, Value.slice yo2 yl2 yc2, Value.int IntKind.i64 ey2] 25))) := HBb2p.out.alloc HBb2p.out.size _
    obtain ⟨ddwb2, hdd⟩ : ∃ q, decide (Fin f) = q := ⟨_, rfl⟩
    rw [hdd]
    clear hdd hff hbb ZZ X2b2p HBb2p
    go_wp2_with fail
    refine (exact_any 3 (by decide) a b ha hb _ E hE).mono ?_
    rintro ee wc2 ⟨vv, rfl, ⟨zz, hzz, hff⟩, hbb⟩
    have hzv := hff FAB.out
    subst hzv
    have ZZ : Hid (NumZ wc2 vv (E + E) 2048 (exactX 3 E a b)) := hzz
    obtain ⟨nv2, mmc2, ev2, ⟨vo2, vl2, vc2, ssc2, rfl, -⟩, -⟩ := hzz
    have X2c2p : Hid (Var wc2 wa2.heap.size nx2 xo2 xl2 xc2 ex2 E 1024 (fval n)) := X2b2.out.later hbb
    have Y2c2p : Hid (Var wc2 wb2.heap.size ny2 yo2 yl2 yc2 ey2 E 1024 (fval f)) := Y2b2.out.later hbb
    have HBc2p : Hid (Below w.heap.size w wc2) := HBb2.out.trans (hbb.mono HBb2.out.size)
    have V2c2 : Hid (Var (wc2.alloc (Obj.cells #[Value.bool nv2, Value.slice vo2 vl2 vc2, Value.int IntKind.i64 ev2] 25)) wc2.heap.size nv2 vo2 vl2 vc2 ev2 (E + E) 2048 (exactX 3 E a b)) := Var.new ZZ.out
    have X2c2 : Hid (Var (wc2.alloc (Obj.cells #[Value.bool nv2, Value.slice vo2 vl2 vc2, Value.int IntKind.i64 ev2] 25)) wa2.heap.size nx2 xo2 xl2 xc2 ex2 E 1024 (fval n)) := X2c2p.out.alloc _
    have Y2c2 : Hid (Var (wc2.alloc (Obj.cells #[Value.bool nv2, Value.slice vo2 vl2 vc2, Value.int IntKind.i64 ev2] 25)) wb2.heap.size ny2 yo2 yl2 yc2 ey2 E 1024 (fval f)) := Y2c2p.out.alloc _
    have HBc2 : Hid (Below w.heap.size w (wc2.alloc (Obj.cells #[Value.bool nv2, Value.slice vo2 vl2 vc2, Value.int IntKind.i64 ev2] 25))) := HBc2p.out.alloc HBc2p.out.size _
    obtain ⟨ddc2, hdd⟩ : ∃ q, decide (Fin a ∧ Fin b) = q := ⟨_, rfl⟩
    rw [hdd]
    clear hdd hff hbb ZZ X2c2p Y2c2p HBc2p X2a2 X2b2 Y2b2
    obtain ⟨x2u0, x2u1, x2u2⟩ := X2c2.out.cells
    obtain ⟨y2u0, y2u1, y2u2⟩ := Y2c2.out.cells
    obtain ⟨v2u0, v2u1, v2u2⟩ := V2c2.out.cells
    go_wp2_with fail
    generalize wc2.alloc (Obj.cells #[Value.bool nv2, Value.slice vo2 vl2 vc2, Value.int IntKind.i64 ev2] 25) = WW2 at *
    have X2d2 : Hid (Var WW2.drew wa2.heap.size nx2 xo2 xl2 xc2 ex2 E 1024 (fval n)) := X2c2.out.drew
    have Y2d2 : Hid (Var WW2.drew wb2.heap.size ny2 yo2 yl2 yc2 ey2 E 1024 (fval f)) := Y2c2.out.drew
    have V2d2 : Hid (Var WW2.drew wc2.heap.size nv2 vo2 vl2 vc2 ev2 (E + E) 2048 (exactX 3 E a b)) := V2c2.out.drew
    have HBd2 : Hid (Below w.heap.size w WW2.drew) := HBc2.out.drew
    go_region_held3 (fun w' => w'.cell? ⟨wa2.heap.size, 0, none⟩ = some (.bool nx2) ∧ w'.cell? ⟨wa2.heap.size, 1, none⟩ = some (.slice xo2 xl2 xc2) ∧ w'.cell? ⟨wa2.heap.size, 2, none⟩ = some (.int .i64 ex2) ∧ w'.cell? ⟨wb2.heap.size, 0, none⟩ = some (.bool ny2) ∧ w'.cell? ⟨wb2.heap.size, 1, none⟩ = some (.slice yo2 yl2 yc2) ∧ w'.cell? ⟨wb2.heap.size, 2, none⟩ = some (.int .i64 ey2) ∧ w'.cell? ⟨wc2.heap.size, 0, none⟩ = some (.bool nv2) ∧ w'.cell? ⟨wc2.heap.size, 1, none⟩ = some (.slice vo2 vl2 vc2) ∧ w'.cell? ⟨wc2.heap.size, 2, none⟩ = some (.int .i64 ev2)) (go_keep)
      (first
        | (go_at_call 29; refine (plusZ_any _ _ E 1024 _ _ _ X2d2.out.num Y2d2.out.num (by omega) (by omega)).mono ?_; rintro ee we2 ⟨vp2, rfl, hzp2, hbe2⟩; have X2e2 : Hid (Var we2 wa2.heap.size nx2 xo2 xl2 xc2 ex2 E 1024 (fval n)) := X2d2.out.later hbe2; obtain ⟨x2e20, x2e21, x2e22⟩ := X2e2.out.cells; have Y2e2 : Hid (Var we2 wb2.heap.size ny2 yo2 yl2 yc2 ey2 E 1024 (fval f)) := Y2d2.out.later hbe2; obtain ⟨y2e20, y2e21, y2e22⟩ := Y2e2.out.cells; have V2e2 : Hid (Var we2 wc2.heap.size nv2 vo2 vl2 vc2 ev2 (E + E) 2048 (exactX 3 E a b)) := V2d2.out.later hbe2; obtain ⟨v2e20, v2e21, v2e22⟩ := V2e2.out.cells; have HBe2 : Hid (Below w.heap.size w we2) := HBd2.out.trans (hbe2.mono HBd2.out.size); have ZP2 : Hid (NumZ we2 vp2 (E + E) 2048 ((fval n + fval f) * ((2 ^ E : Nat) : Int))) := NumZ.mono (NumZ.more hzp2 E) (by omega); clear hzp2 hbe2)
        | (go_at_call 13; refine (cmpZ_any _ _ (E + E) 2048 _ _ _ ZP2.out V2e2.out.num (by omega) (by omega)).mono ?_; rintro ee wf2 ⟨rfl, hbf2⟩; have X2f2 : Hid (Var wf2 wa2.heap.size nx2 xo2 xl2 xc2 ex2 E 1024 (fval n)) := X2e2.out.later hbf2; obtain ⟨x2f20, x2f21, x2f22⟩ := X2f2.out.cells; have Y2f2 : Hid (Var wf2 wb2.heap.size ny2 yo2 yl2 yc2 ey2 E 1024 (fval f)) := Y2e2.out.later hbf2; obtain ⟨y2f20, y2f21, y2f22⟩ := Y2f2.out.cells; have V2f2 : Hid (Var wf2 wc2.heap.size nv2 vo2 vl2 vc2 ev2 (E + E) 2048 (exactX 3 E a b)) := V2e2.out.later hbf2; obtain ⟨v2f20, v2f21, v2f22⟩ := V2f2.out.cells; have HBf2 : Hid (Below w.heap.size w wf2) := HBe2.out.trans (hbf2.mono HBe2.out.size); rw [HC2.out]; clear hbf2))
    all_goals go_wp2_with (go_at_call 11; refine (started_any _).mono ?_; rintro es ws ⟨rfl, rfl⟩)
    all_goals (go_ret; exact ⟨rfl, by first | exact HBf2.out | exact HBf2.out.drew⟩)
  · skip
    obtain ⟨-, q1, q2, q3, q4, q5⟩ := HALL.out
    clear q1 q2 q3 q4 q5 HALL
    go_enter Try.func7, Try.ntmps7
    go_wp2_with fail
    refine (cs _).mono ?_
    rintro ee ww ⟨rfl, hww⟩
    rw [hww]
    clear hww
    go_wp2_with fail
    refine (cp _).mono ?_
    rintro ee ww ⟨rfl, hww⟩
    rw [hww]
    clear hww
    go_wp2_with fail
    refine (cm _).mono ?_
    rintro ee ww ⟨rfl, hww⟩
    rw [hww]
    clear hww
    go_wp2_with fail
    refine (cn _).mono ?_
    rintro ee ww ⟨rfl, hww⟩
    rw [hww]
    clear hww
    clear cs cp cm cn
    all_goals go_wp2_with (go_at_call 11; refine (started_any _).mono ?_; rintro es ws ⟨rfl, rfl⟩)
    all_goals (go_ret; exact ⟨rfl, by first | exact HB0.out | exact HB0.out.drew⟩)
end Go.Proofs.Ytgjdmenmegnacab
