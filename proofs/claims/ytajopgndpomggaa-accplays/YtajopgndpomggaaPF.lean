import Derived.Test.YtajopgndpomggaaPC
import Derived.Deep.RegionHeld3
namespace Go.Proofs.Ytajopgndpomggaa
open Go.RowKit
set_option linter.unusedVariables false

set_option maxRecDepth 100000 in
set_option maxHeartbeats 2000000 in
theorem step5_any (P base : Nat) (X : Nat → Nat) (o : Nat → Option Int) (I J : Int) (A B : Nat) (N : Int) (hA : A < 18446744073709551616) (hB : B < 18446744073709551616) (w : World) (h : PS w base P X o o) :
    Calls Try.prog 7 #[.pointer (some ⟨P, 0, none⟩), .agg #[.int .i64 5, .int .i64 I, .int .i64 J, .int .u64 (A : Int), .int .u64 (B : Int), .int .i64 N]] w (StepR w base P) := by
  have H1 : Hid (SS _ w.heap.size base P X o o ⟨5, I, J, A, B, N⟩) := (SS.new h ⟨5, I, J, A, B, N⟩).drew
  have KB : Hid (Below base w ((w.alloc (.cells #[.int .i64 5, .int .i64 I, .int .i64 J, .int .u64 (A : Int), .int .u64 (B : Int), .int .i64 N] 38)).drew)) := ((Below.refl _ w).alloc h.base_le _).drew
  obtain ⟨i, hi, hi4⟩ := spot_lt I
  obtain ⟨j, hj, hj4⟩ := spot_lt J
  have SI : ∀ w', Calls Try.prog 25 #[.int .i64 I] w' fun e w'' => e = .returned (.int .i64 (i : Int)) ∧ w'' = w' := fun w' => by rw [← hi]; exact spot_any I w'
  have SJ : ∀ w', Calls Try.prog 25 #[.int .i64 J] w' fun e w'' => e = .returned (.int .i64 (j : Int)) ∧ w'' = w' := fun w' => by rw [← hj]; exact spot_any J w'
  have i0 : (0 : Int) ≤ (i : Int) := by omega
  have i1 : (i : Int) < 4 := by omega
  have j0 : (0 : Int) ≤ (j : Int) := by omega
  have j1 : (j : Int) < 4 := by omega
  clear hi hj h
  go_enter Try.func7, Try.ntmps7
  go_upto_region 1 with fail
  generalize (w.alloc (.cells #[.int .i64 5, .int .i64 I, .int .i64 J, .int .u64 (A : Int), .int .u64 (B : Int), .int .i64 N] 38)) = w1 at H1 KB ⊢
  obtain ⟨s0, s1, s2, s3, s4, s5⟩ := six_cells H1.out.st
  obtain ⟨nb, ao, l, c, e, k⟩ := H1.out.ps.row i hi4
  obtain ⟨nb', ao', l', c', e', k'⟩ := H1.out.ps.row j hj4
  obtain ⟨p0, p1, p2, p3, p4, kn⟩ := k
  obtain ⟨q0, q1, q2, q3, q4, kn'⟩ := k'
  clear kn kn'
  simp only at s0 s1 s2 s3 s4 s5
  go_wp2_with fail
  go_region_held3 (fun w' => w'.cell? ⟨w.heap.size, 0, none⟩ = some (.int .i64 5) ∧ w'.cell? ⟨w.heap.size, 1, none⟩ = some (.int .i64 I) ∧ w'.cell? ⟨w.heap.size, 2, none⟩ = some (.int .i64 J)) (go_keep)
    (first
      | (go_at_call_of 25 (Value.int IntKind.i64 I); refine (SI _).mono ?_; rintro e9 w9 ⟨rfl, rfl⟩)
      | (go_at_call_of 25 (Value.int IntKind.i64 J); refine (SJ _).mono ?_; rintro e9 w9 ⟨rfl, rfl⟩))
  go_wp2_with fail
  clear s0 s1 s2 s3 s4 s5 p0 p1 p2 p3 p4 q0 q1 q2 q3 q4
  generalize w1.drew = w2 at *
  have H2 : Hid (SS w2.drew w.heap.size base P X o o ⟨5, I, J, A, B, N⟩) := H1.out.drew
  have KB2 : Hid (Below base w w2.drew) := KB.out.drew
  obtain ⟨s0, s1, s2, s3, s4, s5⟩ := six_cells H2.out.st
  obtain ⟨nb, ao, l, c, e, k⟩ := H2.out.ps.row i hi4
  obtain ⟨nb', ao', l', c', e', k'⟩ := H2.out.ps.row j hj4
  have KR : Hid _ := k.ref
  have KR' : Hid _ := k'.ref
  have KN : Hid _ := k.num
  obtain ⟨p0, p1, p2, p3, p4, -⟩ := k
  obtain ⟨q0, q1, q2, q3, q4, -⟩ := k'
  simp only at s0 s1 s2 s3 s4 s5
  go_region_with
    (first
      | (go_at_call 32; refine (accCopy_any (X i) (o i) _ (H2.out.ps.acc i hi4)).mono ?_; rintro e8 w8 ⟨rfl, ha8, b8, lt8⟩; have H3 : Hid (SS w8 w.heap.size base P X o o ⟨5, I, J, A, B, N⟩) := H2.out.later b8; have KB3 : Hid (Below base w w8) := KB2.out.trans (b8.mono H2.out.ps.base_le); have HA : Hid (AccO w8 w2.heap.size (o i)) := ha8; have KN8 : Hid (∀ z, o i = some z → NumC w8 (.agg #[.bool nb, .slice ao l c, .int .i64 e]) 2240 2560 z) := fun z hz => (KN.out z hz).later b8; have c1 := (b8.cell (p := ⟨P, i * 5 + 1, none⟩) H2.out.ps.lt).trans p1; have c2 := (b8.cell (p := ⟨P, i * 5 + 1 + 1, none⟩) H2.out.ps.lt).trans p2; have c3 := (b8.cell (p := ⟨P, i * 5 + 1 + 2, none⟩) H2.out.ps.lt).trans p3; have c4 := (b8.cell (p := ⟨P, i * 5 + 1 + 3, none⟩) H2.out.ps.lt).trans p4; have d0 := (b8.cell (p := ⟨P, j * 5, none⟩) H2.out.ps.lt).trans q0; have d1 := (b8.cell (p := ⟨P, j * 5 + 1, none⟩) H2.out.ps.lt).trans q1; have d2 := (b8.cell (p := ⟨P, j * 5 + 1 + 1, none⟩) H2.out.ps.lt).trans q2; have d3 := (b8.cell (p := ⟨P, j * 5 + 1 + 2, none⟩) H2.out.ps.lt).trans q3; have d4 := (b8.cell (p := ⟨P, j * 5 + 1 + 3, none⟩) H2.out.ps.lt).trans q4; have fz := H3.out.ps.frz; clear ha8 b8 lt8))
  all_goals
    have H6 : Hid (PS (set5 w8 P (j * 5) (.pointer (some ⟨w2.heap.size, 0, none⟩)) (.bool nb) (.slice ao l c) (.int .i64 e) (.bool (o i).isNone)) base P (updF X j w2.heap.size) (updF o j (o i)) (updF o j (o i))) := H3.out.ps.setAll (x := w2.heap.size) hj4 HA.out H1.out.ps.base_le (fun q => by have : P < w2.heap.size := H1.out.ps.lt; omega) (fun k hk q => by have : X k < w2.heap.size := (H1.out.ps.acc k hk).block; omega) KN8.out
    have g0 : (((((w8.setCell ⟨P, j * 5, none⟩ (.pointer (some ⟨w2.heap.size, 0, none⟩))).setCell ⟨P, j * 5 + 1, none⟩ (.bool nb)).setCell ⟨P, j * 5 + 2, none⟩ (.slice ao l c)).setCell ⟨P, j * 5 + 3, none⟩ (.int .i64 e)).setCell ⟨P, j * 5 + 4, none⟩ (.bool (o i).isNone)).cell? ⟨P, j * 5, none⟩ = some (.pointer (some ⟨w2.heap.size, 0, none⟩)) := by
      obtain ⟨_, _, _, _, _, k⟩ := H6.out.row j hj4
      have := k.c0
      rw [updF_same] at this
      exact this
    have B6 : Hid (Below base w (set5 w8 P (j * 5) (.pointer (some ⟨w2.heap.size, 0, none⟩)) (.bool nb) (.slice ao l c) (.int .i64 e) (.bool (o i).isNone))) := set5_below _ _ _ _ _ _ KB3.out H3.out.ps.geP
    clear s0 s1 s2 s3 s4 s5 p0 p1 p2 p3 p4 q0 q1 q2 q3 q4 KR KR' KN c1 c2 c3 c4 d0 d1 d2 d3 d4 fz
    go_wp2_with fail
    go_ret
    exact ⟨rfl, ⟨_, _, H6.out⟩, B6.out⟩
set_option maxRecDepth 100000 in
set_option maxHeartbeats 2000000 in
theorem step6_any (P base : Nat) (X : Nat → Nat) (o : Nat → Option Int) (I J : Int) (A B : Nat) (N : Int) (hA : A < 18446744073709551616) (hB : B < 18446744073709551616) (w : World) (h : PS w base P X o o) :
    Calls Try.prog 7 #[.pointer (some ⟨P, 0, none⟩), .agg #[.int .i64 6, .int .i64 I, .int .i64 J, .int .u64 (A : Int), .int .u64 (B : Int), .int .i64 N]] w (StepR w base P) := by
  have H1 : Hid (SS _ w.heap.size base P X o o ⟨6, I, J, A, B, N⟩) := (SS.new h ⟨6, I, J, A, B, N⟩).drew
  have KB : Hid (Below base w ((w.alloc (.cells #[.int .i64 6, .int .i64 I, .int .i64 J, .int .u64 (A : Int), .int .u64 (B : Int), .int .i64 N] 38)).drew)) := ((Below.refl _ w).alloc h.base_le _).drew
  obtain ⟨i, hi, hi4⟩ := spot_lt I
  obtain ⟨j, hj, hj4⟩ := spot_lt J
  have SI : ∀ w', Calls Try.prog 25 #[.int .i64 I] w' fun e w'' => e = .returned (.int .i64 (i : Int)) ∧ w'' = w' := fun w' => by rw [← hi]; exact spot_any I w'
  have SJ : ∀ w', Calls Try.prog 25 #[.int .i64 J] w' fun e w'' => e = .returned (.int .i64 (j : Int)) ∧ w'' = w' := fun w' => by rw [← hj]; exact spot_any J w'
  have i0 : (0 : Int) ≤ (i : Int) := by omega
  have i1 : (i : Int) < 4 := by omega
  have j0 : (0 : Int) ≤ (j : Int) := by omega
  have j1 : (j : Int) < 4 := by omega
  clear hi hj h
  go_enter Try.func7, Try.ntmps7
  go_upto_region 1 with fail
  generalize (w.alloc (.cells #[.int .i64 6, .int .i64 I, .int .i64 J, .int .u64 (A : Int), .int .u64 (B : Int), .int .i64 N] 38)) = w1 at H1 KB ⊢
  obtain ⟨s0, s1, s2, s3, s4, s5⟩ := six_cells H1.out.st
  obtain ⟨nb, ao, l, c, e, k⟩ := H1.out.ps.row i hi4
  obtain ⟨nb', ao', l', c', e', k'⟩ := H1.out.ps.row j hj4
  obtain ⟨p0, p1, p2, p3, p4, kn⟩ := k
  obtain ⟨q0, q1, q2, q3, q4, kn'⟩ := k'
  clear kn kn'
  simp only at s0 s1 s2 s3 s4 s5
  go_wp2_with fail
  go_region_held3 (fun w' => w'.cell? ⟨w.heap.size, 0, none⟩ = some (.int .i64 6) ∧ w'.cell? ⟨w.heap.size, 1, none⟩ = some (.int .i64 I) ∧ w'.cell? ⟨w.heap.size, 2, none⟩ = some (.int .i64 J)) (go_keep)
    (first
      | (go_at_call_of 25 (Value.int IntKind.i64 I); refine (SI _).mono ?_; rintro e9 w9 ⟨rfl, rfl⟩)
      | (go_at_call_of 25 (Value.int IntKind.i64 J); refine (SJ _).mono ?_; rintro e9 w9 ⟨rfl, rfl⟩))
  go_wp2_with fail
  clear s0 s1 s2 s3 s4 s5 p0 p1 p2 p3 p4 q0 q1 q2 q3 q4
  generalize w1.drew = w2 at *
  have H2 : Hid (SS w2 w.heap.size base P X o o ⟨6, I, J, A, B, N⟩) := H1.out
  obtain ⟨s0, s1, s2, s3, s4, s5⟩ := six_cells H2.out.st
  obtain ⟨nb, ao, l, c, e, k⟩ := H2.out.ps.row i hi4
  obtain ⟨nb', ao', l', c', e', k'⟩ := H2.out.ps.row j hj4
  have KR : Hid _ := k.ref
  have KR' : Hid _ := k'.ref
  have KN : Hid _ := k.num
  obtain ⟨p0, p1, p2, p3, p4, -⟩ := k
  obtain ⟨q0, q1, q2, q3, q4, -⟩ := k'
  simp only at s0 s1 s2 s3 s4 s5
  go_wp2_with fail
  refine (new_any _).mono ?_
  rintro e8 w8 ⟨rfl, ha8, b8, lt8⟩
  have H3 : Hid (SS w8 w.heap.size base P X o o ⟨6, I, J, A, B, N⟩) := H2.out.later b8
  have KB3 : Hid (Below base w w8) := KB.out.trans (b8.mono H2.out.ps.base_le)
  have HA : Hid (AccO w8 w2.heap.size (some 0)) := ha8
  have c0 := (b8.cell (p := ⟨P, i * 5, none⟩) H2.out.ps.lt).trans p0
  have c1 := (b8.cell (p := ⟨P, i * 5 + 1, none⟩) H2.out.ps.lt).trans p1
  have c2 := (b8.cell (p := ⟨P, i * 5 + 1 + 1, none⟩) H2.out.ps.lt).trans p2
  have c3 := (b8.cell (p := ⟨P, i * 5 + 1 + 2, none⟩) H2.out.ps.lt).trans p3
  have c4 := (b8.cell (p := ⟨P, i * 5 + 1 + 3, none⟩) H2.out.ps.lt).trans p4
  have fz := H3.out.ps.frz
  clear ha8 b8 lt8 s0 s1 s2 s3 s4 s5 p0 p1 p2 p3 p4 q0 q1 q2 q3 q4 KR KR' KN
  go_upto_region 22 with fail
  have H6 : Hid (PS (set5 w8 P (i * 5) (.pointer (some ⟨w2.heap.size, 0, none⟩)) (.bool false) (.slice none 0 0) (.int .i64 0) (.bool false)) base P (updF X i w2.heap.size) (updF o i (some 0)) (updF o i (some 0))) := H3.out.ps.setAll (p := some 0) hi4 HA.out H1.out.ps.base_le (fun q => by have := H1.out.ps.lt; omega) (fun k hk q => by have := (H1.out.ps.acc k hk).block; omega) (fun z hz => by cases hz; exact ⟨false, 0, 0, ⟨none, 0, 0, [], rfl, Rd4.none _, .inl rfl, rfl⟩, by omega, by rw [bl_zero]; omega, zv_zero _ _ _, fun _ => rfl⟩)
  have g0 : (((((w8.setCell ⟨P, i * 5, none⟩ (.pointer (some ⟨w2.heap.size, 0, none⟩))).setCell ⟨P, i * 5 + 1, none⟩ (.bool false)).setCell ⟨P, i * 5 + 2, none⟩ (.slice none 0 0)).setCell ⟨P, i * 5 + 3, none⟩ (.int .i64 0)).setCell ⟨P, i * 5 + 4, none⟩ (.bool false)).cell? ⟨P, i * 5, none⟩ = some (.pointer (some ⟨w2.heap.size, 0, none⟩)) := by
    obtain ⟨_, _, _, _, _, k⟩ := H6.out.row i hi4
    have := k.c0
    rw [updF_same] at this
    exact this
  have B6 : Hid (Below base w (set5 w8 P (i * 5) (.pointer (some ⟨w2.heap.size, 0, none⟩)) (.bool false) (.slice none 0 0) (.int .i64 0) (.bool false))) := set5_below _ _ _ _ _ _ KB3.out H3.out.ps.geP
  clear c0 c1 c2 c3 c4 fz
  go_wp2_with fail
  go_ret
  exact ⟨rfl, ⟨_, _, H6.out⟩, B6.out⟩
set_option maxRecDepth 100000 in
set_option maxHeartbeats 2000000 in
theorem step7_any (P base : Nat) (X : Nat → Nat) (o : Nat → Option Int) (I J : Int) (A B : Nat) (N : Int) (hA : A < 18446744073709551616) (hB : B < 18446744073709551616) (w : World) (h : PS w base P X o o) :
    Calls Try.prog 7 #[.pointer (some ⟨P, 0, none⟩), .agg #[.int .i64 7, .int .i64 I, .int .i64 J, .int .u64 (A : Int), .int .u64 (B : Int), .int .i64 N]] w (StepR w base P) := by
  have H1 : Hid (SS _ w.heap.size base P X o o ⟨7, I, J, A, B, N⟩) := (SS.new h ⟨7, I, J, A, B, N⟩).drew
  have KB : Hid (Below base w ((w.alloc (.cells #[.int .i64 7, .int .i64 I, .int .i64 J, .int .u64 (A : Int), .int .u64 (B : Int), .int .i64 N] 38)).drew)) := ((Below.refl _ w).alloc h.base_le _).drew
  obtain ⟨i, hi, hi4⟩ := spot_lt I
  obtain ⟨j, hj, hj4⟩ := spot_lt J
  have SI : ∀ w', Calls Try.prog 25 #[.int .i64 I] w' fun e w'' => e = .returned (.int .i64 (i : Int)) ∧ w'' = w' := fun w' => by rw [← hi]; exact spot_any I w'
  have SJ : ∀ w', Calls Try.prog 25 #[.int .i64 J] w' fun e w'' => e = .returned (.int .i64 (j : Int)) ∧ w'' = w' := fun w' => by rw [← hj]; exact spot_any J w'
  have i0 : (0 : Int) ≤ (i : Int) := by omega
  have i1 : (i : Int) < 4 := by omega
  have j0 : (0 : Int) ≤ (j : Int) := by omega
  have j1 : (j : Int) < 4 := by omega
  clear hi hj h
  go_enter Try.func7, Try.ntmps7
  go_upto_region 1 with fail
  generalize (w.alloc (.cells #[.int .i64 7, .int .i64 I, .int .i64 J, .int .u64 (A : Int), .int .u64 (B : Int), .int .i64 N] 38)) = w1 at H1 KB ⊢
  obtain ⟨s0, s1, s2, s3, s4, s5⟩ := six_cells H1.out.st
  obtain ⟨nb, ao, l, c, e, k⟩ := H1.out.ps.row i hi4
  obtain ⟨nb', ao', l', c', e', k'⟩ := H1.out.ps.row j hj4
  obtain ⟨p0, p1, p2, p3, p4, kn⟩ := k
  obtain ⟨q0, q1, q2, q3, q4, kn'⟩ := k'
  clear kn kn'
  simp only at s0 s1 s2 s3 s4 s5
  go_wp2_with fail
  go_region_held3 (fun w' => w'.cell? ⟨w.heap.size, 0, none⟩ = some (.int .i64 7) ∧ w'.cell? ⟨w.heap.size, 1, none⟩ = some (.int .i64 I) ∧ w'.cell? ⟨w.heap.size, 2, none⟩ = some (.int .i64 J)) (go_keep)
    (first
      | (go_at_call_of 25 (Value.int IntKind.i64 I); refine (SI _).mono ?_; rintro e9 w9 ⟨rfl, rfl⟩)
      | (go_at_call_of 25 (Value.int IntKind.i64 J); refine (SJ _).mono ?_; rintro e9 w9 ⟨rfl, rfl⟩))
  go_wp2_with fail
  clear s0 s1 s2 s3 s4 s5 p0 p1 p2 p3 p4 q0 q1 q2 q3 q4
  generalize w1.drew = w2 at *
  have hz0 : (FloatKind.f64.format.order 0 0 == some .eq) = true := by decide
  obtain ⟨n1, hn1⟩ : ∃ n1, N % 2 = n1 := ⟨_, rfl⟩
  have hn : bits .and .i64 N 1 = n1 := (p_and1 N).trans hn1
  have H2 : Hid (SS w2 w.heap.size base P X o o ⟨7, I, J, A, B, N⟩) := H1.out
  obtain ⟨s0, s1, s2, s3, s4, s5⟩ := six_cells H2.out.st
  obtain ⟨nb, ao, l, c, e, k⟩ := H2.out.ps.row i hi4
  obtain ⟨nb', ao', l', c', e', k'⟩ := H2.out.ps.row j hj4
  have KR : Hid _ := k.ref
  have KR' : Hid _ := k'.ref
  have KN : Hid _ := k.num
  obtain ⟨p0, p1, p2, p3, p4, -⟩ := k
  obtain ⟨q0, q1, q2, q3, q4, -⟩ := k'
  simp only at s0 s1 s2 s3 s4 s5
  go_wp2_with fail
  refine (accCmp_nil (X i) (o i) _ (H2.out.ps.acc i hi4)).mono ?_
  rintro e7 w7 ⟨rfl, rfl⟩
  go_wp2_with fail
  refine (accOver_nil _ (X i) (o i) _ (H2.out.ps.acc i hi4)).mono ?_
  rintro e7 w6 ⟨rfl, rfl⟩
  have hcs : n1 = 1 ∨ n1 = 0 := by omega
  clear hn1
  rcases hcs with rfl | rfl
  · go_wp2_with fail
    refine (accJoin_nil (X i) (o i) _ _ (H2.out.ps.acc i hi4)).mono ?_
    rintro e8 w8 ⟨rfl, ha8, hc8⟩
    have H3 : Hid (SS w8 w.heap.size base P X _ o ⟨7, I, J, A, B, N⟩) := H2.out.setAcc hi4 hc8 ha8
    have KB3 : Hid (Below base w w8) := H2.out.chgB hi4 KB.out hc8
    clear ha8 hc8 s0 s1 s2 s3 s4 s5 p0 p1 p2 p3 p4 q0 q1 q2 q3 q4 KR KR' KN
    obtain ⟨_, _, _, _, _, k⟩ := H3.out.ps.row i hi4
    obtain ⟨m0, m1, m2, m3, m4, -⟩ := k
    have fz := H3.out.ps.frz
    go_wp2_with fail
    go_ret
    exact ⟨rfl, ⟨X, _, (H3.out.setRow (q := none) (nb := false) (ao := none) (l := 0) (c := 0) (e := 0) hi4 (fun z hz => by cases hz)).ps⟩, set4_below _ _ _ _ _ KB3.out H3.out.ps.geP⟩
  · go_wp2_with fail
    go_ret
    exact ⟨rfl, ⟨X, o, H2.out.ps⟩, KB.out⟩
end Go.Proofs.Ytajopgndpomggaa
