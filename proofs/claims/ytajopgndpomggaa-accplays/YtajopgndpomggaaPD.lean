import Derived.Test.YtajopgndpomggaaPC
import Derived.Deep.RegionHeld3
namespace Go.Proofs.Ytajopgndpomggaa
open Go.RowKit
set_option linter.unusedVariables false

set_option maxRecDepth 100000 in
set_option maxHeartbeats 2000000 in
theorem step0_any (P base : Nat) (X : Nat → Nat) (o : Nat → Option Int) (I J : Int) (A B : Nat) (N : Int) (hA : A < 18446744073709551616) (hB : B < 18446744073709551616) (w : World) (h : PS w base P X o o) :
    Calls Try.prog 7 #[.pointer (some ⟨P, 0, none⟩), .agg #[.int .i64 0, .int .i64 I, .int .i64 J, .int .u64 (A : Int), .int .u64 (B : Int), .int .i64 N]] w (StepR w base P) := by
  have H1 : Hid (SS _ w.heap.size base P X o o ⟨0, I, J, A, B, N⟩) := (SS.new h ⟨0, I, J, A, B, N⟩).drew
  have KB : Hid (Below base w ((w.alloc (.cells #[.int .i64 0, .int .i64 I, .int .i64 J, .int .u64 (A : Int), .int .u64 (B : Int), .int .i64 N] 38)).drew)) := ((Below.refl _ w).alloc h.base_le _).drew
  obtain ⟨i, hi, hi4⟩ := spot_lt I
  obtain ⟨j, hj, hj4⟩ := spot_lt J
  have SI : ∀ w', Calls Try.prog 25 #[.int .i64 I] w' fun e w'' => e = .returned (.int .i64 (i : Int)) ∧ w'' = w' := fun w' => by rw [← hi]; exact spot_any I w'
  have SJ : ∀ w', Calls Try.prog 25 #[.int .i64 J] w' fun e w'' => e = .returned (.int .i64 (j : Int)) ∧ w'' = w' := fun w' => by rw [← hj]; exact spot_any J w'
  have i0 : (0 : Int) ≤ (i : Int) := by omega
  have i1 : (i : Int) < 4 := by omega
  have j0 : (0 : Int) ≤ (j : Int) := by omega
  have j1 : (j : Int) < 4 := by omega
  clear hi hj h
  go_enter Try.func7, Try.ntmps7
  go_upto_region 1 with fail
  generalize (w.alloc (.cells #[.int .i64 0, .int .i64 I, .int .i64 J, .int .u64 (A : Int), .int .u64 (B : Int), .int .i64 N] 38)) = w1 at H1 KB ⊢
  obtain ⟨s0, s1, s2, s3, s4, s5⟩ := six_cells H1.out.st
  obtain ⟨nb, ao, l, c, e, k⟩ := H1.out.ps.row i hi4
  obtain ⟨nb', ao', l', c', e', k'⟩ := H1.out.ps.row j hj4
  obtain ⟨p0, p1, p2, p3, p4, kn⟩ := k
  obtain ⟨q0, q1, q2, q3, q4, kn'⟩ := k'
  clear kn kn'
  simp only at s0 s1 s2 s3 s4 s5
  go_wp2_with fail
  go_region_held3 (fun w' => w'.cell? ⟨w.heap.size, 0, none⟩ = some (.int .i64 0) ∧ w'.cell? ⟨w.heap.size, 1, none⟩ = some (.int .i64 I) ∧ w'.cell? ⟨w.heap.size, 2, none⟩ = some (.int .i64 J)) (go_keep)
    (first
      | (go_at_call_of 25 (Value.int IntKind.i64 I); refine (SI _).mono ?_; rintro e9 w9 ⟨rfl, rfl⟩)
      | (go_at_call_of 25 (Value.int IntKind.i64 J); refine (SJ _).mono ?_; rintro e9 w9 ⟨rfl, rfl⟩))
  go_wp2_with fail
  clear s0 s1 s2 s3 s4 s5 p0 p1 p2 p3 p4 q0 q1 q2 q3 q4
  generalize w1.drew = w2 at *
  have H2 : Hid (SS w2.drew w.heap.size base P X o o ⟨0, I, J, A, B, N⟩) := H1.out.drew
  have KB2 : Hid (Below base w w2.drew) := KB.out.drew
  obtain ⟨s0, s1, s2, s3, s4, s5⟩ := six_cells H2.out.st
  obtain ⟨nb, ao, l, c, e, k⟩ := H2.out.ps.row i hi4
  obtain ⟨nb', ao', l', c', e', k'⟩ := H2.out.ps.row j hj4
  have KR : Hid _ := k.ref
  have KR' : Hid _ := k'.ref
  have KN : Hid _ := k.num
  obtain ⟨p0, p1, p2, p3, p4, -⟩ := k
  obtain ⟨q0, q1, q2, q3, q4, -⟩ := k'
  simp only at s0 s1 s2 s3 s4 s5
  go_region_held3 (fun w' => w'.cell? ⟨P, i * 5, none⟩ = some (.pointer (some ⟨X i, 0, none⟩)) ∧ w'.cell? ⟨w.heap.size, 3, none⟩ = some (.int .u64 (A : Int))) (go_keep)
    (first
      | (go_at_call 18; refine (float_int _ _).mono ?_; rintro e9 w9 ⟨rfl, rfl⟩)
      | (go_at_call 26; refine (accAdd_any (X i) (o i) A hA _ (H2.out.ps.acc i hi4)).mono ?_; rintro e8 w8 ⟨rfl, ha8, hc8⟩; have H3 : Hid (SS w8 w.heap.size base P X _ o ⟨0, I, J, A, B, N⟩) := H2.out.setAcc hi4 hc8 ha8; have KB3 : Hid (Below base w w8) := H2.out.chgB hi4 KB2.out hc8; clear ha8 hc8; obtain ⟨t0, t1, t2, t3, t4, t5⟩ := six_cells H3.out.st; obtain ⟨_, _, _, _, _, k⟩ := H3.out.ps.row i hi4; have k0 := k.c0; clear k; obtain ⟨_, _, _, _, _, k⟩ := H3.out.ps.row j hj4; have k0' := k.c0; clear k))
  clear s0 s1 s2 s3 s4 s5 p0 p1 p2 p3 p4 q0 q1 q2 q3 q4 KR KR' KN
  clear t0 t1 t2 t3 t4 t5 k0 k0'
  go_wp2_with fail
  have H4 : Hid (SS w8.drew w.heap.size base P X _ o ⟨0, I, J, A, B, N⟩) := H3.out.drew
  have KB4 : Hid (Below base w w8.drew) := KB3.out.drew
  obtain ⟨s0, s1, s2, s3, s4, s5⟩ := six_cells H4.out.st
  obtain ⟨nb, ao, l, c, e, k⟩ := H4.out.ps.row i hi4
  obtain ⟨nb', ao', l', c', e', k'⟩ := H4.out.ps.row j hj4
  have KR : Hid _ := k.ref
  have KR' : Hid _ := k'.ref
  have KN : Hid _ := k.num
  obtain ⟨p0, p1, p2, p3, p4, -⟩ := k
  obtain ⟨q0, q1, q2, q3, q4, -⟩ := k'
  simp only at s0 s1 s2 s3 s4 s5
  go_region_with
    (first
      | (go_at_call 27; refine (refAdd3_any _ (o i) A hA _ KR.out).mono ?_; rintro e9 w9 ⟨v9, rfl, ⟨n9, a9, l9, c9, x9, rfl, z9⟩, b9⟩; have H5 : Hid (SS w9 w.heap.size base P X _ o ⟨0, I, J, A, B, N⟩) := H4.out.later b9; have KB5 : Hid (Below base w w9) := KB4.out.trans (b9.mono H4.out.ps.base_le); have Z9 : Hid _ := z9; clear b9 z9; obtain ⟨_, _, _, _, _, k⟩ := H5.out.ps.row i hi4; obtain ⟨_, m1, m2, m3, m4, -⟩ := k; have fz := H5.out.ps.frz))
  all_goals go_wp2_with fail
  all_goals go_ret
  all_goals exact ⟨rfl, ⟨X, _, (H5.out.setRow hi4 Z9.out).ps⟩, set4_below _ _ _ _ _ KB5.out H5.out.ps.geP⟩
set_option maxRecDepth 100000 in
set_option maxHeartbeats 2000000 in
theorem step2_any (P base : Nat) (X : Nat → Nat) (o : Nat → Option Int) (I J : Int) (A B : Nat) (N : Int) (hA : A < 18446744073709551616) (hB : B < 18446744073709551616) (w : World) (h : PS w base P X o o) :
    Calls Try.prog 7 #[.pointer (some ⟨P, 0, none⟩), .agg #[.int .i64 2, .int .i64 I, .int .i64 J, .int .u64 (A : Int), .int .u64 (B : Int), .int .i64 N]] w (StepR w base P) := by
  have H1 : Hid (SS _ w.heap.size base P X o o ⟨2, I, J, A, B, N⟩) := (SS.new h ⟨2, I, J, A, B, N⟩).drew
  have KB : Hid (Below base w ((w.alloc (.cells #[.int .i64 2, .int .i64 I, .int .i64 J, .int .u64 (A : Int), .int .u64 (B : Int), .int .i64 N] 38)).drew)) := ((Below.refl _ w).alloc h.base_le _).drew
  obtain ⟨i, hi, hi4⟩ := spot_lt I
  obtain ⟨j, hj, hj4⟩ := spot_lt J
  have SI : ∀ w', Calls Try.prog 25 #[.int .i64 I] w' fun e w'' => e = .returned (.int .i64 (i : Int)) ∧ w'' = w' := fun w' => by rw [← hi]; exact spot_any I w'
  have SJ : ∀ w', Calls Try.prog 25 #[.int .i64 J] w' fun e w'' => e = .returned (.int .i64 (j : Int)) ∧ w'' = w' := fun w' => by rw [← hj]; exact spot_any J w'
  have i0 : (0 : Int) ≤ (i : Int) := by omega
  have i1 : (i : Int) < 4 := by omega
  have j0 : (0 : Int) ≤ (j : Int) := by omega
  have j1 : (j : Int) < 4 := by omega
  clear hi hj h
  go_enter Try.func7, Try.ntmps7
  go_upto_region 1 with fail
  generalize (w.alloc (.cells #[.int .i64 2, .int .i64 I, .int .i64 J, .int .u64 (A : Int), .int .u64 (B : Int), .int .i64 N] 38)) = w1 at H1 KB ⊢
  obtain ⟨s0, s1, s2, s3, s4, s5⟩ := six_cells H1.out.st
  obtain ⟨nb, ao, l, c, e, k⟩ := H1.out.ps.row i hi4
  obtain ⟨nb', ao', l', c', e', k'⟩ := H1.out.ps.row j hj4
  obtain ⟨p0, p1, p2, p3, p4, kn⟩ := k
  obtain ⟨q0, q1, q2, q3, q4, kn'⟩ := k'
  clear kn kn'
  simp only at s0 s1 s2 s3 s4 s5
  go_wp2_with fail
  go_region_held3 (fun w' => w'.cell? ⟨w.heap.size, 0, none⟩ = some (.int .i64 2) ∧ w'.cell? ⟨w.heap.size, 1, none⟩ = some (.int .i64 I) ∧ w'.cell? ⟨w.heap.size, 2, none⟩ = some (.int .i64 J)) (go_keep)
    (first
      | (go_at_call_of 25 (Value.int IntKind.i64 I); refine (SI _).mono ?_; rintro e9 w9 ⟨rfl, rfl⟩)
      | (go_at_call_of 25 (Value.int IntKind.i64 J); refine (SJ _).mono ?_; rintro e9 w9 ⟨rfl, rfl⟩))
  go_wp2_with fail
  clear s0 s1 s2 s3 s4 s5 p0 p1 p2 p3 p4 q0 q1 q2 q3 q4
  generalize w1.drew = w2 at *
  have H2 : Hid (SS w2.drew w.heap.size base P X o o ⟨2, I, J, A, B, N⟩) := H1.out.drew
  have KB2 : Hid (Below base w w2.drew) := KB.out.drew
  obtain ⟨s0, s1, s2, s3, s4, s5⟩ := six_cells H2.out.st
  obtain ⟨nb, ao, l, c, e, k⟩ := H2.out.ps.row i hi4
  obtain ⟨nb', ao', l', c', e', k'⟩ := H2.out.ps.row j hj4
  have KR : Hid _ := k.ref
  have KR' : Hid _ := k'.ref
  have KN : Hid _ := k.num
  obtain ⟨p0, p1, p2, p3, p4, -⟩ := k
  obtain ⟨q0, q1, q2, q3, q4, -⟩ := k'
  simp only at s0 s1 s2 s3 s4 s5
  go_region_held3 (fun w' => w'.cell? ⟨P, i * 5, none⟩ = some (.pointer (some ⟨X i, 0, none⟩)) ∧ w'.cell? ⟨P, j * 5, none⟩ = some (.pointer (some ⟨X j, 0, none⟩)) ∧ w'.cell? ⟨w.heap.size, 5, none⟩ = some (.int .i64 N)) (go_keep)
    (first
      | (go_at_call 29; refine (accJoin_any (X i) (X j) (o i) (o j) _ _ (H2.out.ps.acc i hi4) (H2.out.ps.acc j hj4)).mono ?_; rintro e8 w8 ⟨rfl, ha8, hc8⟩; have H3 : Hid (SS w8 w.heap.size base P X _ o ⟨2, I, J, A, B, N⟩) := H2.out.setAcc hi4 hc8 ha8; have KB3 : Hid (Below base w w8) := H2.out.chgB hi4 KB2.out hc8; clear ha8 hc8; obtain ⟨t0, t1, t2, t3, t4, t5⟩ := six_cells H3.out.st; obtain ⟨_, _, _, _, _, k⟩ := H3.out.ps.row i hi4; have k0 := k.c0; clear k; obtain ⟨_, _, _, _, _, k⟩ := H3.out.ps.row j hj4; have k0' := k.c0; clear k))
  clear s0 s1 s2 s3 s4 s5 p0 p1 p2 p3 p4 q0 q1 q2 q3 q4 KR KR' KN
  clear t0 t1 t2 t3 t4 t5 k0 k0'
  go_wp2_with fail
  have H4 : Hid (SS w8.drew w.heap.size base P X _ o ⟨2, I, J, A, B, N⟩) := H3.out.drew
  have KB4 : Hid (Below base w w8.drew) := KB3.out.drew
  obtain ⟨s0, s1, s2, s3, s4, s5⟩ := six_cells H4.out.st
  obtain ⟨nb, ao, l, c, e, k⟩ := H4.out.ps.row i hi4
  obtain ⟨nb', ao', l', c', e', k'⟩ := H4.out.ps.row j hj4
  have KR : Hid _ := k.ref
  have KR' : Hid _ := k'.ref
  have KN : Hid _ := k.num
  obtain ⟨p0, p1, p2, p3, p4, -⟩ := k
  obtain ⟨q0, q1, q2, q3, q4, -⟩ := k'
  simp only at s0 s1 s2 s3 s4 s5
  go_region_with
    (first
      | (go_at_call 30; refine (refJoin3_any _ _ (o i) (o j) _ _ KR.out KR'.out).mono ?_; rintro e9 w9 ⟨v9, rfl, ⟨n9, a9, l9, c9, x9, rfl, z9⟩, b9⟩; have H5 : Hid (SS w9 w.heap.size base P X _ o ⟨2, I, J, A, B, N⟩) := H4.out.later b9; have KB5 : Hid (Below base w w9) := KB4.out.trans (b9.mono H4.out.ps.base_le); have Z9 : Hid _ := z9; clear b9 z9; obtain ⟨_, _, _, _, _, k⟩ := H5.out.ps.row i hi4; obtain ⟨_, m1, m2, m3, m4, -⟩ := k; have fz := H5.out.ps.frz))
  all_goals go_wp2_with fail
  all_goals go_ret
  all_goals exact ⟨rfl, ⟨X, _, (H5.out.setRow hi4 Z9.out).ps⟩, set4_below _ _ _ _ _ KB5.out H5.out.ps.geP⟩
set_option maxRecDepth 100000 in
set_option maxHeartbeats 2000000 in
theorem step3_any (P base : Nat) (X : Nat → Nat) (o : Nat → Option Int) (I J : Int) (A B : Nat) (N : Int) (hA : A < 18446744073709551616) (hB : B < 18446744073709551616) (w : World) (h : PS w base P X o o) :
    Calls Try.prog 7 #[.pointer (some ⟨P, 0, none⟩), .agg #[.int .i64 3, .int .i64 I, .int .i64 J, .int .u64 (A : Int), .int .u64 (B : Int), .int .i64 N]] w (StepR w base P) := by
  have H1 : Hid (SS _ w.heap.size base P X o o ⟨3, I, J, A, B, N⟩) := (SS.new h ⟨3, I, J, A, B, N⟩).drew
  have KB : Hid (Below base w ((w.alloc (.cells #[.int .i64 3, .int .i64 I, .int .i64 J, .int .u64 (A : Int), .int .u64 (B : Int), .int .i64 N] 38)).drew)) := ((Below.refl _ w).alloc h.base_le _).drew
  obtain ⟨i, hi, hi4⟩ := spot_lt I
  obtain ⟨j, hj, hj4⟩ := spot_lt J
  have SI : ∀ w', Calls Try.prog 25 #[.int .i64 I] w' fun e w'' => e = .returned (.int .i64 (i : Int)) ∧ w'' = w' := fun w' => by rw [← hi]; exact spot_any I w'
  have SJ : ∀ w', Calls Try.prog 25 #[.int .i64 J] w' fun e w'' => e = .returned (.int .i64 (j : Int)) ∧ w'' = w' := fun w' => by rw [← hj]; exact spot_any J w'
  have i0 : (0 : Int) ≤ (i : Int) := by omega
  have i1 : (i : Int) < 4 := by omega
  have j0 : (0 : Int) ≤ (j : Int) := by omega
  have j1 : (j : Int) < 4 := by omega
  clear hi hj h
  go_enter Try.func7, Try.ntmps7
  go_upto_region 1 with fail
  generalize (w.alloc (.cells #[.int .i64 3, .int .i64 I, .int .i64 J, .int .u64 (A : Int), .int .u64 (B : Int), .int .i64 N] 38)) = w1 at H1 KB ⊢
  obtain ⟨s0, s1, s2, s3, s4, s5⟩ := six_cells H1.out.st
  obtain ⟨nb, ao, l, c, e, k⟩ := H1.out.ps.row i hi4
  obtain ⟨nb', ao', l', c', e', k'⟩ := H1.out.ps.row j hj4
  obtain ⟨p0, p1, p2, p3, p4, kn⟩ := k
  obtain ⟨q0, q1, q2, q3, q4, kn'⟩ := k'
  clear kn kn'
  simp only at s0 s1 s2 s3 s4 s5
  go_wp2_with fail
  go_region_held3 (fun w' => w'.cell? ⟨w.heap.size, 0, none⟩ = some (.int .i64 3) ∧ w'.cell? ⟨w.heap.size, 1, none⟩ = some (.int .i64 I) ∧ w'.cell? ⟨w.heap.size, 2, none⟩ = some (.int .i64 J)) (go_keep)
    (first
      | (go_at_call_of 25 (Value.int IntKind.i64 I); refine (SI _).mono ?_; rintro e9 w9 ⟨rfl, rfl⟩)
      | (go_at_call_of 25 (Value.int IntKind.i64 J); refine (SJ _).mono ?_; rintro e9 w9 ⟨rfl, rfl⟩))
  go_wp2_with fail
  clear s0 s1 s2 s3 s4 s5 p0 p1 p2 p3 p4 q0 q1 q2 q3 q4
  generalize w1.drew = w2 at *
  have H2 : Hid (SS w2 w.heap.size base P X o o ⟨3, I, J, A, B, N⟩) := H1.out
  have KB2 : Hid (Below base w w2) := KB.out
  obtain ⟨s0, s1, s2, s3, s4, s5⟩ := six_cells H2.out.st
  obtain ⟨nb, ao, l, c, e, k⟩ := H2.out.ps.row i hi4
  obtain ⟨nb', ao', l', c', e', k'⟩ := H2.out.ps.row j hj4
  have KR : Hid _ := k.ref
  have KR' : Hid _ := k'.ref
  have KN : Hid _ := k.num
  obtain ⟨p0, p1, p2, p3, p4, -⟩ := k
  obtain ⟨q0, q1, q2, q3, q4, -⟩ := k'
  simp only at s0 s1 s2 s3 s4 s5
  go_wp2_with fail
  refine (accAbs_any (X i) (o i) _ (H2.out.ps.acc i hi4)).mono ?_
  rintro e8 w8 ⟨rfl, ha8, hc8⟩; have H3 : Hid (SS w8 w.heap.size base P X _ o ⟨3, I, J, A, B, N⟩) := H2.out.setAcc hi4 hc8 ha8; have KB3 : Hid (Below base w w8) := H2.out.chgB hi4 KB2.out hc8; clear ha8 hc8
  clear s0 s1 s2 s3 s4 s5 p0 p1 p2 p3 p4 q0 q1 q2 q3 q4 KR KR' KN
  have H4 : Hid (SS w8 w.heap.size base P X _ o ⟨3, I, J, A, B, N⟩) := H3.out
  have KB4 : Hid (Below base w w8) := KB3.out
  obtain ⟨s0, s1, s2, s3, s4, s5⟩ := six_cells H4.out.st
  obtain ⟨nb, ao, l, c, e, k⟩ := H4.out.ps.row i hi4
  obtain ⟨nb', ao', l', c', e', k'⟩ := H4.out.ps.row j hj4
  have KR : Hid _ := k.ref
  have KR' : Hid _ := k'.ref
  have KN : Hid _ := k.num
  obtain ⟨p0, p1, p2, p3, p4, -⟩ := k
  obtain ⟨q0, q1, q2, q3, q4, -⟩ := k'
  simp only at s0 s1 s2 s3 s4 s5
  go_wp2_with fail
  refine (refAbs3_any _ (o i) _ KR.out).mono ?_
  rintro e9 w9 ⟨v9, rfl, ⟨n9, a9, l9, c9, x9, rfl, z9⟩, b9⟩; have H5 : Hid (SS w9 w.heap.size base P X _ o ⟨3, I, J, A, B, N⟩) := H4.out.later b9; have KB5 : Hid (Below base w w9) := KB4.out.trans (b9.mono H4.out.ps.base_le); have Z9 : Hid _ := z9; clear b9 z9; obtain ⟨_, _, _, _, _, k⟩ := H5.out.ps.row i hi4; obtain ⟨_, m1, m2, m3, m4, -⟩ := k; have fz := H5.out.ps.frz
  all_goals go_wp2_with fail
  all_goals go_ret
  all_goals exact ⟨rfl, ⟨X, _, (H5.out.setRow hi4 Z9.out).ps⟩, set4_below _ _ _ _ _ KB5.out H5.out.ps.geP⟩
end Go.Proofs.Ytajopgndpomggaa
