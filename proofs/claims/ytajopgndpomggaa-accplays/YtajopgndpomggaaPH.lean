import Derived.Test.YtajopgndpomggaaPC
import Derived.Test.YtajopgndpomggaaPB
import Derived.Deep.RegionHeld3
namespace Go.Proofs.Ytajopgndpomggaa
open Go.RowKit
set_option linter.unusedVariables false

set_option maxRecDepth 100000 in
set_option maxHeartbeats 2000000 in
theorem step9_any (P base : Nat) (X : Nat → Nat) (o : Nat → Option Int) (kd : Int) (z0 : (kd == 0) = false) (z1 : (kd == 1) = false) (z2 : (kd == 2) = false) (z3 : (kd == 3) = false) (z5 : (kd == 5) = false) (z6 : (kd == 6) = false) (z7 : (kd == 7) = false) (z8 : (kd == 8) = false) (I J : Int) (A B : Nat) (N : Int) (hA : A < 18446744073709551616) (hB : B < 18446744073709551616) (w : World) (h : PS w base P X o o) :
    Calls Try.prog 7 #[.pointer (some ⟨P, 0, none⟩), .agg #[.int .i64 kd, .int .i64 I, .int .i64 J, .int .u64 (A : Int), .int .u64 (B : Int), .int .i64 N]] w (StepR w base P) := by
  have H1 : Hid (SS _ w.heap.size base P X o o ⟨kd, I, J, A, B, N⟩) := (SS.new h ⟨kd, I, J, A, B, N⟩).drew
  have KB : Hid (Below base w ((w.alloc (.cells #[.int .i64 kd, .int .i64 I, .int .i64 J, .int .u64 (A : Int), .int .u64 (B : Int), .int .i64 N] 38)).drew)) := ((Below.refl _ w).alloc h.base_le _).drew
  obtain ⟨i, hi, hi4⟩ := spot_lt I
  obtain ⟨j, hj, hj4⟩ := spot_lt J
  have SI : ∀ w', Calls Try.prog 25 #[.int .i64 I] w' fun e w'' => e = .returned (.int .i64 (i : Int)) ∧ w'' = w' := fun w' => by rw [← hi]; exact spot_any I w'
  have SJ : ∀ w', Calls Try.prog 25 #[.int .i64 J] w' fun e w'' => e = .returned (.int .i64 (j : Int)) ∧ w'' = w' := fun w' => by rw [← hj]; exact spot_any J w'
  have i0 : (0 : Int) ≤ (i : Int) := by omega
  have i1 : (i : Int) < 4 := by omega
  have j0 : (0 : Int) ≤ (j : Int) := by omega
  have j1 : (j : Int) < 4 := by omega
  clear hi hj h
  go_enter Try.func7, Try.ntmps7
  go_upto_region 1 with fail
  generalize (w.alloc (.cells #[.int .i64 kd, .int .i64 I, .int .i64 J, .int .u64 (A : Int), .int .u64 (B : Int), .int .i64 N] 38)) = w1 at H1 KB ⊢
  obtain ⟨s0, s1, s2, s3, s4, s5⟩ := six_cells H1.out.st
  obtain ⟨nb, ao, l, c, e, k⟩ := H1.out.ps.row i hi4
  obtain ⟨nb', ao', l', c', e', k'⟩ := H1.out.ps.row j hj4
  obtain ⟨p0, p1, p2, p3, p4, kn⟩ := k
  obtain ⟨q0, q1, q2, q3, q4, kn'⟩ := k'
  clear kn kn'
  simp only at s0 s1 s2 s3 s4 s5
  go_wp2_with fail
  go_region_held3 (fun w' => w'.cell? ⟨w.heap.size, 0, none⟩ = some (.int .i64 kd) ∧ w'.cell? ⟨w.heap.size, 1, none⟩ = some (.int .i64 I) ∧ w'.cell? ⟨w.heap.size, 2, none⟩ = some (.int .i64 J)) (go_keep)
    (first
      | (go_at_call_of 25 (Value.int IntKind.i64 I); refine (SI _).mono ?_; rintro e9 w9 ⟨rfl, rfl⟩)
      | (go_at_call_of 25 (Value.int IntKind.i64 J); refine (SJ _).mono ?_; rintro e9 w9 ⟨rfl, rfl⟩))
  go_wp2_with fail
  clear s0 s1 s2 s3 s4 s5 p0 p1 p2 p3 p4 q0 q1 q2 q3 q4
  generalize w1.drew = w2 at *
  have H2 : Hid (SS w2.drew w.heap.size base P X o o ⟨kd, I, J, A, B, N⟩) := H1.out.drew
  have KB2 : Hid (Below base w w2.drew) := KB.out.drew
  obtain ⟨s0, s1, s2, s3, s4, s5⟩ := six_cells H2.out.st
  obtain ⟨nb, ao, l, c, e, k⟩ := H2.out.ps.row i hi4
  obtain ⟨nb', ao', l', c', e', k'⟩ := H2.out.ps.row j hj4
  have KR : Hid _ := k.ref
  have KR' : Hid _ := k'.ref
  have KN : Hid _ := k.num
  obtain ⟨p0, p1, p2, p3, p4, -⟩ := k
  obtain ⟨q0, q1, q2, q3, q4, -⟩ := k'
  simp only at s0 s1 s2 s3 s4 s5
  have a0 : w2.drew.cell? ⟨P, i * 5, none⟩ = some (.pointer (some ⟨X i, 0, none⟩)) := p0
  have d0 : w2.drew.cell? ⟨P, j * 5, none⟩ = some (.pointer (some ⟨X j, 0, none⟩)) := q0
  have a1 : w2.drew.cell? ⟨P, i * 5 + 1, none⟩ = some (.bool nb) := p1
  have d1 : w2.drew.cell? ⟨P, j * 5 + 1, none⟩ = some (.bool nb') := q1
  have a2 : w2.drew.cell? ⟨P, i * 5 + 2, none⟩ = some (.slice ao l c) := p2
  have d2 : w2.drew.cell? ⟨P, j * 5 + 2, none⟩ = some (.slice ao' l' c') := q2
  have a3 : w2.drew.cell? ⟨P, i * 5 + 3, none⟩ = some (.int .i64 e) := p3
  have d3 : w2.drew.cell? ⟨P, j * 5 + 3, none⟩ = some (.int .i64 e') := q3
  have a4 : w2.drew.cell? ⟨P, i * 5 + 4, none⟩ = some (.bool (o i).isNone) := p4
  have d4 : w2.drew.cell? ⟨P, j * 5 + 4, none⟩ = some (.bool (o j).isNone) := q4
  clear p0 p1 p2 p3 p4 q0 q1 q2 q3 q4
  go_region_held3 (fun w' => w'.cell? ⟨P, i * 5, none⟩ = some (.pointer (some ⟨X i, 0, none⟩)) ∧ w'.cell? ⟨P, i * 5 + 1, none⟩ = some (.bool nb) ∧ w'.cell? ⟨P, i * 5 + 2, none⟩ = some (.slice ao l c) ∧ w'.cell? ⟨P, i * 5 + 3, none⟩ = some (.int .i64 e) ∧ w'.cell? ⟨P, i * 5 + 4, none⟩ = some (.bool (o i).isNone) ∧ w'.cell? ⟨P, j * 5, none⟩ = some (.pointer (some ⟨X j, 0, none⟩)) ∧ w'.cell? ⟨P, j * 5 + 1, none⟩ = some (.bool nb') ∧ w'.cell? ⟨P, j * 5 + 2, none⟩ = some (.slice ao' l' c') ∧ w'.cell? ⟨P, j * 5 + 3, none⟩ = some (.int .i64 e') ∧ w'.cell? ⟨P, j * 5 + 4, none⟩ = some (.bool (o j).isNone) ∧ w'.cell? ⟨w.heap.size, 5, none⟩ = some (.int .i64 N)) (go_keep)
    (first
      | (go_at_call 8; refine (asks_any (X i) (X j) (o i) (o j) nb nb' ao ao' l c l' c' e e' N _ (H2.out.ps.acc i hi4) (H2.out.ps.acc j hj4) KR.out KR'.out).mono ?_; rintro e8 w8 ⟨rfl, b8⟩; have H3 : Hid (SS w8 w.heap.size base P X o o ⟨kd, I, J, A, B, N⟩) := H2.out.later b8; have KB3 : Hid (Below base w w8) := KB2.out.trans (b8.mono H2.out.ps.base_le); have u0 := (b8.cell (p := ⟨P, i * 5, none⟩) H2.out.ps.lt).trans a0; have u1 := (b8.cell (p := ⟨P, i * 5 + 1, none⟩) H2.out.ps.lt).trans a1; have u2 := (b8.cell (p := ⟨P, i * 5 + 2, none⟩) H2.out.ps.lt).trans a2; have u3 := (b8.cell (p := ⟨P, i * 5 + 3, none⟩) H2.out.ps.lt).trans a3; have u4 := (b8.cell (p := ⟨P, i * 5 + 4, none⟩) H2.out.ps.lt).trans a4; have v0 := (b8.cell (p := ⟨P, j * 5, none⟩) H2.out.ps.lt).trans d0; have v1 := (b8.cell (p := ⟨P, j * 5 + 1, none⟩) H2.out.ps.lt).trans d1; have v2 := (b8.cell (p := ⟨P, j * 5 + 2, none⟩) H2.out.ps.lt).trans d2; have v3 := (b8.cell (p := ⟨P, j * 5 + 3, none⟩) H2.out.ps.lt).trans d3; have v4 := (b8.cell (p := ⟨P, j * 5 + 4, none⟩) H2.out.ps.lt).trans d4; have t5 := (b8.cell (p := ⟨w.heap.size, 5, none⟩) H2.out.blt).trans s5; clear b8))
  go_wp2_with fail
  go_ret
  exact ⟨rfl, ⟨X, o, H3.out.ps⟩, KB3.out⟩
end Go.Proofs.Ytajopgndpomggaa
