import Derived.Test.YtgjdmenmegnacaaSA
namespace Go.Proofs.Ytgjdmenmegnacaa
open Go.RowKit
set_option linter.unusedVariables false

/-- What the reference tells of a call. -/
def RefRes (ok : Prop) (d z : Int) (D : Nat) (w : World) (e' : Ending) (w' : World) : Prop := ∃ (p : Nat) (b : Bool), e' = .returned (.tuple #[.int .u64 (p : Int), .bool b]) ∧ (ok → RndZ d z D (p, b)) ∧ (¬ ok → (p, b) = (0, false)) ∧ Below w.heap.size w w'
set_option maxRecDepth 100000 in
set_option maxHeartbeats 1000000 in
theorem refAdd_any (d : Int) (a b : Nat) (ha : a < 18446744073709551616) (hb : b < 18446744073709551616) (hd0 : -9223372036854775808 ≤ d) (hd1 : d ≤ 9223372036854775807) (w : World) (E : Nat) (hE : E = 1074) :
    Calls Try.prog 23 #[.int .i64 d, .int .u64 a, .int .u64 b] w fun e' w' => RefRes (Fin a ∧ Fin b) d (fval a + fval b) 1 w e' w' := by
  go_enter Try.func23, Try.ntmps23
  go_wp2_with fail
  refine (two_any a b ha hb _ E hE).mono ?_
  rintro e1 w1 ⟨v1, v2, rfl, ⟨z1, hz1, hf1⟩, ⟨z2, hz2, hf2⟩, hb1⟩
  have Z1 : Hid (NumZ w1 v1 E 1024 z1) := hz1
  have Z2 : Hid (NumZ w1 v2 E 1024 z2) := hz2
  have F1 : Hid (Fin a → z1 = fval a) := hf1
  have F2 : Hid (Fin b → z2 = fval b) := hf2
  obtain ⟨nx, mx, ex, ⟨ao, len, cap, xs, rfl, -⟩, -⟩ := hz1
  obtain ⟨ny, my, ey, ⟨bo, blen, bcap, ys, rfl, -⟩, -⟩ := hz2
  have hba := ((Below.refl w1.heap.size w1).alloc (Nat.le_refl _) (Obj.cells #[Value.bool nx, Value.slice ao len cap, Value.int IntKind.i64 ex] 55)).alloc (by simp) (Obj.cells #[Value.bool ny, Value.slice bo blen bcap, Value.int IntKind.i64 ey] 55)
  have HBA : Hid (Below w.heap.size w ((w1.alloc (Obj.cells #[Value.bool nx, Value.slice ao len cap, Value.int IntKind.i64 ex] 55)).alloc (Obj.cells #[Value.bool ny, Value.slice bo blen bcap, Value.int IntKind.i64 ey] 55))) := hb1.trans (hba.mono hb1.size)
  have ZA : Hid (NumZ ((w1.alloc (Obj.cells #[Value.bool nx, Value.slice ao len cap, Value.int IntKind.i64 ex] 55)).alloc (Obj.cells #[Value.bool ny, Value.slice bo blen bcap, Value.int IntKind.i64 ey] 55)) _ E 1024 z1) := NumZ.later Z1.out hba
  have ZB : Hid (NumZ ((w1.alloc (Obj.cells #[Value.bool nx, Value.slice ao len cap, Value.int IntKind.i64 ex] 55)).alloc (Obj.cells #[Value.bool ny, Value.slice bo blen bcap, Value.int IntKind.i64 ey] 55)) _ E 1024 z2) := NumZ.later Z2.out hba
  clear hb1 hf1 hf2 hba
  by_cases hf : Fin a ∧ Fin b
  · have hdf : decide (Fin a ∧ Fin b) = true := decide_eq_true hf
    rw [hdf]
    go_wp2_with fail
    refine (plusZ_any _ _ E 1024 z1 z2 _ ZA.out ZB.out (by omega) (by omega)).mono ?_
    rintro e2 w2 ⟨v3, rfl, hz3, hb2⟩
    have Z3 : Hid (NumZ w2 v3 E 1025 (z1 + z2)) := hz3
    have HB2 : Hid (Below w.heap.size w w2) := HBA.out.trans (hb2.mono HBA.out.size)
    clear hz3 hb2
    go_wp2_with fail
    refine (roundZ_any d v3 (E) 0 1025 _ _ Z3.out E hE rfl (by omega) (by omega) hd0 hd1).mono ?_
    rintro e3 w3 ⟨p, q, rfl, hR, hb3⟩
    have HR : Hid (RndZ d (z1 + z2) (2 ^ 0) (p, q)) := hR
    have HB3 : Hid (Below w.heap.size w w3) := HB2.out.trans (hb3.mono HB2.out.size)
    clear hR hb3
    go_wp2_with fail
    go_ret2
    refine ⟨p, q, rfl, fun _ => ?_, fun h => absurd hf h, HB3.out⟩
    have h := HR.out
    rw [F1.out hf.1, F2.out hf.2] at h
    exact h
  · have hdf : decide (Fin a ∧ Fin b) = false := decide_eq_false hf
    rw [hdf]
    go_wp2_with fail
    go_ret2
    exact ⟨0, false, rfl, fun h => absurd h hf, fun _ => rfl, HBA.out⟩
set_option maxRecDepth 100000 in
set_option maxHeartbeats 1000000 in
theorem refSub_any (d : Int) (a b : Nat) (ha : a < 18446744073709551616) (hb : b < 18446744073709551616) (hd0 : -9223372036854775808 ≤ d) (hd1 : d ≤ 9223372036854775807) (w : World) (E : Nat) (hE : E = 1074) :
    Calls Try.prog 25 #[.int .i64 d, .int .u64 a, .int .u64 b] w fun e' w' => RefRes (Fin a ∧ Fin b) d (fval a - fval b) 1 w e' w' := by
  go_enter Try.func25, Try.ntmps25
  go_wp2_with fail
  refine (two_any a b ha hb _ E hE).mono ?_
  rintro e1 w1 ⟨v1, v2, rfl, ⟨z1, hz1, hf1⟩, ⟨z2, hz2, hf2⟩, hb1⟩
  have Z1 : Hid (NumZ w1 v1 E 1024 z1) := hz1
  have Z2 : Hid (NumZ w1 v2 E 1024 z2) := hz2
  have F1 : Hid (Fin a → z1 = fval a) := hf1
  have F2 : Hid (Fin b → z2 = fval b) := hf2
  obtain ⟨nx, mx, ex, ⟨ao, len, cap, xs, rfl, -⟩, -⟩ := hz1
  obtain ⟨ny, my, ey, ⟨bo, blen, bcap, ys, rfl, -⟩, -⟩ := hz2
  have hba := ((Below.refl w1.heap.size w1).alloc (Nat.le_refl _) (Obj.cells #[Value.bool nx, Value.slice ao len cap, Value.int IntKind.i64 ex] 55)).alloc (by simp) (Obj.cells #[Value.bool ny, Value.slice bo blen bcap, Value.int IntKind.i64 ey] 55)
  have HBA : Hid (Below w.heap.size w ((w1.alloc (Obj.cells #[Value.bool nx, Value.slice ao len cap, Value.int IntKind.i64 ex] 55)).alloc (Obj.cells #[Value.bool ny, Value.slice bo blen bcap, Value.int IntKind.i64 ey] 55))) := hb1.trans (hba.mono hb1.size)
  have ZA : Hid (NumZ ((w1.alloc (Obj.cells #[Value.bool nx, Value.slice ao len cap, Value.int IntKind.i64 ex] 55)).alloc (Obj.cells #[Value.bool ny, Value.slice bo blen bcap, Value.int IntKind.i64 ey] 55)) _ E 1024 z1) := NumZ.later Z1.out hba
  have ZB : Hid (NumZ ((w1.alloc (Obj.cells #[Value.bool nx, Value.slice ao len cap, Value.int IntKind.i64 ex] 55)).alloc (Obj.cells #[Value.bool ny, Value.slice bo blen bcap, Value.int IntKind.i64 ey] 55)) _ E 1024 z2) := NumZ.later Z2.out hba
  clear hb1 hf1 hf2 hba
  by_cases hf : Fin a ∧ Fin b
  · have hdf : decide (Fin a ∧ Fin b) = true := decide_eq_true hf
    rw [hdf]
    go_wp2_with fail
    refine (minusZ_any _ _ E 1024 z1 z2 _ ZA.out ZB.out (by omega) (by omega)).mono ?_
    rintro e2 w2 ⟨v3, rfl, hz3, hb2⟩
    have Z3 : Hid (NumZ w2 v3 E 1025 (z1 - z2)) := hz3
    have HB2 : Hid (Below w.heap.size w w2) := HBA.out.trans (hb2.mono HBA.out.size)
    clear hz3 hb2
    go_wp2_with fail
    refine (roundZ_any d v3 (E) 0 1025 _ _ Z3.out E hE rfl (by omega) (by omega) hd0 hd1).mono ?_
    rintro e3 w3 ⟨p, q, rfl, hR, hb3⟩
    have HR : Hid (RndZ d (z1 - z2) (2 ^ 0) (p, q)) := hR
    have HB3 : Hid (Below w.heap.size w w3) := HB2.out.trans (hb3.mono HB2.out.size)
    clear hR hb3
    go_wp2_with fail
    go_ret2
    refine ⟨p, q, rfl, fun _ => ?_, fun h => absurd hf h, HB3.out⟩
    have h := HR.out
    rw [F1.out hf.1, F2.out hf.2] at h
    exact h
  · have hdf : decide (Fin a ∧ Fin b) = false := decide_eq_false hf
    rw [hdf]
    go_wp2_with fail
    go_ret2
    exact ⟨0, false, rfl, fun h => absurd h hf, fun _ => rfl, HBA.out⟩
set_option maxRecDepth 100000 in
set_option maxHeartbeats 1000000 in
theorem refMul_any (d : Int) (a b : Nat) (ha : a < 18446744073709551616) (hb : b < 18446744073709551616) (hd0 : -9223372036854775808 ≤ d) (hd1 : d ≤ 9223372036854775807) (w : World) (E : Nat) (hE : E = 1074) :
    Calls Try.prog 27 #[.int .i64 d, .int .u64 a, .int .u64 b] w fun e' w' => RefRes (Fin a ∧ Fin b) d (fval a * fval b) (2 ^ E) w e' w' := by
  go_enter Try.func27, Try.ntmps27
  go_wp2_with fail
  refine (two_any a b ha hb _ E hE).mono ?_
  rintro e1 w1 ⟨v1, v2, rfl, ⟨z1, hz1, hf1⟩, ⟨z2, hz2, hf2⟩, hb1⟩
  have Z1 : Hid (NumZ w1 v1 E 1024 z1) := hz1
  have Z2 : Hid (NumZ w1 v2 E 1024 z2) := hz2
  have F1 : Hid (Fin a → z1 = fval a) := hf1
  have F2 : Hid (Fin b → z2 = fval b) := hf2
  obtain ⟨nx, mx, ex, ⟨ao, len, cap, xs, rfl, -⟩, -⟩ := hz1
  obtain ⟨ny, my, ey, ⟨bo, blen, bcap, ys, rfl, -⟩, -⟩ := hz2
  have hba := ((Below.refl w1.heap.size w1).alloc (Nat.le_refl _) (Obj.cells #[Value.bool nx, Value.slice ao len cap, Value.int IntKind.i64 ex] 55)).alloc (by simp) (Obj.cells #[Value.bool ny, Value.slice bo blen bcap, Value.int IntKind.i64 ey] 55)
  have HBA : Hid (Below w.heap.size w ((w1.alloc (Obj.cells #[Value.bool nx, Value.slice ao len cap, Value.int IntKind.i64 ex] 55)).alloc (Obj.cells #[Value.bool ny, Value.slice bo blen bcap, Value.int IntKind.i64 ey] 55))) := hb1.trans (hba.mono hb1.size)
  have ZA : Hid (NumZ ((w1.alloc (Obj.cells #[Value.bool nx, Value.slice ao len cap, Value.int IntKind.i64 ex] 55)).alloc (Obj.cells #[Value.bool ny, Value.slice bo blen bcap, Value.int IntKind.i64 ey] 55)) _ E 1024 z1) := NumZ.later Z1.out hba
  have ZB : Hid (NumZ ((w1.alloc (Obj.cells #[Value.bool nx, Value.slice ao len cap, Value.int IntKind.i64 ex] 55)).alloc (Obj.cells #[Value.bool ny, Value.slice bo blen bcap, Value.int IntKind.i64 ey] 55)) _ E 1024 z2) := NumZ.later Z2.out hba
  clear hb1 hf1 hf2 hba
  by_cases hf : Fin a ∧ Fin b
  · have hdf : decide (Fin a ∧ Fin b) = true := decide_eq_true hf
    rw [hdf]
    go_wp2_with fail
    refine (timesZ_any _ _ E 1024 1024 z1 z2 _ ZA.out ZB.out (by omega) (by omega) (by omega)).mono ?_
    rintro e2 w2 ⟨v3, rfl, hz3, hb2⟩
    have Z3 : Hid (NumZ w2 v3 (E + E) 2048 (z1 * z2)) := hz3
    have HB2 : Hid (Below w.heap.size w w2) := HBA.out.trans (hb2.mono HBA.out.size)
    clear hz3 hb2
    go_wp2_with fail
    refine (roundZ_any d v3 ((E + E)) E 2048 _ _ Z3.out E hE rfl (by omega) (by omega) hd0 hd1).mono ?_
    rintro e3 w3 ⟨p, q, rfl, hR, hb3⟩
    have HR : Hid (RndZ d (z1 * z2) (2 ^ E) (p, q)) := hR
    have HB3 : Hid (Below w.heap.size w w3) := HB2.out.trans (hb3.mono HB2.out.size)
    clear hR hb3
    go_wp2_with fail
    go_ret2
    refine ⟨p, q, rfl, fun _ => ?_, fun h => absurd hf h, HB3.out⟩
    have h := HR.out
    rw [F1.out hf.1, F2.out hf.2] at h
    exact h
  · have hdf : decide (Fin a ∧ Fin b) = false := decide_eq_false hf
    rw [hdf]
    go_wp2_with fail
    go_ret2
    exact ⟨0, false, rfl, fun h => absurd h hf, fun _ => rfl, HBA.out⟩
end Go.Proofs.Ytgjdmenmegnacaa
