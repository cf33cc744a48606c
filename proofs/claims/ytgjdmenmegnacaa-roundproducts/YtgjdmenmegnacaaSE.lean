import Derived.Test.YtgjdmenmegnacaaSD
import Derived.Test.YtgjdmenmegnacaaPur
namespace Go.Proofs.Ytgjdmenmegnacaa
open Go.RowKit
set_option linter.unusedVariables false

def RestRes (z : Int) (D : Nat) (w : World) (e' : Ending) (w' : World) : Prop := ∃ (u v : Nat) (b : Bool), e' = .returned (.tuple #[.int .u64 (u : Int), .int .u64 (v : Int), .bool b]) ∧ Rest z D u v b ∧ Below w.heap.size w w'
set_option maxRecDepth 100000 in
set_option maxHeartbeats 1000000 in
theorem rest_any (x : Value) (s k : Nat) (T z : Int) (w : World) (h : NumZ w x s T z) (E : Nat) (hE : E = 1074) (hs : s = E + k) (hs2 : s ≤ 3000) (hT : 1024 ≤ T ∧ T ≤ 3000) :
    Calls Try.prog 36 #[x] w fun e' w' => RestRes z (2 ^ k) w e' w' := by
  have HX : Hid (NumZ w x s T z) := h
  obtain ⟨nx, mx, ex, ⟨ao, len, cap, xs, rfl, -⟩, -⟩ := h
  have hba := (Below.refl w.heap.size w).alloc (Nat.le_refl _) (Obj.cells #[Value.bool nx, Value.slice ao len cap, Value.int IntKind.i64 ex] 55)
  have P0 : Hid ((w.alloc (Obj.cells #[Value.bool nx, Value.slice ao len cap, Value.int IntKind.i64 ex] 55)).heap[w.heap.size]? = some (Obj.cells #[Value.bool nx, Value.slice ao len cap, Value.int IntKind.i64 ex] 55)) := heap_alloc_new w _
  have hz0 : (w.alloc (Obj.cells #[Value.bool nx, Value.slice ao len cap, Value.int IntKind.i64 ex] 55)).heap.size = w.heap.size + 1 := by simp
  have HBA : Hid _ := hba
  have HZ0 : Hid _ := hz0
  clear hba hz0
  go_enter Try.func36, Try.ntmps36
  go_wp2_with fail
  refine (roundZ_any 0 _ s k T z _ (NumZ.later HX.out HBA.out) E hE hs (by omega) (by omega) (by decide) (by decide)).mono ?_
  rintro e1 w1 ⟨p, ok, rfl, hR, hb1⟩
  have HR : Hid (RndZ 0 z (2 ^ k) (p, ok)) := hR
  have hpf := rndZ_fin hR
  have HB1 : Hid (Below w.heap.size w w1) := HBA.out.trans (hb1.mono HBA.out.size)
  have g1 := (hb1.block w.heap.size (by rw [HZ0.out]; omega)).trans P0.out
  have hsz1 : w.heap.size + 1 ≤ w1.heap.size := by have := hb1.size; rw [HZ0.out] at this; exact this
  obtain ⟨x0, x1, x2⟩ := three_cells g1
  have G1 : Hid _ := g1
  have HPF : Hid (Fin p ∧ p < 18446744073709551616) := hpf
  clear hR hb1 g1 hpf
  cases ok
  · go_wp2_with fail
    go_ret3
    exact ⟨0, 0, false, rfl, .inl ⟨p, HR.out, rfl, rfl, rfl⟩, HB1.out⟩
  · go_wp2_with fail
    refine (ofZ_any p HPF.out.2 _ E hE).mono ?_
    rintro e2 w2 ⟨v2, rfl, ⟨z2, hz2, hf2⟩, hb2⟩
    have Z2 : Hid (NumZ w2 v2 E 1024 (fval p)) := by rw [← hf2 HPF.out.1]; exact hz2
    obtain ⟨ny, my, ey, ⟨bo, blen, bcap, ys, rfl, -⟩, -⟩ := hz2
    have HB2 : Hid (Below w.heap.size w w2) := HB1.out.trans (hb2.mono HB1.out.size)
    have g2 := (hb2.block w.heap.size (by omega)).trans G1.out
    have hsz2 : w.heap.size + 1 ≤ w2.heap.size := Nat.le_trans hsz1 hb2.size
    have G2 : Hid _ := g2
    generalize decide (Fin p) = dq
    clear hb2 g2 hf2
    have gx : (w2.alloc (Obj.cells #[Value.bool ny, Value.slice bo blen bcap, Value.int IntKind.i64 ey] 55)).heap[w.heap.size]? = some (Obj.cells #[Value.bool nx, Value.slice ao len cap, Value.int IntKind.i64 ex] 55) := by rw [Below.heap_alloc _ _ _ (by omega)]; exact G2.out
    obtain ⟨b0, b1, b2⟩ := three_cells gx
    have HB2' : Hid (Below w.heap.size w (w2.alloc (Obj.cells #[Value.bool ny, Value.slice bo blen bcap, Value.int IntKind.i64 ey] 55))) := HB2.out.alloc HB2.out.size _
    have ZX : Hid (NumZ (w2.alloc (Obj.cells #[Value.bool ny, Value.slice bo blen bcap, Value.int IntKind.i64 ey] 55)) _ s T z) := NumZ.later HX.out HB2'.out
    have ZS : Hid (NumZ (w2.alloc (Obj.cells #[Value.bool ny, Value.slice bo blen bcap, Value.int IntKind.i64 ey] 55)) (Value.agg #[Value.bool ny, Value.slice bo blen bcap, Value.int IntKind.i64 ey]) s T (fval p * ((2 ^ k : Nat) : Int))) := by
      unfold Hid; rw [hs]; exact NumZ.mono (NumZ.later (NumZ.more Z2.out k) ((Below.refl _ _).alloc (Nat.le_refl _) (Obj.cells #[Value.bool ny, Value.slice bo blen bcap, Value.int IntKind.i64 ey] 55))) (by omega)
    clear gx x0 x1 x2
    go_wp2_with fail
    refine (minusZ_any _ _ s T z _ _ ZX.out ZS.out (by omega) (by omega)).mono ?_
    rintro ee w3 ⟨v3, rfl, hz3, hb3⟩
    have Z3 : Hid (NumZ w3 v3 s (T + 1) (z - fval p * ((2 ^ k : Nat) : Int))) := hz3
    obtain ⟨n3, m3, e3, ⟨a3, l3, c3, xs3, rfl, -⟩, -⟩ := hz3
    have HB3 : Hid (Below w.heap.size w w3) := HB2'.out.trans (hb3.mono HB2'.out.size)
    have HB3' : Hid (Below w.heap.size w (w3.alloc (Obj.cells #[Value.bool n3, Value.slice a3 l3 c3, Value.int IntKind.i64 e3] 55))) := HB3.out.alloc HB3.out.size _
    have Z3' : Hid (NumZ (w3.alloc (Obj.cells #[Value.bool n3, Value.slice a3 l3 c3, Value.int IntKind.i64 e3] 55)) _ s (T + 1) (z - fval p * ((2 ^ k : Nat) : Int))) := NumZ.later Z3.out ((Below.refl _ _).alloc (Nat.le_refl _) (Obj.cells #[Value.bool n3, Value.slice a3 l3 c3, Value.int IntKind.i64 e3] 55))
    have GL : Hid ((w3.alloc (Obj.cells #[Value.bool n3, Value.slice a3 l3 c3, Value.int IntKind.i64 e3] 55)).heap[w3.heap.size]? = some (Obj.cells #[Value.bool n3, Value.slice a3 l3 c3, Value.int IntKind.i64 e3] 55)) := heap_alloc_new w3 _
    have hzl : (w3.alloc (Obj.cells #[Value.bool n3, Value.slice a3 l3 c3, Value.int IntKind.i64 e3] 55)).heap.size = w3.heap.size + 1 := by simp
    have HZL : Hid _ := hzl
    clear hb3 b0 b1 b2 hzl
    go_wp2_with fail
    refine (roundZ_any 1 _ s k (T + 1) _ _ Z3'.out E hE hs (by omega) (by omega) (by decide) (by decide)).mono ?_
    rintro e4 w4 ⟨v1, o1, rfl, hR1, hb4⟩
    have HR1 : Hid (RndZ 1 (z - fval p * ((2 ^ k : Nat) : Int)) (2 ^ k) (v1, o1)) := hR1
    have HB4 : Hid (Below w.heap.size w w4) := HB3'.out.trans (hb4.mono HB3'.out.size)
    have g4 := (hb4.block w3.heap.size (by rw [HZL.out]; omega)).trans GL.out
    have Z4 : Hid (NumZ w4 _ s (T + 1) (z - fval p * ((2 ^ k : Nat) : Int))) := NumZ.later Z3'.out hb4
    obtain ⟨d0, d1, d2⟩ := three_cells g4
    clear hb4 g4 hR1
    go_wp2_with fail
    refine (roundZ_any 2 _ s k (T + 1) _ _ Z4.out E hE hs (by omega) (by omega) (by decide) (by decide)).mono ?_
    rintro e5 w5 ⟨v2, o2, rfl, hR2, hb5⟩
    have HR2 : Hid (RndZ 2 (z - fval p * ((2 ^ k : Nat) : Int)) (2 ^ k) (v2, o2)) := hR2
    have HB5 : Hid (Below w.heap.size w w5) := HB4.out.trans (hb5.mono HB4.out.size)
    clear hb5 hR2 d0 d1 d2
    cases o1
    · go_wp2_with fail
      go_ret3
      exact ⟨0, 0, false, rfl, .inr ⟨p, v1, false, v2, o2, HR.out, HR1.out, HR2.out, .inr ⟨by simp, rfl, rfl, rfl⟩⟩, HB5.out⟩
    cases o2
    · go_wp2_with fail
      go_ret3
      exact ⟨0, 0, false, rfl, .inr ⟨p, v1, true, v2, false, HR.out, HR1.out, HR2.out, .inr ⟨by simp, rfl, rfl, rfl⟩⟩, HB5.out⟩
    by_cases hv : v1 = v2
    · subst hv
      have ht : ((v1 : Int) != (v1 : Int)) = false := by simp
      go_wp2_with fail
      go_ret3
      exact ⟨p, v1, true, rfl, .inr ⟨p, v1, true, v1, true, HR.out, HR1.out, HR2.out, .inl ⟨rfl, rfl, rfl, rfl, rfl, rfl⟩⟩, HB5.out⟩
    · have ht : ((v1 : Int) != (v2 : Int)) = true := by rw [bne_iff_ne]; omega
      go_wp2_with fail
      go_ret3
      exact ⟨0, 0, false, rfl, .inr ⟨p, v1, true, v2, true, HR.out, HR1.out, HR2.out, .inr ⟨fun c => hv c.2.2, rfl, rfl, rfl⟩⟩, HB5.out⟩
def RefRest (ok : Prop) (z : Int) (D : Nat) (w : World) (e' : Ending) (w' : World) : Prop := ∃ (u v : Nat) (b : Bool), e' = .returned (.tuple #[.int .u64 (u : Int), .int .u64 (v : Int), .bool b]) ∧ (ok → Rest z D u v b) ∧ (¬ ok → u = 0 ∧ v = 0 ∧ b = false) ∧ Below w.heap.size w w'
set_option maxRecDepth 100000 in
set_option maxHeartbeats 1000000 in
theorem refSum2_any (a b : Nat) (ha : a < 18446744073709551616) (hb : b < 18446744073709551616) (w : World) (E : Nat) (hE : E = 1074) :
    Calls Try.prog 14 #[.int .u64 a, .int .u64 b] w fun e' w' => RefRest (Fin a ∧ Fin b) (fval a + fval b) 1 w e' w' := by
  go_enter Try.func14, Try.ntmps14
  go_wp2_with fail
  refine (two_any a b ha hb _ E hE).mono ?_
  rintro e1 w1 ⟨v1, v2, rfl, ⟨z1, hz1, hf1⟩, ⟨z2, hz2, hf2⟩, hb1⟩
  have Z1 : Hid (NumZ w1 v1 E 1024 z1) := hz1
  have Z2 : Hid (NumZ w1 v2 E 1024 z2) := hz2
  have F1 : Hid (Fin a → z1 = fval a) := hf1
  have F2 : Hid (Fin b → z2 = fval b) := hf2
  obtain ⟨nx, mx, ex, ⟨ao, len, cap, xs, rfl, -⟩, -⟩ := hz1
  obtain ⟨ny, my, ey, ⟨bo, blen, bcap, ys, rfl, -⟩, -⟩ := hz2
  have hba := ((Below.refl w1.heap.size w1).alloc (Nat.le_refl _) (Obj.cells #[Value.bool nx, Value.slice ao len cap, Value.int IntKind.i64 ex] 55)).alloc (by simp) (Obj.cells #[Value.bool ny, Value.slice bo blen bcap, Value.int IntKind.i64 ey] 55)
  have HBA : Hid (Below w.heap.size w ((w1.alloc (Obj.cells #[Value.bool nx, Value.slice ao len cap, Value.int IntKind.i64 ex] 55)).alloc (Obj.cells #[Value.bool ny, Value.slice bo blen bcap, Value.int IntKind.i64 ey] 55))) := hb1.trans (hba.mono hb1.size)
  have ZA : Hid (NumZ ((w1.alloc (Obj.cells #[Value.bool nx, Value.slice ao len cap, Value.int IntKind.i64 ex] 55)).alloc (Obj.cells #[Value.bool ny, Value.slice bo blen bcap, Value.int IntKind.i64 ey] 55)) _ E 1024 z1) := NumZ.later Z1.out hba
  have ZB : Hid (NumZ ((w1.alloc (Obj.cells #[Value.bool nx, Value.slice ao len cap, Value.int IntKind.i64 ex] 55)).alloc (Obj.cells #[Value.bool ny, Value.slice bo blen bcap, Value.int IntKind.i64 ey] 55)) _ E 1024 z2) := NumZ.later Z2.out hba
  clear hb1 hf1 hf2 hba
  by_cases hf : Fin a ∧ Fin b
  · have hdf : decide (Fin a ∧ Fin b) = true := decide_eq_true hf
    rw [hdf]
    go_wp2_with fail
    refine (plusZ_any _ _ E 1024 z1 z2 _ ZA.out ZB.out (by omega) (by omega)).mono ?_
    rintro e2 w2 ⟨v3, rfl, hz3, hb2⟩
    have Z3 : Hid (NumZ w2 v3 E 1025 (z1 + z2)) := hz3
    have HB2 : Hid (Below w.heap.size w w2) := HBA.out.trans (hb2.mono HBA.out.size)
    clear hz3 hb2
    go_wp2_with fail
    refine (rest_any v3 E 0 1025 _ _ Z3.out E hE rfl (by omega) (by omega)).mono ?_
    rintro e3 w3 ⟨u, v, q, rfl, hR, hb3⟩
    have HR : Hid (Rest (z1 + z2) (2 ^ 0) u v q) := hR
    have HB3 : Hid (Below w.heap.size w w3) := HB2.out.trans (hb3.mono HB2.out.size)
    clear hR hb3
    go_wp2_with fail
    go_ret3
    refine ⟨u, v, q, rfl, fun _ => ?_, fun h => absurd hf h, HB3.out⟩
    have h := HR.out
    rw [F1.out hf.1, F2.out hf.2] at h
    exact h
  · have hdf : decide (Fin a ∧ Fin b) = false := decide_eq_false hf
    rw [hdf]
    go_wp2_with fail
    go_ret3
    exact ⟨0, 0, false, rfl, fun h => absurd h hf, fun _ => ⟨rfl, rfl, rfl⟩, HBA.out⟩
set_option maxRecDepth 100000 in
set_option maxHeartbeats 1000000 in
theorem refProd2_any (a b : Nat) (ha : a < 18446744073709551616) (hb : b < 18446744073709551616) (w : World) (E : Nat) (hE : E = 1074) :
    Calls Try.prog 17 #[.int .u64 a, .int .u64 b] w fun e' w' => RefRest (Fin a ∧ Fin b) (fval a * fval b) (2 ^ E) w e' w' := by
  go_enter Try.func17, Try.ntmps17
  go_wp2_with fail
  refine (two_any a b ha hb _ E hE).mono ?_
  rintro e1 w1 ⟨v1, v2, rfl, ⟨z1, hz1, hf1⟩, ⟨z2, hz2, hf2⟩, hb1⟩
  have Z1 : Hid (NumZ w1 v1 E 1024 z1) := hz1
  have Z2 : Hid (NumZ w1 v2 E 1024 z2) := hz2
  have F1 : Hid (Fin a → z1 = fval a) := hf1
  have F2 : Hid (Fin b → z2 = fval b) := hf2
  obtain ⟨nx, mx, ex, ⟨ao, len, cap, xs, rfl, -⟩, -⟩ := hz1
  obtain ⟨ny, my, ey, ⟨bo, blen, bcap, ys, rfl, -⟩, -⟩ := hz2
  have hba := ((Below.refl w1.heap.size w1).alloc (Nat.le_refl _) (Obj.cells #[Value.bool nx, Value.slice ao len cap, Value.int IntKind.i64 ex] 55)).alloc (by simp) (Obj.cells #[Value.bool ny, Value.slice bo blen bcap, Value.int IntKind.i64 ey] 55)
  have HBA : Hid (Below w.heap.size w ((w1.alloc (Obj.cells #[Value.bool nx, Value.slice ao len cap, Value.int IntKind.i64 ex] 55)).alloc (Obj.cells #[Value.bool ny, Value.slice bo blen bcap, Value.int IntKind.i64 ey] 55))) := hb1.trans (hba.mono hb1.size)
  have ZA : Hid (NumZ ((w1.alloc (Obj.cells #[Value.bool nx, Value.slice ao len cap, Value.int IntKind.i64 ex] 55)).alloc (Obj.cells #[Value.bool ny, Value.slice bo blen bcap, Value.int IntKind.i64 ey] 55)) _ E 1024 z1) := NumZ.later Z1.out hba
  have ZB : Hid (NumZ ((w1.alloc (Obj.cells #[Value.bool nx, Value.slice ao len cap, Value.int IntKind.i64 ex] 55)).alloc (Obj.cells #[Value.bool ny, Value.slice bo blen bcap, Value.int IntKind.i64 ey] 55)) _ E 1024 z2) := NumZ.later Z2.out hba
  clear hb1 hf1 hf2 hba
  by_cases hf : Fin a ∧ Fin b
  · have hdf : decide (Fin a ∧ Fin b) = true := decide_eq_true hf
    rw [hdf]
    go_wp2_with fail
    refine (timesZ_any _ _ E 1024 1024 z1 z2 _ ZA.out ZB.out (by omega) (by omega) (by omega)).mono ?_
    rintro e2 w2 ⟨v3, rfl, hz3, hb2⟩
    have Z3 : Hid (NumZ w2 v3 (E + E) 2048 (z1 * z2)) := hz3
    have HB2 : Hid (Below w.heap.size w w2) := HBA.out.trans (hb2.mono HBA.out.size)
    clear hz3 hb2
    go_wp2_with fail
    refine (rest_any v3 (E + E) E 2048 _ _ Z3.out E hE rfl (by omega) (by omega)).mono ?_
    rintro e3 w3 ⟨u, v, q, rfl, hR, hb3⟩
    have HR : Hid (Rest (z1 * z2) (2 ^ E) u v q) := hR
    have HB3 : Hid (Below w.heap.size w w3) := HB2.out.trans (hb3.mono HB2.out.size)
    clear hR hb3
    go_wp2_with fail
    go_ret3
    refine ⟨u, v, q, rfl, fun _ => ?_, fun h => absurd hf h, HB3.out⟩
    have h := HR.out
    rw [F1.out hf.1, F2.out hf.2] at h
    exact h
  · have hdf : decide (Fin a ∧ Fin b) = false := decide_eq_false hf
    rw [hdf]
    go_wp2_with fail
    go_ret3
    exact ⟨0, 0, false, rfl, fun h => absurd h hf, fun _ => ⟨rfl, rfl, rfl⟩, HBA.out⟩
end Go.Proofs.Ytgjdmenmegnacaa
