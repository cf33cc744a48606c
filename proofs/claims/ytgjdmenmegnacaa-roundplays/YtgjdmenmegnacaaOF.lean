import Derived.Test.YtgjdmenmegnacaaSB
import Derived.Test.YtgjdmenmegnacaaOE
namespace Go.Proofs.Ytgjdmenmegnacaa
open Go.RowKit
set_option linter.unusedVariables false

/-- What Of tells of sixty-four bits. -/
def OfV (w : World) (v : Value) (u : Nat) : Prop := ∃ neg e, NumV w v neg (if Fin u then ofM u else 0) e ∧ (Fin u → frung u ≠ 0 → neg = fneg u ∧ e = ofE u) ∧ -1074 ≤ e ∧ e ≤ 971
theorem OfV.later {w w' : World} {v : Value} {u : Nat} (h : OfV w v u) (hb : Below w.heap.size w w') : OfV w' v u := by
  obtain ⟨neg, e, h1, h2⟩ := h
  exact ⟨neg, e, h1.later hb, h2⟩
theorem OfV.set3 {w : World} {B : Nat} (x y z : Value) (hB : NumB w B) {v : Value} {u : Nat} (h : OfV w v u) : OfV (((w.setCell ⟨B, 0, none⟩ x).setCell ⟨B, 1, none⟩ y).setCell ⟨B, 2, none⟩ z) v u := by
  obtain ⟨neg, e, ⟨ao, len, cap, xs, h1, h2, h3⟩, h4⟩ := h
  exact ⟨neg, e, ⟨ao, len, cap, xs, h1, rd4_set3 x y z hB h2, h3⟩, h4⟩
theorem wrote2_ofv {W : World} {B C : Nat} (x0 x1 x2 y0 y1 y2 : Value) (h : C ≠ B) (h0 : NumB W B) (h1 : NumB W C) {v : Value} {u : Nat} (hz : OfV W v u) : OfV (wrote2 W B C x0 x1 x2 y0 y1 y2) v u := by
  obtain ⟨n, a, l, c, e, h1⟩ := h1
  exact OfV.later (OfV.set3 y0 y1 y2 ⟨n, a, l, c, e, (set3_other x0 x1 x2 h).trans h1⟩ (OfV.set3 x0 x1 x2 h0 hz)) (Below.refl _ _).drew
set_option maxRecDepth 100000 in
set_option maxHeartbeats 1000000 in
theorem twoV_any (a b : Nat) (ha : a < 18446744073709551616) (hb : b < 18446744073709551616) (w : World) :
    Calls Try.prog 35 #[.int .u64 a, .int .u64 b] w fun e' w' => ∃ v u, e' = .returned (.tuple #[v, u, .bool (decide (Fin a ∧ Fin b))]) ∧ OfV w' v a ∧ OfV w' u b ∧ Below w.heap.size w w' := by
  have hnum : ∀ u : Nat, frung u < infK ∨ True := fun _ => .inr trivial
  obtain ⟨p0, p1, pz, pb⟩ := alloc2_facts w (Obj.cells #[Value.bool false, Value.slice none 0 0, Value.int IntKind.i64 0] 55) (Obj.cells #[Value.bool false, Value.slice none 0 0, Value.int IntKind.i64 0] 55)
  have P0 : Hid _ := p0
  have P1 : Hid _ := p1
  have PZ : Hid _ := pz
  have PB : Hid _ := pb
  clear p0 p1 pz pb hnum
  go_enter Try.func35, Try.ntmps35
  go_wp2_with fail
  refine (of_any a ha _).mono ?_
  rintro e1 w1 ⟨v1, rfl, hz1, hb1⟩
  have Z1 : Hid (OfV w1 v1 a) := hz1
  obtain ⟨nx, ex, ⟨ao, len, cap, xs, rfl, -⟩, -⟩ := hz1
  have G0 : Hid _ := (hb1.block w.heap.size (by rw [PZ.out]; omega)).trans P0.out
  have G1 : Hid _ := (hb1.block (w.heap.size + 1) (by rw [PZ.out]; omega)).trans P1.out
  have hs1 : w.heap.size + 2 ≤ w1.heap.size := by have := hb1.size; rw [PZ.out] at this; exact this
  have HB1 : Hid (Below w.heap.size w w1) := PB.out.trans (hb1.mono (by rw [PZ.out]; omega))
  generalize hda : decide (Fin a) = da
  clear hb1 P0 P1 PZ PB
  go_wp2_with fail
  refine (of_any b hb _).mono ?_
  rintro e2 w2 ⟨v2, rfl, hz2, hb2⟩
  have Z2 : Hid (OfV w2 v2 b) := hz2
  obtain ⟨ny, ey, ⟨bo, blen, bcap, ys, rfl, -⟩, -⟩ := hz2
  have hz1' : (w1.alloc (Obj.cells #[Value.bool nx, Value.slice ao len cap, Value.int IntKind.i64 ex] 55)).heap.size = w1.heap.size + 1 := by simp
  have HB1' : Hid (Below w.heap.size w (w1.alloc (Obj.cells #[Value.bool nx, Value.slice ao len cap, Value.int IntKind.i64 ex] 55))) := HB1.out.alloc HB1.out.size _
  have hs2 : w1.heap.size + 1 ≤ w2.heap.size := by have := hb2.size; rw [hz1'] at this; exact this
  have HB2 : Hid (Below w.heap.size w w2) := HB1'.out.trans (hb2.mono (by rw [hz1']; omega))
  have Z1' : Hid (OfV w2 _ a) := OfV.later (OfV.later Z1.out ((Below.refl _ _).alloc (Nat.le_refl _) (Obj.cells #[Value.bool nx, Value.slice ao len cap, Value.int IntKind.i64 ex] 55))) hb2
  have gx : (w2.alloc (Obj.cells #[Value.bool ny, Value.slice bo blen bcap, Value.int IntKind.i64 ey] 55)).heap[w1.heap.size]? = some (Obj.cells #[Value.bool nx, Value.slice ao len cap, Value.int IntKind.i64 ex] 55) := by
    rw [Below.heap_alloc _ _ _ (by omega), hb2.block _ (by rw [hz1']; omega)]; exact heap_alloc_new w1 _
  have gy : (w2.alloc (Obj.cells #[Value.bool ny, Value.slice bo blen bcap, Value.int IntKind.i64 ey] 55)).heap[w2.heap.size]? = some (Obj.cells #[Value.bool ny, Value.slice bo blen bcap, Value.int IntKind.i64 ey] 55) := heap_alloc_new w2 _
  have g0 : (w2.alloc (Obj.cells #[Value.bool ny, Value.slice bo blen bcap, Value.int IntKind.i64 ey] 55)).heap[w.heap.size]? = some (Obj.cells #[Value.bool false, Value.slice none 0 0, Value.int IntKind.i64 0] 55) := by
    rw [Below.heap_alloc _ _ _ (by omega), hb2.block _ (by rw [hz1']; omega), Below.heap_alloc _ _ _ (by omega)]; exact G0.out
  have g1 : (w2.alloc (Obj.cells #[Value.bool ny, Value.slice bo blen bcap, Value.int IntKind.i64 ey] 55)).heap[w.heap.size + 1]? = some (Obj.cells #[Value.bool false, Value.slice none 0 0, Value.int IntKind.i64 0] 55) := by
    rw [Below.heap_alloc _ _ _ (by omega), hb2.block _ (by rw [hz1']; omega), Below.heap_alloc _ _ _ (by omega)]; exact G1.out
  obtain ⟨x0, x1, x2⟩ := three_cells gx
  obtain ⟨y0, y1, y2⟩ := three_cells gy
  obtain ⟨r0, r1, r2⟩ := three_cells g0
  obtain ⟨q0, q1, q2⟩ := three_cells g1
  have f0 := fun j => frozen_of_row _ _ j _ _ g0
  have f1 := fun j => frozen_of_row _ _ j _ _ g1
  have G0' : Hid _ := g0
  have G1' : Hid _ := g1
  have HBF : Hid (Below w.heap.size w (w2.alloc (Obj.cells #[Value.bool ny, Value.slice bo blen bcap, Value.int IntKind.i64 ey] 55))) := HB2.out.alloc HB2.out.size _
  have ZA : Hid (OfV (w2.alloc (Obj.cells #[Value.bool ny, Value.slice bo blen bcap, Value.int IntKind.i64 ey] 55)) _ a) := OfV.later Z1'.out ((Below.refl _ _).alloc (Nat.le_refl _) (Obj.cells #[Value.bool ny, Value.slice bo blen bcap, Value.int IntKind.i64 ey] 55))
  have ZB : Hid (OfV (w2.alloc (Obj.cells #[Value.bool ny, Value.slice bo blen bcap, Value.int IntKind.i64 ey] 55)) _ b) := OfV.later Z2.out ((Below.refl _ _).alloc (Nat.le_refl _) (Obj.cells #[Value.bool ny, Value.slice bo blen bcap, Value.int IntKind.i64 ey] 55))
  generalize hdb : decide (Fin b) = db
  have HAB : Hid ((da && db) = decide (Fin a ∧ Fin b)) := by unfold Hid; rw [← hda, ← hdb, decide_and2]
  clear hb2 gx gy g0 g1 hda hdb
  have n1 : ¬ (w.heap.size = w1.heap.size) := by omega
  have n2 : ¬ (w1.heap.size = w.heap.size) := by omega
  have n3 : ¬ (w.heap.size + 1 = w1.heap.size) := by omega
  have n4 : ¬ (w1.heap.size = w.heap.size + 1) := by omega
  have n5 : ¬ (w.heap.size = w2.heap.size) := by omega
  have n6 : ¬ (w2.heap.size = w.heap.size) := by omega
  have n7 : ¬ (w.heap.size + 1 = w2.heap.size) := by omega
  have n8 : ¬ (w2.heap.size = w.heap.size + 1) := by omega
  go_wp2_with fail
  generalize w2.alloc (Obj.cells #[Value.bool ny, Value.slice bo blen bcap, Value.int IntKind.i64 ey] 55) = W3 at *
  cases da <;> cases db
  all_goals go_region
  all_goals
    change Exit.then _ _ Exit.normal _ (wrote2 W3 w.heap.size (w.heap.size + 1) (Value.bool nx) (Value.slice ao len cap) (Value.int IntKind.i64 ex) (Value.bool ny) (Value.slice bo blen bcap) (Value.int IntKind.i64 ey))
    have K := wrote2_heap (Value.bool nx) (Value.slice ao len cap) (Value.int IntKind.i64 ex) (Value.bool ny) (Value.slice bo blen bcap) (Value.int IntKind.i64 ey) (show w.heap.size + 1 ≠ w.heap.size by omega) G0'.out G1'.out
    have NA : Hid _ := wrote2_ofv (Value.bool nx) (Value.slice ao len cap) (Value.int IntKind.i64 ex) (Value.bool ny) (Value.slice bo blen bcap) (Value.int IntKind.i64 ey) (show w.heap.size + 1 ≠ w.heap.size by omega) ⟨_, _, _, _, _, G0'.out⟩ ⟨_, _, _, _, _, G1'.out⟩ ZA.out
    have NB : Hid _ := wrote2_ofv (Value.bool nx) (Value.slice ao len cap) (Value.int IntKind.i64 ex) (Value.bool ny) (Value.slice bo blen bcap) (Value.int IntKind.i64 ey) (show w.heap.size + 1 ≠ w.heap.size by omega) ⟨_, _, _, _, _, G0'.out⟩ ⟨_, _, _, _, _, G1'.out⟩ ZB.out
    have NC : Hid _ := wrote2_below (Value.bool nx) (Value.slice ao len cap) (Value.int IntKind.i64 ex) (Value.bool ny) (Value.slice bo blen bcap) (Value.int IntKind.i64 ey) HBF.out (Nat.le_refl _) (Nat.le_succ _)
    generalize wrote2 W3 w.heap.size (w.heap.size + 1) (Value.bool nx) (Value.slice ao len cap) (Value.int IntKind.i64 ex) (Value.bool ny) (Value.slice bo blen bcap) (Value.int IntKind.i64 ey) = WF at *
    have KK : Hid _ := K
    clear K
    go_wp2_with fail
    refine bodyPost_ret (res_num3 _ 4 5 6 (by kernel_rfl) _ _ w.heap.size (w.heap.size + 1) _ _ _ _ _ _ _ (by rfl) (by rfl) (by rfl) KK.out.1 KK.out.2) rfl ⟨_, _, by rw [← HAB.out]; rfl, NA.out, NB.out, NC.out⟩
theorem pow4 (a b c d m n : Nat) (h : a + b = c + d) : m * 2 ^ a * (n * 2 ^ b) = m * 2 ^ c * (n * 2 ^ d) := by
  have h1 : (2 : Nat) ^ a * 2 ^ b = 2 ^ c * 2 ^ d := by rw [← Nat.pow_add, ← Nat.pow_add, h]
  calc m * 2 ^ a * (n * 2 ^ b) = m * n * (2 ^ a * 2 ^ b) := by ac_rfl
    _ = m * n * (2 ^ c * 2 ^ d) := by rw [h1]
    _ = _ := by ac_rfl
theorem rnd_zero {d : Int} {neg neg' : Bool} {D D' : Nat} {p : Nat × Bool} (hD : 0 < D) (hD' : 0 < D') (h : Rnd d neg 0 D p) : Rnd d neg' 0 D' p := by
  by_cases hd : d = 0 ∨ d = 1 ∨ d = 2
  · rw [Rnd.uniq h (rnd_nought d neg D hD hd)]; exact rnd_nought d neg' D' hD' hd
  · rw [Rnd.uniq h (rnd_none d neg 0 D hD hd)]; exact rnd_none d neg' 0 D' hD' hd
/-- What is told of a quotient. -/
def QuoRes (d : Int) (a b E : Nat) (w : World) (e' : Ending) (w' : World) : Prop := ∃ (p : Nat) (q : Bool), e' = .returned (.tuple #[.int .u64 (p : Int), .bool q]) ∧ (Fin a ∧ Fin b ∧ frung b ≠ 0 → Rnd d (fneg a ^^ fneg b) (rmag (frung a) * 2 ^ E) (rmag (frung b)) (p, q)) ∧ (¬ (Fin a ∧ Fin b ∧ frung b ≠ 0) → (p, q) = (0, false)) ∧ Below w.heap.size w w'
theorem quo_link {d : Int} {a b E : Nat} (hE : E = 1074) (hfa : Fin a) (hfb : Fin b) {nx ny : Bool} {ex ey : Int} (h1 : frung a ≠ 0 → nx = fneg a ∧ ex = ofE a) (h2 : frung b ≠ 0 → ny = fneg b ∧ ey = ofE b) (hb : frung b ≠ 0) {p : Nat × Bool}
    (h : Rnd d (nx != ny) (ofM a * 2 ^ (ex - ey + 1074).toNat) (ofM b * 2 ^ (-(ex - ey + 1074)).toNat) p) : Rnd d (fneg a ^^ fneg b) (rmag (frung a) * 2 ^ E) (rmag (frung b)) p := by
  obtain ⟨va, ea1, ea2, -, za⟩ := ofM_val hfa
  obtain ⟨vb, eb1, eb2, -, zb⟩ := ofM_val hfb
  have hmb : 0 < ofM b := Nat.pos_of_ne_zero (fun c => hb (zb.1 c))
  have hrb : 0 < rmag (frung b) := by rw [← vb]; exact Nat.mul_pos hmb (Nat.two_pow_pos _)
  by_cases ha : frung a = 0
  · rw [za.2 ha, Nat.zero_mul] at h
    rw [ha, rmag_zero, Nat.zero_mul]
    exact rnd_zero (Nat.mul_pos hmb (Nat.two_pow_pos _)) hrb h
  · obtain ⟨rfl, rfl⟩ := h1 ha
    obtain ⟨rfl, rfl⟩ := h2 hb
    rw [show (fneg a != fneg b) = (fneg a ^^ fneg b) by cases fneg a <;> cases fneg b <;> rfl] at h
    refine h.of_eq hrb ?_
    rw [← va, ← vb, Nat.mul_assoc (ofM a) (2 ^ (ofE a + 1074).toNat), ← Nat.pow_add]
    exact pow4 _ _ _ _ _ _ (by omega)
set_option maxRecDepth 100000 in
set_option maxHeartbeats 1000000 in
theorem refDiv_any (d : Int) (a b : Nat) (ha : a < 18446744073709551616) (hb : b < 18446744073709551616) (hd0 : -9223372036854775808 ≤ d) (hd1 : d ≤ 9223372036854775807) (w : World) (E : Nat) (hE : E = 1074) :
    Calls Try.prog 29 #[.int .i64 d, .int .u64 a, .int .u64 b] w fun e' w' => QuoRes d a b E w e' w' := by
  go_enter Try.func29, Try.ntmps29
  go_wp2_with fail
  refine (twoV_any a b ha hb _).mono ?_
  rintro e1 w1 ⟨v1, v2, rfl, hz1, hz2, hb1⟩
  have Z1 : Hid (OfV w1 v1 a) := hz1
  have Z2 : Hid (OfV w1 v2 b) := hz2
  obtain ⟨nx, ex, ⟨ao, len, cap, xs, rfl, -⟩, -⟩ := hz1
  obtain ⟨ny, ey, ⟨bo, blen, bcap, ys, rfl, -⟩, -⟩ := hz2
  have hba := ((Below.refl w1.heap.size w1).alloc (Nat.le_refl _) (Obj.cells #[Value.bool nx, Value.slice ao len cap, Value.int IntKind.i64 ex] 55)).alloc (by simp) (Obj.cells #[Value.bool ny, Value.slice bo blen bcap, Value.int IntKind.i64 ey] 55)
  have HBA : Hid (Below w.heap.size w ((w1.alloc (Obj.cells #[Value.bool nx, Value.slice ao len cap, Value.int IntKind.i64 ex] 55)).alloc (Obj.cells #[Value.bool ny, Value.slice bo blen bcap, Value.int IntKind.i64 ey] 55))) := hb1.trans (hba.mono hb1.size)
  have ZA : Hid (OfV ((w1.alloc (Obj.cells #[Value.bool nx, Value.slice ao len cap, Value.int IntKind.i64 ex] 55)).alloc (Obj.cells #[Value.bool ny, Value.slice bo blen bcap, Value.int IntKind.i64 ey] 55)) _ a) := OfV.later Z1.out hba
  have ZB : Hid (OfV ((w1.alloc (Obj.cells #[Value.bool nx, Value.slice ao len cap, Value.int IntKind.i64 ex] 55)).alloc (Obj.cells #[Value.bool ny, Value.slice bo blen bcap, Value.int IntKind.i64 ey] 55)) _ b) := OfV.later Z2.out hba
  clear hb1 hba
  by_cases hf : Fin a ∧ Fin b
  · have hdf : decide (Fin a ∧ Fin b) = true := decide_eq_true hf
    rw [hdf]
    have HF : Hid (Fin a ∧ Fin b) := hf
    clear hf hdf
    obtain ⟨nx', ex', NX, hx', ex1, ex2⟩ := ZA.out
    obtain ⟨ny', ey', NY, hy', ey1, ey2⟩ := ZB.out
    rw [if_pos HF.out.1] at NX
    rw [if_pos HF.out.2] at NY
    obtain ⟨_, _, _, _, hag, _⟩ := id NX
    simp only [Value.agg.injEq, Array.mk.injEq, List.cons.injEq, Value.bool.injEq, Value.slice.injEq, Value.int.injEq, true_and, and_true] at hag
    obtain ⟨e1, -, e2⟩ := hag
    obtain ⟨_, _, _, _, hag, _⟩ := id NY
    simp only [Value.agg.injEq, Array.mk.injEq, List.cons.injEq, Value.bool.injEq, Value.slice.injEq, Value.int.injEq, true_and, and_true] at hag
    obtain ⟨e3, -, e4⟩ := hag
    subst e1 e2 e3 e4
    have NX' : Hid _ := NX
    have NY' : Hid _ := NY
    have HX' : Hid _ := hx' HF.out.1
    have HY' : Hid _ := hy' HF.out.2
    have hbx := (ofM_val HF.out.1).2.2.2.1
    have hby := (ofM_val HF.out.2).2.2.2.1
    clear NX NY hx' hy'
    go_wp2_with fail
    refine (over_any d _ _ nx ny (ofM a) (ofM b) ex ey _ NX'.out NY'.out ⟨ex1, ex2⟩ ⟨ey1, ey2⟩ hbx hby hd0 hd1).mono ?_
    rintro e3 w3 ⟨p, q, rfl, k1, k2, hb3⟩
    have HK1 : Hid _ := k1
    have HK2 : Hid _ := k2
    have HB3 : Hid (Below w.heap.size w w3) := HBA.out.trans (hb3.mono HBA.out.size)
    clear k1 k2 hb3
    go_wp2_with fail
    go_ret2
    have hzb := (ofM_val HF.out.2).2.2.2.2
    refine ⟨p, q, rfl, fun h => ?_, fun h => ?_, HB3.out⟩
    · exact quo_link hE HF.out.1 HF.out.2 HX'.out HY'.out h.2.2 (HK1.out (fun c => h.2.2 (hzb.1 c)))
    · refine HK2.out ?_
      by_cases h0 : frung b = 0
      · exact hzb.2 h0
      · exact absurd ⟨HF.out.1, HF.out.2, h0⟩ h
  · have hdf : decide (Fin a ∧ Fin b) = false := decide_eq_false hf
    rw [hdf]
    go_wp2_with fail
    go_ret2
    exact ⟨0, false, rfl, fun h => absurd ⟨h.1, h.2.1⟩ hf, fun _ => rfl, HBA.out⟩
end Go.Proofs.Ytgjdmenmegnacaa
