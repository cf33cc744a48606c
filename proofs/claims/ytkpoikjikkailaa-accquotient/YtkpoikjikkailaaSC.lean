import Derived.Test.YtkpoikjikkailaaSB
namespace Go.Proofs.Ytkpoikjikkailaa
open Go.RowKit
set_option linter.unusedVariables false

theorem alloc3_step (w : World) (o1 o3 : Obj) : Rd4 (((w.alloc o1).alloc (Obj.cells #[Value.int IntKind.u32 1] 95)).alloc o3) (some ⟨w.heap.size + 1, 0, none⟩) 1 1 [1] := by
  have h := (alloc3_facts w o1 (Obj.cells #[Value.int IntKind.u32 1] 95) o3).2.1
  refine ⟨rfl, Nat.le_refl _, by decide, ?_, (fun h => by cases h), .inr ⟨_, _, rfl, fun j hj => ?_⟩⟩
  · intro x hx; simp only [List.mem_cons, List.mem_nil_iff, or_false] at hx; omega
  · obtain rfl : j = 0 := by omega
    exact cell_of_row _ _ 0 _ _ _ h
theorem stepZ (w : World) (ao : Option Addr) (h : Rd4 w ao 1 1 [1]) (E : Nat) (hE : E = 1074) : NumZ w (.agg #[.bool false, .slice ao 1 1, .int .i64 (-1080)]) (E + 6) 1024 1 := by
  refine ⟨false, 1, -1080, ⟨ao, 1, 1, [1], rfl, h, .inr (by simp), rfl⟩, by omega, ?_, ?_⟩
  · have : bl 1 = 1 := rfl
    rw [this]; omega
  · unfold zv sv; rw [hE]; rfl
set_option maxRecDepth 100000 in
set_option maxHeartbeats 1000000 in
theorem refNext_any (d : Int) (a : Nat) (ha : a < 18446744073709551616) (hd0 : -9223372036854775808 ≤ d) (hd1 : d ≤ 9223372036854775807) (w : World) (E : Nat) (hE : E = 1074) :
    Calls Try.prog 19 #[.int .i64 d, .int .u64 a] w fun e' w' => RefRes (Fin a) d (fval a * 64 + (if d = 1 then 1 else if d = 2 then -1 else 0)) 64 w e' w' := by
  obtain ⟨δ, hδ⟩ : ∃ δ : Int, (if d = 1 then 1 else if d = 2 then -1 else 0) = δ := ⟨_, rfl⟩
  rw [hδ]
  have HD : Hid ((if d = 1 then 1 else if d = 2 then -1 else 0) = δ) := hδ
  clear hδ
  go_enter Try.func19, Try.ntmps19
  go_wp2_with fail
  refine (ofZ_any a ha _ E hE).mono ?_
  rintro e1 w1 ⟨v1, rfl, ⟨z1, hz1, hf1⟩, hb1⟩
  have Z1 : Hid (NumZ w1 v1 E 1024 z1) := hz1
  have F1 : Hid (Fin a → z1 = fval a) := hf1
  obtain ⟨nx, mx, ex, ⟨ao, len, cap, xs, rfl, -⟩, -⟩ := hz1
  have HB1 : Hid (Below w.heap.size w w1) := hb1
  clear hb1 hf1
  by_cases hf : Fin a
  · have hdf : decide (Fin a) = true := decide_eq_true hf
    rw [hdf]
    obtain ⟨p0, p1, p2, pz, pb⟩ := alloc3_facts w1 (Obj.cells #[Value.bool nx, Value.slice ao len cap, Value.int IntKind.i64 ex] 27) (Obj.cells #[Value.int IntKind.u32 1] 95) (Obj.cells #[Value.bool false, Value.slice (some ⟨w1.heap.size + 1, 0, none⟩) 1 1, Value.int IntKind.i64 (-1080)] 27)
    have P0 : Hid _ := p0
    have PZ : Hid _ := pz
    have HBA : Hid (Below w.heap.size w (((w1.alloc (Obj.cells #[Value.bool nx, Value.slice ao len cap, Value.int IntKind.i64 ex] 27)).alloc (Obj.cells #[Value.int IntKind.u32 1] 95)).alloc (Obj.cells #[Value.bool false, Value.slice (some ⟨w1.heap.size + 1, 0, none⟩) 1 1, Value.int IntKind.i64 (-1080)] 27))) := HB1.out.trans (pb.mono HB1.out.size)
    have ZA : Hid (NumZ (((w1.alloc (Obj.cells #[Value.bool nx, Value.slice ao len cap, Value.int IntKind.i64 ex] 27)).alloc (Obj.cells #[Value.int IntKind.u32 1] 95)).alloc (Obj.cells #[Value.bool false, Value.slice (some ⟨w1.heap.size + 1, 0, none⟩) 1 1, Value.int IntKind.i64 (-1080)] 27)) _ (E + 6) 1024 (z1 * ((2 ^ 6 : Nat) : Int))) := NumZ.later (NumZ.more Z1.out 6) pb
    have ZS : Hid (NumZ (((w1.alloc (Obj.cells #[Value.bool nx, Value.slice ao len cap, Value.int IntKind.i64 ex] 27)).alloc (Obj.cells #[Value.int IntKind.u32 1] 95)).alloc (Obj.cells #[Value.bool false, Value.slice (some ⟨w1.heap.size + 1, 0, none⟩) 1 1, Value.int IntKind.i64 (-1080)] 27)) _ (E + 6) 1024 1) := stepZ _ _ (alloc3_step w1 (Obj.cells #[Value.bool nx, Value.slice ao len cap, Value.int IntKind.i64 ex] 27) (Obj.cells #[Value.bool false, Value.slice (some ⟨w1.heap.size + 1, 0, none⟩) 1 1, Value.int IntKind.i64 (-1080)] 27)) E hE
    clear p0 p1 p2 pz pb
    by_cases h1 : d = 1
    · subst h1
      have HD1 : Hid (δ = 1) := HD.out.symm
      go_wp2_with fail
      refine (plusZ_any _ _ (E + 6) 1024 _ _ _ ZA.out ZS.out (by omega) (by omega)).mono ?_
      rintro e2 w2 ⟨v3, rfl, hz3, hb2⟩
      have Z3 : Hid (NumZ w2 v3 (E + 6) 1025 (z1 * ((2 ^ 6 : Nat) : Int) + 1)) := hz3
      obtain ⟨n3, m3, e3, ⟨a3, l3, c3, xs3, rfl, -⟩, -⟩ := hz3
      have g2 := (hb2.block w1.heap.size (by rw [PZ.out]; omega)).trans P0.out
      have HB2 : Hid (Below w.heap.size w w2) := HBA.out.trans (hb2.mono HBA.out.size)
      obtain ⟨c0, c1, c2⟩ := three_cells g2
      have f2 := fun j => frozen_of_row _ _ j _ _ g2
      have Z4 : Hid (NumZ (((w2.setCell ⟨w1.heap.size, 0, none⟩ (Value.bool n3)).setCell ⟨w1.heap.size, 1, none⟩ (Value.slice a3 l3 c3)).setCell ⟨w1.heap.size, 2, none⟩ (Value.int IntKind.i64 e3)) _ (E + 6) 1025 (z1 * ((2 ^ 6 : Nat) : Int) + 1)) := NumZ.set3 _ _ _ ⟨_, _, _, _, _, g2⟩ Z3.out
      have HB3 : Hid (Below w.heap.size w (((w2.setCell ⟨w1.heap.size, 0, none⟩ (Value.bool n3)).setCell ⟨w1.heap.size, 1, none⟩ (Value.slice a3 l3 c3)).setCell ⟨w1.heap.size, 2, none⟩ (Value.int IntKind.i64 e3))) := below_set3 _ _ _ HB2.out (by have := HB1.out.size; omega)
      obtain ⟨k0, k1, k2⟩ := three_cells (set3_heap (Value.bool n3) (Value.slice a3 l3 c3) (Value.int IntKind.i64 e3) g2)
      clear hb2 g2
      go_wp2_with fail
      refine (roundZ_any 1 _ (E + 6) 6 1025 _ _ Z4.out E hE rfl (by omega) (by omega) hd0 hd1).mono ?_
      rintro e4 w4 ⟨p, q, rfl, hR, hb3⟩
      have HR : Hid (RndZ 1 (z1 * ((2 ^ 6 : Nat) : Int) + 1) (2 ^ 6) (p, q)) := hR
      have HB4 : Hid (Below w.heap.size w w4) := HB3.out.trans (hb3.mono HB3.out.size)
      clear hR hb3
      go_wp2_with fail
      go_ret2
      refine ⟨p, q, rfl, fun _ => ?_, fun h => absurd hf h, HB4.out⟩
      have h := HR.out
      rw [F1.out hf] at h
      rw [HD1.out]
      exact h
    by_cases h2 : d = 2
    · subst h2
      have HD1 : Hid (δ = -1) := HD.out.symm
      clear h1
      go_wp2_with fail
      refine (minusZ_any _ _ (E + 6) 1024 _ _ _ ZA.out ZS.out (by omega) (by omega)).mono ?_
      rintro e2 w2 ⟨v3, rfl, hz3, hb2⟩
      have Z3 : Hid (NumZ w2 v3 (E + 6) 1025 (z1 * ((2 ^ 6 : Nat) : Int) - 1)) := hz3
      obtain ⟨n3, m3, e3, ⟨a3, l3, c3, xs3, rfl, -⟩, -⟩ := hz3
      have g2 := (hb2.block w1.heap.size (by rw [PZ.out]; omega)).trans P0.out
      have HB2 : Hid (Below w.heap.size w w2) := HBA.out.trans (hb2.mono HBA.out.size)
      obtain ⟨c0, c1, c2⟩ := three_cells g2
      have f2 := fun j => frozen_of_row _ _ j _ _ g2
      have Z4 : Hid (NumZ (((w2.setCell ⟨w1.heap.size, 0, none⟩ (Value.bool n3)).setCell ⟨w1.heap.size, 1, none⟩ (Value.slice a3 l3 c3)).setCell ⟨w1.heap.size, 2, none⟩ (Value.int IntKind.i64 e3)) _ (E + 6) 1025 (z1 * ((2 ^ 6 : Nat) : Int) - 1)) := NumZ.set3 _ _ _ ⟨_, _, _, _, _, g2⟩ Z3.out
      have HB3 : Hid (Below w.heap.size w (((w2.setCell ⟨w1.heap.size, 0, none⟩ (Value.bool n3)).setCell ⟨w1.heap.size, 1, none⟩ (Value.slice a3 l3 c3)).setCell ⟨w1.heap.size, 2, none⟩ (Value.int IntKind.i64 e3))) := below_set3 _ _ _ HB2.out (by have := HB1.out.size; omega)
      obtain ⟨k0, k1, k2⟩ := three_cells (set3_heap (Value.bool n3) (Value.slice a3 l3 c3) (Value.int IntKind.i64 e3) g2)
      clear hb2 g2
      go_wp2_with fail
      refine (roundZ_any 2 _ (E + 6) 6 1025 _ _ Z4.out E hE rfl (by omega) (by omega) hd0 hd1).mono ?_
      rintro e4 w4 ⟨p, q, rfl, hR, hb3⟩
      have HR : Hid (RndZ 2 (z1 * ((2 ^ 6 : Nat) : Int) - 1) (2 ^ 6) (p, q)) := hR
      have HB4 : Hid (Below w.heap.size w w4) := HB3.out.trans (hb3.mono HB3.out.size)
      clear hR hb3
      go_wp2_with fail
      go_ret2
      refine ⟨p, q, rfl, fun _ => ?_, fun h => absurd hf h, HB4.out⟩
      have h := HR.out
      rw [F1.out hf] at h
      rw [HD1.out]
      exact h
    have HD1 : Hid (δ = 0) := by unfold Hid; rw [← HD.out, if_neg h1, if_neg h2]
    have t1 : (d == 1) = false := by rw [beq_eq_false_iff_ne]; exact h1
    have t2 : (d == 2) = false := by rw [beq_eq_false_iff_ne]; exact h2
    have P0' : Hid _ := P0.out
    obtain ⟨c0, c1, c2⟩ := three_cells P0.out
    go_wp2_with fail
    refine (roundZ_any d _ (E + 6) 6 1024 _ _ ZA.out E hE rfl (by omega) (by omega) hd0 hd1).mono ?_
    rintro e4 w4 ⟨p, q, rfl, hR, hb3⟩
    have HR : Hid (RndZ d (z1 * ((2 ^ 6 : Nat) : Int)) (2 ^ 6) (p, q)) := hR
    have HB4 : Hid (Below w.heap.size w w4) := HBA.out.trans (hb3.mono HBA.out.size)
    clear hR hb3
    go_wp2_with fail
    go_ret2
    refine ⟨p, q, rfl, fun _ => ?_, fun h => absurd hf h, HB4.out⟩
    have h := HR.out
    rw [F1.out hf] at h
    rw [HD1.out, Int.add_zero]
    exact h
  · have hdf : decide (Fin a) = false := decide_eq_false hf
    rw [hdf]
    go_wp2_with fail
    go_ret2
    exact ⟨0, false, rfl, fun h => absurd h hf, fun _ => rfl, HB1.out.alloc HB1.out.size _⟩
end Go.Proofs.Ytkpoikjikkailaa
