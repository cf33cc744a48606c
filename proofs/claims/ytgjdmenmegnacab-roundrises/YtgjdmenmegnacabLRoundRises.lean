import Derived.Test.YtgjdmenmegnacabTC
namespace Go.Proofs.Ytgjdmenmegnacab
open Go.RowKit
set_option linter.unusedVariables false

set_option maxRecDepth 100000 in
set_option maxHeartbeats 1000000 in
theorem roundRises_walk (d : Int) (d0 : -9223372036854775808 ≤ d) (d1 : d ≤ 9223372036854775807) (n : Int) (n0 : -9223372036854775808 ≤ n) (n1 : n ≤ 9223372036854775807) (a : Nat) (ha : a < 18446744073709551616) (b : Nat) (hb : b < 18446744073709551616) (m : Int) (m0 : -9223372036854775808 ≤ m) (m1 : m ≤ 9223372036854775807) (e : Nat) (he : e < 18446744073709551616) (f : Nat) (hf : f < 18446744073709551616) (w : World) :
    Calls Try.prog 6 #[.int .i64 d, .int .i64 n, .float .f64 a, .float .f64 b, .int .i64 m, .float .f64 e, .float .f64 f] w fun e w' => e = .returned (.bool true) ∧ Below w.heap.size w w' := by
  obtain ⟨E, hE⟩ : ∃ E : Nat, E = 1074 := ⟨_, rfl⟩
  have k1 := callOf_is n
  have k2 := callOf_is m
  have K1 : Hid _ := k1
  have K2 : Hid _ := k2
  clear k1 k2
  go_enter Try.func6, Try.ntmps6
  go_wp2_with fail
  generalize wrap64 (1 + (wrap64 (n.tmod 3 + 3)).tmod 3) = c1 at *
  generalize wrap64 (1 + (wrap64 (m.tmod 3 + 3)).tmod 3) = c2 at *
  obtain ⟨⟨p, o1⟩, p1, p2, cp⟩ := asked_any c1 d K1.out a b ha hb E hE
  obtain ⟨⟨q, o2⟩, q1, q2, cq⟩ := asked_any c2 d K2.out e f he hf E hE
  simp only at cp cq
  have Q1 : Hid (Fin e ∧ Fin f → RndZ d (exactX c2 E e f) (2 ^ E) (q, o2)) := q1
  have P1 : Hid (Fin a ∧ Fin b → RndZ d (exactX c1 E a b) (2 ^ E) (p, o1)) := p1
  clear p1 p2 q1 q2
  refine (exact_any c1 K1.out a b ha hb _ E hE).mono ?_
  rintro e1 w1 ⟨v1, rfl, ⟨z1, hz1, hf1⟩, hb1⟩
  have Z1 : Hid (NumZ w1 v1 (E + E) 2048 z1) := hz1
  have F1 : Hid (Fin a ∧ Fin b → z1 = exactX c1 E a b) := hf1
  obtain ⟨nx, mx, ex, ⟨ao, len, cap, xs, rfl, -⟩, -⟩ := hz1
  have HB1 : Hid (Below w.heap.size w w1) := hb1
  clear hb1 hf1
  obtain ⟨da, hda⟩ : ∃ q, decide (Fin a ∧ Fin b) = q := ⟨_, rfl⟩
  rw [hda]
  have HDA : Hid (da = true → Fin a ∧ Fin b) := fun h => by rw [← hda] at h; exact of_decide_eq_true h
  clear hda
  go_wp2_with fail
  refine (exact_any c2 K2.out e f he hf _ E hE).mono ?_
  rintro e2 w2 ⟨v2, rfl, ⟨z2, hz2, hf2⟩, hb2⟩
  have Z2 : Hid (NumZ w2 v2 (E + E) 2048 z2) := hz2
  have F2 : Hid (Fin e ∧ Fin f → z2 = exactX c2 E e f) := hf2
  obtain ⟨ny, my, ey, ⟨bo, blen, bcap, ys, rfl, -⟩, -⟩ := hz2
  have hz1' : (w1.alloc (Obj.cells #[Value.bool nx, Value.slice ao len cap, Value.int IntKind.i64 ex] 25)).heap.size = w1.heap.size + 1 := by simp
  have hs2 : w1.heap.size + 1 ≤ w2.heap.size := by have := hb2.size; rw [hz1'] at this; exact this
  have HB2 : Hid (Below w.heap.size w w2) := (HB1.out.alloc HB1.out.size _).trans (hb2.mono (by rw [hz1']; have := HB1.out.size; omega))
  have Z1' : Hid (NumZ w2 _ (E + E) 2048 z1) := NumZ.later (NumZ.later Z1.out ((Below.refl _ _).alloc (Nat.le_refl _) (Obj.cells #[Value.bool nx, Value.slice ao len cap, Value.int IntKind.i64 ex] 25))) hb2
  have gx : (w2.alloc (Obj.cells #[Value.bool ny, Value.slice bo blen bcap, Value.int IntKind.i64 ey] 25)).heap[w1.heap.size]? = some (Obj.cells #[Value.bool nx, Value.slice ao len cap, Value.int IntKind.i64 ex] 25) := by
    rw [Below.heap_alloc _ _ _ (by omega), hb2.block _ (by rw [hz1']; omega)]; exact heap_alloc_new w1 _
  obtain ⟨x0, x1, x2⟩ := three_cells gx
  have HBF : Hid (Below w.heap.size w (w2.alloc (Obj.cells #[Value.bool ny, Value.slice bo blen bcap, Value.int IntKind.i64 ey] 25))) := HB2.out.alloc HB2.out.size _
  have ZA : Hid (NumZ (w2.alloc (Obj.cells #[Value.bool ny, Value.slice bo blen bcap, Value.int IntKind.i64 ey] 25)) _ (E + E) 2048 z1) := NumZ.later Z1'.out ((Below.refl _ _).alloc (Nat.le_refl _) _)
  have ZB : Hid (NumZ (w2.alloc (Obj.cells #[Value.bool ny, Value.slice bo blen bcap, Value.int IntKind.i64 ey] 25)) _ (E + E) 2048 z2) := NumZ.later Z2.out ((Below.refl _ _).alloc (Nat.le_refl _) _)
  clear hb2 hf2 gx
  obtain ⟨db, hdb⟩ : ∃ q, decide (Fin e ∧ Fin f) = q := ⟨_, rfl⟩
  rw [hdb]
  have HDB : Hid (db = true → Fin e ∧ Fin f) := fun h => by rw [← hdb] at h; exact of_decide_eq_true h
  clear hdb
  have cp' := cp
  have cq' := cq
  go_wp2_with fail
  refine (cp _).mono ?_
  rintro e3 w3 ⟨rfl, rfl⟩
  go_wp2_with fail
  refine (cq _).mono ?_
  rintro e4 w4 ⟨rfl, rfl⟩
  clear cp cq cp' cq'
  by_cases hall : da = true ∧ db = true ∧ o1 = true ∧ o2 = true
  · obtain ⟨rfl, rfl, rfl, rfl⟩ := hall
    have r := rises_of (P1.out (HDA.out rfl)) (Q1.out (HDB.out rfl)) rfl rfl
    rw [← F1.out (HDA.out rfl), ← F2.out (HDB.out rfl)] at r
    have R : Hid _ := r
    clear r
    go_wp2_with fail
    refine (cmpZ_any _ _ (E + E) 2048 z1 z2 _ ZA.out ZB.out (by omega) (by omega)).mono ?_
    rintro e5 w5 ⟨rfl, hb5⟩
    have HB5 : Hid (Below w.heap.size w w5) := HBF.out.trans (hb5.mono HBF.out.size)
    clear hb5
    generalize sgi (z1 - z2) = g at *
    by_cases hg : g ≤ 0
    · have ht := R.out.1 hg
      go_wp2_with (go_at_call 11; refine (started_any _).mono ?_; rintro e6 w6 ⟨rfl, rfl⟩)
      all_goals (go_ret; exact ⟨rfl, HB5.out⟩)
    · have ht := R.out.2 (by omega)
      go_wp2_with (go_at_call 11; refine (started_any _).mono ?_; rintro e6 w6 ⟨rfl, rfl⟩)
      all_goals (go_ret; exact ⟨rfl, HB5.out⟩)
  · cases da
    · go_wp2_with (go_at_call 11; refine (started_any _).mono ?_; rintro e6 w6 ⟨rfl, rfl⟩)
      all_goals (go_ret; exact ⟨rfl, HBF.out⟩)
    cases db
    · go_wp2_with (go_at_call 11; refine (started_any _).mono ?_; rintro e6 w6 ⟨rfl, rfl⟩)
      all_goals (go_ret; exact ⟨rfl, HBF.out⟩)
    cases o1
    · go_wp2_with (go_at_call 11; refine (started_any _).mono ?_; rintro e6 w6 ⟨rfl, rfl⟩)
      all_goals (go_ret; exact ⟨rfl, HBF.out⟩)
    cases o2
    · go_wp2_with (go_at_call 11; refine (started_any _).mono ?_; rintro e6 w6 ⟨rfl, rfl⟩)
      all_goals (go_ret; exact ⟨rfl, HBF.out⟩)
    exact absurd ⟨rfl, rfl, rfl, rfl⟩ hall
end Go.Proofs.Ytgjdmenmegnacab
