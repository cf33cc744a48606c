import Derived.Test.YtgjdmenmegnacabTD
namespace Go.Proofs.Ytgjdmenmegnacab
open Go.RowKit
set_option linter.unusedVariables false

set_option maxRecDepth 100000 in
set_option maxHeartbeats 1000000 in
theorem roundBound_walk (n : Int) (n0 : -9223372036854775808 ≤ n) (n1 : n ≤ 9223372036854775807) (a : Nat) (ha : a < 18446744073709551616) (b : Nat) (hb : b < 18446744073709551616) (w : World) :
    Calls Try.prog 4 #[.int .i64 n, .float .f64 a, .float .f64 b] w fun e w' => e = .returned (.bool true) ∧ Below w.heap.size w w' := by
  obtain ⟨E, hE⟩ : ∃ E : Nat, E = 1074 := ⟨_, rfl⟩
  have k1 := callOf_is n
  have K1 : Hid _ := k1
  clear k1
  go_enter Try.func4, Try.ntmps4
  go_wp2_with fail
  generalize wrap64 (1 + (wrap64 (n.tmod 3 + 3)).tmod 3) = c1 at *
  obtain ⟨⟨p, o1⟩, p1, p2, cp⟩ := asked_any c1 0 K1.out a b ha hb E hE
  simp only at cp
  have P1 : Hid (Fin a ∧ Fin b → RndZ 0 (exactX c1 E a b) (2 ^ E) (p, o1)) := p1
  have P2 : Hid (¬ (Fin a ∧ Fin b) → (p, o1) = (0, false)) := p2
  clear p1 p2
  refine (exact_any c1 K1.out a b ha hb _ E hE).mono ?_
  rintro e1 w1 ⟨v1, rfl, ⟨z1, hz1, hf1⟩, hb1⟩
  have Z1 : Hid (NumZ w1 v1 (E + E) 2048 z1) := hz1
  have F1 : Hid (Fin a ∧ Fin b → z1 = exactX c1 E a b) := hf1
  obtain ⟨nx, mx, ex, ⟨ao, len, cap, xs, rfl, -⟩, -⟩ := hz1
  have HB1 : Hid (Below w.heap.size w w1) := hb1
  clear hb1 hf1
  obtain ⟨da, hda⟩ : ∃ q, decide (Fin a ∧ Fin b) = q := ⟨_, rfl⟩
  rw [hda]
  have HDA : Hid (da = true → Fin a ∧ Fin b) := fun h => by rw [← hda] at h; exact of_decide_eq_true h
  have HDN : Hid (da = false → ¬ (Fin a ∧ Fin b)) := fun h => by rw [← hda] at h; exact of_decide_eq_false h
  clear hda
  have gx : (w1.alloc (Obj.cells #[Value.bool nx, Value.slice ao len cap, Value.int IntKind.i64 ex] 25)).heap[w1.heap.size]? = some (Obj.cells #[Value.bool nx, Value.slice ao len cap, Value.int IntKind.i64 ex] 25) := heap_alloc_new w1 _
  have GX : Hid _ := gx
  have HBA : Hid (Below w.heap.size w (w1.alloc (Obj.cells #[Value.bool nx, Value.slice ao len cap, Value.int IntKind.i64 ex] 25))) := HB1.out.alloc HB1.out.size _
  have HZA : Hid ((w1.alloc (Obj.cells #[Value.bool nx, Value.slice ao len cap, Value.int IntKind.i64 ex] 25)).heap.size = w1.heap.size + 1) := by unfold Hid; simp
  have ZA : Hid (NumZ (w1.alloc (Obj.cells #[Value.bool nx, Value.slice ao len cap, Value.int IntKind.i64 ex] 25)) _ (E + E) 2048 z1) := NumZ.later Z1.out ((Below.refl _ _).alloc (Nat.le_refl _) _)
  clear gx
  go_wp2_with fail
  refine (cp _).mono ?_
  rintro e3 w3 ⟨rfl, rfl⟩
  clear cp
  go_wp2_with fail
  refine (whole1_any _).mono ?_
  rintro e2 w2 ⟨v2, rfl, hn2, hb2⟩
  have N2 : Hid (NumV w2 v2 false 1 0) := hn2
  obtain ⟨ao2, len2, cap2, xs2, rfl, -⟩ := hn2
  have HB2 : Hid (Below (w1.heap.size + 1) (w1.alloc (Obj.cells #[Value.bool nx, Value.slice ao len cap, Value.int IntKind.i64 ex] 25)) w2) := by have h := HZA.out; unfold Hid; rw [← h]; exact hb2
  clear hb2
  obtain ⟨k1, hk1⟩ : ∃ k : Nat, (k : Int) = 1024 + ((E + E : Nat) : Int) := ⟨1024 + (E + E), by omega⟩
  obtain ⟨k2, hk2⟩ : ∃ k : Nat, (k : Int) = 970 + ((E + E : Nat) : Int) := ⟨970 + (E + E), by omega⟩
  have HK1 : Hid ((k1 : Int) = 1024 + ((E + E : Nat) : Int)) := hk1
  have HK2 : Hid ((k2 : Int) = 970 + ((E + E : Nat) : Int)) := hk2
  clear hk1 hk2
  go_wp2_with fail
  refine (powZ_any _ 1024 _ N2.out (E + E) k1 (by omega) HK1.out 2048 (by omega)).mono ?_
  rintro e4 w4 ⟨v4, rfl, hz4, hb4⟩
  have Z4 : Hid (NumZ w4 v4 (E + E) 2048 ((2 ^ k1 : Nat) : Int)) := hz4
  obtain ⟨n4, m4, e4, ⟨ao4, len4, cap4, xs4, rfl, -⟩, -⟩ := hz4
  have HB4 : Hid (Below (w1.heap.size + 1) (w1.alloc (Obj.cells #[Value.bool nx, Value.slice ao len cap, Value.int IntKind.i64 ex] 25)) w4) := HB2.out.trans (hb4.mono (by have := HB2.out.size; rw [HZA.out] at this; exact this))
  clear hb4
  go_wp2_with fail
  refine (whole1_any _).mono ?_
  rintro e5 w5 ⟨v5, rfl, hn5, hb5⟩
  have N5 : Hid (NumV w5 v5 false 1 0) := hn5
  obtain ⟨ao5, len5, cap5, xs5, rfl, -⟩ := hn5
  have Z5 : Hid (NumZ w5 _ (E + E) 2048 ((2 ^ k1 : Nat) : Int)) := NumZ.later Z4.out hb5
  have HB5 : Hid (Below (w1.heap.size + 1) (w1.alloc (Obj.cells #[Value.bool nx, Value.slice ao len cap, Value.int IntKind.i64 ex] 25)) w5) := HB4.out.trans (hb5.mono (by have := HB4.out.size; rw [HZA.out] at this; exact this))
  clear hb5
  go_wp2_with fail
  refine (powZ_any _ 970 _ N5.out (E + E) k2 (by omega) HK2.out 2048 (by omega)).mono ?_
  rintro e6 w6 ⟨v6, rfl, hz6, hb6⟩
  have Z6 : Hid (NumZ w6 v6 (E + E) 2048 ((2 ^ k2 : Nat) : Int)) := hz6
  obtain ⟨n6, m6, e6, ⟨ao6, len6, cap6, xs6, rfl, -⟩, -⟩ := hz6
  have Z6' : Hid (NumZ w6 _ (E + E) 2048 ((2 ^ k1 : Nat) : Int)) := NumZ.later Z5.out hb6
  have HB6 : Hid (Below (w1.heap.size + 1) (w1.alloc (Obj.cells #[Value.bool nx, Value.slice ao len cap, Value.int IntKind.i64 ex] 25)) w6) := HB5.out.trans (hb6.mono (by have := HB5.out.size; rw [HZA.out] at this; exact this))
  clear hb6
  go_wp2_with fail
  refine (minusZ_any _ _ (E + E) 2048 _ _ _ Z6'.out Z6.out (by omega) (by omega)).mono ?_
  rintro e7 w7 ⟨v7, rfl, hz7, hb7⟩
  have Z7 : Hid (NumZ w7 v7 (E + E) 2049 (((2 ^ k1 : Nat) : Int) - ((2 ^ k2 : Nat) : Int))) := hz7
  obtain ⟨n7, m7, e7, ⟨ao7, len7, cap7, xs7, rfl, -⟩, -⟩ := hz7
  have HB7 : Hid (Below (w1.heap.size + 1) (w1.alloc (Obj.cells #[Value.bool nx, Value.slice ao len cap, Value.int IntKind.i64 ex] 25)) w7) := HB6.out.trans (hb7.mono (by have := HB6.out.size; rw [HZA.out] at this; exact this))
  have hs7 : w1.heap.size + 1 ≤ w7.heap.size := by have := HB7.out.size; rw [HZA.out] at this; exact this
  have Z1' : Hid (NumZ w7 _ (E + E) 2049 z1) := NumZ.mono (NumZ.later ZA.out (by have h := HB7.out; rw [← HZA.out] at h; exact h)) (by omega)
  have HBW : Hid (Below w.heap.size w w7) := HBA.out.trans (HB7.out.mono (by have := HB1.out.size; omega))
  have G7 : Hid (w7.heap[w1.heap.size]? = some (Obj.cells #[Value.bool nx, Value.slice ao len cap, Value.int IntKind.i64 ex] 25)) := (HB7.out.block w1.heap.size (by omega)).trans GX.out
  clear hb7 HB2 HB4 HB5 HB6 N2 N5 Z4 Z5 Z6 Z6' ZA
  have gx8 : (w7.alloc (Obj.cells #[Value.bool n7, Value.slice ao7 len7 cap7, Value.int IntKind.i64 e7] 25)).heap[w1.heap.size]? = some (Obj.cells #[Value.bool nx, Value.slice ao len cap, Value.int IntKind.i64 ex] 25) := by rw [Below.heap_alloc _ _ _ (by omega)]; exact G7.out
  obtain ⟨x0, x1, x2⟩ := three_cells gx8
  have Z8 : Hid (NumZ (w7.alloc (Obj.cells #[Value.bool n7, Value.slice ao7 len7 cap7, Value.int IntKind.i64 e7] 25)) _ (E + E) 2049 z1) := NumZ.later Z1'.out ((Below.refl _ _).alloc (Nat.le_refl _) _)
  have Z9 : Hid (NumZ (w7.alloc (Obj.cells #[Value.bool n7, Value.slice ao7 len7 cap7, Value.int IntKind.i64 e7] 25)) _ (E + E) 2049 (((2 ^ k1 : Nat) : Int) - ((2 ^ k2 : Nat) : Int))) := NumZ.later Z7.out ((Below.refl _ _).alloc (Nat.le_refl _) _)
  have HB8 : Hid (Below w.heap.size w (w7.alloc (Obj.cells #[Value.bool n7, Value.slice ao7 len7 cap7, Value.int IntKind.i64 e7] 25))) := HBW.out.alloc HBW.out.size _
  have GB : Hid ((w7.alloc (Obj.cells #[Value.bool n7, Value.slice ao7 len7 cap7, Value.int IntKind.i64 e7] 25)).heap[w7.heap.size]? = some (Obj.cells #[Value.bool n7, Value.slice ao7 len7 cap7, Value.int IntKind.i64 e7] 25)) := heap_alloc_new w7 _
  clear gx8
  cases da
  · have e := P2.out (HDN.out rfl)
    simp only [Prod.mk.injEq] at e
    obtain ⟨rfl, rfl⟩ := e
    go_wp2_with fail
    go_region_with (go_at_call 11; refine (started_any _).mono ?_; rintro e9 w9 ⟨rfl, rfl⟩)
    all_goals go_wp2_with (go_at_call 11; refine (started_any _).mono ?_; rintro e9 w9 ⟨rfl, rfl⟩)
    all_goals (go_ret; exact ⟨rfl, by first | exact HB8.out | exact HB8.out.drew⟩)
  · have hbd := bound_at hE HK1.out HK2.out (P1.out (HDA.out rfl))
    rw [← F1.out (HDA.out rfl)] at hbd
    simp only at hbd
    have HZB : Hid ((w7.alloc (Obj.cells #[Value.bool n7, Value.slice ao7 len7 cap7, Value.int IntKind.i64 e7] 25)).heap.size = w7.heap.size + 1) := by unfold Hid; simp
    have Z8d : Hid (NumZ (w7.alloc (Obj.cells #[Value.bool n7, Value.slice ao7 len7 cap7, Value.int IntKind.i64 e7] 25)).drew _ (E + E) 2049 z1) := NumZ.later Z8.out (Below.refl _ _).drew
    generalize hX : ((z1.natAbs : Int) - (((2 ^ k1 : Nat) : Int) - ((2 ^ k2 : Nat) : Int))) = X at hbd
    have HX : Hid (((z1.natAbs : Int) - (((2 ^ k1 : Nat) : Int) - ((2 ^ k2 : Nat) : Int))) = X) := hX
    clear hX
    obtain ⟨y0, y1, y2⟩ := three_cells GB.out
    have GX8 : Hid ((w7.alloc (Obj.cells #[Value.bool n7, Value.slice ao7 len7 cap7, Value.int IntKind.i64 e7] 25)).heap[w1.heap.size]? = some (Obj.cells #[Value.bool nx, Value.slice ao len cap, Value.int IntKind.i64 ex] 25)) := by unfold Hid; rw [Below.heap_alloc _ _ _ (by omega)]; exact G7.out
    obtain ⟨g, hgg⟩ : ∃ g, sgi X = g := ⟨_, rfl⟩
    have HG : Hid (sgi X = g) := hgg
    rw [hgg] at hbd
    clear hgg
    subst hbd
    go_wp2_with fail
    generalize w7.alloc (Obj.cells #[Value.bool n7, Value.slice ao7 len7 cap7, Value.int IntKind.i64 e7] 25) = W at *
    obtain ⟨tg, htg⟩ : ∃ tg, decide (g < 0) = tg := ⟨_, rfl⟩
    rw [htg]
    cases tg
    all_goals
      go_region_held3 (fun w' => w'.cell? ⟨w1.heap.size, 0, none⟩ = some (.bool nx) ∧ w'.cell? ⟨w1.heap.size, 1, none⟩ = some (.slice ao len cap) ∧ w'.cell? ⟨w1.heap.size, 2, none⟩ = some (.int .i64 ex) ∧ w'.cell? ⟨w7.heap.size, 0, none⟩ = some (.bool n7) ∧ w'.cell? ⟨w7.heap.size, 1, none⟩ = some (.slice ao7 len7 cap7) ∧ w'.cell? ⟨w7.heap.size, 2, none⟩ = some (.int .i64 e7)) (go_keep)
        (first
          | (go_at_call 16; refine (sizeZ_any _ (E + E) 2049 z1 _ Z8d.out).mono ?_; rintro ea wa ⟨va, rfl, hza, hba⟩; have ga := (hba.block w1.heap.size (by show w1.heap.size < W.heap.size; rw [HZB.out]; omega)).trans GX8.out; have gb := (hba.block w7.heap.size (by show w7.heap.size < W.heap.size; rw [HZB.out]; omega)).trans GB.out; obtain ⟨a0, a1, a2⟩ := three_cells ga; obtain ⟨a3, a4, a5⟩ := three_cells gb; have HBA2 : Hid (Below w.heap.size w wa) := HB8.out.drew.trans (hba.mono HB8.out.size); have ZV : Hid (NumZ wa va (E + E) 2049 (z1.natAbs : Int)) := hza; have ZW : Hid (NumZ wa _ (E + E) 2049 (((2 ^ k1 : Nat) : Int) - ((2 ^ k2 : Nat) : Int))) := NumZ.later (NumZ.later Z9.out (Below.refl _ _).drew) hba; have GA : Hid _ := ga; have GB2 : Hid _ := gb; have HSA : Hid (w7.heap.size + 1 ≤ wa.heap.size) := Nat.le_trans (Nat.le_of_eq HZB.out.symm) hba.size; clear hza hba ga gb)
          | (go_at_call 13; refine (cmpZ_any _ _ (E + E) 2049 _ _ _ ZV.out ZW.out (by omega) (by omega)).mono ?_; rintro ec wc ⟨rfl, hbc⟩; have gc := (hbc.block w1.heap.size (by have := HSA.out; omega)).trans GA.out; have gd := (hbc.block w7.heap.size (by have := HSA.out; omega)).trans GB2.out; obtain ⟨c0, c1, c2⟩ := three_cells gc; obtain ⟨c3, c4, c5⟩ := three_cells gd; have HBC : Hid (Below w.heap.size w wc) := HBA2.out.trans (hbc.mono HBA2.out.size); rw [HX.out, HG.out]; clear hbc gc gd)
          | (go_at_call 11; refine (started_any _).mono ?_; rintro ee ww ⟨rfl, rfl⟩))
      all_goals go_wp2_with (go_at_call 11; refine (started_any _).mono ?_; rintro e9 w9 ⟨rfl, rfl⟩)
      all_goals (go_ret; exact ⟨rfl, by first | exact HBC.out | exact HBC.out.drew⟩)
end Go.Proofs.Ytgjdmenmegnacab
