import Derived.Test.YtigaggkipmcgeaaZD
import Derived.Test.YtigaggkipmcgeaaNY
import Derived.Shelf.Abstract
namespace Go.Proofs.Ytigaggkipmcgeaa
open Go.RowKit
set_option linter.unusedVariables false

set_option maxRecDepth 100000 in
set_option maxHeartbeats 400000 in
theorem make1_any (d : Int) (B lo hi x : Nat) (bad : Bool) (hx : (if d = 2 then lo else hi) = x) (w : World) (hB : w.heap[B]? = some (.cells #[.float .f64 lo, .float .f64 hi, .bool bad] 68)) (p : Nat × Bool)
    (hp : ∀ w, Calls Try.prog 84 #[.int .i64 0, .float .f64 x] w fun e w' => e = .returned (.tuple #[.float .f64 p.1, .bool p.2]) ∧ w' = w) :
    Calls Try.prog 83 #[.int .i64 d, .pointer (some ⟨B, 0, none⟩)] w fun e w' => e = .returned (.tuple #[.float .f64 p.1, .bool p.2]) ∧ Below w.heap.size w w' := by
  have HS : Hid (∀ w, Calls Try.prog 85 #[.int .i64 d, .agg #[.float .f64 lo, .float .f64 hi, .bool bad]] w fun e w' => e = .returned (.float .f64 x) ∧ Below w.heap.size w w') := by
    intro w; have := side_any d lo hi bad w; rw [hx] at this; exact this
  have HP : Hid _ := hp
  obtain ⟨c0, c1, c2⟩ := cells3 hB
  clear hB hp hx
  go_enter Try.func83, Try.ntmps83
  go_wp2_with fail
  refine Calls.mono (HS.out _) ?_
  rintro e w1 ⟨rfl, b1⟩
  have B1 : Hid (Below w.heap.size w w1) := b1
  clear b1 HS
  go_wp2_with fail
  refine Calls.mono (HP.out _) ?_
  rintro e w2 ⟨rfl, rfl⟩
  go_wp2_with fail
  go_ret2
  exact ⟨rfl, B1.out⟩
theorem rds_one {W : World} {g : Nat} {lo hi : Nat} {bad : Bool} {t : TypeId} (h : W.heap[g]? = some (.cells #[.float .f64 lo, .float .f64 hi, .bool bad] t)) (hlo : lo < 18446744073709551616) (hhi : hi < 18446744073709551616) : RdS W (some ⟨g, 0, none⟩) 1 1 (fun _ => (lo, hi, bad)) := by
  obtain ⟨c0, c1, c2⟩ := cells3 h
  refine ⟨by omega, by decide, fun _ _ => ⟨hlo, hhi⟩, .inr ⟨g, 0, rfl, fun j hj => ?_⟩⟩
  obtain rfl : j = 0 := by omega
  exact ⟨c0, c1, c2⟩
theorem all_one {lo hi : Nat} {bad : Bool} : decide (AllGood (fun _ => (lo, hi, bad)) 1) = decide (Good lo hi bad) := by
  congr 1; apply propext
  exact ⟨fun h => h 0 (by omega), fun h _ _ => h⟩
def two (a b : Nat × Nat × Bool) (j : Nat) : Nat × Nat × Bool := if j = 0 then a else b
theorem rds_two {W : World} {g : Nat} {lo hi lo' hi' : Nat} {bad bad' : Bool} {t : TypeId} (h : W.heap[g]? = some (.cells #[.float .f64 lo, .float .f64 hi, .bool bad, .float .f64 lo', .float .f64 hi', .bool bad'] t)) (hlo : lo < 18446744073709551616) (hhi : hi < 18446744073709551616) (hlo' : lo' < 18446744073709551616) (hhi' : hi' < 18446744073709551616) : RdS W (some ⟨g, 0, none⟩) 2 2 (two (lo, hi, bad) (lo', hi', bad')) := by
  have c := fun j => cell_of_row W g j _ _ _ h
  refine ⟨by omega, by decide, fun j hj => ?_, .inr ⟨g, 0, rfl, fun j hj => ?_⟩⟩
  · unfold two; split
    · exact ⟨hlo, hhi⟩
    · exact ⟨hlo', hhi'⟩
  · rcases (show j = 0 ∨ j = 1 by omega) with rfl | rfl
    · exact ⟨c 0, c 1, c 2⟩
    · exact ⟨c 3, c 4, c 5⟩
theorem all_two {lo hi lo' hi' : Nat} {bad bad' : Bool} : decide (AllGood (two (lo, hi, bad) (lo', hi', bad')) 2) = decide (Good lo hi bad ∧ Good lo' hi' bad') := by
  congr 1; apply propext
  refine ⟨fun h => ⟨h 0 (by omega), h 1 (by omega)⟩, fun h j hj => ?_⟩
  rcases (show j = 0 ∨ j = 1 by omega) with rfl | rfl
  · exact h.1
  · exact h.2
theorem good1_any {W : World} {g : Nat} {lo hi : Nat} {bad : Bool} {t : TypeId} (h : W.heap[g]? = some (.cells #[.float .f64 lo, .float .f64 hi, .bool bad] t)) (hlo : lo < 18446744073709551616) (hhi : hi < 18446744073709551616) :
    Calls Try.prog 80 #[.slice (some ⟨g, 0, none⟩) 1 1] W fun e w' => e = .returned (.bool (decide (Good lo hi bad))) ∧ Below W.heap.size W w' := by
  have := good_any _ 1 1 _ W (rds_one h hlo hhi)
  rw [all_one] at this; exact this
theorem good2_any {W : World} {g : Nat} {lo hi lo' hi' : Nat} {bad bad' : Bool} {t : TypeId} (h : W.heap[g]? = some (.cells #[.float .f64 lo, .float .f64 hi, .bool bad, .float .f64 lo', .float .f64 hi', .bool bad'] t)) (hlo : lo < 18446744073709551616) (hhi : hi < 18446744073709551616) (hlo' : lo' < 18446744073709551616) (hhi' : hi' < 18446744073709551616) :
    Calls Try.prog 80 #[.slice (some ⟨g, 0, none⟩) 2 2] W fun e w' => e = .returned (.bool (decide (Good lo hi bad ∧ Good lo' hi' bad'))) ∧ Below W.heap.size W w' := by
  have := good_any _ 2 2 _ W (rds_two h hlo hhi hlo' hhi')
  rw [all_two] at this; exact this
theorem next_plain {x : Nat} (hx : x < 18446744073709551616) (hf : Fin x) (w : World) :
    Calls Try.prog 84 #[.int .i64 0, .float .f64 x] w fun e w' => e = .returned (.tuple #[.float .f64 (plainM x), .bool true]) ∧ w' = w := by
  obtain ⟨p, h1, -, c⟩ := next_any 0 x hx
  have h := h1 hf
  rw [show sideOf 0 = 0 from rfl, Int.add_zero] at h
  have := canon_rnd (D := 64) hx hf (by decide) (.inl rfl) h
  subst this
  exact c w
def spV (r : Nat × Nat × Bool) : Value := .agg #[.float .f64 r.1, .float .f64 r.2.1, .bool r.2.2]
def makeS (lo hi : Nat) : Nat × Nat × Bool := if Good lo hi false then (plainM lo, plainM hi, false) else (0, 0, true)
set_option maxRecDepth 100000 in
set_option maxHeartbeats 2000000 in
theorem make_any (lo hi : Nat) (hlo : lo < 18446744073709551616) (hhi : hi < 18446744073709551616) (w : World) :
    Calls Try.prog 31 #[.float .f64 lo, .float .f64 hi] w fun e w' => e = .returned (.agg #[.float .f64 (makeS lo hi).1, .float .f64 (makeS lo hi).2.1, .bool (makeS lo hi).2.2]) ∧ Below w.heap.size w w' := by
  have hsf := run_store_f
  obtain ⟨g0, g1, g2, gz, gb⟩ := alloc3_facts w (Obj.cells #[Value.float FloatKind.f64 0, Value.float FloatKind.f64 0, Value.bool false] 68) (Obj.cells #[Value.float FloatKind.f64 lo, Value.float FloatKind.f64 hi, Value.bool false] 68) (Obj.cells #[Value.float FloatKind.f64 lo, Value.float FloatKind.f64 hi, Value.bool false] 68)
  have G0 : Hid _ := g0
  have G1 : Hid _ := g1
  have G2 : Hid _ := g2
  have GZ : Hid _ := gz
  have GB : Hid _ := gb
  clear g0 g1 g2 gz gb
  go_enter Try.func31, Try.ntmps31
  go_wp2_with fail
  generalize (((w.alloc (Obj.cells #[Value.float FloatKind.f64 0, Value.float FloatKind.f64 0, Value.bool false] 68)).alloc (Obj.cells #[Value.float FloatKind.f64 lo, Value.float FloatKind.f64 hi, Value.bool false] 68)).alloc (Obj.cells #[Value.float FloatKind.f64 lo, Value.float FloatKind.f64 hi, Value.bool false] 68)) = W at G0 G1 G2 GZ GB ⊢
  refine (good1_any G2.out hlo hhi).mono ?_
  rintro e w1 ⟨rfl, b1⟩
  have R0 : Hid _ := (b1.block w.heap.size (by have := GZ.out; omega)).trans G0.out
  have R1 : Hid _ := (b1.block (w.heap.size + 1) (by have := GZ.out; omega)).trans G1.out
  have B1 : Hid (Below w.heap.size w w1) := GB.out.trans (b1.mono GB.out.size)
  have Z1 : Hid (w.heap.size + 1 < w1.heap.size) := by have := b1.size; have := GZ.out; unfold Hid; omega
  clear b1 G0 G1 G2 GZ GB
  by_cases hg : Good lo hi false
  · have HM : Hid (makeS lo hi = (plainM lo, plainM hi, false)) := by unfold Hid makeS; rw [if_pos hg]
    rw [decide_eq_true hg]
    have T2 : Hid (Tells 83 #[.pointer (some ⟨w.heap.size + 1, 0, none⟩)] w1 2 (plainM lo, true)) := fun w' hb => make1_any 2 _ lo hi lo false rfl w' ((hb.block _ Z1.out).trans R1.out) _ (next_plain hlo hg.2.1)
    have T1 : Hid (Tells 83 #[.pointer (some ⟨w.heap.size + 1, 0, none⟩)] w1 1 (plainM hi, true)) := fun w' hb => make1_any 1 _ lo hi hi false rfl w' ((hb.block _ Z1.out).trans R1.out) _ (next_plain hhi hg.2.2.1)
    clear hg
    go_wp2_with fail
    refine (spanOf_any 83 _ (enters_of Try.func83 (by kernel_rfl) rfl) _ (plainM lo, true) (plainM hi, true) T2.out T1.out).mono ?_
    rintro e w2 ⟨rfl, b2⟩
    rw [show spOf (plainM lo, true) (plainM hi, true) = (plainM lo, plainM hi, false) from rfl]
    have r2 := (b2.block w.heap.size (by have := Z1.out; omega)).trans R0.out
    have B2 : Hid (Below w.heap.size w w2) := B1.out.trans (b2.mono B1.out.size)
    have R2 : Hid _ := r2
    obtain ⟨c0, c1, c2⟩ := cells3 r2
    have fz := fun j => frozen_of_row _ _ j _ _ r2
    clear b2 R0 R1 B1 Z1 T1 T2 r2
    go_wp2_with fail
    refine bodyPost_ret (v := .agg #[.float .f64 (plainM lo), .float .f64 (plainM hi), .bool false]) (res_sp _ 4 (by kernel_rfl) _ _ w.heap.size _ _ _ ?_ (setsp_heap _ _ _ R2.out)) rfl ?_
    · rfl
    · exact ⟨by rw [HM.out], below_setsp _ _ _ B2.out (Nat.le_refl _)⟩
  · have HM : Hid (makeS lo hi = (0, 0, true)) := by unfold Hid makeS; rw [if_neg hg]
    rw [decide_eq_false hg]
    go_wp2_with fail
    refine (spBad_any _).mono ?_
    rintro e w2 ⟨rfl, b2⟩
    have r2 := (b2.block w.heap.size (by have := Z1.out; omega)).trans R0.out
    have B2 : Hid (Below w.heap.size w w2) := B1.out.trans (b2.mono B1.out.size)
    have R2 : Hid _ := r2
    obtain ⟨c0, c1, c2⟩ := cells3 r2
    have fz := fun j => frozen_of_row _ _ j _ _ r2
    clear b2 R0 R1 B1 Z1 r2
    go_wp2_with fail
    refine bodyPost_ret (v := .agg #[.float .f64 0, .float .f64 0, .bool true]) (res_sp _ 4 (by kernel_rfl) _ _ w.heap.size _ _ _ ?_ (setsp_heap _ _ _ R2.out)) rfl ?_
    · rfl
    · exact ⟨by rw [HM.out], below_setsp _ _ _ B2.out (Nat.le_refl _)⟩
theorem point_any (a : Nat) (ha : a < 18446744073709551616) (w : World) :
    Calls Try.prog 33 #[.float .f64 a] w fun e w' => e = .returned (.agg #[.float .f64 (makeS a a).1, .float .f64 (makeS a a).2.1, .bool (makeS a a).2.2]) ∧ Below w.heap.size w w' := by
  have hm := make_any a a ha ha
  go_enter Try.func33, Try.ntmps33
  have r0 : Hid _ := heap_alloc_new w (.cells #[.float .f64 0, .float .f64 0, .bool false] 68)
  have b0 : Hid (Below w.heap.size w (w.alloc (.cells #[.float .f64 0, .float .f64 0, .bool false] 68))) := (Below.refl _ w).alloc (Nat.le_refl _) _
  have z0 : Hid ((w.alloc (.cells #[.float .f64 0, .float .f64 0, .bool false] 68)).heap.size = w.heap.size + 1) := by unfold Hid; simp
  have HM : Hid _ := hm
  clear hm
  have hsf := run_store_f
  go_wp2_with fail
  refine Calls.mono (HM.out _) ?_
  rintro e w2 ⟨rfl, b2⟩
  have r2 := (b2.block w.heap.size (by have := z0.out; omega)).trans r0.out
  have B2 : Hid (Below w.heap.size w w2) := b0.out.trans (b2.mono b0.out.size)
  have R2 : Hid _ := r2
  obtain ⟨c0, c1, c2⟩ := cells3 r2
  have fz := fun j => frozen_of_row _ _ j _ _ r2
  clear b2 r0 b0 z0 r2
  go_wp2_with fail
  refine bodyPost_ret (res_sp _ 2 (by kernel_rfl) _ _ w.heap.size _ _ _ ?_ (setsp_heap _ _ _ R2.out)) rfl ?_
  · rfl
  · exact ⟨rfl, below_setsp _ _ _ B2.out (Nat.le_refl _)⟩
end Go.Proofs.Ytigaggkipmcgeaa
