import Derived.Test.YtkpoikjikkailaaYB
namespace Go.Proofs.Ytkpoikjikkailaa
open Go.RowKit
set_option linter.unusedVariables false

theorem three_cells' {W : World} {B : Nat} {v0 v1 v2 : Value} {t : TypeId} (h : W.heap[B]? = some (.cells #[v0, v1, v2] t)) :
    W.cell? ⟨B, 0, none⟩ = some v0 ∧ W.cell? ⟨B, 1, none⟩ = some v1 ∧ W.cell? ⟨B, 2, none⟩ = some v2 :=
  ⟨cell_of_row _ _ 0 _ _ _ h, cell_of_row _ _ 1 _ _ _ h, cell_of_row _ _ 2 _ _ _ h⟩
def turnB (neg : Bool) (a : Nat) : Nat := if neg then fopp a else a
set_option maxRecDepth 100000 in
set_option maxHeartbeats 2000000 in
theorem into_any (B : Nat) (o : Option Int) (a b : Nat) (n : Int) (neg : Bool) (ha : a < 18446744073709551616) (hb : b < 18446744073709551616) (w : World) (hB : AccO w B o) :
    Calls Try.prog 41 #[.pointer (some ⟨B, 0, none⟩), .agg #[.int .u64 (a : Int), .int .u64 (b : Int), .int .i64 n], .bool neg] w fun e w' => e = .returned (.tuple #[]) ∧ AccO w' B (prodO o (turnB neg a) b n) ∧ Chg B w w' := by
  have HB : Hid (AccO w B o) := hB
  have hBl := hB.block
  clear hB
  have hcf := float_int
  have hnew := heap_alloc_new w (.cells #[.int .u64 (a : Int), .int .u64 (b : Int), .int .i64 n] 83)
  have B1 : Hid (Below w.heap.size w (w.alloc (.cells #[.int .u64 (a : Int), .int .u64 (b : Int), .int .i64 n] 83))) := (Below.refl _ w).alloc (Nat.le_refl _) _
  have HT : Hid (turnB neg a < 18446744073709551616) := by
    unfold Hid turnB
    cases neg
    · exact ha
    · exact (fopp_parts ha).2.2
  go_enter Try.func41, Try.ntmps41
  go_upto_region 1 with fail
  generalize w.alloc (.cells #[.int .u64 (a : Int), .int .u64 (b : Int), .int .i64 n] 83) = w1 at hnew B1 ⊢
  have HN : Hid _ := hnew
  obtain ⟨c0, c1, c2⟩ := three_cells' hnew
  have HA1 : Hid (AccO w1 B o) := HB.out.below B1.out hBl
  clear hnew HB
  go_upto_region 2 with (first | (go_at_call 18; refine (hcf _ _).mono ?_; rintro e w1 ⟨rfl, rfl⟩))
  go_upto_if 10 with fail
  go_cut [6] (fun v wx => v = .float .f64 (turnB neg a) ∧ wx = w1)
  case first =>
    have hng := run_neg a
    cases neg
    all_goals
      go_wp2_with fail
      go_meet
      exact ⟨rfl, rfl⟩
  case rest =>
  obtain ⟨rfl, hw⟩ := hcut
  subst hw
  obtain ⟨ta, hta⟩ : ∃ ta, turnB neg a = ta := ⟨_, rfl⟩
  have HTA : Hid _ := hta
  rw [hta] at HT ⊢
  clear hta
  have HP : Hid (Calls Try.prog 21 #[.pointer (some ⟨B, 0, none⟩), .float .f64 ta, .float .f64 b, .int .i64 n] wc.drew fun e w' => e = .returned (.tuple #[]) ∧ AccO w' B (prodO o ta b n) ∧ Chg B wc.drew w') := accProd_any B o ta b n HT.out hb _ HA1.out.drew
  have HFB : Hid (∀ w, Calls Try.prog 18 #[.int .u64 (b : Int)] w fun e w' => e = .returned (.float .f64 b) ∧ w' = w) := fun w => float_int b w
  have HG : Hid (∀ w3, Chg B wc.drew w3 → w3.cell? ⟨w.heap.size, 1, none⟩ = some (.int .u64 (b : Int)) ∧ w3.cell? ⟨w.heap.size, 2, none⟩ = some (.int .i64 n)) := by
    intro w3 h3
    have hl := World.block_lt_of_cell? wc _ c0
    have he := h3.other w.heap.size hl (by omega)
    exact ⟨(cell_of_heap he 1).1.trans c1, (cell_of_heap he 2).1.trans c2⟩
  clear hcf
  go_wp2_with fail
  go_region_held3 (fun w' => w'.cell? ⟨w.heap.size, 1, none⟩ = some (.int .u64 (b : Int)) ∧ w'.cell? ⟨w.heap.size, 2, none⟩ = some (.int .i64 n)) (go_keep) ((first | (go_at_call 18; refine Calls.mono (HFB.out _) ?_; rintro e w' ⟨rfl, rfl⟩) | (go_at_call 21; refine Calls.mono HP.out ?_; rintro e w3 ⟨rfl, s1, s2⟩; obtain ⟨q1, q2⟩ := HG.out w3 s2)))
  have HS : Hid (AccO w3 B (prodO o ta b n) ∧ Chg B w w3) := ⟨s1, (Chg.of_below B1.out (by omega)).trans ((Chg.refl B wc).drew.trans s2)⟩
  clear s1 s2 q1 q2 c0 c1 c2
  go_wp2_with fail
  go_end0
  exact ⟨rfl, by rw [HTA.out]; exact HS.out.1, HS.out.2⟩
end Go.Proofs.Ytkpoikjikkailaa
