import Derived.Test.YtajopgndpomggaaPJ
import Derived.Deep.RegionHeld3
namespace Go.Proofs.Ytajopgndpomggaa
open Go.RowKit
set_option linter.unusedVariables false
set_option maxRecDepth 100000 in
set_option maxHeartbeats 2000000 in
theorem accPlays_walk (ao : Option Addr) (len cap : Nat) (F : Nat → StV) (w : World) (h : RdSt w ao len cap F) :
    Calls Try.prog 3 #[.slice ao len cap] w fun e w' => e = .returned (.bool true) ∧ Below w.heap.size w w' := by
  have HR : Hid (RdSt w ao len cap F) := h
  clear h
  go_enter Try.func3, Try.ntmps3
  go_wp2_with fail
  refine (begun_any _).mono ?_
  rintro e1 w1 ⟨rfl, b1⟩
  have B1 : Hid (Below w.heap.size w w1) := b1
  clear b1
  go_wp2_with fail
  obtain ⟨P, hP⟩ : ∃ P, w1.heap.size = P := ⟨_, rfl⟩
  have Z0 : Hid (PZ (w1.alloc (.cells #[.pointer none, .bool false, .slice none 0 0, .int .i64 0, .bool false, .pointer none, .bool false, .slice none 0 0, .int .i64 0, .bool false, .pointer none, .bool false, .slice none 0 0, .int .i64 0, .bool false, .pointer none, .bool false, .slice none 0 0, .int .i64 0, .bool false] 32)) w.heap.size P 0 (fun _ => 0)) := by
    unfold Hid; rw [← hP]; exact PZ.start B1.out.size (heap_alloc_new w1 _)
  have B2 : Hid (Below w.heap.size w (w1.alloc (.cells #[.pointer none, .bool false, .slice none 0 0, .int .i64 0, .bool false, .pointer none, .bool false, .slice none 0 0, .int .i64 0, .bool false, .pointer none, .bool false, .slice none 0 0, .int .i64 0, .bool false, .pointer none, .bool false, .slice none 0 0, .int .i64 0, .bool false] 32))) := B1.out.alloc B1.out.size _
  rw [hP]
  generalize (w1.alloc (.cells #[.pointer none, .bool false, .slice none 0 0, .int .i64 0, .bool false, .pointer none, .bool false, .slice none 0 0, .int .i64 0, .bool false, .pointer none, .bool false, .slice none 0 0, .int .i64 0, .bool false, .pointer none, .bool false, .slice none 0 0, .int .i64 0, .bool false] 32)) = w2 at Z0 B2 ⊢
  clear hP B1
  go_loopw [4] (fun iv wr => ∃ k : Nat, k ≤ 4 ∧ iv = .int .i64 k ∧ ∃ X, Hid (PZ wr w.heap.size P k X) ∧ Hid (Below w.heap.size w wr)) (fun iv _ => 4 - (intOf iv).toNat)
  case atStart => exact ⟨0, by omega, rfl, _, Z0.out, B2.out⟩
  case round =>
    clear Z0 B2
    obtain ⟨k, hk, rfl, X, K1, K2⟩ := hrel
    by_cases hlt : k < 4
    · have hd : decide ((k : Int) < 4) = true := decide_eq_true (by omega)
      have i0 : (0 : Int) ≤ (k : Int) := by omega
      have i1 : (k : Int) < 4 := by omega
      go_wp2_with fail
      refine (new_any _).mono ?_
      rintro e8 w8 ⟨rfl, ha8, b8, lt8⟩
      have Z8 : Hid (PZ w8 w.heap.size P k X) := K1.out.later b8
      have KB8 : Hid (Below w.heap.size w w8) := K2.out.trans (b8.mono K2.out.size)
      have HA : Hid (AccO w8 wr.heap.size (some 0)) := ha8
      have n0 := Z8.out.nil k hlt (Nat.le_refl _)
      have fz := Z8.out.frz
      clear ha8 b8 lt8
      go_upto_region 8 with fail
      have Z9 : Hid (PZ (w8.setCell ⟨P, k * 5, none⟩ (.pointer (some ⟨wr.heap.size, 0, none⟩))) w.heap.size P (k + 1) (updF X k wr.heap.size)) := Z8.out.next hlt HA.out K2.out.size (fun q => by have := K1.out.lt; omega) (fun j hj q => by have := (K1.out.acc j hj).block; omega)
      have B9 : Hid (Below w.heap.size w (w8.setCell ⟨P, k * 5, none⟩ (.pointer (some ⟨wr.heap.size, 0, none⟩)))) := KB8.out.setCell (p := ⟨P, k * 5, none⟩) K1.out.geP _
      have g0 := Z9.out.ptr k hlt (by omega)
      rw [updF_same] at g0
      clear n0 fz
      go_wp2_with fail
      go_roundw
      case rel => exact ⟨k + 1, by omega, by go_num, _, Z9.out, B9.out⟩
      case measure => simp [intOf]; omega
    · obtain rfl : k = 4 := by omega
      have hd : decide ((4 : Int) < 4) = false := decide_eq_false (by omega)
      have HS : Hid (PS wr w.heap.size P X (fun _ => some 0) (fun _ => some 0)) := K1.out.done
      have KS : Hid (Below w.heap.size w wr) := K2.out
      clear K1 K2
      go_wp2_with fail
      go_loopw [5] (fun iv wr => ∃ k : Nat, k ≤ 300 ∧ iv = .int .i64 k ∧ ∃ X o, Hid (PS wr w.heap.size P X o o) ∧ Hid (Below w.heap.size w wr)) (fun iv _ => 300 - (intOf iv).toNat)
      case atStart => exact ⟨0, by omega, rfl, _, _, HS.out, KS.out⟩
      case round =>
        clear HS KS
        obtain ⟨k, hk, rfl, X, o, K1, K2⟩ := hrel
        by_cases hlt : k < len ∧ k < 300
        · have hd1 : decide ((k : Int) < (len : Int)) = true := decide_eq_true (by omega)
          have hd2 : decide ((k : Int) < 300) = true := decide_eq_true (by omega)
          have i0 : (0 : Int) ≤ (k : Int) := by omega
          have i1 : (k : Int) < (len : Int) := by omega
          have hr := HR.out.later K2.out
          rcases hr.cells with h0 | ⟨b, off, rfl, hc⟩
          · omega
          · obtain ⟨g0, g1, g2, g3, g4, g5⟩ := hc k hlt.1
            obtain ⟨ha, hb⟩ := HR.out.lt k hlt.1
            have SC : Hid (Calls Try.prog 7 #[.pointer (some ⟨P, 0, none⟩), .agg #[.int .i64 (F k).kd, .int .i64 (F k).i, .int .i64 (F k).j, .int .u64 ((F k).a : Int), .int .u64 ((F k).b : Int), .int .i64 (F k).n]] wr (StepR wr w.heap.size P)) := step_any P w.heap.size X o (F k) ha hb wr K1.out
            clear hr hc ha hb
            go_wp2_with fail
            refine SC.out.mono ?_
            rintro e8 w8 ⟨rfl, ⟨X8, o8, s8⟩, b8⟩
            have S8 : Hid (PS w8 w.heap.size P X8 o8 o8) := s8
            have KB8 : Hid (Below w.heap.size w w8) := K2.out.trans b8
            clear s8 b8 g0 g1 g2 g3 g4 g5
            go_wp2_with fail
            go_roundw
            case rel => exact ⟨k + 1, by omega, by go_num, _, _, S8.out, KB8.out⟩
            case measure => simp [intOf]; omega
        · have HS : Hid (PS wr w.heap.size P X o o) := K1.out
          have KS : Hid (Below w.heap.size w wr) := K2.out
          clear K1 K2
          go_wp2_with fail
          all_goals (try (exfalso; omega))
          all_goals
            clear hlt
            go_loopw [6] (fun iv wr => ∃ i : Nat, i ≤ 4 ∧ iv = .int .i64 i ∧ Hid (PS wr w.heap.size P X o o) ∧ Hid (Below w.heap.size w wr)) (fun iv _ => 4 - (intOf iv).toNat)
            case atStart => exact ⟨0, by omega, rfl, HS.out, KS.out⟩
            case round =>
              clear HS KS
              obtain ⟨i, hi, rfl, I1, I2⟩ := hrel
              by_cases hi4 : i < 4
              · have hdi : decide ((i : Int) < 4) = true := decide_eq_true (by omega)
                go_wp2_with fail
                go_loopw [7] (fun iv wr => ∃ d : Nat, d ≤ 4 ∧ iv = .int .i64 d ∧ Hid (PS wr w.heap.size P X o o) ∧ Hid (Below w.heap.size w wr)) (fun iv _ => 4 - (intOf iv).toNat)
                case atStart => exact ⟨0, by omega, rfl, I1.out, I2.out⟩
                case round =>
                  clear I1 I2
                  obtain ⟨d, hd, rfl, D1, D2⟩ := hrel
                  by_cases hd4 : d < 4
                  · have hdd : decide ((d : Int) < 4) = true := decide_eq_true (by omega)
                    obtain ⟨j, hj⟩ : ∃ j, (i + 1) % 4 = j := ⟨_, rfl⟩
                    have hj4 : j < 4 := by omega
                    have i0 : (0 : Int) ≤ (i : Int) := by omega
                    have i1 : (i : Int) < 4 := by omega
                    have j0 : (0 : Int) ≤ (j : Int) := by omega
                    have j1 : (j : Int) < 4 := by omega
                    have hw : IntKind.i64.wrap ((i : Int) + 1) = (i : Int) + 1 := by rw [IntKind.wrap_i64]; omega
                    have hm : ((i : Int) + 1).tmod 4 = (j : Int) := by rw [Int.tmod_eq_emod_of_nonneg (by omega)]; omega
                    have H2 : Hid (PS wr.drew w.heap.size P X o o) := D1.out.drew
                    have KB2 : Hid (Below w.heap.size w wr.drew) := D2.out.drew
                    obtain ⟨nb, ao1, l, c, e, k1⟩ := H2.out.row i hi4
                    obtain ⟨nb', ao', l', c', e', k2⟩ := H2.out.row j hj4
                    have KR : Hid _ := k1.ref
                    have KR' : Hid _ := k2.ref
                    obtain ⟨p0, p1, p2, p3, p4, -⟩ := k1
                    obtain ⟨q0, q1, q2, q3, q4, -⟩ := k2
                    have a0 : wr.drew.cell? ⟨P, i * 5, none⟩ = some (.pointer (some ⟨X i, 0, none⟩)) := p0
                    have d0 : wr.drew.cell? ⟨P, j * 5, none⟩ = some (.pointer (some ⟨X j, 0, none⟩)) := q0
                    have a1 : wr.drew.cell? ⟨P, i * 5 + 1, none⟩ = some (.bool nb) := p1
                    have d1 : wr.drew.cell? ⟨P, j * 5 + 1, none⟩ = some (.bool nb') := q1
                    have a2 : wr.drew.cell? ⟨P, i * 5 + 2, none⟩ = some (.slice ao1 l c) := p2
                    have d2 : wr.drew.cell? ⟨P, j * 5 + 2, none⟩ = some (.slice ao' l' c') := q2
                    have a3 : wr.drew.cell? ⟨P, i * 5 + 3, none⟩ = some (.int .i64 e) := p3
                    have d3 : wr.drew.cell? ⟨P, j * 5 + 3, none⟩ = some (.int .i64 e') := q3
                    have a4 : wr.drew.cell? ⟨P, i * 5 + 4, none⟩ = some (.bool (o i).isNone) := p4
                    have d4 : wr.drew.cell? ⟨P, j * 5 + 4, none⟩ = some (.bool (o j).isNone) := q4
                    clear p0 p1 p2 p3 p4 q0 q1 q2 q3 q4 D1 D2
                    go_wp2_with fail
                    go_region_held3 (fun w' => w'.cell? ⟨P, i * 5, none⟩ = some (.pointer (some ⟨X i, 0, none⟩)) ∧ w'.cell? ⟨P, i * 5 + 1, none⟩ = some (.bool nb) ∧ w'.cell? ⟨P, i * 5 + 2, none⟩ = some (.slice ao1 l c) ∧ w'.cell? ⟨P, i * 5 + 3, none⟩ = some (.int .i64 e) ∧ w'.cell? ⟨P, i * 5 + 4, none⟩ = some (.bool (o i).isNone) ∧ w'.cell? ⟨P, j * 5, none⟩ = some (.pointer (some ⟨X j, 0, none⟩)) ∧ w'.cell? ⟨P, j * 5 + 1, none⟩ = some (.bool nb') ∧ w'.cell? ⟨P, j * 5 + 2, none⟩ = some (.slice ao' l' c') ∧ w'.cell? ⟨P, j * 5 + 3, none⟩ = some (.int .i64 e') ∧ w'.cell? ⟨P, j * 5 + 4, none⟩ = some (.bool (o j).isNone)) (go_keep)
                      (first
                        | (go_at_call 8; refine (asks_any _ _ _ _ _ _ _ _ _ _ _ _ _ _ _ _ (by first | exact H2.out.acc i hi4 | exact H3.out.acc i hi4) (by first | exact H2.out.acc j hj4 | exact H3.out.acc i hi4) (by first | exact KR.out | exact KR3.out) (by first | exact KR'.out | exact KR3.out)).mono ?_; rintro e8 w9 ⟨rfl, b8⟩; first | (have H3 : Hid (PS w9 w.heap.size P X o o) := H2.out.later b8; have KB3 : Hid (Below w.heap.size w w9) := KB2.out.trans (b8.mono KB2.out.size); have KR3 : Hid _ := RefO.later KR.out b8; have u0 := (b8.cell (p := ⟨P, i * 5, none⟩) H2.out.lt).trans a0; have v0 := (b8.cell (p := ⟨P, j * 5, none⟩) H2.out.lt).trans d0; have u1 := (b8.cell (p := ⟨P, i * 5 + 1, none⟩) H2.out.lt).trans a1; have v1 := (b8.cell (p := ⟨P, j * 5 + 1, none⟩) H2.out.lt).trans d1; have u2 := (b8.cell (p := ⟨P, i * 5 + 2, none⟩) H2.out.lt).trans a2; have v2 := (b8.cell (p := ⟨P, j * 5 + 2, none⟩) H2.out.lt).trans d2; have u3 := (b8.cell (p := ⟨P, i * 5 + 3, none⟩) H2.out.lt).trans a3; have v3 := (b8.cell (p := ⟨P, j * 5 + 3, none⟩) H2.out.lt).trans d3; have u4 := (b8.cell (p := ⟨P, i * 5 + 4, none⟩) H2.out.lt).trans a4; have v4 := (b8.cell (p := ⟨P, j * 5 + 4, none⟩) H2.out.lt).trans d4; clear b8) | (have H4 : Hid (PS w9 w.heap.size P X o o) := H3.out.later b8; have KB4 : Hid (Below w.heap.size w w9) := KB3.out.trans (b8.mono KB3.out.size); have yu0 := (b8.cell (p := ⟨P, i * 5, none⟩) H3.out.lt).trans u0; have yv0 := (b8.cell (p := ⟨P, j * 5, none⟩) H3.out.lt).trans v0; have yu1 := (b8.cell (p := ⟨P, i * 5 + 1, none⟩) H3.out.lt).trans u1; have yv1 := (b8.cell (p := ⟨P, j * 5 + 1, none⟩) H3.out.lt).trans v1; have yu2 := (b8.cell (p := ⟨P, i * 5 + 2, none⟩) H3.out.lt).trans u2; have yv2 := (b8.cell (p := ⟨P, j * 5 + 2, none⟩) H3.out.lt).trans v2; have yu3 := (b8.cell (p := ⟨P, i * 5 + 3, none⟩) H3.out.lt).trans u3; have yv3 := (b8.cell (p := ⟨P, j * 5 + 3, none⟩) H3.out.lt).trans v3; have yu4 := (b8.cell (p := ⟨P, i * 5 + 4, none⟩) H3.out.lt).trans u4; have yv4 := (b8.cell (p := ⟨P, j * 5 + 4, none⟩) H3.out.lt).trans v4; clear b8)))
                    go_wp2_with fail
                    go_roundw
                    case rel => exact ⟨d + 1, by omega, by go_num, H4.out, KB4.out⟩
                    case measure => simp [intOf]; omega
                  · obtain rfl : d = 4 := by omega
                    have hdd : decide ((4 : Int) < 4) = false := decide_eq_false (by omega)
                    go_wp2_with fail
                    go_roundw
                    case rel => exact ⟨i + 1, by omega, by go_num, D1.out, D2.out⟩
                    case measure => simp [intOf]; omega
              · obtain rfl : i = 4 := by omega
                have hdi : decide ((4 : Int) < 4) = false := decide_eq_false (by omega)
                go_wp2_with fail
                go_ret
                exact ⟨rfl, I2.out⟩
end Go.Proofs.Ytajopgndpomggaa
