import Derived.Test.YtfldgjkpkmnkbaaDoorNames
namespace Go.Proofs.YtfldgjkpkmnkbaaDoor
open Go.RowKit
set_option linter.unusedVariables false

theorem names_len : namesL.length = 150 := by decide +kernel
theorem names_pairs : ∀ k, k < 75 → namesL[2 * k]?.getD 0 = namesL[2 * k + 1]?.getD 0 := by decide +kernel

theorem itoa202 : Lib.itoa 202 = [50, 48, 50] := by
  unfold Lib.itoa
  rw [if_neg (by decide), show (202 : Int).toNat = 202 from rfl, Lib.decDigits, dif_neg (by decide), Lib.decDigits, dif_neg (by decide), Lib.decDigits, dif_pos (by decide)]
  rfl
theorem dec0 : Lib.decDigits 0 = [48] := by
  rw [Lib.decDigits, dif_pos (by decide)]; rfl

set_option maxRecDepth 100000 in
theorem error202 (w : World) (htab : Lib.TabIs Tryd.prog w "internal/strconv.uint64pow10" .u64 Lib.pow10Tab) :
    Calls Tryd.prog 11 #[.int .i64 202] w fun e w' => e = .returned (.string ⟨#[101, 114, 114, 111, 114, 32, 50, 48, 50]⟩) ∧ Below w.heap.size w w' := by
  have h := Tryd.strconv_Itoa 202 (by decide) (by decide) w htab
  rw [itoa202] at h
  have H : Hid _ := h
  clear h htab
  go_enter Tryd.func11, Tryd.ntmps11
  go_wp2_with fail
  refine Calls.mono H.out ?_
  rintro e w1 ⟨rfl, k, os, rfl⟩
  go_wp2
  go_ret
  exact ⟨rfl, Lib.below_grow _ _ (Nat.le_refl _) _ _⟩
set_option maxRecDepth 100000 in
theorem error0 (w : World) :
    Calls Tryd.prog 11 #[.int .i64 0] w fun e w' => e = .returned (.string ⟨#[101, 114, 114, 111, 114, 32, 48]⟩) ∧ w' = w := by
  have h := Tryd.strconv_Itoa_small 0 (by decide) w
  rw [dec0] at h
  have H : Hid (Calls Tryd.prog 39 #[.int .i64 0] w fun e w' => e = .returned (.string ⟨#[48]⟩) ∧ w' = w) := h
  clear h
  go_enter Tryd.func11, Tryd.ntmps11
  go_wp2_with fail
  refine Calls.mono H.out ?_
  rintro e w1 ⟨rfl, rfl⟩
  go_wp2
  go_ret
  exact ⟨rfl, rfl⟩

theorem bits1 (w : World) : Calls Tryd.prog 12 #[.float .f64 4607182418800017408] w fun e w' => e = .returned (.int .u64 4607182418800017408) ∧ w' = w := bits_any 4607182418800017408 w
theorem float1 (w : World) : Calls Tryd.prog 13 #[.int .u64 13830554455654793216] w fun e w' => e = .returned (.float .f64 13830554455654793216) ∧ w' = w := float_any 13830554455654793216 w
theorem float2 (w : World) : Calls Tryd.prog 13 #[.int .u64 1] w fun e w' => e = .returned (.float .f64 1) ∧ w' = w := float_any 1 w
theorem bits2 (w : World) : Calls Tryd.prog 12 #[.float .f64 1] w fun e w' => e = .returned (.int .u64 1) ∧ w' = w := bits_any 1 w
theorem feq (w : World) : (binOp .eql 30 (.float .f64 13830554455654793216) (.float .f64 13830554455654793216)).run Tryd.prog w = .ok (.bool true) w := by kernel_rfl

set_option maxRecDepth 100000 in
set_option maxHeartbeats 4000000 in
theorem namesNumbers_walk (w : World) (htab : Lib.TabIs Tryd.prog w "internal/strconv.uint64pow10" .u64 Lib.pow10Tab) :
    Calls Tryd.prog 3 #[] w fun e w' => e = .returned (.bool true) ∧ Below w.heap.size w w' := by
  obtain ⟨i0, hi, hz0, hz1, hz2⟩ := info_parts Tryd.infoPair
  have HT : Hid (Lib.TabIs Tryd.prog w "internal/strconv.uint64pow10" .u64 Lib.pow10Tab) := htab
  clear htab
  have hfe := feq
  go_enter Tryd.func3, Tryd.ntmps3
  go_wp2_with fail
  refine (errs_any _).mono ?_
  rintro e w1 ⟨v1, rfl, hO1, hB1⟩
  go_wp2_with fail
  refine (limits_any _).mono ?_
  rintro e w2 ⟨v2, rfl, hO2, hB2⟩
  have HO1 : Hid (OwnP w2 w.heap.size v1 36 errsL) := hO1.later hB2
  have HB2 : Hid (Below w.heap.size w w2) := below_trans hB1 hB2
  have HO2 : Hid (OwnP w2 w1.heap.size v2 39 limitsL) := hO2
  rcases hO2.2 with ⟨_, h0⟩ | ⟨g2, cap2, cur2, rfl, _⟩
  · omega
  clear hO1 hO2 hB1 hB2
  have hbase := HB2.out.size
  go_wp2_with (at_builtin; refine wpList_append_own _ rfl _ _ 22 rfl w.heap.size 25 i0 (.agg #[.int .i64 0, .int .i64 0]) 2 16 Tryd.underlying22 hi hz0 hz1 hz2 rfl (by decide) v1 36 _ rfl HO1.out ⟨g2, 0, none⟩ 39 cap2 (limitsL.map (Value.int .i64)) rfl (by decide) ?c1 ?c2 (by decide) (by decide) hbase ?_)
  case c1 => exact fun j u hu => World.ownsRow.cells HO2.out (g := g2) rfl j u hu
  case c2 =>
    intro u hu
    rw [List.mem_map] at hu
    obtain ⟨y, _, rfl⟩ := hu
    rfl
  intro v3 w3 hO3 hg3 _
  have HB3 : Hid (Below w.heap.size w w3) := HB2.out.trans ((Below.refl _ _).grown hg3 hbase (fun k hk => (World.ownsRow.lt HO1.out k hk).1))
  have hO3' : OwnP w3 w.heap.size v3 75 namesL := by unfold OwnP namesL; rw [List.map_append]; exact hO3
  rcases hO3'.2 with ⟨_, h0⟩ | ⟨g, cap, cur, rfl, hg, hh, hnc, hcm, _⟩
  · omega
  have hcells : ∀ j, j < 150 → w3.cell? ⟨g, j, none⟩ = some (.int .i64 (namesL[j]?.getD 0)) := by
    intro j hj
    have := World.ownsRow.cells hO3' (g := g) rfl j (.int .i64 (namesL[j]?.getD 0)) (by rw [List.getElem?_map, List.getElem?_eq_getElem (by rw [names_len]; exact hj)]; rfl)
    rw [Addr.add_lit, Nat.zero_add] at this
    exact this
  have HC : Hid _ := hcells
  clear hO3 hO3' hg3 hcells hh hcm hi hz0 hz1 hz2 HO1 HO2 HB2
  go_wp2
  go_loopw [2] (fun i wr => ∃ k : Nat, k ≤ 75 ∧ i = .int .i64 k ∧ Hid (∀ j, j < 150 → wr.cell? ⟨g, j, none⟩ = some (.int .i64 (namesL[j]?.getD 0))) ∧ Hid (Below w.heap.size w wr)) (fun i _ => 75 - (intOf i).toNat)
  case atStart => exact ⟨0, by omega, rfl, HC, HB3⟩
  case round =>
    obtain ⟨k, hk, rfl, hc, hb⟩ := hrel
    by_cases hlt : k < 75
    · have he := names_pairs k hlt
      have g0 := hc.out (2 * k) (by omega)
      have g1 := hc.out (2 * k + 1) (by omega)
      rw [← he] at g1
      generalize namesL[2 * k]?.getD 0 = z at *
      rw [show 2 * k = k * 2 from by omega] at g0 g1
      clear he
      have hz : (z != z) = false := by simp
      go_wp2_with fail
      go_quiet (fail)
      go_wp2
      go_roundw
      case rel => exact ⟨k + 1, by omega, by go_num, fun j hj => hc.out j hj, below_drewN hb.out _⟩
      case measure => simp [intOf]; omega
    · go_wp2_with fail
      refine (error202 _ (Joins.tab_stays (g := 3) (by kernel_rfl) HT.out hb.out (Nat.le_refl _))).mono ?_
      rintro e w4 ⟨rfl, hb4⟩
      go_wp2_with fail
      refine (error0 _).mono ?_
      rintro e w5 ⟨rfl, rfl⟩
      go_wp2_with fail
      refine (bits1 _).mono ?_
      rintro e w6 ⟨rfl, rfl⟩
      go_wp2_with fail
      refine (float1 _).mono ?_
      rintro e w7 ⟨rfl, rfl⟩
      go_wp2_with fail
      refine (float2 _).mono ?_
      rintro e w8 ⟨rfl, rfl⟩
      go_wp2_with fail
      refine (bits2 _).mono ?_
      rintro e w9 ⟨rfl, rfl⟩
      go_wp2
      go_ret
      exact ⟨rfl, below_trans hb.out hb4⟩
end Go.Proofs.YtfldgjkpkmnkbaaDoor
