import Derived.Test.YtpinpcefgbhdmaaDoorTable
namespace Go.Proofs.YtpinpcefgbhdmaaDoor
open Go.RowKit
set_option linter.unusedVariables false

/-- A SLICE OF SLICES OF BYTES. -/
structure RdL (w : World) (ao : Option Addr) (n : Nat) (pss : List (List Int)) : Prop where
  length : pss.length = n
  max : n ≤ 9223372036854775807
  cells : n = 0 ∨ ∃ b off, ao = some ⟨b, off, none⟩ ∧ ∀ j, j < n → ∃ a l c, w.cell? ⟨b, off + j, none⟩ = some (.slice a l c) ∧ Rd w a l c (pss[j]?.getD [])

theorem RdL.later {w w' : World} {ao : Option Addr} {n : Nat} {pss : List (List Int)} (h : RdL w ao n pss) (hb : Below w.heap.size w w') : RdL w' ao n pss := by
  refine ⟨h.length, h.max, ?_⟩
  rcases h.cells with h0 | ⟨b, off, ha, hc⟩
  · exact .inl h0
  · refine .inr ⟨b, off, ha, fun j hj => ?_⟩
    obtain ⟨a, l, c, h1, h2⟩ := hc j hj
    refine ⟨a, l, c, ?_, h2.later hb⟩
    rw [hb.cell (p := ⟨b, off + j, none⟩) (World.block_lt_of_cell? w _ h1)]
    exact h1

/-- One part, laid in a new block: what a call with one argument makes of it. -/
theorem RdL.one {w : World} {a : Option Addr} {l c : Nat} {xs : List Int} (h : Rd w a l c xs) : RdL (w.alloc (.cells #[.slice a l c] 23)) (some ⟨w.heap.size, 0, none⟩) 1 [xs] := by
  refine ⟨rfl, by decide, .inr ⟨_, _, rfl, fun j hj => ?_⟩⟩
  have : j = 0 := by omega
  subst this
  refine ⟨a, l, c, ?_, h.later ((Below.refl _ _).alloc (Nat.le_refl _) _)⟩
  rw [cell_of_row _ w.heap.size _ _ _ _ (heap_alloc_new w _)]
  rfl

theorem byte_facts (R : Nat) (hR : R < 4294967296) (c : Int) (h0 : 0 ≤ c) (h1 : c ≤ 255) : ∃ X I1 Y I2 Z : Nat,
    bits .xor .u32 (R : Int) c = (X : Int) ∧ bits .and .u32 (X : Int) 15 = (I1 : Int) ∧ I1 < 16 ∧ bits .xor .u32 ((X : Int) / 16) ((stp4 I1 : Nat) : Int) = (Y : Int) ∧
    bits .and .u32 (Y : Int) 15 = (I2 : Int) ∧ I2 < 16 ∧ bits .xor .u32 ((Y : Int) / 16) ((stp4 I2 : Nat) : Int) = (Z : Int) ∧ X < 4294967296 ∧ Y < 4294967296 ∧ Z < 4294967296 ∧ Hid (Z = stp8 (R ^^^ c.toNat)) := by
  obtain ⟨d, rfl⟩ := Int.eq_ofNat_of_zero_le h0
  have hd : d < 4294967296 := by omega
  have hX : R ^^^ d < 4294967296 := xor_lt32 hR hd
  have a15 : ∀ q : Nat, q < 4294967296 → bits .and .u32 (q : Int) 15 = ((q % 16 : Nat) : Int) := by
    intro q hq
    have k := u32_and_nat q 15 hq (by decide)
    rw [show ((15 : Nat) : Int) = 15 from rfl] at k
    rw [k, show (15 : Nat) = 2 ^ 4 - 1 from rfl, Nat.and_two_pow_sub_one_eq_mod]
  have st : ∀ q : Nat, q < 4294967296 → bits .xor .u32 ((q : Int) / 16) ((stp4 (q % 16) : Nat) : Int) = ((stp4 q : Nat) : Int) := by
    intro q hq
    rw [show ((q : Int) / 16) = ((q / 16 : Nat) : Int) from by omega, u32_xor_nat (q / 16) _ (by omega) (stp4_lt (by omega)), ← stp4_split]
  refine ⟨R ^^^ d, (R ^^^ d) % 16, stp4 (R ^^^ d), stp4 (R ^^^ d) % 16, stp4 (stp4 (R ^^^ d)), ?_, a15 _ hX, by omega, st _ hX, a15 _ (stp4_lt hX), by omega, st _ (stp4_lt hX), hX, stp4_lt hX, stp4_lt (stp4_lt hX), rfl⟩
  exact u32_xor_nat R d hR hd

theorem ret_u32 {a b : Int} (h : a = b) : Ending.returned (.int .u32 a) = .returned (.int .u32 b) := by rw [h]
theorem not32 (R : Nat) (hR : R < 4294967296) : bits .xor .u32 IntKind.u32.max (R : Int) = ((4294967295 - R : Nat) : Int) := by
  have hmax : IntKind.u32.max = ((4294967295 : Nat) : Int) := by decide
  rw [hmax, u32_xor_nat 4294967295 R (by decide) hR]
  have h : (BitVec.allOnes 32 ^^^ BitVec.ofNat 32 R) = ~~~(BitVec.ofNat 32 R) := BitVec.allOnes_xor
  have h2 := congrArg BitVec.toNat h
  rw [BitVec.toNat_xor, BitVec.toNat_not, BitVec.toNat_ofNat, BitVec.toNat_allOnes, Nat.mod_eq_of_lt (show R < 2 ^ 32 from hR)] at h2
  rw [show (4294967295 : Nat) = 2 ^ 32 - 1 from rfl, h2]

/-- The table's block and old memory while the sum is made. -/
structure SumW (w wr : World) (B : Nat) : Prop where
  tab : wr.heap[B]? = some (.cells (tabTo 16) 67 (0, 0))
  bel : Below w.heap.size w wr

set_option maxRecDepth 100000 in
set_option maxHeartbeats 2000000 in
theorem sum_any (ao : Option Addr) (n cap : Nat) (pss : List (List Int)) (w : World) (hr : RdL w ao n pss) :
    Calls Tryd.prog 28 #[.slice ao n cap] w fun e w' => e = .returned (.int .u32 ((sum pss.flatten : Nat) : Int)) ∧ Below w.heap.size w w' := by
  have hm := hr.max
  have HL : Hid (pss.length = n) := hr.length
  have hcl := hr.cells
  have HR : Hid (RdL w ao n pss) := hr
  clear hr
  go_enter Tryd.func28, Tryd.ntmps28
  go_wp2_with fail
  refine (table_any _).mono ?_
  rintro e w1 ⟨rfl, hb1⟩
  go_wp2_with (refine wpList_store_row rfl 67 _ _ rfl w1.heap.size (tabTo 16) rfl rfl 67 _ (heap_alloc_new _ _) (by kernel_rfl) rfl (tab_one 16) ?_)
  go_loopw [4, 12] (fun r i wr => ∃ (k R : Nat), k ≤ n ∧ i = .int .i64 k ∧ r = .int .u32 R ∧ R < 4294967296 ∧ Hid (R = crc 4294967295 (pss.take k).flatten) ∧ Hid (SumW w wr w1.heap.size)) (fun _ i _ => n - (intOf i).toNat)
  case atStart =>
    refine ⟨0, 4294967295, by omega, rfl, rfl, by decide, rfl, ?_, ?_⟩
    · exact setRow_heap _ _ _ _ _ _ (heap_alloc_new _ _)
    · exact (hb1.alloc hb1.size _).trans ⟨rfl, rfl, rfl, by simp, fun k hk => setRow_other _ _ _ _ (by have := hb1.size; omega)⟩
  case round =>
    obtain ⟨k, R, hk, rfl, rfl, hR, hRe, hS⟩ := hrel
    by_cases hlt : k < n
    · rcases hcl with h0 | ⟨b, off, rfl, hc⟩
      · omega
      obtain ⟨a, l, c, hcell, hrd⟩ := hc k hlt
      have hcell' := (hS.out.bel.cell (World.block_lt_of_cell? w _ hcell)).trans hcell
      have hrd' := hrd.later hS.out.bel
      have hml : l ≤ 9223372036854775807 := by have := hrd.le; have := hrd.max; omega
      have HLl : Hid ((pss[k]?.getD []).length = l) := hrd.length
      have Hfl : Hid ((pss.take (k + 1)).flatten = (pss.take k).flatten ++ (pss[k]?.getD [])) := by
        unfold Hid
        have hk' : k < pss.length := by rw [HL.out]; exact hlt
        rw [List.take_succ_eq_append_getElem hk', List.flatten_append, List.getElem?_eq_getElem hk']
        simp
      have HB : Hid (Byt (pss[k]?.getD [])) := hrd.byt
      have hcl2 := hrd'.cells
      clear hcell hrd hrd' hc
      generalize pss[k]?.getD [] = ys at *
      go_wp2
      go_loop [4, 18] (fun r i => ∃ (m R : Nat), m ≤ l ∧ i = .int .i64 m ∧ r = .int .u32 R ∧ R < 4294967296 ∧ Hid (R = crc 4294967295 ((pss.take k).flatten ++ ys.take m))) (fun _ i => l - (intOf i).toNat)
      case atStart => exact ⟨0, R, by omega, rfl, rfl, hR, by unfold Hid; rw [List.take_zero, List.append_nil]; exact hRe.out⟩
      case round =>
        obtain ⟨m, R2, hm2, rfl, rfl, hR2, hRe2⟩ := hrel
        by_cases hlt2 : m < l
        · rcases hcl2 with h0 | ⟨b2, off2, rfl, hc2⟩
          · omega
          have g := hc2 m hlt2
          have hby := HB.out.at m
          have Htk : Hid (ys.take (m + 1) = ys.take m ++ [ys[m]?.getD 0]) := by
            unfold Hid
            have hm' : m < ys.length := by rw [HLl.out]; exact hlt2
            rw [List.take_succ_eq_append_getElem hm', List.getElem?_eq_getElem hm']
            rfl
          clear hc2
          generalize ys[m]?.getD 0 = d at *
          obtain ⟨X, I1, Y, I2, Z, f1, f2, f3, f4, f5, f6, f7, f8, f9, f10, f11⟩ := byte_facts R2 hR2 d hby.1 hby.2
          have c1 : wr.cell? ⟨w1.heap.size, I1, none⟩ = some (.int .u32 ((stp4 I1 : Nat) : Int)) := by rw [cell_of_row _ _ _ _ _ _ hS.out.tab, tab_at 16 I1 f3, if_pos f3]
          have c2 : wr.cell? ⟨w1.heap.size, I2, none⟩ = some (.int .u32 ((stp4 I2 : Nat) : Int)) := by rw [cell_of_row _ _ _ _ _ _ hS.out.tab, tab_at 16 I2 f6, if_pos f6]
          go_wp2
          go_round
          case rel => exact ⟨m + 1, Z, by omega, by go_num, rfl, f10, by unfold Hid; rw [Htk.out, ← List.append_assoc, crc_snoc, ← hRe2.out]; exact f11.out⟩
          case measure => simp [intOf]; omega
        · have hml2 : m = l := by omega
          subst hml2
          have e : ys.take m = ys := List.take_of_length_le (by rw [HLl.out]; exact Nat.le_refl _)
          have HE : Hid (R2 = crc 4294967295 (pss.take (k + 1)).flatten) := by unfold Hid; rw [Hfl.out, ← e]; exact hRe2.out
          clear e
          go_wp2
          go_roundw
          case rel => exact ⟨k + 1, R2, by omega, by go_num, rfl, hR2, HE, hS⟩
          case measure => simp [intOf]; omega
    · have hkn : k = n := by omega
      have HE : Hid (sum pss.flatten = 4294967295 - R) := by
        unfold Hid sum
        rw [hRe.out, hkn, List.take_of_length_le (by rw [HL.out]; exact Nat.le_refl _)]
      clear hkn
      go_wp2
      go_ret
      exact ⟨ret_u32 (by rw [HE.out]; exact not32 R hR), hS.out.bel⟩
end Go.Proofs.YtpinpcefgbhdmaaDoor
