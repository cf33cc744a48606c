import Derived.Test.YtfepcpkfbnpbjaaGreatJXd
namespace Go.Proofs.YtfepcpkfbnpbjaaGreat
open Go.RowKit Go.Shelf
set_option linter.unusedVariables false
set_option linter.unusedSimpArgs false

theorem tmodJ_pos {a m : Int} (hm : 0 < m) : -m < a.tmod m ∧ a.tmod m < m := ⟨Int.lt_tmod_of_pos a hm, Int.tmod_lt_of_pos a hm⟩
theorem turnJ_mod (a : Int) {m : Int} (hm : 0 < m) : ∃ k : Nat, (k : Int) < m ∧ (a.tmod m + m).tmod m = (k : Int) := by
  have h := tmodJ_pos (a := a) hm
  have h2 := tmodJ_pos (a := a.tmod m + m) hm
  have h3 : 0 ≤ (a.tmod m + m).tmod m := Int.tmod_nonneg _ (by omega)
  exact ⟨((a.tmod m + m).tmod m).toNat, by omega, by omega⟩
set_option maxRecDepth 100000 in
set_option maxHeartbeats 2000000 in
/-- The document's Whole. -/
theorem wholeI_any (i : Int) (hi : i.natAbs ≤ 1048576) (w : World) :
    Calls Tryz.prog 15 #[.int .i64 i] w fun e' w' => ∃ v, e' = .returned v ∧ NumV w' v (decide (i < 0)) i.natAbs 0 ∧ Below w.heap.size w w' := by
  obtain ⟨k, hk⟩ : ∃ k : Nat, i.natAbs = k := ⟨_, rfl⟩
  rw [hk] at hi ⊢
  have v2 : IntKind.u32.wrap (k : Int) = (k : Int) := by rw [IntKind.wrap_u32]; omega
  have v3 : (k : Int) / 4294967296 = 0 := by omega
  by_cases h0 : i = 0
  · subst h0
    obtain rfl : k = 0 := by omega
    go_enter Tryz.func15, Tryz.ntmps15
    go_wp2_with fail
    refine bodyPost_ret (v := .agg #[.bool false, .slice none 0 0, .int .i64 0]) (res_num _ 2 (by kernel_rfl) _ _ w.heap.size _ _ _ (by rfl) (heap_alloc_new w _)) rfl ⟨_, rfl, ⟨none, 0, 0, [], rfl, rd4_none _, by exact Or.inl rfl, rfl⟩, (Below.refl _ w).alloc (Nat.le_refl _) _⟩
  · have n3 : (i == 0) = false := by simpa using h0
    have hrd : Rd4 ((w.alloc (Obj.cells #[Value.bool false, Value.slice none 0 0, Value.int IntKind.i64 0] 50)).alloc (Obj.cells #[Value.int IntKind.u32 (k : Int), Value.int IntKind.u32 0] 92)) (some ⟨w.heap.size + 1, 0, none⟩) 2 2 [k, 0] := by
      have h := rd4_fresh2 (w.alloc (Obj.cells #[Value.bool false, Value.slice none 0 0, Value.int IntKind.i64 0] 50)) k 0 (by intro x hx; simp only [List.mem_cons, List.mem_nil_iff, or_false] at hx; omega)
      rw [show (w.alloc (Obj.cells #[Value.bool false, Value.slice none 0 0, Value.int IntKind.i64 0] 50)).heap.size = w.heap.size + 1 by simp] at h
      exact h
    have HRD : Hid _ := hrd
    have hb0 : ∀ o1 o2, Below w.heap.size w ((w.alloc o1).alloc o2) := fun o1 o2 => ((Below.refl _ _).alloc (Nat.le_refl _) _).alloc (by simp) _
    have HB0 : Hid _ := hb0
    clear hrd hb0
    obtain ⟨U, hU⟩ : ∃ U, IntKind.u64.wrap i = U := ⟨_, rfl⟩
    by_cases hneg : i < 0
    · have hd : decide (i < 0) = true := decide_eq_true hneg
      have v1 : IntKind.u64.wrap (-U) = (k : Int) := by rw [← hU, IntKind.wrap_u64, IntKind.wrap_u64]; omega
      rw [hd]
      clear h0 hk
      go_enter Tryz.func15, Tryz.ntmps15
      go_wp2_with fail
      refine Calls.mono (trim_any _ 2 2 [k, 0] _ HRD.out) ?_
      rintro ee ww ⟨ao', n, rfl, hw, hr', hn', hnm, hdg⟩
      rw [hw]; clear hw
      have HR' : Hid _ := hr'
      clear hr'
      go_wp2_with fail
      refine bodyPost_ret (v := .agg #[.bool true, .slice ao' n 2, .int .i64 0]) (res_num _ 2 (by kernel_rfl) _ _ w.heap.size _ _ _ (by rfl) (alloc2_first w _ _)) rfl ⟨_, rfl, ⟨ao', n, 2, _, rfl, rd4_other ⟨_, _, _, _, _, alloc2_first w _ _⟩ (fun b hb => alloc2_other w _ _ _ b hb) HR'.out, hnm, by rw [hdg]; rfl⟩, HB0.out _ _⟩
    · have hd : decide (i < 0) = false := decide_eq_false hneg
      have v1 : IntKind.u64.wrap i = (k : Int) := by rw [IntKind.wrap_u64]; omega
      rw [hd]
      clear h0 hk hU
      go_enter Tryz.func15, Tryz.ntmps15
      go_wp2_with fail
      refine Calls.mono (trim_any _ 2 2 [k, 0] _ HRD.out) ?_
      rintro ee ww ⟨ao', n, rfl, hw, hr', hn', hnm, hdg⟩
      rw [hw]; clear hw
      have HR' : Hid _ := hr'
      clear hr'
      go_wp2_with fail
      refine bodyPost_ret (v := .agg #[.bool false, .slice ao' n 2, .int .i64 0]) (res_num _ 2 (by kernel_rfl) _ _ w.heap.size _ _ _ (by rfl) (alloc2_first w _ _)) rfl ⟨_, rfl, ⟨ao', n, 2, _, rfl, rd4_other ⟨_, _, _, _, _, alloc2_first w _ _⟩ (fun b hb => alloc2_other w _ _ _ b hb) HR'.out, hnm, by rw [hdg]; rfl⟩, HB0.out _ _⟩
/-- A whole number of at most 2^n, moved down by n: from -1 to 1. -/
theorem partC {w : World} {v : Value} {i : Int} {n E : Nat} (hE : E = 1074) (hn : n ≤ 16) (hi : i.natAbs ≤ 2 ^ n) (h : NumV w v (decide (i < 0)) i.natAbs (if i.natAbs = 0 then 0 else 0 + -(n : Int))) : ∃ z, NumC w v E 1024 z ∧ z.natAbs ≤ 2 ^ E := by
  have h17 : 2 ^ n ≤ 65536 := Nat.pow_le_pow_right (by omega : 0 < 2) hn
  refine ⟨_, ⟨_, _, _, h, by split <;> omega, ?_, rfl, fun c => by rw [if_pos c]⟩, ?_⟩
  · have := bl_le_of_lt (m := i.natAbs) (k := 17) (by omega)
    split <;> omega
  · rw [zv_abs]
    by_cases h0 : i.natAbs = 0
    · rw [h0, Nat.zero_mul]; exact Nat.zero_le _
    · rw [if_neg h0, show ((0 : Int) + -(n : Int) + (E : Int)).toNat = E - n by omega]
      have := Nat.mul_le_mul_right (2 ^ (E - n)) hi
      rw [← Nat.pow_add, show n + (E - n) = E by omega] at this
      exact this
theorem oneC {w : World} {v : Value} {E : Nat} (hE : E = 1074) (h : NumV w v (decide ((1 : Int) < 0)) (1 : Int).natAbs 0) : NumC w v E 1024 ((2 ^ E : Nat) : Int) := by
  refine ⟨_, _, _, h, by omega, ?_, ?_, fun c => by cases c⟩
  · have := bl_le_of_lt (m := (1 : Int).natAbs) (k := 1) (by decide)
    omega
  · unfold zv sv
    simp
theorem cell_later {w w' : World} {a : Addr} {v : Value} (h : w.cell? a = some v) (hb : Below w.heap.size w w') : w'.cell? a = some v := (hb.cell (World.block_lt_of_cell? _ _ h)).trans h
set_option maxRecDepth 100000 in
set_option maxHeartbeats 2000000 in
theorem part_any (lo : Option Addr) (ll lc : Nat) (is : List Int) (k : Nat) (n : Int) (E : Nat) (hE : E = 1074) (w : World) (h : RdIs w lo ll lc is) (hll : ll ≤ 1050000) (hk : k ≤ 4000000) (hn : -9223372036854775808 ≤ n ∧ n < 9223372036854775808) :
    Calls Tryz.prog 39 #[.slice lo ll lc, .int .i64 (k : Int), .int .i64 n] w fun e w' => ∃ v z, e = .returned v ∧ NumC w' v E 1024 z ∧ z.natAbs ≤ 2 ^ E ∧ Below w.heap.size w w' := by
  have HE : Hid (E = 1074) := hE
  clear hE
  obtain ⟨N, hN, eN⟩ := turnJ_mod n (m := 17) (by decide)
  obtain ⟨P, hP⟩ : ∃ P : Nat, 2 ^ N = P := ⟨_, rfl⟩
  have hPb : 1 ≤ P ∧ P ≤ 65536 := by
    rw [← hP]; exact ⟨Nat.two_pow_pos N, by have := Nat.pow_le_pow_right (show 0 < 2 by decide) (show N ≤ 16 by omega); exact this⟩
  have HPP : Hid (2 ^ N = P) := hP
  clear hP
  have A0 : Below w.heap.size w (w.alloc (.cells #[.bool false, .slice none 0 0, .int .i64 0] 50)) := (Below.refl _ w).alloc (Nat.le_refl _) _
  have Y0 : (w.alloc (.cells #[.bool false, .slice none 0 0, .int .i64 0] 50)).heap[w.heap.size]? = some (.cells #[.bool false, .slice none 0 0, .int .i64 0] 50) := heap_alloc_new w _
  have HRI : Hid (RdIs (w.alloc (.cells #[.bool false, .slice none 0 0, .int .i64 0] 50)) lo ll lc is) := h.later A0
  clear h
  have bm := tmodJ_pos (a := n) (m := 17) (by decide)
  have vm1 : IntKind.i64.wrap (n.tmod 17) = n.tmod 17 := by rw [IntKind.wrap_i64]; omega
  have vm2 : IntKind.i64.wrap (n.tmod 17 + 17) = n.tmod 17 + 17 := by rw [IntKind.wrap_i64]; omega
  go_enter Tryz.func39, Tryz.ntmps39
  go_upto_region 1 with fail
  obtain ⟨X, hX⟩ : ∃ X, w.alloc (.cells #[.bool false, .slice none 0 0, .int .i64 0] 50) = X := ⟨_, rfl⟩
  rw [hX] at A0 Y0 HRI ⊢
  have HX : Hid (Below w.heap.size w X ∧ X.heap[w.heap.size]? = some (.cells #[.bool false, .slice none 0 0, .int .i64 0] 50)) := ⟨A0, Y0⟩
  clear hX A0 Y0
  go_cut [2] (fun s2 wx => s2 = .int .i64 (N : Int) ∧ wx = X)
  case first =>
    go_wp2_with fail
    go_meet
    exact ⟨by go_num, rfl⟩
  case rest =>
  obtain ⟨rfl, hwc⟩ := hcut
  replace hwc := hwc.symm
  subst hwc
  clear vm1 vm2 bm eN hn
  by_cases hkl : k < ll
  · have dk : decide ((ll : Int) ≤ (k : Int)) = false := decide_eq_false (by omega)
    have hki : (k : Int) < (ll : Int) := by omega
    have hle : ¬ ll ≤ k := by omega
    obtain ⟨ab, aoff, hlo, hc⟩ : ∃ ab aoff, lo = some ⟨ab, aoff, none⟩ ∧ X.cell? ⟨ab, aoff + k, none⟩ = some (.int .i64 (is[k]?.getD 0)) := by
      rcases HRI.out.cells with h0 | ⟨b, off, e, hc⟩
      · omega
      · exact ⟨b, off, e, hc k hkl⟩
    subst hlo
    obtain ⟨x, hx⟩ : ∃ x, is[k]?.getD 0 = x := ⟨_, rfl⟩
    rw [hx] at hc
    clear hx HRI
    have hp2 : (2 : Int) ^ N = (P : Int) := by rw [← HPP.out]; simp
    have hN64 : N < 64 := by omega
    obtain ⟨M, hM⟩ : ∃ M : Nat, 2 * P + 1 = M := ⟨_, rfl⟩
    have hMb : 3 ≤ M ∧ M ≤ 131073 := by omega
    obtain ⟨I, hI, eI⟩ := turnJ_mod x (m := (M : Int)) (by omega)
    have um0 : IntKind.i64.wrap (2 * (P : Int)) = 2 * (P : Int) := by rw [IntKind.wrap_i64]; omega
    have um1 : IntKind.i64.wrap (2 * (P : Int) + 1) = (M : Int) := by rw [IntKind.wrap_i64]; omega
    have bi := tmodJ_pos (a := x) (m := (M : Int)) (by omega)
    have um2 : IntKind.i64.wrap (x.tmod (M : Int)) = x.tmod (M : Int) := by rw [IntKind.wrap_i64]; omega
    have um3 : IntKind.i64.wrap (x.tmod (M : Int) + (M : Int)) = x.tmod (M : Int) + (M : Int) := by rw [IntKind.wrap_i64]; omega
    have um6 : IntKind.i64.wrap (I : Int) = (I : Int) := by rw [IntKind.wrap_i64]; omega
    have nz : ¬ ((M : Int) = 0) := by omega
    have nn : ¬ ((N : Int) < 0) := by omega
    go_upto_region 5 with fail
    go_upto_region 6 with fail
    clear um0 um1 um2 um3 um6 nz bi eI hc hle dk hki
    have um7 : IntKind.i64.wrap (P : Int) = (P : Int) := by rw [IntKind.wrap_i64]; omega
    have um8 : IntKind.i64.wrap ((I : Int) - (P : Int)) = (I : Int) - (P : Int) := by rw [IntKind.wrap_i64]; omega
    have um9 : IntKind.i64.wrap (-(N : Int)) = -(N : Int) := by rw [IntKind.wrap_i64]; omega
    obtain ⟨t, ht⟩ : ∃ t : Int, (I : Int) - (P : Int) = t := ⟨_, rfl⟩
    have htb : t.natAbs ≤ P := by omega
    rw [ht] at um8
    have HT : Hid (t.natAbs ≤ P) := htb
    have HW1 : Hid (∀ W', _) := fun W' => wholeI_any t (by omega) W'
    have HN16 : Hid (N ≤ 16) := by unfold Hid; omega
    go_wp2_with (first
      | (go_at_call 15; refine Calls.mono (HW1.out _) ?_; rintro e V1 ⟨v1, rfl, hz1, b1⟩; obtain ⟨o1, l1, c1, xs1, hv1, -⟩ := id hz1; subst hv1; have Q1 := to_call HX.out.1 b1; have HB1 := kept b1 HX.out.2; have HZ1 : Hid (NumV V1 _ (decide (t < 0)) t.natAbs 0) := hz1; clear b1 hz1)
      | (go_at_call 82; refine Calls.mono (moved_any _ _ _ 0 (-(N : Int)) (by omega) (by have := HN16.out; omega) _ HZ1.out) ?_; rintro e V2 ⟨v2, rfl, hz2, b2⟩; have Q2 := to_call Q1 b2; have HB2 := kept b2 HB1; obtain ⟨z2, hz3, hz4⟩ := partC HE.out HN16.out (by rw [HPP.out]; exact HT.out) hz2; obtain ⟨n2, o2, l2, c2, x2, hv2⟩ := hz3.form; subst hv2; have HZ2 : Hid (NumC V2 _ E 1024 z2) := hz3; have HZ3 : Hid (z2.natAbs ≤ 2 ^ E) := hz4; clear b2 hz2 hz3 hz4)
      | (refine wpList_store_row (by rfl) 50 _ _ (by rfl) w w.heap.size w.heap.size _ _ (by rfl) (by rfl) HB2 Q2 (Nat.le_refl _) 3 Tryz.infoN3 (by rfl) (by rfl) (oneN _ _ _ _ _) ?_; intro W9 e9 b9 s9 o9))
    refine bodyPost_ret (v := .agg #[.bool n2, .slice o2 l2 c2, .int .i64 x2]) (res_num _ 6 (by kernel_rfl) _ _ w.heap.size _ _ _ (by rfl) e9) rfl ⟨_, z2, rfl, (show NumC _ _ _ _ _ from HZ2.out).cl (num_cl HB2) (fun b hb _ => o9 b hb), HZ3.out, b9⟩
  · have dk : decide ((ll : Int) ≤ (k : Int)) = true := decide_eq_true (by omega)
    have HW1 : Hid (∀ W', _) := fun W' => wholeI_any 1 (by decide) W'
    have hle : ll ≤ k := by omega
    clear hkl
    go_wp2_with (first
      | (go_at_call 15; refine Calls.mono (HW1.out _) ?_; rintro e V1 ⟨v1, rfl, hz1, b1⟩; obtain ⟨o1, l1, c1, xs1, hv1, -⟩ := id hz1; subst hv1; have Q1 := to_call HX.out.1 b1; have HB1 := kept b1 HX.out.2; have HZ1 : Hid (NumC V1 _ E 1024 ((2 ^ E : Nat) : Int)) := oneC HE.out hz1; clear b1 hz1)
      | (refine wpList_store_row (by rfl) 50 _ _ (by rfl) w w.heap.size w.heap.size _ _ (by rfl) (by rfl) HB1 Q1 (Nat.le_refl _) 3 Tryz.infoN3 (by rfl) (by rfl) (oneN _ _ _ _ _) ?_; intro W9 e9 b9 s9 o9))
    refine bodyPost_ret (v := .agg #[.bool (decide ((1 : Int) < 0)), .slice o1 l1 c1, .int .i64 0]) (res_num _ 6 (by kernel_rfl) _ _ w.heap.size _ _ _ (by rfl) e9) rfl ⟨_, _, rfl, (show NumC _ _ _ _ _ from HZ1.out).cl (num_cl HB1) (fun b hb _ => o9 b hb), by rw [Int.natAbs_natCast]; exact Nat.le_refl _, b9⟩
end Go.Proofs.YtfepcpkfbnpbjaaGreat
