import Derived.Test.YtpinpcefgbhdmaaDoorLow
import Derived.Test.YtpinpcefgbhdmaaDoorRefSum
namespace Go.Proofs.YtpinpcefgbhdmaaDoor
open Go.RowKit
set_option linter.unusedVariables false

/-- A frame. -/
def frameB (xs : List Int) : List Int := low8 xs.length 4 ++ low8 (sum (low8 xs.length 4)) 4 ++ xs ++ low8 (sum xs) 4
theorem frame_byt {xs : List Int} (h : Byt xs) : Byt (frameB xs) := ((((low8_byt _ _).append (low8_byt _ _)).append h).append (low8_byt _ _))
theorem sum_le (xs : List Int) : sum xs ≤ 4294967295 := Nat.sub_le _ _

/-- What is owned stays while only blocks from 'base2' on, all of them later ones, are written. -/
theorem flatOne (ys : List Int) : [ys].flatten = ys := by simp

theorem appendLow4 (v : Value) (ys : List Int) (u base : Nat) (w : World) (hown : Own w base v ys) (hbase : base ≤ w.heap.size) (hu : u ≤ 4294967295) (hl : ys.length ≤ 35184372088832) :
    Calls Tryd.prog 25 #[v, .int .u64 u, .int .i64 4] w fun e w' => ∃ v', e = .returned v' ∧ Own w' base v' (ys ++ low8 u 4) ∧ Below base w w' :=
  appendLow_any v ys u 4 base w hown hbase (by omega) (by omega) hl

theorem four_any (s : Nat) (hs : s ≤ 4294967295) (w : World) :
    Calls Tryd.prog 20 #[.int .u32 s] w fun e w' => ∃ v, e = .returned v ∧ Own w' w.heap.size v (low8 s 4) ∧ Below w.heap.size w w' := by
  have he : low8 s 4 = [(s : Int) % 256, (s : Int) / 256 % 256, (s : Int) / 65536 % 256, (s : Int) / 16777216] := by
    simp only [low8, List.cons.injEq, and_true]
    omega
  have HE : Hid _ := he
  clear he
  go_enter Tryd.func20, Tryd.ntmps20
  go_wp2
  go_ret
  refine ⟨_, rfl, ?_, (Below.refl _ _).alloc (Nat.le_refl _) _⟩
  rw [HE.out]
  exact Own.fresh w [(s : Int) % 256, (s : Int) / 256 % 256, (s : Int) / 65536 % 256, (s : Int) / 16777216] (by simp)

set_option maxRecDepth 100000 in
set_option maxHeartbeats 2000000 in
theorem frame_small (ao : Option Addr) (len cap : Nat) (xs : List Int) (w : World) (hr : Rd w ao len cap xs) (hl : len ≤ 1048576) :
    Calls Tryd.prog 10 #[.slice ao len cap] w fun e w' => ∃ v, e = .returned (.tuple #[v, .int .i64 0]) ∧ Own w' w.heap.size v (frameB xs) ∧ Below w.heap.size w w' := by
  have HR : Hid (Rd w ao len cap xs) := hr
  have HL : Hid (xs.length = len) := hr.length
  have HF : Hid (frameB xs = low8 len 4 ++ low8 (sum (low8 len 4)) 4 ++ xs ++ low8 (sum xs) 4) := by unfold Hid frameB; rw [hr.length]
  clear hr
  obtain ⟨i0, hi, hz0, hz1, hz2⟩ := info_parts Tryd.infoByte
  go_enter Tryd.func10, Tryd.ntmps10
  go_wp2_with (at_make; refine wpList_make_own _ rfl _ _ 23 rfl w.heap.size 5 i0 _ 1 Tryd.underlying23 hi hz0 hz1 .i64 .i64 _ (8 + len + 4) rfl rfl (by omega) (by rw [hz2]; omega) (by simp only [maxLen]; omega) (Nat.le_refl _) ?_; intro w1 hown0 hgr0)
  have hO0 : Own w1 w.heap.size (.slice (some ⟨w.heap.size, 0, none⟩) 0 (8 + len + 4)) [] := hown0
  have hB1 : Below w.heap.size w w1 := (Below.refl _ _).grown hgr0 (Nat.le_refl _) (fun k hk => by cases hk)
  clear hown0 hgr0 hi hz0 hz1 hz2
  refine (appendLow4 _ [] len w.heap.size _ hO0 hB1.size (by omega) (by simp)).mono ?_
  rintro e w2 ⟨v2, rfl, hO2, hb2⟩
  rw [List.nil_append] at hO2
  have hB2 := hB1.trans hb2
  obtain ⟨a2, L2, c2, rfl, hr2⟩ := hO2.rd' (low8_byt _ _)
  have H2 : Hid (Own w2 w.heap.size (.slice a2 L2 c2) (low8 len 4)) := hO2
  have hR2 := RdL.one hr2
  have HR2 : Hid _ := hR2
  clear hO0 hB1 hb2 hO2 hr2 hR2
  go_wp2_with fail
  refine (sum_any _ 1 1 _ _ HR2.out).mono ?_
  rintro e w3 ⟨rfl, hb3⟩
  rw [flatOne]
  have hs1 := sum_le (low8 len 4)
  have hB3 : Below w2.heap.size w2 w3 := below_trans ((Below.refl _ _).alloc (Nat.le_refl _) _) hb3
  have HO3 : Hid (Own w3 w.heap.size (.slice a2 L2 c2) (low8 len 4)) := H2.out.later hB3
  have hB03 : Below w.heap.size w w3 := hB2.trans (hB3.mono hB2.size)
  generalize sum (low8 len 4) = S1 at *
  go_wp2_with fail
  refine (appendLow4 _ (low8 len 4) S1 w.heap.size _ HO3.out hB03.size hs1 (by rw [low8_len]; omega)).mono ?_
  rintro e w4 ⟨v4, rfl, hO4, hb4⟩
  have hB4 := hB03.trans hb4
  have hsz4 := hB4.size
  go_wp2_with (at_builtin; refine append_rd _ rfl _ _ rfl w.heap.size _ _ rfl hO4 _ _ _ xs rfl (HR.out.later hB4) (by simp [low8_len]; omega) hsz4 ?_; intro v5 w5 hO5 hb5)
  have hB5 := hB4.trans hb5
  refine (sum_any _ 1 1 _ _ (RdL.one (HR.out.later hB5))).mono ?_
  rintro e w6 ⟨rfl, hb6⟩
  rw [flatOne]
  have hs2 := sum_le xs
  have hB6 : Below w5.heap.size w5 w6 := below_trans ((Below.refl _ _).alloc (Nat.le_refl _) _) hb6
  have HO6 : Hid _ := hO5.later hB6
  have hB06 : Below w.heap.size w w6 := hB5.trans (hB6.mono hB5.size)
  generalize sum xs = S2 at *
  go_wp2_with fail
  refine (appendLow4 _ _ S2 w.heap.size _ HO6.out hB06.size hs2 (by simp [low8_len, HL.out]; omega)).mono ?_
  rintro e w7 ⟨v7, rfl, hO7, hb7⟩
  go_wp2
  go_ret2
  exact ⟨_, rfl, by rw [HF.out]; exact hO7, hB06.trans hb7⟩

set_option maxRecDepth 100000 in
theorem frame_great (ao : Option Addr) (len cap : Nat) (w : World) (hm : len ≤ 9223372036854775807) (hl : ¬ len ≤ 1048576) :
    Calls Tryd.prog 10 #[.slice ao len cap] w fun e w' => e = .returned (.tuple #[.slice none 0 0, .int .i64 2]) ∧ w' = w := by
  go_enter Tryd.func10, Tryd.ntmps10
  go_wp2
  go_ret2
  exact ⟨rfl, rfl⟩

set_option maxRecDepth 100000 in
theorem sealed_any (ao : Option Addr) (len cap : Nat) (xs : List Int) (w : World) (hr : Rd w ao len cap xs) :
    Calls Tryd.prog 21 #[.slice ao len cap] w fun e w' => ∃ v, e = .returned v ∧ Own w' w.heap.size v (low8 (sum xs) 4) ∧ Below w.heap.size w w' := by
  have HR : Hid _ := RdL.one hr
  clear hr
  go_enter Tryd.func21, Tryd.ntmps21
  go_wp2_with fail
  refine (refSum_any _ 1 1 _ _ HR.out).mono ?_
  rintro e w1 ⟨rfl, hb1⟩
  rw [flatOne]
  have hs := sum_le xs
  have hB1 : Below w.heap.size w w1 := below_trans ((Below.refl _ _).alloc (Nat.le_refl _) _) hb1
  generalize hS : sum xs = S at *
  have HS : Hid (sum xs = S) := hS
  clear hS
  go_wp2_with fail
  refine (four_any S hs _).mono ?_
  rintro e w2 ⟨v, rfl, hO, hb2⟩
  go_wp2
  go_ret
  exact ⟨_, rfl, by rw [HS.out]; exact hO.mono hB1.size, below_trans hB1 hb2⟩

set_option maxRecDepth 100000 in
set_option maxHeartbeats 2000000 in
theorem refFrame_small (ao : Option Addr) (len cap : Nat) (xs : List Int) (w : World) (hr : Rd w ao len cap xs) (hl : len ≤ 1048576) :
    Calls Tryd.prog 5 #[.slice ao len cap] w fun e w' => ∃ v, e = .returned (.tuple #[v, .int .i64 0]) ∧ Own w' w.heap.size v (frameB xs) ∧ Below w.heap.size w w' := by
  have HR : Hid (Rd w ao len cap xs) := hr
  have HL : Hid (xs.length = len) := hr.length
  have HF : Hid (frameB xs = low8 len 4 ++ low8 (sum (low8 len 4)) 4 ++ xs ++ low8 (sum xs) 4) := by unfold Hid frameB; rw [hr.length]
  clear hr
  go_enter Tryd.func5, Tryd.ntmps5
  go_wp2_with fail
  refine (four_any len (by omega) _).mono ?_
  rintro e w1 ⟨v1, rfl, hO1, hB1⟩
  obtain ⟨a1, L1, c1, rfl, hr1⟩ := hO1.rd' (low8_byt _ _)
  have H1 : Hid (Own w1 w.heap.size (.slice a1 L1 c1) (low8 len 4)) := hO1
  have HR1 : Hid _ := hr1
  clear hO1 hr1
  go_wp2_with fail
  refine (sealed_any _ _ _ _ _ HR1.out).mono ?_
  rintro e w2 ⟨v2, rfl, hO2, hb2⟩
  obtain ⟨a2, L2, c2, rfl, hr2⟩ := hO2.rd' (low8_byt _ _)
  have hB2 := below_trans hB1 hb2
  have HO1 : Hid (Own w2 w.heap.size (.slice a1 L1 c1) (low8 len 4)) := H1.out.later hb2
  have HR2 : Hid _ := hr2
  have hL2 : Hid (L2 ≤ 4) := by unfold Hid; rw [← hr2.length, low8_len]; exact Nat.le_refl _
  have hsz2 := hB2.size
  clear hr2 hO2 hb2
  go_wp2_with (first | (at_builtin; refine append_rd _ rfl (.tmp 13) (.tmp 15) rfl w.heap.size _ _ rfl HO1.out _ _ _ _ rfl HR2.out (by have := hL2.out; rw [low8_len]; omega) hsz2 ?_; intro v3 w3 hO3 hb3) | (at_builtin; refine append_rd _ rfl (.tmp 17) (.tmp 18) rfl w.heap.size _ _ rfl hO3 _ _ _ xs rfl (HR.out.later (hB2.trans hb3)) (by simp [low8_len]; omega) (hB2.trans hb3).size ?_; intro v4 w4 hO4 hb4))
  have hB4 := (hB2.trans hb3).trans hb4
  refine (sealed_any _ _ _ _ _ (HR.out.later hB4)).mono ?_
  rintro e w5 ⟨v5, rfl, hO5, hb5⟩
  obtain ⟨a5, L5, c5, rfl, hr5⟩ := hO5.rd' (low8_byt _ _)
  have hB5 := hB4.trans (hb5.mono hB4.size)
  have HO4 : Hid _ := hO4.later hb5
  have hL5 : Hid (L5 ≤ 4) := by unfold Hid; rw [← hr5.length, low8_len]; exact Nat.le_refl _
  have HR5 : Hid _ := hr5
  have hsz5 := hB5.size
  clear hO4 hb5 hO5 hr5 hO3 hb3 hb4
  go_wp2_with (at_builtin; refine append_rd _ rfl (.tmp 20) (.tmp 22) rfl w.heap.size _ _ rfl HO4.out _ _ _ _ rfl HR5.out (by have := hL5.out; simp [low8_len, HL.out]; omega) hsz5 ?_; intro v6 w6 hO6 hb6)
  go_ret2
  exact ⟨_, rfl, by rw [HF.out]; exact hO6, hB5.trans hb6⟩

set_option maxRecDepth 100000 in
theorem refFrame_great (ao : Option Addr) (len cap : Nat) (w : World) (hm : len ≤ 9223372036854775807) (hl : ¬ len ≤ 1048576) :
    Calls Tryd.prog 5 #[.slice ao len cap] w fun e w' => e = .returned (.tuple #[.slice none 0 0, .int .i64 2]) ∧ w' = w := by
  go_enter Tryd.func5, Tryd.ntmps5
  go_wp2
  go_ret2
  exact ⟨rfl, rfl⟩
end Go.Proofs.YtpinpcefgbhdmaaDoor
