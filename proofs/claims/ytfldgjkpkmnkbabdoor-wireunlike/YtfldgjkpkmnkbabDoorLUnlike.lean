import Derived.Test.YtfldgjkpkmnkbabDoorLBack
import Derived.Test.YtfldgjkpkmnkbabDoorShort
import Derived.Deep.DeepCutAuto
namespace Go.Proofs.YtfldgjkpkmnkbabDoor
open Go.RowKit
set_option linter.unusedVariables false

/-- Two things that lie one behind the other are written over, and the second one's kind besides. -/
theorem stored_two {W : World} {B : Nat} {a0 a1 a2 a3 a4 b0 b1 b2 b3 b4 : Value} (v0 v1 v2 v3 v4 x0 x1 x2 x3 x4 k : Value)
    (c : Five W B a0 a1 a2 a3 a4) (d : Five W (B + 1) b0 b1 b2 b3 b4) :
    Five (((((((((((W.setCell ⟨B, 0, none⟩ v0).setCell ⟨B, 1, none⟩ v1).setCell ⟨B, 2, none⟩ v2).setCell ⟨B, 3, none⟩ v3).setCell ⟨B, 4, none⟩ v4).setCell ⟨B + 1, 0, none⟩ x0).setCell ⟨B + 1, 1, none⟩ x1).setCell ⟨B + 1, 2, none⟩ x2).setCell ⟨B + 1, 3, none⟩ x3).setCell ⟨B + 1, 4, none⟩ x4).setCell ⟨B + 1, 0, none⟩ k) B v0 v1 v2 v3 v4 ∧
    Five (((((((((((W.setCell ⟨B, 0, none⟩ v0).setCell ⟨B, 1, none⟩ v1).setCell ⟨B, 2, none⟩ v2).setCell ⟨B, 3, none⟩ v3).setCell ⟨B, 4, none⟩ v4).setCell ⟨B + 1, 0, none⟩ x0).setCell ⟨B + 1, 1, none⟩ x1).setCell ⟨B + 1, 2, none⟩ x2).setCell ⟨B + 1, 3, none⟩ x3).setCell ⟨B + 1, 4, none⟩ x4).setCell ⟨B + 1, 0, none⟩ k) (B + 1) k x1 x2 x3 x4 := by
  obtain ⟨c0, c1, c2, c3, c4⟩ := c
  obtain ⟨d0, d1, d2, d3, d4⟩ := d
  have hn : B + 1 ≠ B := by omega
  have hm : B ≠ B + 1 := by omega
  obtain ⟨z0, z1, z2, z3, z4⟩ := stored5 v0 v1 v2 v3 v4 c0 c1 c2 c3 c4
  have e : ∀ (j : Nat) (v : Value), W.cell? ⟨B + 1, j, none⟩ = some v → (((((W.setCell ⟨B, 0, none⟩ v0).setCell ⟨B, 1, none⟩ v1).setCell ⟨B, 2, none⟩ v2).setCell ⟨B, 3, none⟩ v3).setCell ⟨B, 4, none⟩ v4).cell? ⟨B + 1, j, none⟩ = some v := by
    intro j v h
    rw [far hm, far hm, far hm, far hm, far hm, h]
  generalize ((((W.setCell ⟨B, 0, none⟩ v0).setCell ⟨B, 1, none⟩ v1).setCell ⟨B, 2, none⟩ v2).setCell ⟨B, 3, none⟩ v3).setCell ⟨B, 4, none⟩ v4 = Y at *
  obtain ⟨y0, y1, y2, y3, y4⟩ := stored5 x0 x1 x2 x3 x4 (e 0 _ d0) (e 1 _ d1) (e 2 _ d2) (e 3 _ d3) (e 4 _ d4)
  refine ⟨⟨?_, ?_, ?_, ?_, ?_⟩, ⟨World.cell?_setCell_same _ _ _ y0, ?_, ?_, ?_, ?_⟩⟩
  · rw [far hn, far hn, far hn, far hn, far hn, far hn, z0]
  · rw [far hn, far hn, far hn, far hn, far hn, far hn, z1]
  · rw [far hn, far hn, far hn, far hn, far hn, far hn, z2]
  · rw [far hn, far hn, far hn, far hn, far hn, far hn, z3]
  · rw [far hn, far hn, far hn, far hn, far hn, far hn, z4]
  · rw [set_other (by decide), y1]
  · rw [set_other (by decide), y2]
  · rw [set_other (by decide), y3]
  · rw [set_other (by decide), y4]
theorem below_ten {w W : World} {B C : Nat} (hb : Below w.heap.size w W) (hB : w.heap.size ≤ B) (hC : w.heap.size ≤ C) (v0 v1 v2 v3 v4 x0 x1 x2 x3 x4 k : Value) :
    Below w.heap.size w (((((((((((W.setCell ⟨B, 0, none⟩ v0).setCell ⟨B, 1, none⟩ v1).setCell ⟨B, 2, none⟩ v2).setCell ⟨B, 3, none⟩ v3).setCell ⟨B, 4, none⟩ v4).setCell ⟨C, 0, none⟩ x0).setCell ⟨C, 1, none⟩ x1).setCell ⟨C, 2, none⟩ x2).setCell ⟨C, 3, none⟩ x3).setCell ⟨C, 4, none⟩ x4).setCell ⟨C, 0, none⟩ k) :=
  ((((((((((hb.setCell hB _).setCell hB _).setCell hB _).setCell hB _).setCell hB _).setCell hC _).setCell hC _).setCell hC _).setCell hC _).setCell hC _).setCell hC _

/-- A thing as it is mended. -/
structure Mended (w : World) (m u : Nat) (s : ByteArray) (a : Option Addr) (l c : Nat) (xs : List Int) : Prop where
  may : May m u s xs
  rd : Rd w a l c xs
  len : l ≤ 3000
theorem mended_of {w : World} {m u : Nat} {s : ByteArray} {a : Option Addr} {l c : Nat} {xs : List Int} (hm : m < 9223372036854775808) (hu : u < 18446744073709551616) (hn : isNum u = true) (hk : ∃ k, rn s = some k) (hs : s.size ≤ 3000) (hr : Rd w a l c xs) (hl : l ≤ 3000) : Mended w m u s a l c xs :=
  ⟨⟨hm, hu, hn, hk, by omega, by rw [hr.length]; omega, hr.byt⟩, hr, hl⟩
/-- The two things as they lie behind the first statement. -/
def Both (w : World) (kd kd' : Int) (wx : World) : Prop :=
  ∃ (m u1 : Nat) (s1 : ByteArray) (a1 : Option Addr) (l1 c1 : Nat) (xs1 : List Int) (m2 u2 : Nat) (s2 : ByteArray) (a2 : Option Addr) (l2 c2 : Nat) (xs2 : List Int) (w2 : World) (b0 b1 b2 b3 b4 d0 d1 d2 d3 d4 : Value),
    wx = ((((((((((w2.setCell ⟨w.heap.size, 0, none⟩ (.int .i64 kd)).setCell ⟨w.heap.size, 1, none⟩ (.int .i64 m)).setCell ⟨w.heap.size, 2, none⟩ (.int .u64 u1)).setCell ⟨w.heap.size, 3, none⟩ (.string s1)).setCell ⟨w.heap.size, 4, none⟩ (.slice a1 l1 c1)).setCell ⟨w.heap.size + 1, 0, none⟩ (.int .i64 kd')).setCell ⟨w.heap.size + 1, 1, none⟩ (.int .i64 m2)).setCell ⟨w.heap.size + 1, 2, none⟩ (.int .u64 u2)).setCell ⟨w.heap.size + 1, 3, none⟩ (.string s2)).setCell ⟨w.heap.size + 1, 4, none⟩ (.slice a2 l2 c2)) ∧ Mended w m u1 s1 a1 l1 c1 xs1 ∧ Mended w m2 u2 s2 a2 l2 c2 xs2 ∧ Below w.heap.size w w2 ∧ Five w2 w.heap.size b0 b1 b2 b3 b4 ∧ Five w2 (w.heap.size + 1) d0 d1 d2 d3 d4 ∧ (∀ j, w2.frozen? ⟨w.heap.size, j, none⟩ = false) ∧ (∀ j, w2.frozen? ⟨w.heap.size + 1, j, none⟩ = false)

set_option maxRecDepth 100000 in
set_option maxHeartbeats 16000000 in
theorem wireUnlike_any (kd n kd' n' : Int) (u u' : Nat) (s s' : ByteArray) (ao ao' : Option Addr) (len cap len' cap' : Nat) (xs xs' : List Int) (p : Int) (w : World)
    (hr : Rd w ao len cap xs) (hr' : Rd w ao' len' cap' xs') (hT : U8 w)
    (hb0 : -9223372036854775808 ≤ n) (hb1 : n ≤ 9223372036854775807) (hu : u < 18446744073709551616) (hs : s.size ≤ 9223372036854775807)
    (hb0' : -9223372036854775808 ≤ n') (hb1' : n' ≤ 9223372036854775807) (hu' : u' < 18446744073709551616) (hs' : s'.size ≤ 9223372036854775807) (hp0 : -9223372036854775808 ≤ p) (hp1 : p ≤ 9223372036854775807) :
    Calls Tryd.prog 4 #[.agg #[.int .i64 kd, .int .i64 n, .int .u64 u, .string s, .slice ao len cap], .agg #[.int .i64 kd', .int .i64 n', .int .u64 u', .string s', .slice ao' len' cap'], .int .i64 p] w fun e w' => e = .returned (.bool true) ∧ Below w.heap.size w w' := by
  have HR : Hid _ := hr
  have HR' : Hid _ := hr'
  have HT : Hid (U8 w) := hT
  clear hr hr' hT
  have hk := i64_and3 kd
  have hq0 : 0 ≤ kd % 4 := by omega
  have hq3 : kd % 4 ≤ 3 := by omega
  generalize kd % 4 = q at *
  go_enter Tryd.func4, Tryd.ntmps4
  go_upto_region 1 with fail
  go_cut [] (fun wx => Both w kd kd' wx)
  case first =>
    have hB0 : Below w.heap.size w ((w.alloc (.cells #[.int .i64 kd, .int .i64 n, .int .u64 u, .string s, .slice ao len cap] 25)).alloc (.cells #[.int .i64 kd', .int .i64 n', .int .u64 u', .string s', .slice ao' len' cap'] 25)) := ((Below.refl _ _).alloc (Nat.le_refl _) _).alloc (by simp) _
    obtain ⟨hg0, hg1, -⟩ := two_blocks (w := w) (o1 := .cells #[.int .i64 kd, .int .i64 n, .int .u64 u, .string s, .slice ao len cap] 25) (o2 := .cells #[.int .i64 kd', .int .i64 n', .int .u64 u', .string s', .slice ao' len' cap'] 25) (Below.refl _ _)
    have hsz : ((w.alloc (.cells #[.int .i64 kd, .int .i64 n, .int .u64 u, .string s, .slice ao len cap] 25)).alloc (.cells #[.int .i64 kd', .int .i64 n', .int .u64 u', .string s', .slice ao' len' cap'] 25)).heap.size = w.heap.size + 2 := by simp
    generalize ((w.alloc (.cells #[.int .i64 kd, .int .i64 n, .int .u64 u, .string s, .slice ao len cap] 25)).alloc (.cells #[.int .i64 kd', .int .i64 n', .int .u64 u', .string s', .slice ao' len' cap'] 25)) = W0 at *
    have HB0 : Hid _ := hB0
    have HG0 : Hid _ := hg0
    have HG1 : Hid _ := hg1
    have HZ : Hid _ := hsz
    obtain ⟨p0, p1, p2, p3, p4⟩ := cells5 hg0
    obtain ⟨r0, r1, r2, r3, r4⟩ := cells5 hg1
    clear hB0 hsz hg0 hg1
    go_region_with (first
      | (go_at_call_of 9 (Value.slice ao len cap); refine (mended_any kd n u s ao len cap xs _ (HR.out.later HB0.out.drew) (HT.out.later HB0.out.drew) hb0 hb1 hu hs).mono ?_; rintro e w1 ⟨m, u1, s1, a1, l1, c1, xs1, rfl, hm, hu1, hn1, hk1, hs1, hrd1, hl1, hbA⟩; have HB1 : Hid (Below w.heap.size w w1) := HB0.out.drew.trans (hbA.mono HB0.out.size); have HG10 : Hid _ := (hbA.block w.heap.size (by have := HZ.out; show w.heap.size < W0.heap.size; omega)).trans HG0.out; have HG11 : Hid _ := (hbA.block (w.heap.size + 1) (by have := HZ.out; show w.heap.size + 1 < W0.heap.size; omega)).trans HG1.out; obtain ⟨s0, s1', s2', s3, s4⟩ := cells5 HG11.out)
      | (go_at_call_of 9 (Value.slice ao' len' cap'); refine (mended_any kd' n' u' s' ao' len' cap' xs' _ (HR'.out.later HB1.out) (HT.out.later HB1.out) hb0' hb1' hu' hs').mono ?_; rintro e w2 ⟨m2, u2, s2, a2, l2, c2, xs2, rfl, hm2, hu2, hn2, hk2, hs2, hrd2, hl2, hbB⟩; have HB2 : Hid (Below w.heap.size w w2) := below_trans HB1.out hbB; have hz2 : w.heap.size + 2 ≤ w1.heap.size := (by have := HZ.out; have := hbA.size; have e : W0.drew.heap.size = W0.heap.size := rfl; omega); have hg20 := (hbB.block w.heap.size (by omega)).trans HG10.out; have hg21 := (hbB.block (w.heap.size + 1) (by omega)).trans HG11.out; have f0 := fun j => frozen_of_row _ _ j _ _ hg20; have f1 := fun j => frozen_of_row _ _ j _ _ hg21; obtain ⟨t0, t1, t2, t3, t4⟩ := cells5 hg20; obtain ⟨x0, x1, x2, x3, x4⟩ := cells5 hg21; clear hg20 hg21 hz2 p0 p1 p2 p3 p4 r0 r1 r2 r3 r4 s0 s1' s2' s3 s4))
    all_goals
      go_wp2_with fail
      go_meet
      exact ⟨m, u1, s1, a1, l1, c1, xs1, m2, u2, s2, a2, l2, c2, xs2, w2, _, _, _, _, _, _, _, _, _, _, rfl, mended_of hm hu1 hn1 hk1 hs1 (hrd1 w HR.out) hl1, mended_of hm2 hu2 hn2 hk2 hs2 (hrd2 w HR'.out) hl2, HB2.out, ⟨t0, t1, t2, t3, t4⟩, ⟨x0, x1, x2, x3, x4⟩, f0, f1⟩
  case rest =>
  obtain ⟨m, u1, s1, a1, l1, c1, xs1, m2, u2, s2, a2, l2, c2, xs2, w2, b0, b1, b2, b3, b4, d0, d1, d2, d3, d4, rfl, hM1, hM2, hB2, hc, hd, f0, f1⟩ := hcut
  have HB2 : Hid _ := hB2
  have HM1 : Hid (May m u1 s1 xs1) := hM1.may
  have HM2 : Hid (May m2 u2 s2 xs2) := hM2.may
  have HR1 : Hid (Rd w a1 l1 c1 xs1) := hM1.rd
  have HR2 : Hid (Rd w a2 l2 c2 xs2) := hM2.rd
  have HC : Hid _ := hc
  have HD : Hid _ := hd
  obtain ⟨t0, t1, t2, t3, t4⟩ := hc
  obtain ⟨x0, x1, x2, x3, x4⟩ := hd
  clear hM1 hM2 hB2 HR HR'
  go_wp2_with fail
  obtain ⟨hF, hG⟩ := stored_two (W := w2) (B := w.heap.size) (.int .i64 kd) (.int .i64 m) (.int .u64 u1) (.string s1) (.slice a1 l1 c1) (.int .i64 kd') (.int .i64 m2) (.int .u64 u2) (.string s2) (.slice a2 l2 c2) (.int .i64 kd) HC.out HD.out
  have hX := below_ten HB2.out (Nat.le_refl _) (Nat.le_succ _) (.int .i64 kd) (.int .i64 m) (.int .u64 u1) (.string s1) (.slice a1 l1 c1) (.int .i64 kd') (.int .i64 m2) (.int .u64 u2) (.string s2) (.slice a2 l2 c2) (.int .i64 kd)
  clear t0 t1 t2 t3 t4 x0 x1 x2 x3 x4 f0 f1 HC HD HB2
  generalize ((((((((((w2.setCell ⟨w.heap.size, 0, none⟩ (.int .i64 kd)).setCell ⟨w.heap.size, 1, none⟩ (.int .i64 m)).setCell ⟨w.heap.size, 2, none⟩ (.int .u64 u1)).setCell ⟨w.heap.size, 3, none⟩ (.string s1)).setCell ⟨w.heap.size, 4, none⟩ (.slice a1 l1 c1)).setCell ⟨w.heap.size + 1, 0, none⟩ (.int .i64 kd')).setCell ⟨w.heap.size + 1, 1, none⟩ (.int .i64 m2)).setCell ⟨w.heap.size + 1, 2, none⟩ (.int .u64 u2)).setCell ⟨w.heap.size + 1, 3, none⟩ (.string s2)).setCell ⟨w.heap.size + 1, 4, none⟩ (.slice a2 l2 c2)).setCell ⟨w.heap.size + 1, 0, none⟩ (.int .i64 kd) = X at *
  have HF : Hid _ := hF
  have HG : Hid _ := hG
  have HX : Hid _ := hX
  clear hF hG hX
  refine (wrote_any kd q hk hq0 hq3 m u1 s1 a1 l1 c1 xs1 X HM1.out (HR1.out.later HX.out) (HT.out.later HX.out)).mono ?_
  rintro e w3 ⟨v3, rfl, hO3, hb3⟩
  obtain ⟨aa, ca, rfl, hra⟩ := hO3.rd (wroteB_byt HM1.out)
  have hla := wroteB_pos (q := q) HM1.out
  have HF3 : Hid _ := Five.later HF.out hb3
  have HG3 : Hid _ := Five.later HG.out hb3
  have HB3 : Hid (Below w.heap.size w w3) := below_trans HX.out hb3
  have HRA3 : Hid (Rd w3 aa _ ca (wroteB q m u1 s1 xs1)) := hra
  obtain ⟨z0, z1, z2, z3, z4⟩ := HG3.out
  clear HF HG HX hO3 hra hb3
  generalize hLA : (wroteB q m u1 s1 xs1).length = la at *
  go_wp2_with fail
  refine (wrote_any kd q hk hq0 hq3 m2 u2 s2 a2 l2 c2 xs2 w3 HM2.out (HR2.out.later HB3.out) (HT.out.later HB3.out)).mono ?_
  rintro e w4 ⟨v4, rfl, hO4, hb4⟩
  obtain ⟨ab, cb, rfl, hrb⟩ := hO4.rd (wroteB_byt HM2.out)
  have hlb := wroteB_pos (q := q) HM2.out
  generalize hLB : (wroteB q m2 u2 s2 xs2).length = lb at *
  have HF4 : Hid _ := Five.later HF3.out hb4
  have HG4 : Hid _ := Five.later HG3.out hb4
  have HB4 : Hid (Below w.heap.size w w4) := below_trans HB3.out hb4
  have HRA4 : Hid _ := HRA3.out.later hb4
  have HRB4 : Hid (Rd w4 ab lb cb (wroteB q m2 u2 s2 xs2)) := hrb
  clear HF3 HG3 HB3 HRA3 hO4 hrb hb4 z0 z1 z2 z3 z4
  go_wp2_with fail
  refine (told_any _).mono ?_
  rintro e w5 ⟨rfl, hb5⟩
  have HF5 : Hid _ := Five.later HF4.out hb5
  have HG5 : Hid _ := Five.later HG4.out hb5
  have HB5 : Hid (Below w.heap.size w w5) := below_trans HB4.out hb5
  have HRA5 : Hid _ := HRA4.out.later hb5
  have HRB5 : Hid _ := HRB4.out.later hb5
  clear HF4 HG4 HB4 HRA4 HRB4 hb5
  obtain ⟨z0, z1, z2, z3, z4⟩ := HF5.out
  obtain ⟨y0, y1, y2, y3, y4⟩ := HG5.out
  go_upto_region 8 with fail
  have hmin : (min (la : Int) (lb : Int)) = ((min la lb : Nat) : Int) := by omega
  rw [hmin]
  have hU := unlike q hq0 hq3 m u1 s1 xs1 HM1.out m2 u2 s2 xs2 HM2.out (min la lb) (by rw [hLA, hLB])
  obtain ⟨aA, lA, cA, hcutA, hrA⟩ := cut_to HRA5.out (min la lb) (by omega)
  obtain ⟨aB, lB, cB, hcutB, hrB⟩ := cut_to HRB5.out (min la lb) (by omega)
  generalize min la lb = k at *
  obtain ⟨bb, hbb⟩ : ∃ bb, alikeB q m m2 u1 u2 s1 s2 xs1 xs2 = bb := ⟨_, rfl⟩
  rw [hbb] at hU
  have HU : Hid _ := hU
  have HBB : Hid _ := hbb
  have HrA : Hid _ := hrA
  have HrB : Hid _ := hrB
  clear hU hbb hrA hrB hmin
  go_cut [60] (fun c wx => c = .bool false ∧ Below w.heap.size w wx ∧ Five wx w.heap.size (.int .i64 kd) (.int .i64 m) (.int .u64 u1) (.string s1) (.slice a1 l1 c1) ∧ Rd wx aa la ca (wroteB q m u1 s1 xs1))
  case first =>
    go_region_with (first
      | (go_at_call 15; refine (same_any _ _ _ _ _ _ _ _ _ (HrA.out.later (Below.refl _ _).drew) (HrB.out.later (Below.refl _ _).drew)).mono ?_; rintro e w6 ⟨rfl, hb6⟩; rw [HU.out]; have HB6 : Hid (Below w.heap.size w w6) := HB5.out.drew.trans (hb6.mono HB5.out.size); have hF6 := Five.later HF5.out ((Below.refl _ _).drew.trans hb6); have hG6 := Five.later HG5.out ((Below.refl _ _).drew.trans hb6); have HRA6 : Hid _ := HRA5.out.later ((Below.refl _ _).drew.trans hb6); have HF6 : Hid _ := hF6; obtain ⟨g0, g1, g2, g3, g4⟩ := hF6; obtain ⟨h0, h1, h2, h3, h4⟩ := hG6; clear z0 z1 z2 z3 z4 y0 y1 y2 y3 y4)
      | (go_at_call 13; refine (alike_any kd kd q m m2 u1 u2 hk s1 s2 a1 a2 l1 c1 l2 c2 xs1 xs2 _ (HR1.out.later HB6.out) (HR2.out.later HB6.out)).mono ?_; rintro e w7 ⟨rfl, hb7⟩; rw [HBB.out]))
    all_goals
      go_wp2_with fail
      go_meet
      exact ⟨rfl, below_trans HB6.out hb7, Five.later HF6.out hb7, HRA6.out.later hb7⟩
  case rest =>
  obtain ⟨rfl, hB7, hF7, hRA7⟩ := hcut
  have HB7 : Hid _ := hB7
  have HF7 : Hid (Five wc w.heap.size (.int .i64 kd) (.int .i64 m) (.int .u64 u1) (.string s1) (.slice a1 l1 c1)) := hF7
  have HRA7 : Hid _ := hRA7
  clear z0 z1 z2 z3 z4 y0 y1 y2 y3 y4 hB7 hRA7 HU HBB HrA HrB HRA5 HRB5 HF5 HG5 HB5 hcutA hcutB
  obtain ⟨z0, z1, z2, z3, z4⟩ := hF7
  go_upto_region 10 with fail
  obtain ⟨t, ht, ht'⟩ : ∃ t : Nat, p % (la : Int) = (t : Int) ∧ t < la := ⟨(p % (la : Int)).toNat, by have := Int.emod_nonneg p (show (la : Int) ≠ 0 by omega); omega, by have := Int.emod_lt_of_pos p (show (0 : Int) < (la : Int) by omega); omega⟩
  obtain ⟨aT, lT, cT, hcutT, hrT⟩ := cut_to HRA7.out t (by omega)
  have HrT : Hid (Rd wc aT lT cT ((wroteB q m u1 s1 xs1).take t)) := hrT
  clear hrT
  have hZ0 := (Five.later HF7.out ((Below.refl _ _).alloc (Nat.le_refl _) (.cells #[.int .i64 0, .int .i64 0, .int .u64 0, .string ⟨#[]⟩, .slice none 0 0] 25))).1
  have hZ1 := (Five.later HF7.out ((Below.refl _ _).drew.alloc (Nat.le_refl _) (.cells #[.int .i64 0, .int .i64 0, .int .u64 0, .string ⟨#[]⟩, .slice none 0 0] 25))).1
  go_cut [13, 14] (fun s13 s14 wx => s13 = .int .i64 0 ∧ s14 = .int .i64 10 ∧ Below wc.heap.size wc wx)
  case first =>
    go_region_with (first
      | (go_at_call 14; refine (spot_any p la (by omega) (by omega) hp0 hp1 _).mono ?_; rintro e w8 ⟨rfl, rfl⟩; rw [ht])
      | (go_at_call 12; refine (reads_any kd q hk hq0 hq3 0 aT lT cT ((wroteB q m u1 s1 xs1).take t) _ ?_ ?_).mono ?_; (first | exact HrT.out.later (Below.refl _ _).drew | exact HrT.out.later ((Below.refl _ _).drew.alloc (Nat.le_refl _) _)); (first | exact HT.out.later HB7.out.drew | exact HT.out.later (HB7.out.drew.alloc HB7.out.size _)); rintro e w8 ⟨n8, u8, s8, a8, l8, c8, bs8, p8, e8, rfl, hr8, hRA8, hb8⟩; obtain ⟨rfl, rfl⟩ := short q m u1 s1 xs1 HM1.out t (by rw [hLA]; exact ht') _ _ _ _ _ _ hRA8; have h8 : Below wc.heap.size wc w8 := (by first | exact (Below.refl _ _).drew.trans hb8 | exact ((Below.refl _ _).drew.alloc (Nat.le_refl _) _).trans (hb8.mono (by simp))); (first | (have hg8 := (hb8.block wc.heap.size (by simp)).trans (heap_alloc_new wc.drew _); have f8 := fun j => frozen_of_row _ _ j _ _ hg8; obtain ⟨g0, g1, g2, g3, g4⟩ := cells5 hg8; clear hg8) | skip)))
    all_goals
      go_wp2_with fail
      go_meet
      refine ⟨rfl, rfl, ?_⟩
      first
        | exact h8.alloc h8.size _
        | exact ((((h8.setCell (Nat.le_refl _) _).setCell (Nat.le_refl _) _).setCell (Nat.le_refl _) _).setCell (Nat.le_refl _) _).setCell (Nat.le_refl _) _
  case rest =>
  obtain ⟨rfl, rfl, hB8⟩ := hcut
  have HB8 : Hid (Below w.heap.size w wc) := below_trans HB7.out hB8
  have HF8 : Hid (Five wc w.heap.size (.int .i64 kd) (.int .i64 m) (.int .u64 u1) (.string s1) (.slice a1 l1 c1)) := Five.later HF7.out hB8
  have HRA8 : Hid _ := HRA7.out.later hB8
  clear hZ0 hZ1 z0 z1 z2 z3 z4 HF7 HRA7 HB7 hB8 HrT hcutT ht ht'
  obtain ⟨z0, z1, z2, z3, z4⟩ := HF8.out
  go_upto_region 11 with fail
  obtain ⟨t, ht, ht'⟩ : ∃ t : Nat, (la : Int) - 1 = (t : Int) ∧ t < la := ⟨la - 1, by omega, by omega⟩
  obtain ⟨aT, lT, cT, hcutT, hrT⟩ := cut_to HRA8.out t (by omega)
  have HrT : Hid (Rd wc aT lT cT ((wroteB q m u1 s1 xs1).take t)) := hrT
  clear hrT
  have hZ0 := (Five.later HF8.out ((Below.refl _ _).alloc (Nat.le_refl _) (.cells #[.int .i64 0, .int .i64 0, .int .u64 0, .string ⟨#[]⟩, .slice none 0 0] 25))).1
  have hZ1 := (Five.later HF8.out ((Below.refl _ _).drew.alloc (Nat.le_refl _) (.cells #[.int .i64 0, .int .i64 0, .int .u64 0, .string ⟨#[]⟩, .slice none 0 0] 25))).1
  have hw : IntKind.i64.wrap (t : Int) = (t : Int) := by rw [IntKind.wrap_i64]; omega
  go_cut [16, 17] (fun s16 s17 wx => s16 = .int .i64 0 ∧ s17 = .int .i64 10 ∧ Below wc.heap.size wc wx)
  case first =>
    go_region_with (go_at_call 12; refine (reads_any kd q hk hq0 hq3 0 aT lT cT ((wroteB q m u1 s1 xs1).take t) _ ?_ ?_).mono ?_; (first | exact HrT.out.later (Below.refl _ _).drew | exact HrT.out.later ((Below.refl _ _).drew.alloc (Nat.le_refl _) _)); (first | exact HT.out.later HB8.out.drew | exact HT.out.later (HB8.out.drew.alloc HB8.out.size _)); rintro e w8 ⟨n8, u8, s8, a8, l8, c8, bs8, p8, e8, rfl, hr8, hRA8, hb8⟩; obtain ⟨rfl, rfl⟩ := short q m u1 s1 xs1 HM1.out t (by rw [hLA]; exact ht') _ _ _ _ _ _ hRA8; have h8 : Below wc.heap.size wc w8 := (by first | exact (Below.refl _ _).drew.trans hb8 | exact ((Below.refl _ _).drew.alloc (Nat.le_refl _) _).trans (hb8.mono (by simp))); (first | (have hg8 := (hb8.block wc.heap.size (by simp)).trans (heap_alloc_new wc.drew _); have f8 := fun j => frozen_of_row _ _ j _ _ hg8; obtain ⟨g0, g1, g2, g3, g4⟩ := cells5 hg8; clear hg8) | skip))
    all_goals
      go_wp2_with fail
      go_meet
      refine ⟨rfl, rfl, ?_⟩
      first
        | exact h8.alloc h8.size _
        | exact ((((h8.setCell (Nat.le_refl _) _).setCell (Nat.le_refl _) _).setCell (Nat.le_refl _) _).setCell (Nat.le_refl _) _).setCell (Nat.le_refl _) _
  case rest =>
  obtain ⟨rfl, rfl, hB9⟩ := hcut
  have HB9 : Hid (Below w.heap.size w wc) := below_trans HB8.out hB9
  clear hZ0 hZ1 z0 z1 z2 z3 z4 HF8 HRA8 HB8 hB9 HrT hcutT ht ht' hw
  go_wp2
  go_ret
  exact ⟨rfl, HB9.out⟩
end Go.Proofs.YtfldgjkpkmnkbabDoor
