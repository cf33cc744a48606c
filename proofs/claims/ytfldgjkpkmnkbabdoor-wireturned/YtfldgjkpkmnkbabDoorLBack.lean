import Derived.Test.YtfldgjkpkmnkbabDoorThings3
import Derived.Test.YtfldgjkpkmnkbabDoorTold
namespace Go.Proofs.YtfldgjkpkmnkbabDoor
open Go.RowKit
set_option linter.unusedVariables false

/-- The five cells of a thing. -/
def Five (w : World) (B : Nat) (v0 v1 v2 v3 v4 : Value) : Prop := w.cell? ⟨B, 0, none⟩ = some v0 ∧ w.cell? ⟨B, 1, none⟩ = some v1 ∧ w.cell? ⟨B, 2, none⟩ = some v2 ∧ w.cell? ⟨B, 3, none⟩ = some v3 ∧ w.cell? ⟨B, 4, none⟩ = some v4
theorem Five.later {w w' : World} {B : Nat} {v0 v1 v2 v3 v4 : Value} (h : Five w B v0 v1 v2 v3 v4) (hb : Below w.heap.size w w') : Five w' B v0 v1 v2 v3 v4 := by
  have hl : B < w.heap.size := World.block_lt_of_cell? w _ h.1
  obtain ⟨h0, h1, h2, h3, h4⟩ := h
  exact ⟨(hb.cell (p := ⟨B, 0, none⟩) hl).trans h0, (hb.cell (p := ⟨B, 1, none⟩) hl).trans h1, (hb.cell (p := ⟨B, 2, none⟩) hl).trans h2, (hb.cell (p := ⟨B, 3, none⟩) hl).trans h3, (hb.cell (p := ⟨B, 4, none⟩) hl).trans h4⟩

set_option maxRecDepth 100000 in
set_option maxHeartbeats 4000000 in
theorem wireBack_core (kd n : Int) (u : Nat) (s : ByteArray) (ao a1 a2 a3 a1' a2' a3' : Option Addr) (len cap l1 c1 l2 c2 l3 c3 l1' c1' l2' c2' l3' c3' : Nat) (xs xs1 xs2 xs3 : List Int) (p : Int) (w : World)
    (hr : Rd w ao len cap xs) (hr1 : Rd w a1' l1' c1' xs1) (hr2 : Rd w a2' l2' c2' xs2) (hr3 : Rd w a3' l3' c3' xs3) (hT : U8 w)
    (hb0 : -9223372036854775808 ≤ n) (hb1 : n ≤ 9223372036854775807) (hu : u < 18446744073709551616) (hs : s.size ≤ 9223372036854775807) (hp0 : -9223372036854775808 ≤ p) (hp1 : p ≤ 9223372036854775807)
    (hm1 : l1 ≤ 9223372036854775807) (hm2 : l2 ≤ 9223372036854775807) (hm3 : l3 ≤ 9223372036854775807)
    (hl1 : l1' ≤ 200) (hl2 : l2' ≤ 200) (hl3 : l3' ≤ 4000)
    (h1 : (200 < l1 ∧ ∀ w, (Instr.slice 23 (.slice a1 l1 c1) none (some (.int .i64 200)) none).run Tryd.prog w = .ok (.slice a1' l1' c1') w) ∨ (l1 ≤ 200 ∧ a1' = a1 ∧ l1' = l1 ∧ c1' = c1))
    (h2 : (200 < l2 ∧ ∀ w, (Instr.slice 23 (.slice a2 l2 c2) none (some (.int .i64 200)) none).run Tryd.prog w = .ok (.slice a2' l2' c2') w) ∨ (l2 ≤ 200 ∧ a2' = a2 ∧ l2' = l2 ∧ c2' = c2))
    (h3 : (4000 < l3 ∧ ∀ w, (Instr.slice 23 (.slice a3 l3 c3) none (some (.int .i64 4000)) none).run Tryd.prog w = .ok (.slice a3' l3' c3') w) ∨ (l3 ≤ 4000 ∧ a3' = a3 ∧ l3' = l3 ∧ c3' = c3)) :
    Calls Tryd.prog 3 #[.agg #[.int .i64 kd, .int .i64 n, .int .u64 u, .string s, .slice ao len cap], .slice a1 l1 c1, .slice a2 l2 c2, .slice a3 l3 c3, .int .i64 p] w fun e w' => e = .returned (.bool true) ∧ Below w.heap.size w w' := by
  have HR : Hid _ := hr
  have HR1 : Hid _ := hr1
  have HR2 : Hid _ := hr2
  have HR3 : Hid _ := hr3
  have HT : Hid (U8 w) := hT
  clear hr hr1 hr2 hr3 hT
  have H1 : Hid _ := h1
  have H2 : Hid _ := h2
  have H3 : Hid _ := h3
  clear h1 h2 h3
  have hk := i64_and3 kd
  have hq0 : 0 ≤ kd % 4 := by omega
  have hq3 : kd % 4 ≤ 3 := by omega
  have hkk : bits .and .i64 (kd % 4) 3 = kd % 4 := by rw [i64_and3]; omega
  generalize kd % 4 = q at *
  go_enter Tryd.func3, Tryd.ntmps3
  go_wp2_with fail
  refine (mended_any kd n u s ao len cap xs _ (HR.out.later ((Below.refl _ _).alloc (Nat.le_refl _) _)) (HT.out.later ((Below.refl _ _).alloc (Nat.le_refl _) _)) hb0 hb1 hu hs).mono ?_
  rintro e w1 ⟨m, u', s', a', l', c', xs', rfl, hm, hu', hn', hk2, hs2, hrd, hl', hb⟩
  have hg0 : w1.heap[w.heap.size]? = _ := (hb.block w.heap.size (by simp)).trans (heap_alloc_new w _)
  have hbl : Below w.heap.size w w1 := ((Below.refl _ _).alloc (Nat.le_refl _) _).trans (hb.mono (by simp))
  have f0 := fun j => frozen_of_row _ _ j _ _ hg0
  obtain ⟨p0, p1, p2, p3, p4⟩ := cells5 hg0
  clear hb hg0
  go_wp2_with fail
  have hF : Five _ w.heap.size _ _ _ _ _ := stored5 (.int .i64 kd) (.int .i64 m) (.int .u64 u') (.string s') (.slice a' l' c') p0 p1 p2 p3 p4
  have hbX := ((((hbl.setCell (p := ⟨w.heap.size, 0, none⟩) (Nat.le_refl _) (.int .i64 kd)).setCell (p := ⟨w.heap.size, 1, none⟩) (Nat.le_refl _) (.int .i64 m)).setCell (p := ⟨w.heap.size, 2, none⟩) (Nat.le_refl _) (.int .u64 u')).setCell (p := ⟨w.heap.size, 3, none⟩) (Nat.le_refl _) (.string s')).setCell (p := ⟨w.heap.size, 4, none⟩) (Nat.le_refl _) (.slice a' l' c')
  clear p0 p1 p2 p3 p4 f0 hbl
  generalize ((((w1.setCell ⟨w.heap.size, 0, none⟩ (.int .i64 kd)).setCell ⟨w.heap.size, 1, none⟩ (.int .i64 m)).setCell ⟨w.heap.size, 2, none⟩ (.int .u64 u')).setCell ⟨w.heap.size, 3, none⟩ (.string s')).setCell ⟨w.heap.size, 4, none⟩ (.slice a' l' c') = X at *
  have hr' := hrd w HR.out
  have hMay : May m u' s' xs' := ⟨hm, hu', hn', hk2, by omega, by rw [hr'.length]; omega, hr'.byt⟩
  have HM : Hid (May m u' s' xs') := hMay
  have HR' : Hid _ := hr'
  have HF : Hid _ := hF
  have HX : Hid _ := hbX
  clear hF hbX hr' hMay hrd hm hu' hn' hk2 hs2 HR
  refine (wrote_any kd q hk hq0 hq3 m u' s' a' l' c' xs' X HM.out (HR'.out.later HX.out) (HT.out.later HX.out)).mono ?_
  rintro e w2 ⟨v2, rfl, hO2, hb2⟩
  obtain ⟨ab, cb, rfl, hrb⟩ := hO2.rd (wroteB_byt HM.out)
  have hlb := wroteB_pos (q := q) HM.out
  generalize hL : (wroteB q m u' s' xs').length = lb at *
  have HRB : Hid (Rd w2 ab lb cb (wroteB q m u' s' xs')) := hrb
  have HB2 : Hid (Below w.heap.size w w2) := HX.out.trans (hb2.mono HX.out.size)
  have HF2 : Hid _ := Five.later HF.out hb2
  clear hO2 hrb HF HX hb2
  go_wp2_with fail
  refine (told_any _).mono ?_
  rintro e w3 ⟨rfl, hb3⟩
  have HB3 : Hid (Below w.heap.size w w3) := below_trans HB2.out hb3
  have HF3 : Hid _ := Five.later HF2.out hb3
  have HRB3 : Hid _ := HRB.out.later hb3
  clear HF2 HB2 HRB hb3
  rcases H1.out with ⟨h1, h1'⟩ | ⟨h1, rfl, rfl, rfl⟩ <;> rcases H2.out with ⟨h2, h2'⟩ | ⟨h2, rfl, rfl, rfl⟩
  all_goals
    have hBB : Below w3.heap.size w3 w3 := Below.refl _ _
    go_wp2_with (at_builtin; (first
      | (refine append_rd _ rfl _ _ rfl w3.heap.size _ (xs1 ++ wroteB q m u' s' xs') (by rfl) hO5 _ _ _ xs2 (by rfl) (HR2.out.later (below_trans HB3.out hB5)) (by rw [List.length_append, HR1.out.length, hL]; omega) hB5.size ?_; intro v6 w6 hO6 hb6; have hB6 := hB5.trans hb6; obtain ⟨a6, l6, c6, rfl, hr6⟩ := hO6.rd' ((HR1.out.byt.append (wroteB_byt HM.out)).append HR2.out.byt); have HF6 : Hid _ := Five.later HF3.out hB6; obtain ⟨z0, z1, z2, z3, z4⟩ := HF6.out)
      | (refine append_rd _ rfl _ _ rfl w3.heap.size _ xs1 (by rfl) hO4 _ _ _ (wroteB q m u' s' xs') (by rfl) (HRB3.out.later hB4) (by rw [HR1.out.length]; omega) hB4.size ?_; intro v5 w5 hO5 hb5; have hB5 := hB4.trans hb5)
      | (refine append_rd _ rfl _ _ rfl w3.heap.size _ [] (by rfl) (Own.nil _ _) _ _ _ xs1 (by rfl) (HR1.out.later HB3.out) (by simp; omega) (Nat.le_refl _) ?_; intro v4 w4 hO4 hb4; rw [List.nil_append] at hO4; have hB4 := hBB.trans hb4)))
    refine (reads_any kd q hk hq0 hq3 _ a6 l6 c6 _ w6 hr6 (HT.out.later (below_trans HB3.out hB6))).mono ?_
    rintro e w7 ⟨n7, u7, s7, a7, l7, c7, bs7, p7, e7, rfl, hr7, hRA, hb7⟩
    rw [← HR1.out.length] at hRA
    obtain ⟨rfl, hp7, k0, k1, k2, k3⟩ := there q xs1 xs2 m u' s' xs' HM.out _ _ _ _ _ _ hRA
    rw [HR1.out.length, hL] at hp7
    subst hp7
    have HB7 : Hid (Below w.heap.size w w7) := below_trans (below_trans HB3.out hB6) hb7
    have HF7 : Hid _ := Five.later HF6.out hb7
    have HR7 : Hid (Rd w7 a7 l7 c7 bs7) := hr7
    have HAL : Hid (alikeB q m n7 u' u7 s' s7 xs' bs7 = true) := alikeB_of k0 (fun h => by rw [k1 h]) k2 k3 hq0 hq3
    clear k0 k1 k2 k3 hRA hr7 hr6 hO6 hO5 hO4 hb4 hb5 hb6 hB4 hB5 hB6 HF6 z0 z1 z2 z3 z4 hBB HRB3 HF3
    have HF8 : Hid _ := Five.later HF7.out ((Below.refl _ _).alloc (Nat.le_refl _) (.cells #[.int .i64 q, .int .i64 n7, .int .u64 u7, .string s7, .slice a7 l7 c7] 25))
    obtain ⟨z0, z1, z2, z3, z4⟩ := HF7.out
    obtain ⟨y0, y1, y2, y3, y4⟩ := HF8.out
    obtain ⟨x0, x1, x2, x3, x4⟩ := cells5 (heap_alloc_new w7 (.cells #[.int .i64 q, .int .i64 n7, .int .u64 u7, .string s7, .slice a7 l7 c7] 25))
    go_wp2_with fail
    have hAl : Below w7.heap.size w7 (w7.alloc (.cells #[.int .i64 q, .int .i64 n7, .int .u64 u7, .string s7, .slice a7 l7 c7] 25)) := (Below.refl _ _).alloc (Nat.le_refl _) _
    refine (alike_any kd q q m n7 u' u7 hk s' s7 a' a7 l' c' l7 c7 xs' bs7 _ (HR'.out.later (below_trans HB7.out hAl)) (HR7.out.later hAl)).mono ?_
    rintro e w8 ⟨rfl, hb8⟩
    rw [HAL.out]
    have HB8 : Hid (Below w.heap.size w w8) := below_trans (below_trans HB7.out hAl) hb8
    have HF9 : Hid _ := Five.later HF8.out hb8
    clear z0 z1 z2 z3 z4 y0 y1 y2 y3 y4 x0 x1 x2 x3 x4 HF7 HF8 hAl HR7 HAL hb8 HB7
    obtain ⟨z0, z1, z2, z3, z4⟩ := HF9.out
    rcases H3.out with ⟨h3, h3'⟩ | ⟨h3, rfl, rfl, rfl⟩
    all_goals
      go_wp2_with fail
      have hsp := spot_any p (l3' + 1) (by omega) (by omega) hp0 hp1 w8
      rw [show ((l3' + 1 : Nat) : Int) = (l3' : Int) + 1 from by omega] at hsp
      refine hsp.mono ?_
      clear hsp
      rintro e w9 ⟨rfl, rfl⟩
      obtain ⟨t, ht, ht'⟩ : ∃ t : Nat, p % ((l3' : Int) + 1) = (t : Int) ∧ t ≤ l3' := ⟨(p % ((l3' : Int) + 1)).toNat, by have := Int.emod_nonneg p (show (l3' : Int) + 1 ≠ 0 by omega); omega, by have := Int.emod_lt_of_pos p (show (0 : Int) < (l3' : Int) + 1 by omega); omega⟩
      rw [ht]
      go_wp2_with fail
      refine (reads_any kd q hk hq0 hq3 _ a3' l3' c3' xs3 _ (HR3.out.later HB8.out) (HT.out.later HB8.out)).mono ?_
      rintro e w9 ⟨n9, u9, s9, a9, l9, c9, bs9, p9, e9, rfl, hr9, hRA, hb9⟩
      have HB9 : Hid (Below w.heap.size w w9) := below_trans HB8.out hb9
      by_cases he : e9 = 0
      · subst he
        obtain ⟨m9, Q, rfl, hMay9, rfl, hQ1, hQ2, hW⟩ := back q xs3 t n9 u9 s9 bs9 p9 HR3.out.byt (by rw [HR3.out.length]; omega) hRA
        rw [Int.toNat_natCast] at hQ1 hW
        rw [HR3.out.length] at hQ2
        have HM9 : Hid (May m9 u9 s9 bs9) := hMay9
        have HR9 : Hid (Rd w9 a9 l9 c9 bs9) := hr9
        have HW : Hid (wroteB q m9 u9 s9 bs9 = (xs3.take Q).drop t) := hW
        clear hMay9 hr9 hW hRA hb9 z0 z1 z2 z3 z4 HF9
        obtain ⟨x0, x1, x2, x3, x4⟩ := cells5 (heap_alloc_new w9 (.cells #[.int .i64 q, .int .i64 m9, .int .u64 u9, .string s9, .slice a9 l9 c9] 25))
        go_wp2_with fail
        have hAl : Below w9.heap.size w9 (w9.alloc (.cells #[.int .i64 q, .int .i64 m9, .int .u64 u9, .string s9, .slice a9 l9 c9] 25)) := (Below.refl _ _).alloc (Nat.le_refl _) _
        refine (wrote_any q q hkk hq0 hq3 m9 u9 s9 a9 l9 c9 bs9 _ HM9.out (HR9.out.later hAl) (HT.out.later (below_trans HB9.out hAl))).mono ?_
        rintro e w10 ⟨v10, rfl, hO10, hb10⟩
        obtain ⟨ac, cc, rfl, hrc⟩ := hO10.rd (wroteB_byt HM9.out)
        have HB10 : Hid (Below w.heap.size w w10) := below_trans (below_trans HB9.out hAl) hb10
        have HRC : Hid _ := hrc
        obtain ⟨a12, l12, c12, hcut, hr12⟩ := cut_mid (HR3.out.later HB10.out) t Q hQ1 hQ2
        have HR12 : Hid _ := hr12
        clear x0 x1 x2 x3 x4 hO10 hb10 hrc hr12 HR9 hAl
        generalize (wroteB q m9 u9 s9 bs9).length = lc at *
        go_wp2_with fail
        refine (same_any _ _ _ _ _ _ _ _ _ HRC.out HR12.out).mono ?_
        rintro e w11 ⟨rfl, hb11⟩
        rw [show decide (wroteB q m9 u9 s9 bs9 = (xs3.take Q).drop t) = true from decide_eq_true HW.out]
        go_wp2
        go_ret
        exact ⟨rfl, below_trans HB10.out hb11⟩
      · have hne : (e9 == 0) = false := by simp [he]
        go_wp2
        go_ret
        exact ⟨rfl, HB9.out.alloc HB9.out.size _⟩
/-- A list that is cut to a length, whatever its length. -/
theorem cut_if {w : World} {a : Option Addr} {l c : Nat} {xs : List Int} (hr : Rd w a l c xs) (k : Nat) : ∃ (a' : Option Addr) (l' c' : Nat) (xs' : List Int), Rd w a' l' c' xs' ∧ l' ≤ k ∧ ((k < l ∧ ∀ w, (Instr.slice 23 (.slice a l c) none (some (.int .i64 k)) none).run Tryd.prog w = .ok (.slice a' l' c') w) ∨ (l ≤ k ∧ a' = a ∧ l' = l ∧ c' = c)) := by
  by_cases h : l ≤ k
  · exact ⟨a, l, c, xs, hr, h, .inr ⟨h, rfl, rfl, rfl⟩⟩
  · obtain ⟨a', l', c', hcut, hr'⟩ := cut_to hr k (by omega)
    have := hr'.length
    rw [List.length_take] at this
    exact ⟨a', l', c', _, hr', by omega, .inl ⟨by omega, hcut⟩⟩
theorem wireBack_any (kd n : Int) (u : Nat) (s : ByteArray) (ao a1 a2 a3 : Option Addr) (len cap l1 c1 l2 c2 l3 c3 : Nat) (xs xs1 xs2 xs3 : List Int) (p : Int) (w : World)
    (hr : Rd w ao len cap xs) (hr1 : Rd w a1 l1 c1 xs1) (hr2 : Rd w a2 l2 c2 xs2) (hr3 : Rd w a3 l3 c3 xs3) (hT : U8 w)
    (hb0 : -9223372036854775808 ≤ n) (hb1 : n ≤ 9223372036854775807) (hu : u < 18446744073709551616) (hs : s.size ≤ 9223372036854775807) (hp0 : -9223372036854775808 ≤ p) (hp1 : p ≤ 9223372036854775807) :
    Calls Tryd.prog 3 #[.agg #[.int .i64 kd, .int .i64 n, .int .u64 u, .string s, .slice ao len cap], .slice a1 l1 c1, .slice a2 l2 c2, .slice a3 l3 c3, .int .i64 p] w fun e w' => e = .returned (.bool true) ∧ Below w.heap.size w w' := by
  obtain ⟨a1', l1', c1', xs1', g1, k1, q1⟩ := cut_if hr1 200
  obtain ⟨a2', l2', c2', xs2', g2, k2, q2⟩ := cut_if hr2 200
  obtain ⟨a3', l3', c3', xs3', g3, k3, q3⟩ := cut_if hr3 4000
  have m1 := hr1.le
  have m2 := hr2.le
  have m3 := hr3.le
  have n1 := hr1.max
  have n2 := hr2.max
  have n3 := hr3.max
  exact wireBack_core kd n u s ao a1 a2 a3 a1' a2' a3' len cap l1 c1 l2 c2 l3 c3 l1' c1' l2' c2' l3' c3' xs xs1' xs2' xs3' p w hr g1 g2 g3 hT hb0 hb1 hu hs hp0 hp1 (by omega) (by omega) (by omega) k1 k2 k3 q1 q2 q3
end Go.Proofs.YtfldgjkpkmnkbabDoor
