import Derived.Test.YtogpkigpnflaoaaDoorKN
import Derived.Deep.RegionHeld3
namespace Go.Proofs.YtogpkigpnflaoaaDoor
open Go.RowKit
set_option linter.unusedVariables false

theorem wpList_load_part {P : Program} {ops : Array Oper} {rest : List Oper} {op : Oper} {a : Act} {w : World} {Q : Exit → Act → World → Prop} (hgd : op.guard = none) (ty : TypeId) (x : Operand) (ho : op.op = .load ty x)
    (b o : Nat) (hx : a.eval x = .pointer (some ⟨b, o, none⟩)) (c : Array Value) (d : TypeDesc) (hc : w.rangeAt b o c.toList)
    (hu : P.underlying ty = some d) (hd : d.isRow = true) (n : Nat) (hi : (P.info? ty).map (·.size) = some n) (hn : c.size = n)
    (h : wpList P ops Q rest (a.put op.dst (.agg c)) w) : wpList P ops Q (op :: rest) a w := by
  refine wpList_load_mid hgd ty x ho b o hx c.toList d hc hu hd (by simpa [hn] using hi) ?_
  simpa using h
/-- The first shapes. -/
def shL (s : Nat → Int × Int × Int) (n : Nat) : List (Int × Int × Int) := (List.range n).map s
theorem shL_len (s : Nat → Int × Int × Int) (n : Nat) : (shL s n).length = n := by simp [shL]
theorem shL_at (s : Nat → Int × Int × Int) {n j : Nat} (h : j < n) : (shL s n)[j]?.getD (0, 0, 0) = s j := by simp [shL, h]
theorem shL_succ (s : Nat → Int × Int × Int) (n : Nat) : shL s (n + 1) = shL s n ++ [s n] := by simp [shL, List.range_succ]
/-- What 'next' tells of a layer, behind shapes the last of which is p. -/
def NextIs (w : World) (L : Array Value) (j : Nat) (p : Int × Int × Int) (c1 h1 k1 e1 : Int) : Prop :=
  ∀ w', Below w.heap.size w w' → ∀ so sc s', RdSh w' so (j + 1) s' → s' j = p →
    Calls Tryd.prog 19 #[.agg L, .slice so (j + 1) sc] w' fun e w2 => e = .returned (.tuple #[.agg #[.int .i64 c1, .int .i64 h1, .int .i64 k1], .int .i64 e1]) ∧ Below w'.heap.size w' w2
def WeightIs (w : World) (L : Array Value) (x : Int) : Prop :=
  ∀ w', Below w.heap.size w w' → Calls Tryd.prog 12 #[.agg L] w' fun e w2 => e = .returned (.int .i64 x) ∧ Below w'.heap.size w' w2
set_option maxRecDepth 100000 in
set_option maxHeartbeats 4000000 in
theorem shapesRun (c h k nIn : Int) (lo no : Option Addr) (n lc nc : Nat) (Ls : Nat → Array Value) (s : Nat → Int × Int × Int) (wt : Nat → Int) (m : Nat) (E at' : Int) (w : World)
    (hsz : szF [c, h, k] 1 = (nIn, 0)) (hn : n ≤ 64) (hs0 : s 0 = (c, h, k)) (hR : RdLay w lo n Ls) (hm : m ≤ n) (hwt : ∀ j, 0 ≤ wt j ∧ wt j ≤ 1000000) (hsum : ∀ j, j ≤ m → 0 ≤ wsum wt j ∧ wsum wt j ≤ 65536)
    (hstep : ∀ j, j < m → NextIs w (Ls j) j (s j) (s (j + 1)).1 (s (j + 1)).2.1 (s (j + 1)).2.2 0)
    (hwts : ∀ j, j < n → WeightIs w (Ls j) (wt j))
    (hend : (m = n ∧ E = 0 ∧ at' = 0) ∨ (m < n ∧ E ≠ 0 ∧ at' = (m : Int) + 1 ∧ NextIs w (Ls m) m (s m) 0 0 0 E) ∨ (m < n ∧ E = 65 ∧ at' = (m : Int) + 1 ∧ 65536 < wsum wt (m + 1) ∧ NextIs w (Ls m) m (s m) (s (m + 1)).1 (s (m + 1)).2.1 (s (m + 1)).2.2 0)) :
    Calls Tryd.prog 11 #[.agg #[.int .i64 c, .int .i64 h, .int .i64 k, .slice lo n lc, .slice no 0 nc]] w fun e w' => (∃ v, e = .returned (.tuple #[v, .int .i64 E, .int .i64 at'])) ∧ Below w.heap.size w w' := by
  have HS : Hid (∀ w, Calls Tryd.prog 5 #[.agg #[.int .i64 c, .int .i64 h, .int .i64 k]] w fun e w' => e = .returned (.tuple #[.int .i64 nIn, .int .i64 0]) ∧ Below w.heap.size w w') := fun w => size_of hsz w
  have HR : Hid _ := hR
  have HST : Hid _ := hstep
  have HWT : Hid _ := hwts
  have HWB : Hid _ := hwt
  have HSM : Hid _ := hsum
  have HE : Hid _ := hend
  have HS0 : Hid _ := hs0
  clear hR hstep hwts hwt hsum hend hsz hs0
  have hd64 : decide (64 < (n : Int)) = false := decide_eq_false (by omega)
  have hd64' : decide (64 < n) = false := decide_eq_false (by omega)
  go_enter Tryd.func11, Tryd.ntmps11
  go_wp2_with fail
  refine Calls.mono (HS.out _) ?_
  rintro e w1 ⟨rfl, hb⟩
  have hb1 : Below w.heap.size w w1 := to_call ((Below.refl _ w).alloc (Nat.le_refl _) _) hb
  have k0 := kept hb (heap_alloc_new w _)
  have hs1 := blk_lt k0
  have HK1 : Hid (w1.heap[w.heap.size]? = some (.cells #[.int .i64 c, .int .i64 h, .int .i64 k, .slice lo n lc, .slice no 0 nc] 38)) := k0
  have HB1 : Hid _ := hb1
  obtain ⟨a0, a1, a2, a3, a4⟩ := cells5 k0
  clear hb HS k0 hb1
  go_upto_region 9 with fail
  go_loopg [7, 8, 33] n (fun g v u x wx => ∃ (i : Nat), x = .int .i64 i ∧ i + g = n ∧ i ≤ m ∧ u = .int .i64 (wsum wt i) ∧ Hid (OwnSh wx (w.heap.size + 1) v (shL s (i + 1))) ∧ Hid (Below w.heap.size w wx) ∧ Hid (wx.heap[w.heap.size]? = some (.cells #[.int .i64 c, .int .i64 h, .int .i64 k, .slice lo n lc, .slice no 0 nc] 38)))
  case atStart =>
    refine ⟨0, rfl, by omega, by omega, rfl, ?_, HB1.out.alloc (by omega) _, alloc_kept HK1.out _⟩
    have := OwnSh.first w1 c h k
    unfold Hid shL
    rw [show (List.range (0 + 1)).map s = [(c, h, k)] by simp [HS0.out]]
    exact ⟨this.1, this.2.imp id fun ⟨g, cap, cur, hv, hg, r⟩ => ⟨g, cap, cur, hv, by omega, r⟩⟩
  case round =>
    obtain ⟨i, rfl, hi, him, rfl, HO, HB, HK⟩ := hrel
    have hsr := HB.out.size
    have hkl := blk_lt HK.out
    by_cases hlt : i < n
    · have hd : decide ((i : Int) < (n : Int)) = true := decide_eq_true (by omega)
      obtain ⟨g, rfl⟩ : ∃ g, gk = g + 1 := ⟨gk - 1, by omega⟩
      have hnx : ∃ c1 h1 k1 e1, NextIs w (Ls i) i (s i) c1 h1 k1 e1 ∧ ((e1 = 0 ∧ i < m ∧ s (i + 1) = (c1, h1, k1)) ∨ (e1 ≠ 0 ∧ e1 = E ∧ at' = (i : Int) + 1) ∨ (e1 = 0 ∧ E = 65 ∧ at' = (i : Int) + 1 ∧ 65536 < wsum wt (i + 1))) := by
        by_cases hq : i < m
        · exact ⟨_, _, _, _, HST.out i hq, .inl ⟨rfl, hq, rfl⟩⟩
        · have hq2 : m = i := by omega
          rcases HE.out with ⟨h0, _⟩ | ⟨_, h1, h2, h3⟩ | ⟨_, h1, h2, h3, h4⟩
          · omega
          · rw [hq2] at h3; exact ⟨0, 0, 0, E, h3, .inr (.inl ⟨h1, rfl, by rw [h2, hq2]⟩)⟩
          · rw [hq2] at h3 h4; exact ⟨_, _, _, 0, h4, .inr (.inr ⟨rfl, h1, by rw [h2, hq2], h3⟩)⟩
      obtain ⟨c1, h1, k1, e1, hN, hcase⟩ := hnx
      have HN : Hid _ := hN
      have HCS : Hid _ := hcase
      clear hN hcase
      obtain ⟨so, sc, hv, hrd⟩ := HO.out.form (by rw [shL_len]; omega)
      rw [shL_len] at hv hrd
      subst hv
      have HRD : Hid _ := hrd
      have hrl := HR.out.later HB.out
      rcases hrl.cells with h0 | ⟨b, off, hlo, hcl⟩
      · omega
      obtain ⟨hz14, hone, hrg⟩ := hcl i hlt
      have HRG : Hid _ := hrg
      have HON : Hid _ := hone
      have hi63 : wrap64 ((i : Int) + 1) = (i : Int) + 1 := w64 _ (by omega)
      subst hlo
      clear hrl hcl hrd hrg hone
      obtain ⟨L, hL⟩ : ∃ L, Ls i = L := ⟨_, rfl⟩
      have HWI : Hid (WeightIs w L (wt i)) := by have := HWT.out i hlt; rw [hL] at this; exact this
      rw [hL] at HN HRG HON hz14
      clear hL
      have hwb := HWB.out i
      have HWS : Hid (wsum wt (i + 1) = wsum wt i + wt i) := rfl
      have hsm := HSM.out i him
      have HSM1 : Hid (i + 1 ≤ m → 0 ≤ wsum wt (i + 1) ∧ wsum wt (i + 1) ≤ 65536) := fun h => HSM.out (i + 1) h
      generalize hu0 : wsum wt i = u0 at *
      generalize hu1 : wsum wt (i + 1) = u1 at *
      generalize hx0 : wt i = x0 at *
      clear hu0 hx0
      go_upto_region 11 with (first
        | (refine wpList_load_part (by rfl) 33 _ (by rfl) b (off + i * 14) (by rfl) L _ HRG.out Tryd.underlying33 rfl 14 Tryd.infoLayer hz14 ?_)
        | (refine wpList_store_row (by rfl) 33 _ _ (by rfl) wr wr.heap.size wr.heap.size L _ (by rfl) (by rfl) (heap_alloc_new wr _) ((Below.refl _ wr).alloc (Nat.le_refl _) _) (Nat.le_refl _) 14 Tryd.infoLayer hz14 (by rfl) HON.out ?_; intro W2 e2 hb2 hs2 ho2))
      have hb2w : Below w.heap.size w W2 := HB.out.trans (hb2.mono (by omega))
      have HC : Hid _ := HN.out W2 hb2w so sc _ (HRD.out.later hb2) (by simp only [shL_at s (Nat.lt_succ_self i)])
      have HB2 : Hid (Below wr.heap.size wr W2) := hb2
      have HE2 : Hid _ := e2
      clear HN hb2w e2 hb2 ho2
      go_wp2_with (first | (refine wpList_load_row (by rfl) 33 _ (by rfl) wr.heap.size _ (by rfl) HE2.out _ Tryd.underlying33 rfl 14 Tryd.infoLayer hz14 ?_))
      refine Calls.mono HC.out ?_
      rintro e w3 ⟨rfl, hb⟩
      have HB3 : Hid (Below wr.heap.size wr w3) := to_call HB2.out hb
      have HE3 : Hid _ := kept hb HE2.out
      have hs3 := blk_lt HE3.out
      have HB3w : Hid (Below w.heap.size w w3) := HB.out.trans (HB3.out.mono (by omega))
      clear hb HC HB2 HE2
      by_cases he : e1 = 0
      · subst he
        have HWC : Hid _ := HWI.out (w3.alloc (Obj.cells #[.int .i64 c1, .int .i64 h1, .int .i64 k1] 24)) (HB3w.out.alloc (by omega) _)
        have HE4 : Hid _ := alloc_kept HE3.out (Obj.cells #[.int .i64 c1, .int .i64 h1, .int .i64 k1] 24)
        go_wp2_with (first | (refine wpList_load_row (by rfl) 33 _ (by rfl) wr.heap.size _ (by rfl) HE4.out _ Tryd.underlying33 rfl 14 Tryd.infoLayer hz14 ?_))
        refine Calls.mono HWC.out ?_
        rintro e w4 ⟨rfl, hb⟩
        have HB4 : Hid (Below wr.heap.size wr w4) := to_call (HB3.out.alloc (by omega) _) hb
        have HB4w : Hid (Below w.heap.size w w4) := HB.out.trans (HB4.out.mono (by omega))
        have k5 := kept hb (heap_alloc_new w3 _)
        have hs4 := blk_lt k5
        have HO4 : Hid (OwnSh w4 (w.heap.size + 1) (.slice so (i + 1) sc) (shL s (i + 1))) := HO.out.later HB4.out
        have HK4 : Hid _ := (HB4.out.block _ hkl).trans HK.out
        obtain ⟨q0, q1, q2⟩ := cells3 k5
        have hws := HWS.out
        have hwu : wrap64 (u0 + x0) = u1 := by rw [w64 _ (by omega)]; omega
        clear hb HWC HE4 k5 HB3 HE3 HB3w HO HB HK hws
        by_cases hgt : 65536 < u1
        · have hg1 : decide (65536 < u0 + x0) = true := decide_eq_true (by have := HWS.out; omega)
          have HEA : Hid (E = 65 ∧ at' = (i : Int) + 1) := by
            rcases HCS.out with ⟨_, h2, _⟩ | ⟨h2, _⟩ | ⟨_, h2, h3, _⟩
            · have := HSM1.out (by omega); omega
            · exact absurd rfl h2
            · exact ⟨h2, h3⟩
          go_wp2
          go_ret3
          exact ⟨⟨_, by rw [HEA.out.1, HEA.out.2]; rfl⟩, HB4w.out⟩
        · have hg1 : decide (65536 < u0 + x0) = false := decide_eq_false (by have := HWS.out; omega)
          have HEA : Hid (i < m ∧ s (i + 1) = (c1, h1, k1)) := by
            rcases HCS.out with ⟨_, h2, h3⟩ | ⟨h2, _⟩ | ⟨_, h2, h3, h4⟩
            · exact ⟨h2, h3⟩
            · exact absurd rfl h2
            · omega
          go_wp2_with (first | (at_builtin; refine appendSh w4 (by rfl) _ _ (by rfl) (w.heap.size + 1) _ (shL s (i + 1)) (by rfl) HO4.out c1 h1 k1 (by rfl) (by rw [shL_len]; omega) (by omega) ?_; intro v5 w5 hO5 hb5; have HO5 : Hid _ := hO5; have HB5 : Hid _ := hb5; clear hO5 hb5))
          go_roundg g
          case measure => omega
          case rel =>
            refine ⟨i + 1, by go_num, by omega, HEA.out.1, by rw [hu1, HWS.out], ?_, HB4w.out.trans (HB5.out.mono (by omega)), (HB5.out.block _ (by omega)).trans HK4.out⟩
            have := HO5.out
            unfold Hid
            rw [shL_succ, HEA.out.2]
            exact this
      · have hne : (e1 == 0) = false := by simp; exact he
        have HEA : Hid (E = e1 ∧ at' = (i : Int) + 1) := by
          rcases HCS.out with ⟨h2, _⟩ | ⟨_, h2, h3⟩ | ⟨h2, _⟩
          · exact absurd h2 he
          · exact ⟨h2.symm, h3⟩
          · exact absurd h2 he
        go_wp2
        go_ret3
        exact ⟨⟨_, by rw [HEA.out.1, HEA.out.2]; rfl⟩, HB3w.out.alloc (by omega) _⟩
    · have hd : decide ((i : Int) < (n : Int)) = false := decide_eq_false (by omega)
      have HEA : Hid (E = 0 ∧ at' = 0) := by
        rcases HE.out with ⟨_, h2, h3⟩ | ⟨h2, _⟩ | ⟨h2, _⟩
        · exact ⟨h2, h3⟩
        · omega
        · omega
      obtain ⟨so, sc, hv, hrd⟩ := HO.out.form (by rw [shL_len]; omega)
      rw [shL_len] at hv hrd
      subst hv
      rcases hrd.cells with h0 | ⟨b, off, rfl, hcs⟩
      · omega
      obtain ⟨g0, g1, g2⟩ := hcs i (by omega)
      simp only [shL_at s (Nat.lt_succ_self i)] at g0 g1 g2
      have n4 := cellAt HK.out 4 (.slice no 0 nc) rfl
      generalize (s i).1 = c1 at *
      generalize (s i).2.1 = h1 at *
      generalize (s i).2.2 = k1 at *
      have hw1 : wrap64 ((i : Int) + 1 - 1) = (i : Int) := by rw [w64 _ (by omega)]; omega
      have hw2 : IntKind.i64.wrap ((i : Int) + 1 - 1) = (i : Int) := by rw [IntKind.wrap_i64]; omega
      have hw3 : IntKind.i64.wrap (((i + 1 : Nat) : Int) - 1) = (i : Int) := by rw [IntKind.wrap_i64]; omega
      have hw4 : IntKind.i64.wrap (i : Int) = (i : Int) := by rw [IntKind.wrap_i64]; omega
      have hx1 : (0 : Int) ≤ (i : Int) := by omega
      have hx2 : (i : Int) < (i : Int) + 1 := by omega
      have hx3 : (i : Int) < ((i + 1 : Nat) : Int) := by omega
      have HNM : Hid _ := names_none no nc (.agg #[.int .i64 c1, .int .i64 h1, .int .i64 k1]) ⟨c1, h1, k1, rfl⟩
      clear hcs hrd HO HST HWT HWB HSM HE HS0 HR
      have HCC : Hid (∀ wx wy, Below wr.heap.size wr wx → Below wx.heap.size wx wy → Below w.heap.size w wy ∧ wy.cell? ⟨w.heap.size, 4, none⟩ = some (.slice no 0 nc) ∧ wy.cell? ⟨b, off + i * 3, none⟩ = some (.int .i64 c1) ∧ wy.cell? ⟨b, off + i * 3 + 1, none⟩ = some (.int .i64 h1) ∧ wy.cell? ⟨b, off + i * 3 + 2, none⟩ = some (.int .i64 k1)) := by
        intro wx wy q1 q2
        have q := to_call q1 q2
        have hbl := World.block_lt_of_cell? wr _ g0
        exact ⟨HB.out.trans (q.mono (by omega)), by rw [q.cell (p := ⟨w.heap.size, 4, none⟩) hkl]; exact n4, by rw [q.cell (p := ⟨b, off + i * 3, none⟩) hbl]; exact g0, by rw [q.cell (p := ⟨b, off + i * 3 + 1, none⟩) hbl]; exact g1, by rw [q.cell (p := ⟨b, off + i * 3 + 2, none⟩) hbl]; exact g2⟩
      go_upto_region 19 with fail
      first
        | (go_region_held3 (fun w' => w'.cell? ⟨w.heap.size, 4, none⟩ = some (.slice no 0 nc) ∧ w'.cell? ⟨b, off + i * 3, none⟩ = some (.int .i64 c1) ∧ w'.cell? ⟨b, off + i * 3 + 1, none⟩ = some (.int .i64 h1) ∧ w'.cell? ⟨b, off + i * 3 + 2, none⟩ = some (.int .i64 k1)) (go_keep) ((first | (go_at_call 20; refine Calls.mono (HNM.out _) ?_; rintro e w7 ⟨rfl, hb7⟩; obtain ⟨HB7, m4, j0, j1, j2⟩ := HCC.out _ w7 (Below.refl _ _).drew hb7))))
        | fail
      all_goals
        go_wp2_with fail
        go_ret3
        exact ⟨⟨_, by rw [HEA.out.1, HEA.out.2]; rfl⟩, HB7⟩
end Go.Proofs.YtogpkigpnflaoaaDoor
