import Derived.Test.YtnjjichanfpbhaaGreatLSpanReckons
import Derived.Test.YtnjjichanfpbhaaGreatWT
import Derived.Test.YtnjjichanfpbhaaGreatSX
import Derived.Deep.DeepCutAuto
namespace Go.Proofs.YtnjjichanfpbhaaGreat
open Go.RowKit
set_option linter.unusedVariables false
theorem bad_lt {r : Nat × Nat × Bool} (h : r = (0, 0, true)) : r.1 < 18446744073709551616 ∧ r.2.1 < 18446744073709551616 := by subst h; exact ⟨by decide, by decide⟩
theorem mk_lt {X Y : Int} {r : Nat × Nat × Bool} (h : MkR X Y r) : r.1 < 18446744073709551616 ∧ r.2.1 < 18446744073709551616 := by
  unfold MkR at h; split at h
  · exact h.lt
  · exact bad_lt h
theorem bin_lt {P : Nat × Nat × Bool → Prop} (hP : ∀ r, P r → r.1 < 18446744073709551616 ∧ r.2.1 < 18446744073709551616) {al ah bl bh : Nat} {ab bb : Bool} {r : Nat × Nat × Bool} (h : BinR P al ah bl bh ab bb r) : r.1 < 18446744073709551616 ∧ r.2.1 < 18446744073709551616 := by
  unfold BinR at h; split at h
  · exact hP _ h
  · exact bad_lt h
theorem mul_lt {al ah bl bh : Nat} {ab bb : Bool} {E : Nat} {r : Nat × Nat × Bool} (h : MulR al ah bl bh ab bb E r) : r.1 < 18446744073709551616 ∧ r.2.1 < 18446744073709551616 := by
  unfold MulR at h; split at h
  · exact h.lt
  · exact bad_lt h
theorem lastAdd (al ah bl bh : Nat) (ab bb : Bool) (hal : al < 18446744073709551616) (hah : ah < 18446744073709551616) (hbl : bl < 18446744073709551616) (hbh : bh < 18446744073709551616) : ∃ r, (r.1 < 18446744073709551616 ∧ r.2.1 < 18446744073709551616) ∧ Ans 7 #[.agg #[.float .f64 al, .float .f64 ah, .bool ab], .agg #[.float .f64 bl, .float .f64 bh, .bool bb]] r := by
  obtain ⟨r, hr, han⟩ := spAdd_any al ah bl bh ab bb hal hah hbl hbh
  exact ⟨r, bin_lt (fun _ h => SpR.lt h) hr, han⟩
theorem lastMul (al ah bl bh : Nat) (ab bb : Bool) (hal : al < 18446744073709551616) (hah : ah < 18446744073709551616) (hbl : bl < 18446744073709551616) (hbh : bh < 18446744073709551616) : ∃ r, (r.1 < 18446744073709551616 ∧ r.2.1 < 18446744073709551616) ∧ Ans 8 #[.agg #[.float .f64 al, .float .f64 ah, .bool ab], .agg #[.float .f64 bl, .float .f64 bh, .bool bb]] r := by
  obtain ⟨r, hr, han⟩ := spMul_any al ah bl bh ab bb hal hah hbl hbh 1074 rfl
  exact ⟨r, mul_lt hr, han⟩
theorem lastHull (al ah bl bh : Nat) (ab bb : Bool) (hal : al < 18446744073709551616) (hah : ah < 18446744073709551616) (hbl : bl < 18446744073709551616) (hbh : bh < 18446744073709551616) : ∃ r, (r.1 < 18446744073709551616 ∧ r.2.1 < 18446744073709551616) ∧ Ans 9 #[.agg #[.float .f64 al, .float .f64 ah, .bool ab], .agg #[.float .f64 bl, .float .f64 bh, .bool bb]] r := by
  obtain ⟨r, hr, han⟩ := spHull_any al ah bl bh ab bb hal hah hbl hbh
  exact ⟨r, bin_lt (fun _ h => mk_lt h) hr, han⟩
theorem cells8 {W : World} {B : Nat} {v0 v1 v2 v3 v4 v5 v6 v7 : Value} {t : TypeId} (h : W.heap[B]? = some (.cells #[v0, v1, v2, v3, v4, v5, v6, v7] t)) :
    W.cell? ⟨B, 0, none⟩ = some v0 ∧ W.cell? ⟨B, 1, none⟩ = some v1 ∧ W.cell? ⟨B, 2, none⟩ = some v2 ∧ W.cell? ⟨B, 3, none⟩ = some v3 ∧ W.cell? ⟨B, 4, none⟩ = some v4 ∧ W.cell? ⟨B, 5, none⟩ = some v5 ∧ W.cell? ⟨B, 6, none⟩ = some v6 ∧ W.cell? ⟨B, 7, none⟩ = some v7 := by
  refine ⟨?_, ?_, ?_, ?_, ?_, ?_, ?_, ?_⟩ <;> simp [World.cell?, h]
theorem call_mod (oc : Int) : ∃ c : Nat, c < 10 ∧ (wrap64 (oc.tmod 10 + 10)).tmod 10 = (c : Int) := by
  have h1 := Int.tmod_lt_of_pos oc (b := 10) (by omega)
  have h2 : -10 < oc.tmod 10 := by
    have := Int.lt_tmod_of_pos oc (b := 10) (by omega)
    simpa using this
  have h4 : wrap64 (oc.tmod 10 + 10) = oc.tmod 10 + 10 := by unfold wrap64; omega
  have h3 : (oc.tmod 10 + 10).tmod 10 = (oc.tmod 10 + 10) % 10 := Int.tmod_eq_emod_of_nonneg (by omega)
  exact ⟨((oc.tmod 10 + 10) % 10).toNat, by omega, by rw [h4, h3]; omega⟩
set_option maxRecDepth 100000 in
set_option maxHeartbeats 8000000 in
theorem spanPlays_walk (ao : Option Addr) (len cap : Nat) (F : Nat → SpOp) (bo : Option Addr) (bn bc : Nat) (G : Nat → Bool) (w : World) (hr : RdP w ao len cap F) (hg : RdBo w bo bn bc G) :
    Calls Tryz.prog 4 #[.slice ao len cap, .slice bo bn bc] w fun e w' => e = .returned (.bool true) ∧ Below w.heap.size w w' := by
  have HR : Hid _ := hr
  have HG : Hid _ := hg
  have hlm : len ≤ 9223372036854775807 := by have := hr.le; have := hr.max; omega
  have hbm : bn ≤ 9223372036854775807 := by have := hg.le; have := hg.max; omega
  clear hr hg
  go_enter Tryz.func4, Tryz.ntmps4
  have hsf := run_store_f
  go_upto_region 2 with fail
  have GA : Hid _ := heap_alloc_new w (Obj.cells #[Value.float .f64 0, .float .f64 0, .bool false] 24)
  have GB : Hid (Below w.heap.size w _) := (Below.refl _ w).alloc (Nat.le_refl _) (Obj.cells #[Value.float .f64 0, .float .f64 0, .bool false] 24)
  generalize w.alloc (Obj.cells #[Value.float .f64 0, .float .f64 0, .bool false] 24) = W0 at GA GB ⊢
  go_wp2_with fail
  go_loopg [6] len (fun g iv wr => ∃ (k x y : Nat) (b : Bool), k + g = len ∧ iv = .int .i64 k ∧ (x < 18446744073709551616 ∧ y < 18446744073709551616) ∧ Hid (wr.heap[w.heap.size]? = some (Obj.cells #[Value.float .f64 x, .float .f64 y, .bool b] 24)) ∧ Hid (Below w.heap.size w wr))
  case atStart => exact ⟨0, 0, 0, false, by omega, rfl, ⟨by decide, by decide⟩, GA, GB⟩
  case round =>
    obtain ⟨k, x, y, b, hk, rfl, ⟨hx, hy⟩, KA, KB⟩ := hrel
    clear GA GB
    by_cases hlt : k < len ∧ k < 200
    · obtain ⟨hl1, hl2⟩ := hlt
      have hd1 : decide ((k : Int) < (len : Int)) = true := decide_eq_true (by omega)
      have hd2 : decide ((k : Int) < 200) = true := decide_eq_true (by omega)
      obtain ⟨g, rfl⟩ : ∃ g, gk = g + 1 := ⟨gk - 1, by omega⟩
      rcases HR.out.cells with h0 | ⟨bk, off, rfl, hc⟩
      · omega
      obtain ⟨⟨g0, g1, g2, g3, g4, g5, g6, g7⟩, ⟨bc0, bc1⟩, bal, bah, bbl, bbh⟩ := hc k hl1
      replace g0 := (KB.out.cell (World.block_lt_of_cell? w _ g0)).trans g0
      replace g1 := (KB.out.cell (World.block_lt_of_cell? w _ g1)).trans g1
      replace g2 := (KB.out.cell (World.block_lt_of_cell? w _ g2)).trans g2
      replace g3 := (KB.out.cell (World.block_lt_of_cell? w _ g3)).trans g3
      replace g4 := (KB.out.cell (World.block_lt_of_cell? w _ g4)).trans g4
      replace g5 := (KB.out.cell (World.block_lt_of_cell? w _ g5)).trans g5
      replace g6 := (KB.out.cell (World.block_lt_of_cell? w _ g6)).trans g6
      replace g7 := (KB.out.cell (World.block_lt_of_cell? w _ g7)).trans g7
      clear hc
      generalize F k = o at *
      obtain ⟨oc, oal, oah, oab, obl, obh, obb, on⟩ := o
      simp only at g0 g1 g2 g3 g4 g5 g6 g7 bc0 bc1 bal bah bbl bbh
      obtain ⟨c, hc, hce0⟩ : ∃ c : Nat, c < 10 ∧ (wrap64 (oc.tmod 10 + 10)).tmod 10 = (c : Int) := call_mod oc
      have hce : Hid _ := hce0
      clear hce0
      go_upto_region 6 with fail
      have gb : Below wr.heap.size wr (wr.alloc (Obj.cells #[Value.int .i64 oc, .float .f64 oal, .float .f64 oah, .bool oab, .float .f64 obl, .float .f64 obh, .bool obb, .int .i64 on] 31)) := (Below.refl _ wr).alloc (Nat.le_refl _) _
      have LO : Hid _ := heap_alloc_new wr (Obj.cells #[Value.int .i64 oc, .float .f64 oal, .float .f64 oah, .bool oab, .float .f64 obl, .float .f64 obh, .bool obb, .int .i64 on] 31)
      have LA : Hid _ := keep0 KA.out gb
      have LB : Hid (Below w.heap.size w _) := KB.out.trans (gb.mono KB.out.size)
      have hAO : Hid (w.heap.size < wr.heap.size) := (Array.getElem?_eq_some_iff.1 KA.out).1
      clear gb g0 g1 g2 g3 g4 g5 g6 g7 KA
      generalize wr.alloc (Obj.cells #[Value.int .i64 oc, .float .f64 oal, .float .f64 oah, .bool oab, .float .f64 obl, .float .f64 obh, .bool obb, .int .i64 on] 31) = W1 at LO LA LB ⊢
      go_cut [33] (fun s wx => (∃ t, s = .bool t) ∧ wx = W1)
      case first =>
        by_cases h1 : k < bn
        · have hd3 : decide ((k : Int) < (bn : Int)) = true := decide_eq_true (by omega)
          rcases HG.out.cells with h0 | ⟨bk', off', rfl, hc'⟩
          · omega
          have g0 := hc' k h1
          replace g0 := (LB.out.cell (World.block_lt_of_cell? w _ g0)).trans g0
          clear hc'
          go_wp2_with fail
          go_meet
          exact ⟨⟨_, rfl⟩, rfl⟩
        · have hd3 : decide ((k : Int) < (bn : Int)) = false := decide_eq_false (by omega)
          go_wp2_with fail
          go_meet
          exact ⟨⟨_, rfl⟩, rfl⟩
      case rest =>
        obtain ⟨⟨t, rfl⟩, rfl⟩ := hcut
        go_upto_if 33 with fail
        go_cut [] (fun wx => ∃ (pl ph : Nat) (pb : Bool), (pl < 18446744073709551616 ∧ ph < 18446744073709551616) ∧ Hid (wx.heap[wr.heap.size]? = some (Obj.cells #[Value.int .i64 oc, .float .f64 pl, .float .f64 ph, .bool pb, .float .f64 obl, .float .f64 obh, .bool obb, .int .i64 on] 31)) ∧ Hid (wx.heap[w.heap.size]? = some (Obj.cells #[Value.float .f64 x, .float .f64 y, .bool b] 24)) ∧ Hid (Below w.heap.size w wx))
        case first =>
          cases t
          · go_wp2_with fail
            go_meet
            exact ⟨oal, oah, oab, ⟨bal, bah⟩, LO, LA, LB⟩
          · obtain ⟨a0, a1, a2⟩ := cells3 LA.out
            go_wp2_with (first
              | (refine wpList_store_at (by rfl) 24 _ _ (by rfl) w w.heap.size wr.heap.size 1 (.agg #[.float .f64 x, .float .f64 y, .bool b]) _ #[Value.int .i64 oc, .float .f64 x, .float .f64 y, .bool b, .float .f64 obl, .float .f64 obh, .bool obb, .int .i64 on] 31 (by rfl) (by rfl) LO.out LB.out (Nat.le_of_lt hAO.out) 3 Tryz.infoSpan (by rfl) (Nat.le_of_ble_eq_true rfl) (by exact one_sp _ _ _) (by rfl) ?_; intro W2 hO2 hB2 hs2 ho2))
            go_meet
            exact ⟨x, y, b, ⟨hx, hy⟩, hO2, (ho2 _ (Nat.ne_of_lt hAO.out)).trans LA.out, hB2⟩
        case rest =>
          obtain ⟨pl, ph, pb, ⟨hpl, hph⟩, MO, MA, MB⟩ := hcut
          clear LO LA LB
          obtain ⟨a0, a1, a2, a3, a4, a5, a6, a7⟩ := cells8 MO.out
          go_upto_region 9 with fail
          rw [hce.out]
          clear hce
          go_upto_region 11 with (first
            | (go_at_call 5; refine Calls.mono (oneAll_any c hc pl ph obl obh pb obb on hpl hph bbl bbh _) ?_; rintro e w2 ⟨rfl, gb2⟩; have NO : Hid _ := keep0 MO.out gb2; have NA : Hid _ := keep0 MA.out gb2; have NB : Hid (Below w.heap.size w w2) := MB.out.trans (gb2.mono MB.out.size); clear gb2 MO MA MB a0 a1 a2 a3 a4 a5 a6 a7; obtain ⟨a0, a1, a2, a3, a4, a5, a6, a7⟩ := cells8 NO.out))
          by_cases hc1 : c = 1
          · subst hc1
            obtain ⟨r, ⟨hr1, hr2⟩, han⟩ := lastAdd pl ph obl obh pb obb hpl hph bbl bbh
            have HAN : Hid _ := han
            clear han
            go_wp2_with (first
              | (go_at_call 7; refine Calls.mono (HAN.out _) ?_; rintro e w3 ⟨rfl, gb3⟩; have PA : Hid _ := keep0 NA.out gb3; have PB : Hid (Below w.heap.size w w3) := NB.out.trans (gb3.mono NB.out.size); clear gb3)
              | (refine wpList_store_at (by rfl) 24 _ _ (by rfl) w w.heap.size w.heap.size 0 (.agg #[.float .f64 r.1, .float .f64 r.2.1, .bool r.2.2]) _ #[Value.float .f64 r.1, .float .f64 r.2.1, .bool r.2.2] 24 (by rfl) (by rfl) PA.out PB.out (Nat.le_refl _) 3 Tryz.infoSpan (by rfl) (Nat.le_of_ble_eq_true rfl) (by exact one_sp _ _ _) (by rfl) ?_; intro W5 hA5 hB5 hs5 ho5; have QA : Hid _ := hA5; have QB : Hid _ := hB5; clear hA5 hB5 hs5 ho5))
            go_roundg g
            case measure => omega
            case rel => exact ⟨k + 1, r.1, r.2.1, r.2.2, by omega, by go_num, ⟨hr1, hr2⟩, QA, QB⟩
          by_cases hc3 : c = 3
          · subst hc3
            obtain ⟨r, ⟨hr1, hr2⟩, han⟩ := lastMul pl ph obl obh pb obb hpl hph bbl bbh
            have HAN : Hid _ := han
            clear han
            go_wp2_with (first
              | (go_at_call 8; refine Calls.mono (HAN.out _) ?_; rintro e w3 ⟨rfl, gb3⟩; have PA : Hid _ := keep0 NA.out gb3; have PB : Hid (Below w.heap.size w w3) := NB.out.trans (gb3.mono NB.out.size); clear gb3)
              | (refine wpList_store_at (by rfl) 24 _ _ (by rfl) w w.heap.size w.heap.size 0 (.agg #[.float .f64 r.1, .float .f64 r.2.1, .bool r.2.2]) _ #[Value.float .f64 r.1, .float .f64 r.2.1, .bool r.2.2] 24 (by rfl) (by rfl) PA.out PB.out (Nat.le_refl _) 3 Tryz.infoSpan (by rfl) (Nat.le_of_ble_eq_true rfl) (by exact one_sp _ _ _) (by rfl) ?_; intro W5 hA5 hB5 hs5 ho5; have QA : Hid _ := hA5; have QB : Hid _ := hB5; clear hA5 hB5 hs5 ho5))
            go_roundg g
            case measure => omega
            case rel => exact ⟨k + 1, r.1, r.2.1, r.2.2, by omega, by go_num, ⟨hr1, hr2⟩, QA, QB⟩
          · have hq1 : ((c : Int) == 1) = false := by simp; omega
            have hq3 : ((c : Int) == 3) = false := by simp; omega
            obtain ⟨r, ⟨hr1, hr2⟩, han⟩ := lastHull pl ph obl obh pb obb hpl hph bbl bbh
            have HAN : Hid _ := han
            clear han
            go_wp2_with (first
              | (go_at_call 9; refine Calls.mono (HAN.out _) ?_; rintro e w3 ⟨rfl, gb3⟩; have PA : Hid _ := keep0 NA.out gb3; have PB : Hid (Below w.heap.size w w3) := NB.out.trans (gb3.mono NB.out.size); clear gb3)
              | (refine wpList_store_at (by rfl) 24 _ _ (by rfl) w w.heap.size w.heap.size 0 (.agg #[.float .f64 r.1, .float .f64 r.2.1, .bool r.2.2]) _ #[Value.float .f64 r.1, .float .f64 r.2.1, .bool r.2.2] 24 (by rfl) (by rfl) PA.out PB.out (Nat.le_refl _) 3 Tryz.infoSpan (by rfl) (Nat.le_of_ble_eq_true rfl) (by exact one_sp _ _ _) (by rfl) ?_; intro W5 hA5 hB5 hs5 ho5; have QA : Hid _ := hA5; have QB : Hid _ := hB5; clear hA5 hB5 hs5 ho5))
            go_roundg g
            case measure => omega
            case rel => exact ⟨k + 1, r.1, r.2.1, r.2.2, by omega, by go_num, ⟨hr1, hr2⟩, QA, QB⟩
    · have hw : (decide ((k : Int) < (len : Int)) = false) ∨ (decide ((k : Int) < (len : Int)) = true ∧ decide ((k : Int) < 200) = false) := by
        by_cases h1 : k < len
        · exact .inr ⟨decide_eq_true (by omega), decide_eq_false (by omega)⟩
        · exact .inl (decide_eq_false (by omega))
      rcases hw with hd1 | ⟨hd1, hd2⟩
      all_goals go_wp2_with (first | (go_at_call 6; refine (spStarted_any _).mono ?_; rintro e w2 ⟨rfl, gb2⟩; have NB : Hid (Below w.heap.size w w2) := KB.out.trans (gb2.mono KB.out.size); clear gb2))
      all_goals (go_ret; exact ⟨rfl, NB.out⟩)
end Go.Proofs.YtnjjichanfpbhaaGreat
