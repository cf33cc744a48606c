import Derived.Test.YtogpkigpnflaoaaDoorKT
namespace Go.Proofs.YtogpkigpnflaoaaDoor
open Go.RowKit
set_option linter.unusedVariables false

/-! ### lists of noughts -/
theorem listE_zero (k : Nat) (n : Int) (h : (k : Int) = n) : listE (List.replicate k 0) n = 0 := by
  unfold listE
  rw [if_neg (by simp [h]), if_pos (numsB_zero k)]
theorem eachF_zero (k : Nat) (n : Int) (h : (k : Int) = n) : ∀ (m i : Nat), eachF (List.replicate m (List.replicate k 0)) n i = (0, 0) := by
  intro m
  induction m with
  | zero => intro i; rfl
  | succ m ih =>
    intro i
    rw [List.replicate_succ]
    simp only [eachF]
    rw [listE_zero k n h, if_neg (by simp)]
    exact ih (i + 1)
/-- The law's questions: k noughts, g columns, l claims, the budgets K, D, L. -/
theorem propE_zero (k g l : Nat) (K D L : Int) (h1 : 1 ≤ k) (h2 : k ≤ 256) (hl : 1 ≤ l) : propE (List.replicate k 0) (List.replicate g (List.replicate k 0)) (-1) (List.replicate l (List.replicate 2 0)) K D L (k : Int) 1 =
    if 256 < g then (65, 0) else if 64 < l then (65, 0) else (budE K D L, 0) := by
  unfold propE
  have b1 : inB 1 (k : Int) 256 = true := inB_true ⟨by omega, by omega⟩
  rw [b1, if_neg (by decide), listE_zero k k rfl, if_neg (by simp), List.length_replicate, List.length_replicate, eachF_zero k k rfl, eachF_zero 2 (1 + 1) rfl]
  by_cases hg : 256 < g
  · rw [if_pos hg, if_pos hg]
  · rw [if_neg hg, if_neg hg, if_neg (by simp), if_neg (by omega)]
    by_cases hl2 : 64 < l
    · rw [if_pos hl2, if_pos hl2]
    · rw [if_neg hl2, if_neg hl2, if_neg (by simp), if_neg (by omega)]

/-! ### Weights -/
set_option maxRecDepth 100000 in
set_option maxHeartbeats 1000000 in
theorem weights_any (c h k : Int) (lo no : Option Addr) (n lc m nc : Nat) (Ls : Nat → Array Value) (wt : Nat → Int) (w : World) (hn : n ≤ 1000) (hR : RdLay w lo n Ls) (hwt : ∀ j, 0 ≤ wt j ∧ wt j ≤ 1000000) (hsum : ∀ j, j ≤ n → 0 ≤ wsum wt j ∧ wsum wt j ≤ 1000000000)
    (hwts : ∀ j, j < n → WeightIs w (Ls j) (wt j)) :
    Calls Tryd.prog 7 #[.agg #[.int .i64 c, .int .i64 h, .int .i64 k, .slice lo n lc, .slice no m nc]] w fun e w' => e = .returned (.int .i64 (wsum wt n)) ∧ Below w.heap.size w w' := by
  have HR : Hid _ := hR
  have HWT : Hid _ := hwts
  have HWB : Hid _ := hwt
  have HSM : Hid _ := hsum
  clear hR hwts hwt hsum
  go_enter Tryd.func7, Tryd.ntmps7
  go_wp2_with fail
  go_loopg [3, 9] n (fun g u x wx => ∃ (i : Nat), x = .int .i64 i ∧ i + g = n ∧ u = .int .i64 (wsum wt i) ∧ Hid (Below w.heap.size w wx))
  case atStart => exact ⟨0, rfl, by omega, rfl, (Below.refl _ w).alloc (Nat.le_refl _) _⟩
  case round =>
    obtain ⟨i, rfl, hi, rfl, HB⟩ := hrel
    have hsr := HB.out.size
    by_cases hlt : i < n
    · have hd : decide ((i : Int) < (n : Int)) = true := decide_eq_true (by omega)
      obtain ⟨g, rfl⟩ : ∃ g, gk = g + 1 := ⟨gk - 1, by omega⟩
      rcases (HR.out.later HB.out).cells with h0 | ⟨b, off, rfl, hcl⟩
      · omega
      obtain ⟨hz14, hone, hrg⟩ := hcl i hlt
      have HRG : Hid _ := hrg
      have HON : Hid _ := hone
      clear hcl hrg hone
      obtain ⟨L, hL⟩ : ∃ L, Ls i = L := ⟨_, rfl⟩
      have HWI : Hid (WeightIs w L (wt i)) := by have := HWT.out i hlt; rw [hL] at this; exact this
      rw [hL] at HRG HON hz14
      clear hL
      have hwb := HWB.out i
      have hsm := HSM.out i (by omega)
      have HWS : Hid (wsum wt (i + 1) = wsum wt i + wt i) := rfl
      generalize hu0 : wsum wt i = u0 at *
      generalize hu1 : wsum wt (i + 1) = u1 at *
      generalize hx0 : wt i = x0 at *
      clear hu0 hx0
      go_upto_region 5 with (first
        | (refine wpList_load_part (by rfl) 33 _ (by rfl) b (off + i * 14) (by rfl) L _ HRG.out Tryd.underlying33 rfl 14 Tryd.infoLayer hz14 ?_)
        | (refine wpList_store_row (by rfl) 33 _ _ (by rfl) wr wr.heap.size wr.heap.size L _ (by rfl) (by rfl) (heap_alloc_new wr _) ((Below.refl _ wr).alloc (Nat.le_refl _) _) (Nat.le_refl _) 14 Tryd.infoLayer hz14 (by rfl) HON.out ?_; intro W2 e2 hb2 hs2 ho2))
      have HB2 : Hid (Below w.heap.size w W2) := HB.out.trans (hb2.mono (by omega))
      have HE2 : Hid _ := e2
      have HWC : Hid _ := HWI.out W2 HB2.out
      clear e2 hb2 hs2 ho2
      go_wp2_with (first | (refine wpList_load_row (by rfl) 33 _ (by rfl) wr.heap.size _ (by rfl) HE2.out _ Tryd.underlying33 rfl 14 Tryd.infoLayer hz14 ?_))
      refine Calls.mono HWC.out ?_
      rintro e w4 ⟨rfl, hb⟩
      have HB4 : Hid (Below w.heap.size w w4) := to_call HB2.out hb
      have hwu : wrap64 (u0 + x0) = u0 + x0 := w64 _ (by omega)
      clear hb HWC HE2
      go_wp2
      go_roundg g
      case measure => omega
      case rel => exact ⟨i + 1, by go_num, by omega, by rw [hu1, HWS.out], HB4⟩
    · have hd : decide ((i : Int) < (n : Int)) = false := decide_eq_false (by omega)
      have HI : Hid (i = n) := by unfold Hid; omega
      go_wp2
      go_ret
      exact ⟨by rw [HI.out]; rfl, HB.out⟩
end Go.Proofs.YtogpkigpnflaoaaDoor
