import Derived.Test.YtogdfdhdmfkmaaaGreatGJd
namespace Go.Proofs.YtogdfdhdmfkmaaaGreat
open Go.RowKit Go.Shelf
set_option linter.unusedVariables false
set_option linter.unusedSimpArgs false

/-- A slice of words. -/
structure RdUs (w : World) (ao : Option Addr) (len cap : Nat) (us : List Nat) : Prop where
  length : us.length = len
  max : len ≤ maxLen
  cells : len = 0 ∨ ∃ b off, ao = some ⟨b, off, none⟩ ∧ ∀ j, j < len → w.cell? ⟨b, off + j, none⟩ = some (.int .u64 ((us[j]?.getD 0 : Nat) : Int))
theorem RdUs.later {w w' : World} {ao : Option Addr} {len cap : Nat} {us : List Nat} (h : RdUs w ao len cap us) (hb : Below w.heap.size w w') : RdUs w' ao len cap us := by
  refine ⟨h.length, h.max, ?_⟩
  rcases h.cells with h0 | ⟨b, off, ha, hc⟩
  · exact .inl h0
  · refine .inr ⟨b, off, ha, fun j hj => ?_⟩
    rw [hb.cell (p := ⟨b, off + j, none⟩) (World.block_lt_of_cell? w _ (hc j hj))]
    exact hc j hj
theorem apiBits_any (u : Nat) (w : World) : Calls Tryz.prog 43 #[.float .f64 u] w fun e w' => e = .returned (.int .u64 u) ∧ w' = w := by
  have hcb := call_bits u
  go_enter Tryz.func43, Tryz.ntmps43
  go_wp2_with fail
  go_ret
  exact ⟨rfl, rfl⟩
theorem drop_eqU {us vs : List Nat} {k : Nat} (h1 : k < us.length) (h2 : k < vs.length) : decide (us.drop k = vs.drop k) = (decide (us[k]?.getD 0 = vs[k]?.getD 0) && decide (us.drop (k + 1) = vs.drop (k + 1))) := by
  rw [List.drop_eq_getElem_cons h1, List.drop_eq_getElem_cons h2, List.getElem?_eq_getElem h1, List.getElem?_eq_getElem h2]
  simp only [List.cons.injEq, Option.getD_some, Bool.decide_and]
end Go.Proofs.YtogdfdhdmfkmaaaGreat

namespace Go.Proofs.YtogdfdhdmfkmaaaGreat
open Go.RowKit Go.Shelf
set_option linter.unusedVariables false
set_option linter.unusedSimpArgs false

/-- A slice of lists of words; gv: where each of them lies. -/
structure RdGu (w : World) (ao : Option Addr) (len cap : Nat) (gv : Nat → Option Addr × Nat × Nat) (gs : List (List Nat)) : Prop where
  length : gs.length = len
  max : len ≤ maxLen
  cells : len = 0 ∨ ∃ b off, ao = some ⟨b, off, none⟩ ∧ ∀ j, j < len → w.cell? ⟨b, off + j, none⟩ = some (.slice (gv j).1 (gv j).2.1 (gv j).2.2)
  each : ∀ j, j < len → RdUs w (gv j).1 (gv j).2.1 (gv j).2.2 (gs[j]?.getD [])
theorem RdGu.later {w w' : World} {ao : Option Addr} {len cap : Nat} {gv : Nat → Option Addr × Nat × Nat} {gs : List (List Nat)} (h : RdGu w ao len cap gv gs) (hb : Below w.heap.size w w') : RdGu w' ao len cap gv gs := by
  refine ⟨h.length, h.max, ?_, fun j hj => (h.each j hj).later hb⟩
  rcases h.cells with h0 | ⟨b, off, ha, hc⟩
  · exact .inl h0
  · refine .inr ⟨b, off, ha, fun j hj => ?_⟩
    rw [hb.cell (p := ⟨b, off + j, none⟩) (World.block_lt_of_cell? w _ (hc j hj))]
    exact hc j hj
/-- The document's zonotope lies in w. -/
structure ZU (w : World) (z : ZD) : Prop where
  c : RdUs w z.co z.cn z.cc z.cs
  i : RdIs w z.io z.dn z.dc z.ids
  g : RdGu w z.go z.gn z.gc z.gv z.gs
  r : RdUs w z.ro z.rn z.rc z.rs
theorem ZU.later {w w' : World} {z : ZD} (h : ZU w z) (hb : Below w.heap.size w w') : ZU w' z := ⟨h.c.later hb, h.i.later hb, h.g.later hb, h.r.later hb⟩
theorem drop_eqGG {us vs : List (List Nat)} {k : Nat} (h1 : k < us.length) (h2 : k < vs.length) : decide (us.drop k = vs.drop k) = (decide (us[k]?.getD [] = vs[k]?.getD []) && decide (us.drop (k + 1) = vs.drop (k + 1))) := by
  rw [List.drop_eq_getElem_cons h1, List.drop_eq_getElem_cons h2, List.getElem?_eq_getElem h1, List.getElem?_eq_getElem h2]
  simp only [List.cons.injEq, Option.getD_some, Bool.decide_and]
/-- Does the answer a have the bits that b tells? -/
def bitsB (a b : ZD) : Bool := decide (a.N = b.N) && decide (a.bad = b.bad) && decide (a.cs = b.cs) && decide (a.rs = b.rs) && decide (a.ids = b.ids) && decide (a.gs = b.gs)
end Go.Proofs.YtogdfdhdmfkmaaaGreat

namespace Go.Proofs.YtogdfdhdmfkmaaaGreat
open Go.RowKit
set_option linter.unusedVariables false
set_option linter.unusedSimpArgs false

set_option maxRecDepth 100000 in
set_option maxHeartbeats 2000000 in
/-- plain: a new list with every number plain, in a block of its own. -/
theorem plainT_any (ao : Option Addr) (len cap : Nat) (us : List Nat) (hl : len ≤ 100000) (hf : numsB us = true) (w : World) (h : RdF w ao len cap us) :
    Calls Tryz.prog 39 #[.slice ao len cap] w fun e w' => e = .returned (.slice (some ⟨w.heap.size, 0, none⟩) len len) ∧ RdF w' (some ⟨w.heap.size, 0, none⟩) len len (us.map plainM) ∧ (∃ cur, w'.heap[w.heap.size]? = some (.cells cur 45)) ∧ Below w.heap.size w w' ∧ w.heap.size < w'.heap.size := by
  have HR : Hid _ := h
  have HLN : Hid _ := h.length
  have HF : Hid (∀ u ∈ us, Fin u) := by
    unfold numsB at hf
    intro u hu
    have := List.all_eq_true.1 hf u hu
    simpa using this
  clear h hf
  have hmk := makeFJ len (by omega)
  go_enter Tryz.func39, Tryz.ntmps39
  go_wp2_with fail
  clear hmk
  go_loopg [11] len (fun g iv wx => ∃ k : Nat, iv = .int .i64 k ∧ k + g = len ∧ Hid (∀ j, j < k → wx.cell? ⟨w.heap.size, j, none⟩ = some (.float .f64 (plainM (us[j]?.getD 0)))) ∧ Hid ((∀ j, j < len → ∃ v, wx.cell? ⟨w.heap.size, j, none⟩ = some (.float .f64 v)) ∧ (∀ j, wx.frozen? ⟨w.heap.size, j, none⟩ = false)) ∧ Hid (Below w.heap.size w wx) ∧ Hid (w.heap.size < wx.heap.size ∧ ∃ cur, wx.heap[w.heap.size]? = some (.cells cur 45)))
  case atStart =>
    refine ⟨0, rfl, by omega, fun j hj => by omega, ⟨fun j hj => ⟨0, cellAtJ (heap_alloc_new w _) j _ (flN_at len j hj)⟩, fun j => frozen_of_row _ _ j _ _ (heap_alloc_new w _)⟩, (Below.refl _ w).alloc (Nat.le_refl _) _, ?_, _, heap_alloc_new w _⟩
    show w.heap.size < (w.alloc _).heap.size
    simp
  case round =>
    obtain ⟨k, rfl, hk, HP, HC, HB, HS⟩ := hrel
    by_cases hlt : k < len
    · have hd : decide ((k : Int) < (len : Int)) = true := decide_eq_true (by omega)
      obtain ⟨g, rfl⟩ : ∃ g, gk = g + 1 := ⟨gk - 1, by omega⟩
      rcases (HR.out.later HB.out).cells with h0 | ⟨ab, aoff, rfl, hca⟩
      · omega
      have ga := hca k hlt
      have hmem := getD_mem (us := us) (j := k) (by rw [HLN.out]; exact hlt)
      have hax := HR.out.lt _ hmem
      have HFx : Hid (Fin (us[k]?.getD 0)) := HF.out _ hmem
      obtain ⟨x, hx⟩ : ∃ x, us[k]?.getD 0 = x := ⟨_, rfl⟩
      have HX : Hid (us[k]?.getD 0 = x) := hx
      rw [hx] at ga hax HFx
      have HIG : Hid (k + (g + 1) = len) := hk
      clear hca hx hk hmem
      obtain ⟨pv, hpv⟩ := HC.out.1 k hlt
      have hfr := HC.out.2 k
      have hsf := run_store_f
      go_wp2_with (go_at_call 58; refine (next_plain hax HFx.out _).mono ?_; rintro e w1 ⟨rfl, hw1⟩; rw [hw1]; clear hw1 w1)
      have hcs : (wr.cell? ⟨w.heap.size, k, none⟩).isSome = true := by rw [hpv]; rfl
      have hrow : ∀ j, (wr.setCell ⟨w.heap.size, k, none⟩ (.float .f64 (plainM x))).cell? ⟨w.heap.size, j, none⟩ = if j = k then some (.float .f64 (plainM x)) else wr.cell? ⟨w.heap.size, j, none⟩ := by
        intro j
        by_cases e : j = k
        · subst e; rw [if_pos rfl]; exact World.cell?_setCell_same' _ _ _ hcs
        · rw [if_neg e, World.cell?_setCell_other _ _ _ _ (by intro c; cases c; exact e rfl)]
      have HP3 : Hid (∀ j, j < k + 1 → (wr.setCell ⟨w.heap.size, k, none⟩ (.float .f64 (plainM x))).cell? ⟨w.heap.size, j, none⟩ = some (.float .f64 (plainM (us[j]?.getD 0)))) := by
        intro j hj
        rw [hrow j]
        by_cases e : j = k
        · rw [if_pos e, e, HX.out]
        · rw [if_neg e]; exact HP.out j (by omega)
      have HC3 : Hid ((∀ j, j < len → ∃ v, (wr.setCell ⟨w.heap.size, k, none⟩ (.float .f64 (plainM x))).cell? ⟨w.heap.size, j, none⟩ = some (.float .f64 v)) ∧ (∀ j, (wr.setCell ⟨w.heap.size, k, none⟩ (.float .f64 (plainM x))).frozen? ⟨w.heap.size, j, none⟩ = false)) := by
        refine ⟨fun j hj => ?_, fun j => by rw [World.frozen?_setCell]; exact HC.out.2 j⟩
        rw [hrow j]
        by_cases e : j = k
        · exact ⟨_, if_pos e⟩
        · rw [if_neg e]; exact HC.out.1 j hj
      have HB3 : Hid (Below w.heap.size w (wr.setCell ⟨w.heap.size, k, none⟩ (.float .f64 (plainM x)))) := HB.out.trans ((Below.refl w.heap.size wr).setCell (p := ⟨w.heap.size, k, none⟩) (Nat.le_refl _) _)
      have HS3 : Hid (w.heap.size < (wr.setCell ⟨w.heap.size, k, none⟩ (.float .f64 (plainM x))).heap.size ∧ ∃ cur, (wr.setCell ⟨w.heap.size, k, none⟩ (.float .f64 (plainM x))).heap[w.heap.size]? = some (.cells cur 45)) := by
        have h1 : (wr.setCell ⟨w.heap.size, k, none⟩ (.float .f64 (plainM x))).heap.size = wr.heap.size := by simp
        obtain ⟨h2, cur, h3⟩ := HS.out
        exact ⟨by rw [h1]; exact h2, _, heap_setCell_same wr w.heap.size k _ _ _ h3⟩
      clear hsf hrow hcs hpv hfr ga hax HP HC
      go_roundg g
      case measure => omega
      case rel => exact ⟨k + 1, by go_num, by have := HIG.out; omega, HP3, HC3, HB3, HS3⟩
    · have hd : decide ((k : Int) < (len : Int)) = false := decide_eq_false (by omega)
      have hd' : decide (k < len) = false := decide_eq_false (by omega)
      have hkl : k = len := by omega
      have HP2 : Hid (∀ j, j < len → wr.cell? ⟨w.heap.size, j, none⟩ = some (.float .f64 (plainM (us[j]?.getD 0)))) := hkl ▸ HP.out
      clear hkl
      go_wp2_with fail
      go_ret
      refine ⟨rfl, ⟨by rw [List.length_map]; exact HLN.out, HR.out.max, fun u hu => ?_, .inr ⟨_, _, rfl, fun j hj => ?_⟩⟩, HS.out.2, HB.out, HS.out.1⟩
      · obtain ⟨v, hv, rfl⟩ := List.mem_map.1 hu
        exact plainM_ltJ (HR.out.lt v hv)
      · rw [Nat.zero_add, HP2.out j hj, List.getElem?_map, List.getElem?_eq_getElem (by rw [HLN.out]; exact hj)]; rfl
end Go.Proofs.YtogdfdhdmfkmaaaGreat
