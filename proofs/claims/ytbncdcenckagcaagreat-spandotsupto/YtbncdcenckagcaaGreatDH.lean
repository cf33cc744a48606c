import Derived.Test.YtbncdcenckagcaaGreatDF
import Derived.Test.YtbncdcenckagcaaGreatDE
import Derived.Test.YtbncdcenckagcaaGreatDG
import Derived.Test.YtbncdcenckagcaaGreatMV
import Derived.Deep.DeepCutAuto
namespace Go.Proofs.YtbncdcenckagcaaGreat
open Go.RowKit
set_option linter.unusedVariables false
set_option linter.unusedSimpArgs false

/-- A row by a function. -/
def rowL (g : Nat → Value) (n : Nat) : List Value := (List.range n).map g
theorem rowL_len (g : Nat → Value) (n : Nat) : (rowL g n).length = n := by unfold rowL; simp
theorem rowL_get {g : Nat → Value} {n j : Nat} (h : j < n) : (rowL g n)[j]? = some (g j) := by unfold rowL; simp [h]
theorem rowL_succ (g : Nat → Value) (n : Nat) : rowL g (n + 1) = rowL g n ++ [g n] := by unfold rowL; rw [List.range_succ, List.map_append]; rfl
theorem rowL_add (g : Nat → Value) (n m : Nat) : rowL g (n + m) = rowL g n ++ rowL (fun j => g (n + j)) m := by
  induction m with
  | zero => simp [rowL]
  | succ m ih => rw [← Nat.add_assoc, rowL_succ, rowL_succ, ih, List.append_assoc]
theorem rowL_congr {f g : Nat → Value} {n : Nat} (h : ∀ j, j < n → f j = g j) : rowL f n = rowL g n := by
  unfold rowL
  exact List.map_congr_left fun j hj => h j (List.mem_range.1 hj)
theorem rowL_set {g : Nat → Value} {n k : Nat} (v : Value) : (rowL g n).set k v = rowL (fun j => if j = k then v else g j) n := by
  apply List.ext_getElem?
  intro i
  by_cases hi : i < n
  · rw [rowL_get hi, List.getElem?_set, rowL_len]
    by_cases e : k = i
    · subst e; simp [hi]
    · rw [if_neg e, rowL_get hi, if_neg (fun c => e c.symm)]
  · rw [List.getElem?_eq_none (by rw [List.length_set, rowL_len]; omega), List.getElem?_eq_none (by rw [rowL_len]; omega)]
def gI (U : Nat → Nat) (j : Nat) : Value := .int .u64 (U j : Int)
def gF (U : Nat → Nat) (j : Nat) : Value := .float .f64 (U j)
/-- Spans, three cells each. -/
def gS (F : Nat → Nat × Nat × Bool) (i : Nat) : Value := if i % 3 = 0 then .float .f64 (F (i / 3)).1 else if i % 3 = 1 then .float .f64 (F (i / 3)).2.1 else .bool (F (i / 3)).2.2
def gV (F : Nat → Nat × Nat × Bool) (i : Nat) : Value := if i % 3 = 0 then .int .u64 ((F (i / 3)).1 : Int) else if i % 3 = 1 then .int .u64 ((F (i / 3)).2.1 : Int) else .bool (F (i / 3)).2.2
theorem three_at (j : Nat) : (j * 3) % 3 = 0 ∧ (j * 3) / 3 = j ∧ (j * 3 + 1) % 3 = 1 ∧ (j * 3 + 1) / 3 = j ∧ (j * 3 + 2) % 3 = 2 ∧ (j * 3 + 2) / 3 = j := by omega
theorem gS_at (F : Nat → Nat × Nat × Bool) (j : Nat) : gS F (j * 3) = .float .f64 (F j).1 ∧ gS F (j * 3 + 1) = .float .f64 (F j).2.1 ∧ gS F (j * 3 + 2) = .bool (F j).2.2 := by
  obtain ⟨a, b, c, d, e, f⟩ := three_at j
  unfold gS
  rw [a, b, c, d, e, f]
  exact ⟨rfl, rfl, rfl⟩
theorem gV_at (F : Nat → Nat × Nat × Bool) (j : Nat) : gV F (j * 3) = .int .u64 ((F j).1 : Int) ∧ gV F (j * 3 + 1) = .int .u64 ((F j).2.1 : Int) ∧ gV F (j * 3 + 2) = .bool (F j).2.2 := by
  obtain ⟨a, b, c, d, e, f⟩ := three_at j
  unfold gV
  rw [a, b, c, d, e, f]
  exact ⟨rfl, rfl, rfl⟩
theorem rowL_three (g : Nat → Value) (n : Nat) : rowL g ((n + 1) * 3) = rowL g (n * 3) ++ [g (n * 3), g (n * 3 + 1), g (n * 3 + 2)] := by
  rw [show (n + 1) * 3 = n * 3 + 1 + 1 + 1 by omega, rowL_succ, rowL_succ, rowL_succ]
  simp
/-- The cells of a row of its own. -/
theorem own_rowL {w : World} {E : TypeId} {base size n : Nat} {v : Value} {g : Nat → Value} (h : w.ownsRow base E size v n (rowL g (n * size))) (h0 : 0 < n) : ∃ b cap, v = .slice (some ⟨b, 0, none⟩) n cap ∧ base ≤ b ∧ n ≤ cap ∧ cap ≤ maxLen ∧ ∀ i, i < n * size → w.cell? ⟨b, i, none⟩ = some (g i) := by
  have h' := h
  rcases h.2 with ⟨h1, h2⟩ | ⟨b, cap, cur, hv, hb, hh, r1, r2, -⟩
  · omega
  · subst hv
    refine ⟨b, cap, rfl, hb, r1, r2, fun i hi => ?_⟩
    rw [World.ownsRow.cellAt h' i hi, rowL_get hi]
theorem rdW_of {w : World} {base n : Nat} {v : Value} {U : Nat → Nat} (h : w.ownsRow base 28 1 v n (rowL (gI U) n)) (hU : ∀ j, j < n → U j < 18446744073709551616) : ∃ ao cap, v = .slice ao n cap ∧ RdW w ao n cap U := by
  by_cases h0 : n = 0
  · rcases h.2 with ⟨h1, h2⟩ | ⟨b, cap, cur, hv, hb, hh, r1, r2, -⟩
    · exact ⟨none, 0, by rw [h1, h0], by omega, by decide, hU, .inl h0⟩
    · exact ⟨_, cap, hv, r1, r2, hU, .inl h0⟩
  · obtain ⟨b, cap, hv, -, r1, r2, hc⟩ := own_rowL (by rw [Nat.mul_one]; exact h) (by omega)
    exact ⟨_, cap, hv, r1, r2, hU, .inr ⟨b, 0, rfl, fun j hj => by rw [Nat.zero_add]; exact hc j (by omega)⟩⟩
theorem rdV_of {w : World} {base n : Nat} {v : Value} {F : Nat → Nat × Nat × Bool} (h : w.ownsRow base 30 3 v n (rowL (gV F) (n * 3))) (hF : ∀ j, j < n → (F j).1 < 18446744073709551616 ∧ (F j).2.1 < 18446744073709551616) : ∃ ao cap, v = .slice ao n cap ∧ RdV w ao n cap F := by
  by_cases h0 : n = 0
  · rcases h.2 with ⟨h1, h2⟩ | ⟨b, cap, cur, hv, hb, hh, r1, r2, -⟩
    · exact ⟨none, 0, by rw [h1, h0], by omega, by decide, hF, .inl h0⟩
    · exact ⟨_, cap, hv, r1, r2, hF, .inl h0⟩
  · obtain ⟨b, cap, hv, -, r1, r2, hc⟩ := own_rowL h (by omega)
    refine ⟨_, cap, hv, r1, r2, hF, .inr ⟨b, 0, rfl, fun j hj => ?_⟩⟩
    obtain ⟨x, y, z⟩ := gV_at F j
    rw [Nat.zero_add, ← x, ← y, ← z]
    exact ⟨hc _ (by omega), hc _ (by omega), hc _ (by omega)⟩
theorem Tryz.infoU64D : (Tryz.prog.info? 28).map (fun i => (i.zero, i.size, i.bytes)) = some (some (.int .u64 0), 1, 8) := by kernel_rfl
theorem Tryz.infoRSp : (Tryz.prog.info? 30).map (fun i => (i.zero, i.size, i.bytes)) = some (some (.agg #[.int .u64 0, .int .u64 0, .bool false]), 3, 24) := by kernel_rfl
theorem Tryz.infoFlD : (Tryz.prog.info? 32).map (fun i => (i.zero, i.size, i.bytes)) = some (some (.float .f64 0), 1, 8) := by kernel_rfl
theorem Tryz.infoSpD : (Tryz.prog.info? 34).map (fun i => (i.zero, i.size, i.bytes)) = some (some (.agg #[.float .f64 0, .float .f64 0, .bool false]), 3, 24) := by kernel_rfl
theorem cells_newL (w : World) (l : List Value) {t : TypeId} : ∀ j u, l[j]? = some u → (w.alloc (.cells l.toArray t)).cell? ((⟨w.heap.size, 0, none⟩ : Addr).add j) = some u := by
  intro j u hu
  rw [Addr.add_lit, cell_of_row _ w.heap.size _ _ _ _ (heap_alloc_new w _), Nat.zero_add]
  simpa using hu
set_option maxRecDepth 100000 in
set_option maxHeartbeats 2000000 in
theorem lawBits_any (ao : Option Addr) (n cap : Nat) (U : Nat → Nat) (w : World) (hr : RdG w ao n cap U) (hn : n ≤ 2000000) :
    Calls Tryz.prog 4 #[.slice ao n cap] w fun e w' => ∃ v, e = .returned v ∧ w'.ownsRow w.heap.size 28 1 v n (rowL (gI U) n) ∧ Below w.heap.size w w' := by
  have HR : Hid (RdG w ao n cap U) := hr
  clear hr
  go_enter Tryz.func4, Tryz.ntmps4
  go_wp2_with fail
  go_loopg [3, 4] n (fun g ov iv wr => ∃ k : Nat, k + g = n ∧ iv = .int .i64 k ∧ Hid (wr.ownsRow w.heap.size 28 1 ov k (rowL (gI U) k)) ∧ Hid (Below w.heap.size w wr))
  case atStart => exact ⟨0, by omega, rfl, World.ownsRow_nil _ _ _ _, Below.refl _ _⟩
  case round =>
    obtain ⟨k, hk, rfl, K1, K2⟩ := hrel
    by_cases hlt : k < n
    · have hd : decide ((k : Int) < (n : Int)) = true := decide_eq_true (by omega)
      obtain ⟨g, rfl⟩ : ∃ g, gk = g + 1 := ⟨gk - 1, by omega⟩
      rcases (HR.out.later K2.out).cells with h0 | ⟨b, off, rfl, hc⟩
      · omega
      have g0 := hc k hlt
      clear hc
      obtain ⟨u, hu⟩ : ∃ u, U k = u := ⟨_, rfl⟩
      have HU : Hid _ := hu
      rw [hu] at g0
      clear hu
      go_wp2_with (first
        | (go_at_call 9; refine (bits_any u _).mono ?_; rintro e w3 ⟨rfl, hw⟩; rw [hw]; clear hw)
        | (refine append_gs Tryz.underlying24 Tryz.infoU64D rfl (by decide) (by decide) _ (by rfl) _ _ (by rfl) w.heap.size _ k (rowL (gI U) k) (by rfl) (World.ownsRow.alloc K1.out _) ⟨_, 0, none⟩ 1 1 [.int .u64 (u : Int)] (by rfl) rfl (cells_newL _ [.int .u64 (u : Int)]) (by intro x hx; simp at hx; subst hx; rfl) (by omega) (by have := K2.out.size; simp; omega) ?_; intro v' w4 o4 c4; have O4 : Hid _ := o4; have B4 : Hid (Below w.heap.size w w4) := (K2.out.alloc K2.out.size _).trans (c4.below (fun k hk => (World.ownsRow.lt K1.out k hk).1) (by have := K2.out.size; simp; omega)); clear o4 c4))
      go_roundg g
      case measure => omega
      case rel => exact ⟨k + 1, by omega, by go_num, by rw [rowL_succ]; unfold gI at O4 ⊢; rw [HU.out]; exact O4, B4⟩
    · have hd : decide ((k : Int) < (n : Int)) = false := decide_eq_false (by omega)
      have hkn : Hid (k = n) := (by omega : k = n)
      have K3 : Hid _ := K1
      rw [hkn.out] at K3
      go_wp2_with fail
      go_ret
      exact ⟨_, rfl, K3.out, K2.out⟩
set_option maxRecDepth 100000 in
set_option maxHeartbeats 2000000 in
theorem lawSpans_any (ao : Option Addr) (n cap : Nat) (F : Nat → Nat × Nat × Bool) (w : World) (hr : RdS w ao n cap F) (hn : n ≤ 2000000) :
    Calls Tryz.prog 5 #[.slice ao n cap] w fun e w' => ∃ v, e = .returned v ∧ w'.ownsRow w.heap.size 30 3 v n (rowL (gV F) (n * 3)) ∧ Below w.heap.size w w' := by
  have HR : Hid (RdS w ao n cap F) := hr
  clear hr
  go_enter Tryz.func5, Tryz.ntmps5
  go_wp2_with fail
  go_loopg [3, 4] n (fun g ov iv wr => ∃ k : Nat, k + g = n ∧ iv = .int .i64 k ∧ Hid (wr.ownsRow w.heap.size 30 3 ov k (rowL (gV F) (k * 3))) ∧ Hid (Below w.heap.size w wr))
  case atStart => exact ⟨0, by omega, rfl, World.ownsRow_nil _ _ _ _, Below.refl _ _⟩
  case round =>
    obtain ⟨k, hk, rfl, K1, K2⟩ := hrel
    by_cases hlt : k < n
    · have hd : decide ((k : Int) < (n : Int)) = true := decide_eq_true (by omega)
      obtain ⟨g, rfl⟩ : ∃ g, gk = g + 1 := ⟨gk - 1, by omega⟩
      rcases (HR.out.later K2.out).cells with h0 | ⟨b, off, rfl, hc⟩
      · omega
      obtain ⟨g0, g1, g2⟩ := hc k hlt
      clear hc
      obtain ⟨sp, hu⟩ : ∃ sp, F k = sp := ⟨_, rfl⟩
      have HU : Hid _ := hu
      rw [hu] at g0 g1 g2
      obtain ⟨slo, shi, sbd⟩ := sp
      simp only at g0 g1 g2
      clear hu
      have HN : Hid (rowL (gV F) ((k + 1) * 3) = rowL (gV F) (k * 3) ++ [.int .u64 (slo : Int), .int .u64 (shi : Int), .bool sbd]) := by
        obtain ⟨x, y, z⟩ := gV_at F k
        unfold Hid
        rw [rowL_three, x, y, z, HU.out]
      go_wp2_with (first
        | (go_at_call 10; refine (of_any4 slo shi sbd _).mono ?_; rintro e w3 ⟨rfl, bw⟩; have O3 : Hid _ := ownD_later K1.out bw; have B3 : Hid (Below w.heap.size w w3) := K2.out.trans (bw.mono K2.out.size); clear bw)
        | (refine append_gs Tryz.underlying26 Tryz.infoRSp rfl (by decide) (by decide) _ (by rfl) _ _ (by rfl) w.heap.size _ k (rowL (gV F) (k * 3)) (by rfl) (World.ownsRow.alloc O3.out _) ⟨_, 0, none⟩ 1 1 [.int .u64 (slo : Int), .int .u64 (shi : Int), .bool sbd] (by rfl) rfl (cells_newL _ [.int .u64 (slo : Int), .int .u64 (shi : Int), .bool sbd]) (by intro x hx; simp at hx; rcases hx with rfl | rfl | rfl <;> rfl) (by omega) (by have := B3.out.size; simp; omega) ?_; intro v' w4 o4 c4; have O4 : Hid _ := o4; have B4 : Hid (Below w.heap.size w w4) := (B3.out.alloc B3.out.size _).trans (c4.below (fun k hk => (World.ownsRow.lt O3.out k hk).1) (by have := B3.out.size; simp; omega)); clear o4 c4))
      go_roundg g
      case measure => omega
      case rel => exact ⟨k + 1, by omega, by go_num, by rw [HN.out]; exact O4, B4⟩
    · have hd : decide ((k : Int) < (n : Int)) = false := decide_eq_false (by omega)
      have hkn : Hid (k = n) := (by omega : k = n)
      have K3 : Hid _ := K1
      rw [hkn.out] at K3
      go_wp2_with fail
      go_ret
      exact ⟨_, rfl, K3.out, K2.out⟩
end Go.Proofs.YtbncdcenckagcaaGreat
