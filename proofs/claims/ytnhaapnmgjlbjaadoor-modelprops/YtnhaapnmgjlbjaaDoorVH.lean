import Derived.Test.YtnhaapnmgjlbjaaDoorVG
namespace Go.Proofs.YtnhaapnmgjlbjaaDoor
open Go.RowKit
set_option linter.unusedVariables false

/-- THE SLICE OF SLICES OF uint64 READS AS uss. -/
structure RdUU (w : World) (ao : Option Addr) (len cap : Nat) (uss : List (List Nat)) : Prop where
  length : uss.length = len
  max : len ≤ maxLen
  cells : len = 0 ∨ ∃ b off, ao = some ⟨b, off, none⟩ ∧ ∀ j, j < len → ∃ aj cj, w.cell? ⟨b, off + j, none⟩ = some (.slice aj (uss[j]?.getD []).length cj) ∧ RdU w aj (uss[j]?.getD []).length cj (uss[j]?.getD [])
theorem RdUU.later {w w' : World} {ao : Option Addr} {len cap : Nat} {uss : List (List Nat)} (h : RdUU w ao len cap uss) (hb : Below w.heap.size w w') : RdUU w' ao len cap uss := by
  refine ⟨h.length, h.max, ?_⟩
  rcases h.cells with h0 | ⟨b, off, ha, hc⟩
  · exact .inl h0
  · refine .inr ⟨b, off, ha, fun j hj => ?_⟩
    obtain ⟨aj, cj, h1, h2⟩ := hc j hj
    refine ⟨aj, cj, ?_, h2.later hb⟩
    have hlt := World.block_lt_of_cell? w _ h1
    rw [hb.cell (p := ⟨b, off + j, none⟩) hlt]
    exact h1
theorem MkU.rd {w : World} {base : Nat} {v : Value} {uss : List (List Nat)} (h : MkU w base v uss) (hl : uss.length ≤ 1000) (hm : ∀ us ∈ uss, us.length ≤ 1000) : ∃ ao cap, v = .slice ao uss.length cap ∧ RdUU w ao uss.length cap uss := by
  obtain ⟨vs, h1, h2, h3⟩ := h
  have h1' := h1
  rcases h1'.2 with ⟨rfl, h0⟩ | ⟨g, cap, cur, rfl, hg, hh, r⟩
  · exact ⟨none, 0, by rw [← h2, h0], rfl, by simp only [maxLen]; omega, .inl (by omega)⟩
  · refine ⟨_, cap, by rw [h2], rfl, by simp only [maxLen]; omega, .inr ⟨g, 0, rfl, fun j hj => ?_⟩⟩
    have hj2 : j < vs.length := by omega
    have hx := List.getElem?_eq_getElem hj2
    have hmem : uss[j]?.getD [] ∈ uss := by rw [List.getElem?_eq_getElem hj]; exact List.getElem_mem _
    obtain ⟨aj, cj, e, hr⟩ := (h3 j _ hx).rd (hm _ hmem)
    have hc := World.ownsRow.cells h1 (g := g) rfl j _ hx
    rw [Addr.add_lit, e] at hc
    exact ⟨aj, cj, hc, hr⟩
set_option maxRecDepth 100000 in
set_option maxHeartbeats 1000000 in
theorem sameLists_any (ao bo : Option Addr) (len cap bcap : Nat) (uss : List (List Nat)) (w : World) (h : RdUU w ao len cap uss) (h' : RdUU w bo len bcap uss) :
    Calls Tryd.prog 44 #[.slice ao len cap, .slice bo len bcap] w fun e w' => e = .returned (.bool true) ∧ Below w.heap.size w w' := by
  have HR : Hid _ := h
  have HS : Hid _ := h'
  have hmx := Nat.le_trans h.max maxLen_le
  clear h h'
  go_enter Tryd.func44, Tryd.ntmps44
  go_wp2_with fail
  go_loopg [5] len (fun g iv wx => ∃ k : Nat, iv = .int .i64 k ∧ k + g = len ∧ Hid (Below w.heap.size w wx))
  case atStart => exact ⟨0, rfl, by omega, Below.refl _ _⟩
  case round =>
    obtain ⟨k, rfl, hk, HB⟩ := hrel
    by_cases hlt : k < len
    · have hd : decide ((k : Int) < (len : Int)) = true := decide_eq_true (by omega)
      obtain ⟨g, rfl⟩ : ∃ g, gk = g + 1 := ⟨gk - 1, by omega⟩
      rcases (HR.out.later HB.out).cells with h0 | ⟨b, off, rfl, hc⟩
      · omega
      rcases (HS.out.later HB.out).cells with h0 | ⟨b', off', rfl, hc'⟩
      · omega
      obtain ⟨aj, cj, g0, r0⟩ := hc k hlt
      obtain ⟨dj, ej, g1, r1⟩ := hc' k hlt
      obtain ⟨us, hus⟩ : ∃ us, uss[k]?.getD [] = us := ⟨_, rfl⟩
      rw [hus] at g0 g1 r0 r1
      have HC : Hid (∀ wx, Below wr.heap.size wr wx → Calls Tryd.prog 43 #[.slice aj us.length cj, .slice dj us.length ej] wx fun e w' => e = .returned (.bool true) ∧ Below wx.heap.size wx w') := fun wx hb => sameList_any aj dj us.length cj ej us wx (r0.later hb) (r1.later hb)
      have l0 := World.block_lt_of_cell? wr _ g0
      have l1 := World.block_lt_of_cell? wr _ g1
      generalize us.length = n at *
      have HCC : Hid (∀ wx wy, Below wr.heap.size wr wx → Below wx.heap.size wx wy → Below wr.heap.size wr wy ∧ wy.cell? ⟨b, off + k, none⟩ = some (.slice aj n cj) ∧ wy.cell? ⟨b', off' + k, none⟩ = some (.slice dj n ej)) := by
        intro wx wy q1 q2
        have q := to_call q1 q2
        exact ⟨q, by rw [q.cell (p := ⟨b, off + k, none⟩) l0]; exact g0, by rw [q.cell (p := ⟨b', off' + k, none⟩) l1]; exact g1⟩
      have hx1 : (0 : Int) ≤ (k : Int) := by omega
      have hx2 : (k : Int) < (len : Int) := by omega
      clear hc hc' hus r0 r1
      go_upto_region 6 with fail
      go_region_held3 (fun w' => w'.cell? ⟨b, off + k, none⟩ = some (.slice aj n cj) ∧ w'.cell? ⟨b', off' + k, none⟩ = some (.slice dj n ej)) (go_keep) ((first | (go_at_call 43; refine Calls.mono (HC.out _ (Below.refl _ _).drew) ?_; rintro e x1 ⟨rfl, bx1⟩; obtain ⟨q1, s0, s1⟩ := HCC.out _ x1 (Below.refl _ _).drew bx1)))
      go_wp2
      go_roundg g
      case measure => omega
      case rel => exact ⟨k + 1, by go_num, by omega, to_call HB.out q1⟩
    · have hd : decide ((k : Int) < (len : Int)) = false := decide_eq_false (by omega)
      go_wp2
      go_ret
      exact ⟨rfl, HB.out⟩

theorem neqMark (w : World) : (binOp .neq 46 (.float .f64 13873417816952012800) (.float .f64 13873417816952012800)).run Tryd.prog w = .ok (.bool false) w := by kernel_rfl
theorem neqMark31 (w : World) : (binOp .neq 46 (.float .f64 13852790978814935040) (.float .f64 13852790978814935040)).run Tryd.prog w = .ok (.bool false) w := by kernel_rfl
set_option maxRecDepth 100000 in
set_option maxHeartbeats 1000000 in
theorem stand_any (base : Nat) (v : Value) (us : List Nat) (bo : Option Addr) (bcap : Nat) (w : World) (h : Mk w base v us) (h' : RdU w bo us.length bcap us) :
    Calls Tryd.prog 32 #[v, .slice bo us.length bcap] w fun e w' => e = .returned (.bool true) ∧ Below w.heap.size w w' := by
  obtain ⟨g, cap, cur, rfl, _, hh, hcap, hcm, hlt64, hl1000, hcs, hcn⟩ := h
  have HS : Hid _ := h'
  have HHH : Hid _ := hh
  have HCS : Hid _ := hcs
  have hmx := maxLen_le
  have hgl := blk_lt hh
  have hm0 : w.cell? ⟨g, us.length, none⟩ = some (.float .f64 13873417816952012800) := (cell_of_row _ g _ _ _ _ hh).trans hcn
  have hsl : ∀ w, (Instr.slice 24 (.slice (some ⟨g, 0, none⟩) us.length cap) none (some (.int .i64 ((us.length : Int) + 1))) none).run Tryd.prog w = .ok (.slice (some ⟨g, 0, none⟩) (us.length + 1) cap) w := by
    intro w
    have := cutF (some ⟨g, 0, none⟩) us.length cap (us.length + 1) (by omega) w
    rw [if_neg (by omega), Option.map_some, add_zero'] at this
    exact this
  have HL : Hid (∀ j, j < us.length → w.cell? ⟨g, j, none⟩ = some (.float .f64 (us[j]?.getD 0))) := fun j hj => (cell_of_row _ g _ _ _ _ hh).trans (hcs j hj)
  obtain ⟨n, hn⟩ : ∃ n, us.length = n := ⟨_, rfl⟩
  rw [hn] at hsl hm0 HS HL hl1000 hcap ⊢
  have hnm := neqMark
  have hw1 : wrap64 ((n : Int) + 1) = (n : Int) + 1 := w64 _ (by omega)
  have hcm2 : cap ≤ 9223372036854775807 := Nat.le_trans hcm hmx
  clear h' hh hcs hcn hn hlt64 hcm hmx
  go_enter Tryd.func32, Tryd.ntmps32
  go_wp2_with fail
  go_loopg [5] n (fun gg iv wx => ∃ k : Nat, iv = .int .i64 k ∧ k + gg = n ∧ Hid (Below w.heap.size w wx))
  case atStart => exact ⟨0, rfl, by omega, Below.refl _ _⟩
  case round =>
    obtain ⟨k, rfl, hk, HB⟩ := hrel
    by_cases hlt : k < n
    · have hd : decide ((k : Int) < (n : Int)) = true := decide_eq_true (by omega)
      obtain ⟨gg, rfl⟩ : ∃ gg, gk = gg + 1 := ⟨gk - 1, by omega⟩
      rcases (HS.out.later HB.out).cells with h0 | ⟨b', off', rfl, hc'⟩
      · omega
      have g0 : wr.cell? ⟨g, 0 + k, none⟩ = some (.float .f64 (us[k]?.getD 0)) := by
        rw [Nat.zero_add, HB.out.cell (p := ⟨g, k, none⟩) hgl]
        exact HL.out k hlt
      have g1 := hc' k hlt
      generalize us[k]?.getD 0 = u at *
      have l0 := World.block_lt_of_cell? wr _ g0
      have l1 := World.block_lt_of_cell? wr _ g1
      have g0' : wr.cell? ⟨g, k, none⟩ = some (.float .f64 u) := by rw [Nat.zero_add] at g0; exact g0
      have hx1 : (0 : Int) ≤ (k : Int) := by omega
      have hx2 : (k : Int) < (n : Int) := by omega
      have HBT : Hid _ := bits_any u
      clear hc' g0
      go_upto_region 6 with fail
      go_region_held3 (fun w' => w'.cell? ⟨g, k, none⟩ = some (.float .f64 u) ∧ w'.cell? ⟨b', off' + k, none⟩ = some (.int .u64 (u : Int))) (go_keep) ((first | (go_at_call 40; refine Calls.mono (HBT.out _) ?_; rintro e x1 ⟨rfl, hx⟩; rw [hx]; clear hx)))
      go_wp2
      go_roundg gg
      case measure => omega
      case rel => exact ⟨k + 1, by go_num, by omega, HB.out.drew⟩
    · have hd : decide ((k : Int) < (n : Int)) = false := decide_eq_false (by omega)
      go_wp2
      go_ret
      exact ⟨rfl, HB.out⟩
end Go.Proofs.YtnhaapnmgjlbjaaDoor
